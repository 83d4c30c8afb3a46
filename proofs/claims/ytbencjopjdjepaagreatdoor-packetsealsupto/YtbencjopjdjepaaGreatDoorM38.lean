/-
  What was written of a component is read again.
-/
import Derived.Test.YtbencjopjdjepaaGreatDoorM13
import Derived.Test.YtbencjopjdjepaaGreatDoorM37
namespace Go.Proofs.YtbencjopjdjepaaGreatDoor
open Go.RowKit
set_option linter.unusedVariables false
set_option maxRecDepth 100000

theorem gi_back (x y v : Int) (R : List Bool) (h0 : -9223372036854775808 ≤ x) (h1 : y ≤ 9223372036854775807) (ha : x ≤ v) (hb : v ≤ y) : gi x y (bitsN (wid x y) (v - x).toNat ++ R) = (0, v, wid x y) := by
  have hlt := in_lt v x y h0 h1 ha hb
  have ht : (bitsN (wid x y) (v - x).toNat ++ R).take (wid x y) = bitsN (wid x y) (v - x).toNat := by
    rw [List.take_append_of_le_length (by rw [length_bitsN]; exact Nat.le_refl _), List.take_of_length_le (by rw [length_bitsN]; exact Nat.le_refl _)]
  unfold gi
  rw [if_neg (by omega), if_neg (by rw [List.length_append, length_bitsN]; omega), ht, num_bitsN, Nat.mod_eq_of_lt hlt, if_neg (by omega)]
  have : x + (((v - x).toNat : Nat) : Int) = v := by omega
  rw [this]
theorem cb_split (k : Nat) (F : Nat → Int) (c j : Nat) (h : j < c) : ∃ R, cb k F c = cb k F j ++ (fb k F j ++ R) := by
  induction c with
  | zero => omega
  | succ c ih =>
    by_cases e : j = c
    · subst e; exact ⟨[], by rw [cb, List.append_nil]⟩
    · obtain ⟨R, hR⟩ := ih (by omega)
      exact ⟨R ++ fb k F c, by rw [cb, hR]; simp [List.append_assoc]⟩
theorem gf_back (k : Nat) (F : Nat → Int) (P : List Nat) (A Z : List Bool) (hP : bitsB P = A ++ (cb k F (cnt k) ++ Z)) (hr : ∀ j, j < cnt k → lo k j ≤ F j ∧ F j ≤ hi k j) (j : Nat) (hj : j < cnt k) :
    gf k P (A.length + bsum k j) j = (0, F j, wd k j) := by
  obtain ⟨l0, l1, l2, l3⟩ := rng_ok k j hj
  obtain ⟨R, hR⟩ := cb_split k F (cnt k) j hj
  have e : (bitsB P).drop (A.length + bsum k j) = fb k F j ++ (R ++ Z) := by
    rw [hP, hR, ← List.drop_drop, List.drop_left, List.append_assoc, ← length_cb k F j, List.drop_left, List.append_assoc]
  unfold gf
  rw [e]
  exact gi_back (lo k j) (hi k j) (F j) _ (by omega) (by omega) (hr j hj).1 (hr j hj).2
/-- the fields of what lies between A and Z, read from A's end on -/
theorem rat_back (k : Nat) (F : Nat → Int) (P : List Nat) (A Z : List Bool) (hP : bitsB P = A ++ (cb k F (cnt k) ++ Z)) (hr : ∀ j, j < cnt k → lo k j ≤ F j ∧ F j ≤ hi k j) :
    ∀ j, j ≤ cnt k → rat (fun t j => (gf k P t j).1) (fun t j => (gf k P t j).2.2) A.length j = (0, A.length + bsum k j) := by
  intro j
  induction j with
  | zero => intro _; rfl
  | succ j ih =>
    intro hj
    have hi' := ih (by omega)
    rw [rat, hi', if_pos rfl]
    have := gf_back k F P A Z hP hr j (by omega)
    rw [this, bsum, Nat.add_assoc]
/-- a component between A and Z is read whole -/
theorem get_back (k : Nat) (F : Nat → Int) (P : List Nat) (A Z : List Bool) (hP : bitsB P = A ++ (cb k F (cnt k) ++ Z)) (h0 : chk k F = 0) :
    gcode k P A.length = 0 ∧ gcons k P A.length = bitsK k ∧ cmp k (gfld k P A.length) = cmp k F := by
  obtain ⟨h6, hr, hz⟩ := chk_ok k F h0
  have hc := cnt_pos k h6
  have hr1 := rat_back k F P A Z hP hr (cnt k) (Nat.le_refl _)
  have g0 : gcode k P A.length = 0 := by unfold gcode; rw [if_neg (by omega), hr1]
  refine ⟨g0, ?_, ?_⟩
  · unfold gcons
    rw [if_pos g0, hr1]
    show A.length + bsum k (cnt k) - A.length = bitsK k
    unfold bitsK; omega
  · have hf : ∀ j, j < 3 → gfld k P A.length j = F j := by
      intro j hj
      unfold gfld upd
      by_cases hc : j < cnt k
      · rw [if_pos hc, rat_back k F P A Z hP hr j (by omega)]
        show (gf k P (A.length + bsum k j) j).2.1 = F j
        rw [gf_back k F P A Z hP hr j hc]
      · rw [if_neg hc, hz j (by omega) hj]
        have : j = 0 ∨ j = 1 ∨ j = 2 := by omega
        rcases this with rfl | rfl | rfl <;> rfl
    unfold cmp
    rw [hf 0 (by decide), hf 1 (by decide), hf 2 (by decide)]
end Go.Proofs.YtbencjopjdjepaaGreatDoor


/-
  One field that is read behind another component's.
-/
namespace Go.Proofs.YtbencjopjdjepaaGreatDoor
open Go.RowKit
set_option linter.unusedVariables false
set_option maxRecDepth 100000

/-- a near field: error, number, bits -/
def nr (k : Nat) (F : Nat → Int) (P : List Nat) (t j : Nat) : Int × Int × Nat :=
  if 8 * P.length < t + 4 then (2, 0, 0)
  else if F j + zag (numAt P t 4 + 1) < lo k j ∨ hi k j < F j + zag (numAt P t 4 + 1) then (5, 0, 0)
  else (0, F j + zag (numAt P t 4 + 1), 4)
/-- a field that isn't said to be near -/
def fa (k : Nat) (F : Nat → Int) (P : List Nat) (t j : Nat) : Int × Int × Nat :=
  if (gf k P t j).1 ≠ 0 then ((gf k P t j).1, 0, 0)
  else if zig ((gf k P t j).2.1 - F j) ≤ 16 then (4, 0, 0)
  else (0, (gf k P t j).2.1, (gf k P t j).2.2)
def gs (k : Nat) (F : Nat → Int) (P : List Nat) (t j : Nat) : Int × Int × Nat :=
  if 8 * P.length < t + 1 then (2, F j, 0)
  else if numAt P t 1 = 0 then (0, F j, 1)
  else if 8 * P.length < t + 1 + 1 then (2, 0, 0)
  else if numAt P (t + 1) 1 = 1 then ((nr k F P (t + 1 + 1) j).1, (nr k F P (t + 1 + 1) j).2.1, 2 + (nr k F P (t + 1 + 1) j).2.2)
  else ((fa k F P (t + 1 + 1) j).1, (fa k F P (t + 1 + 1) j).2.1, 2 + (fa k F P (t + 1 + 1) j).2.2)

theorem zag_small (v : Nat) (h : v < 16) : -8 ≤ zag (v + 1) ∧ zag (v + 1) ≤ 8 := by unfold zag; split <;> omega

theorem GvEnd.after {B : Nat} {w w1 w2 : World} {br : Nat} {g : Option Nat} {P : List Nat} {t a rn rn' : Nat} {rc : Int} (hf : Fr (At br none) w w1) (h : GvEnd B w1 w2 br g P (t + a) rc rn) (e : rc = 0 → rn' = a + rn) : GvEnd B w w2 br g P t rc rn' := by
  obtain ⟨t', h1, h2, h3⟩ := h
  exact ⟨t', h1, hf.trans h2, fun hr => by rw [h3 hr, e hr]; omega⟩

set_option maxHeartbeats 2000000 in
theorem getNear_any (B : Nat) (w : World) (ht : Tab w) (br : Nat) (hbr : br ≠ 1) (g : Option Nat) (P : List Nat) (t k j : Nat) (hk : k < 256) (hj : j < cnt k) (F : Nat → Int) (hr : lo k j ≤ F j ∧ F j ≤ hi k j) (h : Rd B w br g P t) :
    Calls Tryz.prog 237 #[.pointer (some ⟨br, 0, none⟩), .agg (cmp k F), .int .i64 (j : Int)] w fun e w' => e = .returned (.tuple #[.int .i32 (nr k F P t j).2.1, .int .i64 (nr k F P t j).1]) ∧ GvEnd B w w' br g P t (nr k F P t j).1 (nr k F P t j).2.2 := by
  have hc := cnt_le k
  have hlt := h.lt
  have H : Hid (Rd B w br g P t) := h
  have HT : Hid (Tab w) := ht
  have HB : Hid (Box (w.alloc (.cells (cmp k F) 68)) w.heap.size k F) := Box.new w k F
  have HF : Hid (Fr Nobody w (w.alloc (.cells (cmp k F) 68))) := (Fr.refl _ _).alloc _
  have hn : w.heap.size ≠ br := by omega
  have hres : nr k F P t j = (if 8 * P.length < t + 4 then (2, 0, 0) else if F j + zag (numAt P t 4 + 1) < lo k j ∨ hi k j < F j + zag (numAt P t 4 + 1) then (5, 0, 0) else (0, F j + zag (numAt P t 4 + 1), 4)) := rfl
  by_cases hs : 8 * P.length < t + 4
  · rw [hres, if_pos hs]
    have G : Hid (∀ w, Rd B w br g P t → Calls Tryz.prog 150 #[.pointer (some ⟨br, 0, none⟩), .int .i64 4] w fun e w' => e = .returned (.tuple #[.int .u64 0, .int .i64 2]) ∧ Fr Nobody w w') := fun w hw => get_short B w br g P t 4 hw (by decide) hs
    clear hres h ht hr
    unfold cmp at *
    go_enter Tryz.func237, Tryz.ntmps237
    go_wp2_with fail
    refine (G.out _ (H.out.quiet HF.out)).mono ?_
    rintro e w1 ⟨rfl, hf1⟩
    have HF1 : Hid (Fr Nobody w w1) := HF.out.trans hf1
    clear hf1
    go_wp2
    go_ret2
    exact ⟨rfl, t, H.out.quiet HF1.out, HF1.out.mono (fun _ _ k => k.elim), (fun e => by cases e)⟩
  · have G : Hid (∀ w, Rd B w br g P t → Calls Tryz.prog 150 #[.pointer (some ⟨br, 0, none⟩), .int .i64 4] w fun e w' => e = .returned (.tuple #[.int .u64 (numAt P t 4 : Nat), .int .i64 0]) ∧ Rd B w' br g P (t + 4) ∧ Fr (At br none) w w') := fun w hw => get_ok2 B w br g P t 4 hw (by decide) (by omega)
    have hv := numAt_lt P t 4
    have hz := zag_small (numAt P t 4) (by simpa using hv)
    have Z : Hid (∀ w, Calls Tryz.prog 251 #[.int .u64 ((numAt P t 4 : Int) + 1)] w fun e w' => e = .returned (.int .i64 (zag (numAt P t 4 + 1))) ∧ w' = w) := fun w => zag_any (numAt P t 4 + 1) w (by omega)
    have R : Hid (∀ w, Tab w → _) := fun w h => range_ok w h k hk j hj
    obtain ⟨l0, l1, l2, l3⟩ := rng_ok k j hj
    rw [hres, if_neg hs]
    generalize numAt P t 4 = v at *
    have hv16 : v < 16 := by simpa using hv
    clear hv
    generalize zag (v + 1) = zz at *
    obtain ⟨z0, z1⟩ := hz
    obtain ⟨r0, r1⟩ := hr
    have hj3 : j < 3 := by omega
    generalize lo k j = x at *
    generalize hi k j = y at *
    by_cases hb : F j + zz < x ∨ y < F j + zz
    · rw [if_pos hb]
      clear hres h ht hs
      have hbb : (decide (F j + zz < x) || decide (y < F j + zz)) = true := by simpa using hb
      unfold cmp at *
      go_enter Tryz.func237, Tryz.ntmps237
      go_wp2_with fail
      refine (G.out _ (H.out.quiet HF.out)).mono ?_
      rintro e w1 ⟨rfl, hR1, hf1⟩
      have HF1 : Hid (Fr (At br none) w w1) := (HF.out.mono (fun _ _ k => k.elim)).trans hf1
      have HR1 : Hid (Rd B w1 br g P (t + 4)) := hR1
      have B1 : Hid (Box w1 w.heap.size k F) := Box.fr1 HB.out hf1 hn
      have c0 := B1.out.kind
      clear hf1 hR1
      go_wp2_with fail
      refine (R.out _ (HT.out.fr1 HF1.out hbr)).mono ?_
      rintro e w2 ⟨rfl, hf2⟩
      have HF2 : Hid (Fr (At br none) w w2) := HF1.out.trans (hf2.mono (fun _ _ k => k.elim))
      have HR2 : Hid (Rd B w2 br g P (t + 4)) := HR1.out.quiet hf2
      have c1 := (B1.out.quiet hf2).at j hj3
      clear hf2 c0
      generalize F j = f at *
      by_cases hb1 : f + zz < x
      · go_wp2
        go_quiet (refine Calls.quiet_of_same (Z.out _))
        have HE : Hid (GvEnd B w (w2.drewN nq) br g P t 5 0) := ⟨t + 4, HR2.out.quiet ((Fr.refl _ _).drewN nq), HF2.out.drewN nq, (fun e => by cases e)⟩
        go_wp2
        go_ret2
        exact ⟨rfl, HE.out⟩
      · have d0 : decide (f + zz < x) = false := by simpa using hb1
        have d1 : decide (y < f + zz) = true := by simp; omega
        go_wp2
        go_quiet (refine Calls.quiet_of_same (Z.out _))
        have HE : Hid (GvEnd B w (w2.drewN nq) br g P t 5 0) := ⟨t + 4, HR2.out.quiet ((Fr.refl _ _).drewN nq), HF2.out.drewN nq, (fun e => by cases e)⟩
        go_wp2
        go_ret2
        exact ⟨rfl, HE.out⟩
    · rw [if_neg hb]
      clear hres h ht hs
      unfold cmp at *
      go_enter Tryz.func237, Tryz.ntmps237
      go_wp2_with fail
      refine (G.out _ (H.out.quiet HF.out)).mono ?_
      rintro e w1 ⟨rfl, hR1, hf1⟩
      have HF1 : Hid (Fr (At br none) w w1) := (HF.out.mono (fun _ _ k => k.elim)).trans hf1
      have HR1 : Hid (Rd B w1 br g P (t + 4)) := hR1
      have B1 : Hid (Box w1 w.heap.size k F) := Box.fr1 HB.out hf1 hn
      have c0 := B1.out.kind
      clear hf1 hR1
      go_wp2_with fail
      refine (R.out _ (HT.out.fr1 HF1.out hbr)).mono ?_
      rintro e w2 ⟨rfl, hf2⟩
      have HF2 : Hid (Fr (At br none) w w2) := HF1.out.trans (hf2.mono (fun _ _ k => k.elim))
      have HR2 : Hid (Rd B w2 br g P (t + 4)) := HR1.out.quiet hf2
      have c1 := (B1.out.quiet hf2).at j hj3
      clear hf2 c0
      obtain ⟨f, hfj⟩ : ∃ f, F j = f := ⟨_, rfl⟩
      have HFJ : Hid (F j = f) := hfj
      rw [hfj] at c1 hb r0 r1
      clear hfj
      have d0 : decide (f + zz < x) = false := by simp; omega
      have d1 : decide (y < f + zz) = false := by simp; omega
      go_wp2
      go_quiet (refine Calls.quiet_of_same (Z.out _))
      have HE : Hid (GvEnd B w (w2.drewN nq) br g P t 0 4) := ⟨t + 4, HR2.out.quiet ((Fr.refl _ _).drewN nq), HF2.out.drewN nq, fun _ => rfl⟩
      go_wp2
      go_ret2
      exact ⟨by rw [HFJ.out]; rfl, HE.out⟩
end Go.Proofs.YtbencjopjdjepaaGreatDoor


/-
  GetStep of package comp: a component that is read behind another one.
-/
namespace Go.Proofs.YtbencjopjdjepaaGreatDoor
open Go.RowKit
set_option linter.unusedVariables false
set_option maxRecDepth 100000

theorem I32.of_chk {k : Nat} {F : Nat → Int} (h : chk k F = 0) : I32 F := by
  obtain ⟨h6, h1, h2⟩ := chk_ok k F h
  intro j hj
  by_cases hc : j < cnt k
  · have := h1 j hc
    have := rng_ok k j hc
    omega
  · rw [h2 j (by omega) hj]; omega

set_option maxHeartbeats 2000000 in
theorem getFar_any (B : Nat) (w : World) (ht : Tab w) (br : Nat) (hbr : br ≠ 1) (g : Option Nat) (P : List Nat) (t k j : Nat) (hk : k < 256) (hj : j < cnt k) (F : Nat → Int) (hI : I32 F) (h : Rd B w br g P t) :
    Calls Tryz.prog 238 #[.pointer (some ⟨br, 0, none⟩), .agg (cmp k F), .int .i64 (j : Int)] w fun e w' => e = .returned (.tuple #[.int .i32 (fa k F P t j).2.1, .int .i64 (fa k F P t j).1]) ∧ GvEnd B w w' br g P t (fa k F P t j).1 (fa k F P t j).2.2 := by
  have hc := cnt_le k
  have hlt := h.lt
  have hj3 : j < 3 := by omega
  have H : Hid (Rd B w br g P t) := h
  have HT : Hid (Tab w) := ht
  have HB : Hid (Box (w.alloc (.cells (cmp k F) 68)) w.heap.size k F) := Box.new w k F
  have HF : Hid (Fr Nobody w (w.alloc (.cells (cmp k F) 68))) := (Fr.refl _ _).alloc _
  have hn : w.heap.size ≠ br := by omega
  have G : Hid (∀ w, Tab w → Rd B w br g P t → _) := fun w h1 h2 => getField_any B w h1 br g P t k j hk hj h2
  have hrng : -2147483648 ≤ (gf k P t j).2.1 ∧ (gf k P t j).2.1 ≤ 2147483647 := by
    obtain ⟨l0, l1, l2, l3⟩ := rng_ok k j hj
    have := gi_rng (lo k j) (hi k j) ((bitsB P).drop t)
    unfold gf
    omega
  have M : Hid (∀ w, Calls Tryz.prog 236 #[.int .i32 (F j), .int .i32 (gf k P t j).2.1] w fun e w' => e = .returned (.int .u64 ((zig ((gf k P t j).2.1 - F j) : Nat) : Int)) ∧ w' = w) := fun w => more_any w (F j) (gf k P t j).2.1 (hI j hj3) hrng
  have hfa : fa k F P t j = (if (gf k P t j).1 ≠ 0 then ((gf k P t j).1, 0, 0) else if zig ((gf k P t j).2.1 - F j) ≤ 16 then (4, 0, 0) else (0, (gf k P t j).2.1, (gf k P t j).2.2)) := rfl
  rw [hfa]
  generalize (gf k P t j).1 = cd at *
  generalize (gf k P t j).2.1 = v at *
  generalize (gf k P t j).2.2 = n at *
  generalize zig (v - F j) = z at *
  clear h ht hI hfa hj hc
  by_cases hcd : cd = 0
  · subst hcd
    rw [if_neg (by simp)]
    by_cases hz : z ≤ 16
    · rw [if_pos hz]
      unfold cmp at *
      go_enter Tryz.func238, Tryz.ntmps238
      go_wp2_with fail
      refine (G.out _ (HT.out.quiet HF.out) (H.out.quiet HF.out)).mono ?_
      rintro e w1 ⟨rfl, hR1, hf1⟩
      have HF1 : Hid (Fr (At br none) w w1) := (HF.out.mono (fun _ _ k => k.elim)).trans hf1
      have HR1 : Hid (Rd B w1 br g P (t + n)) := hR1
      have c1 := (Box.fr1 HB.out hf1 hn).at j hj3
      clear hf1 hR1
      generalize F j = f at *
      go_wp2_with fail
      refine (M.out _).mono ?_
      rintro e w2 ⟨rfl, rfl⟩
      go_wp2
      go_ret2
      exact ⟨rfl, t + n, HR1.out, HF1.out, (fun e => by cases e)⟩
    · rw [if_neg hz]
      have d0 : decide ((z : Int) ≤ 16) = false := by simp; omega
      clear hz
      unfold cmp at *
      go_enter Tryz.func238, Tryz.ntmps238
      go_wp2_with fail
      refine (G.out _ (HT.out.quiet HF.out) (H.out.quiet HF.out)).mono ?_
      rintro e w1 ⟨rfl, hR1, hf1⟩
      have HF1 : Hid (Fr (At br none) w w1) := (HF.out.mono (fun _ _ k => k.elim)).trans hf1
      have HR1 : Hid (Rd B w1 br g P (t + n)) := hR1
      have c1 := (Box.fr1 HB.out hf1 hn).at j hj3
      clear hf1 hR1
      generalize F j = f at *
      go_wp2_with fail
      refine (M.out _).mono ?_
      rintro e w2 ⟨rfl, rfl⟩
      go_wp2
      go_ret2
      exact ⟨rfl, t + n, HR1.out, HF1.out, fun _ => rfl⟩
  · rw [if_pos hcd]
    have hne : (cd != 0) = true := by rw [bne_iff_ne]; exact hcd
    have HCD : Hid (cd ≠ 0) := hcd
    clear hcd
    unfold cmp at *
    go_enter Tryz.func238, Tryz.ntmps238
    go_wp2_with fail
    refine (G.out _ (HT.out.quiet HF.out) (H.out.quiet HF.out)).mono ?_
    rintro e w1 ⟨rfl, hR1, hf1⟩
    have HF1 : Hid (Fr (At br none) w w1) := (HF.out.mono (fun _ _ k => k.elim)).trans hf1
    have HR1 : Hid (Rd B w1 br g P (t + n)) := hR1
    clear hf1 hR1
    go_wp2
    go_ret2
    exact ⟨rfl, t + n, HR1.out, HF1.out, fun e => absurd e HCD.out⟩

set_option maxHeartbeats 2000000 in
theorem getFieldStep_any (B : Nat) (w : World) (ht : Tab w) (br : Nat) (hbr : br ≠ 1) (g : Option Nat) (P : List Nat) (t k j : Nat) (hk : k < 256) (hj : j < cnt k) (F : Nat → Int) (hI : I32 F) (hr : lo k j ≤ F j ∧ F j ≤ hi k j) (h : Rd B w br g P t) :
    Calls Tryz.prog 224 #[.pointer (some ⟨br, 0, none⟩), .agg (cmp k F), .int .i64 (j : Int)] w fun e w' => e = .returned (.tuple #[.int .i32 (gs k F P t j).2.1, .int .i64 (gs k F P t j).1]) ∧ GvEnd B w w' br g P t (gs k F P t j).1 (gs k F P t j).2.2 := by
  have hc := cnt_le k
  have hlt := h.lt
  have hj3 : j < 3 := by omega
  have H : Hid (Rd B w br g P t) := h
  have HT : Hid (Tab w) := ht
  have HB : Hid (Box (w.alloc (.cells (cmp k F) 68)) w.heap.size k F) := Box.new w k F
  have HF : Hid (Fr Nobody w (w.alloc (.cells (cmp k F) 68))) := (Fr.refl _ _).alloc _
  have hn : w.heap.size ≠ br := by omega
  have hgs : gs k F P t j = (if 8 * P.length < t + 1 then (2, F j, 0) else if numAt P t 1 = 0 then (0, F j, 1) else if 8 * P.length < t + 1 + 1 then (2, 0, 0) else if numAt P (t + 1) 1 = 1 then ((nr k F P (t + 1 + 1) j).1, (nr k F P (t + 1 + 1) j).2.1, 2 + (nr k F P (t + 1 + 1) j).2.2) else ((fa k F P (t + 1 + 1) j).1, (fa k F P (t + 1 + 1) j).2.1, 2 + (fa k F P (t + 1 + 1) j).2.2)) := rfl
  rw [hgs]
  by_cases h1 : 8 * P.length < t + 1
  · rw [if_pos h1]
    have G : Hid (∀ w, Rd B w br g P t → Calls Tryz.prog 150 #[.pointer (some ⟨br, 0, none⟩), .int .i64 1] w fun e w' => e = .returned (.tuple #[.int .u64 0, .int .i64 2]) ∧ Fr Nobody w w') := fun w hw => get_short B w br g P t 1 hw (by decide) h1
    clear hgs h ht hr hI
    unfold cmp at *
    go_enter Tryz.func224, Tryz.ntmps224
    go_wp2_with fail
    refine (G.out _ (H.out.quiet HF.out)).mono ?_
    rintro e w1 ⟨rfl, hf1⟩
    have HF1 : Hid (Fr Nobody w w1) := HF.out.trans hf1
    have c1 := (Box.quiet HB.out hf1).at j hj3
    clear hf1
    go_wp2
    go_ret2
    exact ⟨rfl, t, H.out.quiet HF1.out, HF1.out.mono (fun _ _ k => k.elim), (fun e => by cases e)⟩
  · rw [if_neg h1]
    have G : Hid (∀ w, Rd B w br g P t → Calls Tryz.prog 150 #[.pointer (some ⟨br, 0, none⟩), .int .i64 1] w fun e w' => e = .returned (.tuple #[.int .u64 (numAt P t 1 : Nat), .int .i64 0]) ∧ Rd B w' br g P (t + 1) ∧ Fr (At br none) w w') := fun w hw => get_ok2 B w br g P t 1 hw (by decide) (by omega)
    have hv := numAt_lt P t 1
    by_cases h2 : numAt P t 1 = 0
    · rw [if_pos h2]
      rw [h2] at G
      clear hgs h ht hr hI hv h2
      unfold cmp at *
      go_enter Tryz.func224, Tryz.ntmps224
      go_wp2_with fail
      refine (G.out _ (H.out.quiet HF.out)).mono ?_
      rintro e w1 ⟨rfl, hR1, hf1⟩
      have HF1 : Hid (Fr (At br none) w w1) := (HF.out.mono (fun _ _ k => k.elim)).trans hf1
      have HR1 : Hid (Rd B w1 br g P (t + 1)) := hR1
      have c1 := (Box.fr1 HB.out hf1 hn).at j hj3
      clear hf1 hR1
      go_wp2
      go_ret2
      exact ⟨rfl, t + 1, HR1.out, HF1.out, fun _ => rfl⟩
    · rw [if_neg h2]
      have e1 : numAt P t 1 = 1 := by have : numAt P t 1 < 2 := by simpa using hv
                                      omega
      rw [e1] at G
      clear hv h2 e1
      by_cases h3 : 8 * P.length < t + 1 + 1
      · rw [if_pos h3]
        have G2 : Hid (∀ w, Rd B w br g P (t + 1) → Calls Tryz.prog 150 #[.pointer (some ⟨br, 0, none⟩), .int .i64 1] w fun e w' => e = .returned (.tuple #[.int .u64 0, .int .i64 2]) ∧ Fr Nobody w w') := fun w hw => get_short B w br g P (t + 1) 1 hw (by decide) h3
        clear hgs h ht hr hI
        unfold cmp at *
        go_enter Tryz.func224, Tryz.ntmps224
        go_wp2_with fail
        refine (G.out _ (H.out.quiet HF.out)).mono ?_
        rintro e w1 ⟨rfl, hR1, hf1⟩
        have HF1 : Hid (Fr (At br none) w w1) := (HF.out.mono (fun _ _ k => k.elim)).trans hf1
        have HR1 : Hid (Rd B w1 br g P (t + 1)) := hR1
        clear hf1 hR1
        go_wp2_with fail
        refine (G2.out _ HR1.out).mono ?_
        rintro e w2 ⟨rfl, hf2⟩
        have HF2 : Hid (Fr (At br none) w w2) := HF1.out.trans (hf2.mono (fun _ _ k => k.elim))
        have HR2 : Hid (Rd B w2 br g P (t + 1)) := HR1.out.quiet hf2
        clear hf2
        go_wp2
        go_ret2
        exact ⟨rfl, t + 1, HR2.out, HF2.out, (fun e => by cases e)⟩
      · rw [if_neg h3]
        have G2 : Hid (∀ w, Rd B w br g P (t + 1) → Calls Tryz.prog 150 #[.pointer (some ⟨br, 0, none⟩), .int .i64 1] w fun e w' => e = .returned (.tuple #[.int .u64 (numAt P (t + 1) 1 : Nat), .int .i64 0]) ∧ Rd B w' br g P (t + 1 + 1) ∧ Fr (At br none) w w') := fun w hw => get_ok2 B w br g P (t + 1) 1 hw (by decide) (by omega)
        have hv := numAt_lt P (t + 1) 1
        by_cases h4 : numAt P (t + 1) 1 = 1
        · rw [if_pos h4]
          rw [h4] at G2
          have N : Hid (∀ w, Tab w → Rd B w br g P (t + 1 + 1) → _) := fun w h1 h2 => getNear_any B w h1 br hbr g P (t + 1 + 1) k j hk hj F hr h2
          generalize nr k F P (t + 1 + 1) j = r at *
          obtain ⟨rc, rv, rn⟩ := r
          clear hgs h ht hr hI hv h4
          unfold cmp at *
          go_enter Tryz.func224, Tryz.ntmps224
          go_wp2_with fail
          refine (G.out _ (H.out.quiet HF.out)).mono ?_
          rintro e w1 ⟨rfl, hR1, hf1⟩
          have HF1 : Hid (Fr (At br none) w w1) := (HF.out.mono (fun _ _ k => k.elim)).trans hf1
          have HR1 : Hid (Rd B w1 br g P (t + 1)) := hR1
          have B1 : Hid (Box w1 w.heap.size k F) := Box.fr1 HB.out hf1 hn
          clear hf1 hR1
          go_wp2_with fail
          refine (G2.out _ HR1.out).mono ?_
          rintro e w2 ⟨rfl, hR2, hf2⟩
          have HF2 : Hid (Fr (At br none) w w2) := HF1.out.trans hf2
          have HR2 : Hid (Rd B w2 br g P (t + 1 + 1)) := hR2
          obtain ⟨p0, p1, p2, p3⟩ := (B1.out.fr1 hf2 hn).cells
          clear hf2 hR2
          go_wp2_with fail
          refine (N.out _ (HT.out.fr1 HF2.out hbr) HR2.out).mono ?_
          rintro e w3 ⟨rfl, hE⟩
          have HE : Hid (GvEnd B w w3 br g P t rc (2 + rn)) := GvEnd.after (a := 1 + 1) HF2.out hE (fun _ => rfl)
          clear hE
          go_wp2
          go_ret2
          exact ⟨rfl, HE.out⟩
        · rw [if_neg h4]
          have e1 : numAt P (t + 1) 1 = 0 := by have : numAt P (t + 1) 1 < 2 := by simpa using hv
                                                omega
          rw [e1] at G2
          have N : Hid (∀ w, Tab w → Rd B w br g P (t + 1 + 1) → _) := fun w h1 h2 => getFar_any B w h1 br hbr g P (t + 1 + 1) k j hk hj F hI h2
          generalize fa k F P (t + 1 + 1) j = r at *
          obtain ⟨rc, rv, rn⟩ := r
          clear hgs h ht hr hI hv h4 e1
          unfold cmp at *
          go_enter Tryz.func224, Tryz.ntmps224
          go_wp2_with fail
          refine (G.out _ (H.out.quiet HF.out)).mono ?_
          rintro e w1 ⟨rfl, hR1, hf1⟩
          have HF1 : Hid (Fr (At br none) w w1) := (HF.out.mono (fun _ _ k => k.elim)).trans hf1
          have HR1 : Hid (Rd B w1 br g P (t + 1)) := hR1
          have B1 : Hid (Box w1 w.heap.size k F) := Box.fr1 HB.out hf1 hn
          clear hf1 hR1
          go_wp2_with fail
          refine (G2.out _ HR1.out).mono ?_
          rintro e w2 ⟨rfl, hR2, hf2⟩
          have HF2 : Hid (Fr (At br none) w w2) := HF1.out.trans hf2
          have HR2 : Hid (Rd B w2 br g P (t + 1 + 1)) := hR2
          obtain ⟨p0, p1, p2, p3⟩ := (B1.out.fr1 hf2 hn).cells
          clear hf2 hR2
          go_wp2_with fail
          refine (N.out _ (HT.out.fr1 HF2.out hbr) HR2.out).mono ?_
          rintro e w3 ⟨rfl, hE⟩
          have HE : Hid (GvEnd B w w3 br g P t rc (2 + rn)) := GvEnd.after (a := 1 + 1) HF2.out hE (fun _ => rfl)
          clear hE
          go_wp2
          go_ret2
          exact ⟨rfl, HE.out⟩
end Go.Proofs.YtbencjopjdjepaaGreatDoor


/-
  GetStep of package comp, whole.
-/
namespace Go.Proofs.YtbencjopjdjepaaGreatDoor
open Go.RowKit
set_option linter.unusedVariables false
set_option maxRecDepth 100000

set_option maxHeartbeats 1000000 in
theorem step11_flds (B : Nat) (w0 : World) (ht : Tab w0) (br bx bk : Nat) (hbr : br ≠ 1) (g : Option Nat) (P : List Nat) (k : Nat) (hk : k < 256) (F : Nat → Int) (h0 : chk k F = 0) (h1 : w0.cell? ⟨bx, 0, none⟩ = some (.pointer (some ⟨br, 0, none⟩))) (h2 : Box w0 bk k F) (n1 : bx ≠ br) (n2 : bk ≠ br) :
    Flds 223 (.pointer (some ⟨bx, 0, none⟩)) (.pointer (some ⟨bk, 0, none⟩)) B w0 br g P (cnt k) (fun t j => (gs k F P t j).1) (fun t j => (gs k F P t j).2.1) (fun t j => (gs k F P t j).2.2) := by
  intro w t j hR hf hj
  have c1 : w.cell? ⟨bx, 0, none⟩ = some (.pointer (some ⟨br, 0, none⟩)) := (hf.cell (p := ⟨bx, 0, none⟩) (World.block_lt_of_cell? w0 _ h1) (by rintro (e | e); exact n1 e; cases e)).trans h1
  obtain ⟨p0, p1, p2, p3⟩ := (h2.fr1 hf n2).cells
  have G : Hid (∀ _ : Unit, _) := fun _ => getFieldStep_any B w (ht.fr1 hf hbr) br hbr g P t k j hk hj F (I32.of_chk h0) ((chk_ok k F h0).2.1 j hj) hR
  show Calls Tryz.prog 223 #[.int .i64 (j : Int), .pointer (some ⟨bx, 0, none⟩), .pointer (some ⟨bk, 0, none⟩)] w fun e w' => e = .returned (.tuple #[.int .i32 (gs k F P t j).2.1, .int .i64 (gs k F P t j).1]) ∧ GvEnd B w w' br g P t (gs k F P t j).1 (gs k F P t j).2.2
  generalize (gs k F P t j).1 = cd at *
  generalize (gs k F P t j).2.1 = v at *
  generalize (gs k F P t j).2.2 = n at *
  clear hR hf h1 h2 ht hj h0
  unfold cmp at *
  go_enter Tryz.func223, Tryz.ntmps223
  go_wp2_with fail
  refine (G.out ()).mono ?_
  rintro e w1 ⟨rfl, hE⟩
  have HE : Hid (GvEnd B w w1 br g P t cd n) := hE
  clear hE
  go_wp2
  go_ret2
  exact ⟨rfl, HE.out⟩

/-- the component behind F from place t on: error, fields, bits -/
def scode (k : Nat) (F : Nat → Int) (P : List Nat) (t : Nat) : Int := if chk k F = 0 then (rat (fun t j => (gs k F P t j).1) (fun t j => (gs k F P t j).2.2) t (cnt k)).1 else (chk k F : Nat)
def sfld (k : Nat) (F : Nat → Int) (P : List Nat) (t : Nat) : Nat → Int := upd (fun t j => (gs k F P t j).1) (fun t j => (gs k F P t j).2.1) (fun t j => (gs k F P t j).2.2) t F (cnt k)
def scons (k : Nat) (F : Nat → Int) (P : List Nat) (t : Nat) : Nat := if scode k F P t = 0 then (rat (fun t j => (gs k F P t j).1) (fun t j => (gs k F P t j).2.2) t (cnt k)).2 - t else 0

set_option maxHeartbeats 2000000 in
theorem step1_reads (B : Nat) (w0 : World) (ht : Tab w0) (br bx bk : Nat) (hbr : br ≠ 1) (g : Option Nat) (P : List Nat) (t k : Nat) (hk : k < 256) (F : Nat → Int) (h1 : w0.cell? ⟨bx, 0, none⟩ = some (.pointer (some ⟨br, 0, none⟩))) (h2 : Box w0 bk k F) (n1 : bx ≠ br) (n2 : bk ≠ br) :
    ReadsC 222 (.pointer (some ⟨bk, 0, none⟩)) (.pointer (some ⟨bx, 0, none⟩)) B w0 br g P t (scode k F P t) k (sfld k F P t) (scons k F P t) := by
  intro w hR hf
  have c1 : w.cell? ⟨bx, 0, none⟩ = some (.pointer (some ⟨br, 0, none⟩)) := (hf.cell (p := ⟨bx, 0, none⟩) (World.block_lt_of_cell? w0 _ h1) (by rintro (e | e); exact n1 e; cases e)).trans h1
  have hK : Box w bk k F := h2.fr1 hf n2
  have HK : Hid (Box w bk k F) := hK
  have hT : Tab w := ht.fr1 hf hbr
  have l1 := World.block_lt_of_cell? w _ c1
  have l2 : bk < w.heap.size := (Array.getElem?_eq_some_iff.1 hK).1
  have l3 := hR.lt
  have HR : Hid (Rd B w br g P t) := hR
  have HQ : Hid (Fr Nobody w (w.alloc (.cells (cmp 0 (f3 0 0 0)) 68))) := (Fr.refl _ _).alloc _
  have HX : Hid (Box (w.alloc (.cells (cmp 0 (f3 0 0 0)) 68)) w.heap.size 0 (f3 0 0 0)) := Box.new w 0 (f3 0 0 0)
  have HT : Hid (Tab w) := hT
  have C : Hid (∀ w, Tab w → Calls Tryz.prog 161 #[.agg (cmp k F)] w fun e w' => e = .returned (.int .i64 ((chk k F : Nat) : Int)) ∧ Fr Nobody w w') := fun w h => check_any w h k hk F
  have hbn : w.heap.size ≠ br := by omega
  obtain ⟨p0, p1, p2, p3⟩ := hK.cells
  have q2 : w.heap.size ≠ bk := by omega
  have E : Hid (∀ W, Fr Nobody w W → chk k F = 0 → _) := fun W hW h0 => eachField_step (.pointer (some ⟨bx, 0, none⟩)) (.pointer (some ⟨bk, 0, none⟩)) B W (hT.quiet hW) br hbr g P t k hk F _ _ _ (hR.quiet hW) (step11_flds B W (hT.quiet hW) br bx bk hbr g P k hk F h0 ((hW.cell (p := ⟨bx, 0, none⟩) l1 id).trans c1) (hK.quiet hW) n1 n2)
  clear hR hf ht hT h1 h2 hK c1
  by_cases h0 : chk k F = 0
  · have EG : Hid (scode k F P t = (rat (fun t j => (gs k F P t j).1) (fun t j => (gs k F P t j).2.2) t (cnt k)).1) := by show _ = _; unfold scode; rw [if_pos h0]
    have EN : Hid (scode k F P t = 0 → scons k F P t = (rat (fun t j => (gs k F P t j).1) (fun t j => (gs k F P t j).2.2) t (cnt k)).2 - t) := fun e => by unfold scons; rw [if_pos e]
    have EF : Hid (sfld k F P t = upd (fun t j => (gs k F P t j).1) (fun t j => (gs k F P t j).2.1) (fun t j => (gs k F P t j).2.2) t F (cnt k)) := rfl
    have E2 : Hid (∀ W, Fr Nobody w W → _) := fun W hW => E.out W hW h0
    rw [h0] at C
    clear E
    generalize (rat (fun t j => (gs k F P t j).1) (fun t j => (gs k F P t j).2.2) t (cnt k)).1 = rc at *
    generalize (rat (fun t j => (gs k F P t j).1) (fun t j => (gs k F P t j).2.2) t (cnt k)).2 - t = rn at *
    generalize upd (fun t j => (gs k F P t j).1) (fun t j => (gs k F P t j).2.1) (fun t j => (gs k F P t j).2.2) t F (cnt k) = RF at *
    unfold cmp at E2 C HQ HX
    go_enter Tryz.func222, Tryz.ntmps222
    go_wp2_with fail
    refine (C.out _ (HT.out.quiet HQ.out)).mono ?_
    rintro e w1 ⟨rfl, hf1⟩
    have HF1 : Hid (Fr Nobody w w1) := Fr.trans HQ.out hf1
    have X1 : Hid (Box w1 w.heap.size 0 (f3 0 0 0)) := Box.quiet HX.out hf1
    clear hf1 p0 p1 p2 p3
    obtain ⟨p0, p1, p2, p3⟩ := (HK.out.quiet HF1.out).cells
    go_wp2_with fail
    refine (E2.out _ HF1.out).mono ?_
    rintro e w2 ⟨F', rfl, hF', t', hR', hf', ht'⟩
    have X2 : Hid (Box w2 w.heap.size 0 (f3 0 0 0)) := X1.out.fr1 hf' hbn
    obtain ⟨y0, y1, y2, y3⟩ := X2.out.cells
    have z0 := X2.out.frozen 0
    have z1 := X2.out.frozen 1
    have z2 := X2.out.frozen 2
    have z3 := X2.out.frozen 3
    have HRX : Hid (Box (put4 w2 w.heap.size k F') w.heap.size k F') := put4_box X2.out
    have HRD : Hid (Rd B (put4 w2 w.heap.size k F') br g P t' ∧ Fr (At br none) w (put4 w2 w.heap.size k F') ∧ (rc = 0 → t' = t + rn) ∧ (rc = 0 → F' = RF)) := ⟨hR'.put4 X2.out, put4_fr1 ((HF1.out.mono (fun _ _ k => k.elim)).trans hf') (Nat.le_refl _), ht', hF'⟩
    clear hR' hf' ht' hF' X2 E2 C HX HT HQ X1 HF1 p0 p1 p2 p3
    simp only [f3] at y1 y2 y3
    go_wp2
    (try simp only [Exit.inBlock, Exit.then])
    refine bodyPost_ret (v := .tuple #[.agg #[.int .u8 (k : Int), .int .i32 (F' 0), .int .i32 (F' 1), .int .i32 (F' 2)], .int .i64 rc]) ?_ rfl ⟨k, F', by rw [EG.out]; rfl, fun e => by rw [HRD.out.2.2.2 (EG.out.symm.trans e), EF.out], t', HRD.out.1, HRD.out.2.1, fun e => by rw [EN.out e]; exact HRD.out.2.2.1 (EG.out.symm.trans e)⟩
    rw [results_cell_tmp rfl]
    obtain ⟨r0, r1, r2, r3⟩ := HRX.out.cells
    simp only [put4] at r0 r1 r2 r3
    go_simp
  · have EG : Hid (scode k F P t = ((chk k F : Nat) : Int)) := by show _ = _; unfold scode; rw [if_neg h0]
    have hne : (((chk k F : Nat) : Int) != 0) = true := by rw [bne_iff_ne]; omega
    have HNE : Hid (((chk k F : Nat) : Int) ≠ 0) := by show _ ≠ _; omega
    clear E h0
    generalize chk k F = cd at *
    unfold cmp at C HQ HX
    go_enter Tryz.func222, Tryz.ntmps222
    go_wp2_with fail
    refine (C.out _ (HT.out.quiet HQ.out)).mono ?_
    rintro e w1 ⟨rfl, hf1⟩
    have HF1 : Hid (Fr Nobody w w1) := Fr.trans HQ.out hf1
    have X1 : Hid (Box w1 w.heap.size 0 (f3 0 0 0)) := Box.quiet HX.out hf1
    clear hf1 p0 p1 p2 p3
    obtain ⟨p0, p1, p2, p3⟩ := (HK.out.quiet HF1.out).cells
    obtain ⟨y0, y1, y2, y3⟩ := X1.out.cells
    have z0 := X1.out.frozen 0
    have z1 := X1.out.frozen 1
    have z2 := X1.out.frozen 2
    have z3 := X1.out.frozen 3
    have HRX : Hid (Box (put4 w1 w.heap.size k F) w.heap.size k F) := put4_box X1.out
    have HRD : Hid (Rd B (put4 w1 w.heap.size k F) br g P t ∧ Fr (At br none) w (put4 w1 w.heap.size k F)) := ⟨(HR.out.quiet HF1.out).put4 X1.out, put4_fr1 (HF1.out.mono (fun _ _ k => k.elim)) (Nat.le_refl _)⟩
    simp only [f3] at y1 y2 y3
    go_wp2
    (try simp only [Exit.inBlock, Exit.then])
    refine bodyPost_ret (v := .tuple #[.agg #[.int .u8 (k : Int), .int .i32 (F 0), .int .i32 (F 1), .int .i32 (F 2)], .int .i64 (cd : Int)]) ?_ rfl ⟨k, F, by rw [EG.out]; rfl, fun e => absurd (EG.out.symm.trans e) HNE.out, t, HRD.out.1, HRD.out.2, fun e => absurd (EG.out.symm.trans e) HNE.out⟩
    rw [results_cell_tmp rfl]
    obtain ⟨r0, r1, r2, r3⟩ := HRX.out.cells
    simp only [put4] at r0 r1 r2 r3
    go_simp
end Go.Proofs.YtbencjopjdjepaaGreatDoor


/-
  GetStep of package comp on a reader.
-/
namespace Go.Proofs.YtbencjopjdjepaaGreatDoor
open Go.RowKit
set_option linter.unusedVariables false
set_option maxRecDepth 100000

set_option maxHeartbeats 2000000 in
theorem stepC_rd (B : Nat) (w : World) (ht : Tab w) (br : Nat) (hbr : br ≠ 1) (g : Option Nat) (P : List Nat) (t k : Nat) (hk : k < 256) (F : Nat → Int) (h : Rd B w br g P t) (RV : Array Value) (hv1 : scode k F P t = 0 → RV = cmp k (sfld k F P t)) (hv2 : scode k F P t ≠ 0 → RV = cmp 0 (f3 0 0 0)) :
    Calls Tryz.prog 203 #[.pointer (some ⟨br, 0, none⟩), .agg (cmp k F)] w fun e w' => e = .returned (.tuple #[.agg RV, .int .i64 (scode k F P t)]) ∧ Rd B w' br g P (t + scons k F P t) ∧ Fr (At br none) w w' := by
  have hlt := h.lt
  have HR : Hid (Rd B w br g P t) := h
  obtain ⟨W, hW⟩ : ∃ W, W = (((w.alloc (.cells #[.pointer (some ⟨br, 0, none⟩)] 121)).alloc (.cells (cmp k F) 68)).alloc (.cells #[.int .u8 0, .int .i32 0, .int .i32 0, .int .i32 0] 68)) := ⟨_, rfl⟩
  have HQ : Hid (Fr Nobody w W) := by subst hW; exact (((Fr.refl _ _).alloc _).alloc _).alloc _
  have HX : Hid (Box W (w.heap.size + 1 + 1) 0 (f3 0 0 0)) := by subst hW; exact Box.new' _ _ 0 (f3 0 0 0) (by simp)
  have d1 : W.cell? ⟨w.heap.size, 0, none⟩ = some (.pointer (some ⟨br, 0, none⟩)) := by
    subst hW
    exact ((((Fr.refl Nobody (w.alloc _)).alloc _).alloc _).cell (p := ⟨w.heap.size, 0, none⟩) (by simp) id).trans (cell_new w _ _ _ rfl)
  have d2 : Box W (w.heap.size + 1) k F := by
    subst hW
    exact (Box.new' (w.alloc _) (w.heap.size + 1) k F (by simp)).quiet ((Fr.refl _ _).alloc _)
  have HTW : Hid (Tab W) := ht.quiet HQ.out
  have E : Hid (∀ _ : Unit, _) := fun _ => tryC_step (.pointer (some ⟨w.heap.size + 1, 0, none⟩)) (.pointer (some ⟨w.heap.size, 0, none⟩)) B W br g P t (scode k F P t) k (sfld k F P t) (scons k F P t) (h.quiet HQ.out) (step1_reads B W HTW.out br w.heap.size (w.heap.size + 1) hbr g P t k hk F d1 d2 (by omega) (by omega)) (fun e => by unfold scons; rw [if_neg e]) RV hv1 hv2
  obtain ⟨k', F', hkf⟩ : ∃ k' F', RV = cmp k' F' := by
    by_cases e : scode k F P t = 0
    · exact ⟨_, _, hv1 e⟩
    · exact ⟨_, _, hv2 e⟩
  clear hv1 hv2 d1 d2
  subst hkf
  generalize scode k F P t = rc at *
  generalize scons k F P t = rn at *
  have hbn : w.heap.size + 1 + 1 ≠ br := by omega
  unfold cmp at E
  unfold cmp at hW
  unfold cmp
  have HEQ : Hid (W = _) := hW
  clear ht h hW
  go_enter Tryz.func203, Tryz.ntmps203
  go_wp2_with fail
  rw [← HEQ.out]
  refine (E.out ()).mono ?_
  rintro e w2 ⟨rfl, hR', hf'⟩
  have X2 : Hid (Box w2 (w.heap.size + 1 + 1) 0 (f3 0 0 0)) := HX.out.fr1 hf' hbn
  obtain ⟨y0, y1, y2, y3⟩ := X2.out.cells
  have z0 := X2.out.frozen 0
  have z1 := X2.out.frozen 1
  have z2 := X2.out.frozen 2
  have z3 := X2.out.frozen 3
  have HRX : Hid (Box (put4 w2 (w.heap.size + 1 + 1) k' F') (w.heap.size + 1 + 1) k' F') := put4_box X2.out
  have HRD : Hid (Rd B (put4 w2 (w.heap.size + 1 + 1) k' F') br g P (t + rn) ∧ Fr (At br none) w (put4 w2 (w.heap.size + 1 + 1) k' F')) := ⟨hR'.put4 X2.out, put4_fr1 ((HQ.out.mono (fun _ _ k => k.elim)).trans hf') (by omega)⟩
  clear hR' hf' X2 E HX HTW HQ HEQ
  simp only [f3] at y1 y2 y3
  go_wp2
  (try simp only [Exit.inBlock, Exit.then])
  refine bodyPost_ret (v := .tuple #[.agg #[.int .u8 (k' : Int), .int .i32 (F' 0), .int .i32 (F' 1), .int .i32 (F' 2)], .int .i64 rc]) ?_ rfl ⟨rfl, HRD.out.1, HRD.out.2⟩
  rw [results_cell_tmp rfl]
  obtain ⟨r0, r1, r2, r3⟩ := HRX.out.cells
  simp only [put4] at r0 r1 r2 r3
  go_simp

end Go.Proofs.YtbencjopjdjepaaGreatDoor


