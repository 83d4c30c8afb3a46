/-
  What was written of a component is read again.
-/
import Derived.Test.YtllhipfielgnbaaDoorKwg
import Derived.Test.YtllhipfielgnbaaDoorKpg
namespace Go.Proofs.YtllhipfielgnbaaDoor
open Go.RowKit
set_option linter.unusedVariables false
set_option maxRecDepth 100000

theorem gi_back (x y v : Int) (R : List Bool) (h0 : -9223372036854775808 ≤ x) (h1 : y ≤ 9223372036854775807) (ha : x ≤ v) (hb : v ≤ y) : gi x y (bitsN (wid x y) (v - x).toNat ++ R) = (0, v, wid x y) := by
  have hlt := in_lt v x y h0 h1 ha hb
  have ht : (bitsN (wid x y) (v - x).toNat ++ R).take (wid x y) = bitsN (wid x y) (v - x).toNat := by
    rw [List.take_append_of_le_length (by rw [length_bitsN]; exact Nat.le_refl _), List.take_of_length_le (by rw [length_bitsN]; exact Nat.le_refl _)]
  unfold gi
  rw [if_neg (by omega), if_neg (by rw [List.length_append, length_bitsN]; omega), ht, num_bitsN, Nat.mod_eq_of_lt hlt, if_neg (by omega)]
  have : x + (((v - x).toNat : Nat) : Int) = v := by omega
  rw [this]
theorem cb_split (k : Nat) (F : Nat → Int) (c j : Nat) (h : j < c) : ∃ R, cb k F c = cb k F j ++ (fb k F j ++ R) := by
  induction c with
  | zero => omega
  | succ c ih =>
    by_cases e : j = c
    · subst e; exact ⟨[], by rw [cb, List.append_nil]⟩
    · obtain ⟨R, hR⟩ := ih (by omega)
      exact ⟨R ++ fb k F c, by rw [cb, hR]; simp [List.append_assoc]⟩
theorem gf_back (k : Nat) (F : Nat → Int) (P : List Nat) (A Z : List Bool) (hP : bitsB P = A ++ (cb k F (cnt k) ++ Z)) (hr : ∀ j, j < cnt k → lo k j ≤ F j ∧ F j ≤ hi k j) (j : Nat) (hj : j < cnt k) :
    gf k P (A.length + bsum k j) j = (0, F j, wd k j) := by
  obtain ⟨l0, l1, l2, l3⟩ := rng_ok k j hj
  obtain ⟨R, hR⟩ := cb_split k F (cnt k) j hj
  have e : (bitsB P).drop (A.length + bsum k j) = fb k F j ++ (R ++ Z) := by
    rw [hP, hR, ← List.drop_drop, List.drop_left, List.append_assoc, ← length_cb k F j, List.drop_left, List.append_assoc]
  unfold gf
  rw [e]
  exact gi_back (lo k j) (hi k j) (F j) _ (by omega) (by omega) (hr j hj).1 (hr j hj).2
/-- the fields of what lies between A and Z, read from A's end on -/
theorem rat_back (k : Nat) (F : Nat → Int) (P : List Nat) (A Z : List Bool) (hP : bitsB P = A ++ (cb k F (cnt k) ++ Z)) (hr : ∀ j, j < cnt k → lo k j ≤ F j ∧ F j ≤ hi k j) :
    ∀ j, j ≤ cnt k → rat (fun t j => (gf k P t j).1) (fun t j => (gf k P t j).2.2) A.length j = (0, A.length + bsum k j) := by
  intro j
  induction j with
  | zero => intro _; rfl
  | succ j ih =>
    intro hj
    have hi' := ih (by omega)
    rw [rat, hi', if_pos rfl]
    have := gf_back k F P A Z hP hr j (by omega)
    rw [this, bsum, Nat.add_assoc]
/-- a component between A and Z is read whole -/
theorem get_back (k : Nat) (F : Nat → Int) (P : List Nat) (A Z : List Bool) (hP : bitsB P = A ++ (cb k F (cnt k) ++ Z)) (h0 : chk k F = 0) :
    gcode k P A.length = 0 ∧ gcons k P A.length = bitsK k ∧ cmp k (gfld k P A.length) = cmp k F := by
  obtain ⟨h6, hr, hz⟩ := chk_ok k F h0
  have hc := cnt_pos k h6
  have hr1 := rat_back k F P A Z hP hr (cnt k) (Nat.le_refl _)
  have g0 : gcode k P A.length = 0 := by unfold gcode; rw [if_neg (by omega), hr1]
  refine ⟨g0, ?_, ?_⟩
  · unfold gcons
    rw [if_pos g0, hr1]
    show A.length + bsum k (cnt k) - A.length = bitsK k
    unfold bitsK; omega
  · have hf : ∀ j, j < 3 → gfld k P A.length j = F j := by
      intro j hj
      unfold gfld upd
      by_cases hc : j < cnt k
      · rw [if_pos hc, rat_back k F P A Z hP hr j (by omega)]
        show (gf k P (A.length + bsum k j) j).2.1 = F j
        rw [gf_back k F P A Z hP hr j hc]
      · rw [if_neg hc, hz j (by omega) hj]
        have : j = 0 ∨ j = 1 ∨ j = 2 := by omega
        rcases this with rfl | rfl | rfl <;> rfl
    unfold cmp
    rw [hf 0 (by decide), hf 1 (by decide), hf 2 (by decide)]
end Go.Proofs.YtllhipfielgnbaaDoor

/-
  One field that is read behind another component's.
-/
namespace Go.Proofs.YtllhipfielgnbaaDoor
open Go.RowKit
set_option linter.unusedVariables false
set_option maxRecDepth 100000

/-- a near field: error, number, bits -/
def nr (k : Nat) (F : Nat → Int) (P : List Nat) (t j : Nat) : Int × Int × Nat :=
  if 8 * P.length < t + 4 then (2, 0, 0)
  else if F j + zag (numAt P t 4 + 1) < lo k j ∨ hi k j < F j + zag (numAt P t 4 + 1) then (5, 0, 0)
  else (0, F j + zag (numAt P t 4 + 1), 4)
/-- a field that isn't said to be near -/
def fa (k : Nat) (F : Nat → Int) (P : List Nat) (t j : Nat) : Int × Int × Nat :=
  if (gf k P t j).1 ≠ 0 then ((gf k P t j).1, 0, 0)
  else if zig ((gf k P t j).2.1 - F j) ≤ 16 then (4, 0, 0)
  else (0, (gf k P t j).2.1, (gf k P t j).2.2)
def gs (k : Nat) (F : Nat → Int) (P : List Nat) (t j : Nat) : Int × Int × Nat :=
  if 8 * P.length < t + 1 then (2, F j, 0)
  else if numAt P t 1 = 0 then (0, F j, 1)
  else if 8 * P.length < t + 1 + 1 then (2, 0, 0)
  else if numAt P (t + 1) 1 = 1 then ((nr k F P (t + 1 + 1) j).1, (nr k F P (t + 1 + 1) j).2.1, 2 + (nr k F P (t + 1 + 1) j).2.2)
  else ((fa k F P (t + 1 + 1) j).1, (fa k F P (t + 1 + 1) j).2.1, 2 + (fa k F P (t + 1 + 1) j).2.2)

theorem zag_small (v : Nat) (h : v < 16) : -8 ≤ zag (v + 1) ∧ zag (v + 1) ≤ 8 := by unfold zag; split <;> omega

theorem GvEnd.after {B : Nat} {w w1 w2 : World} {br : Nat} {g : Option Nat} {P : List Nat} {t a rn rn' : Nat} {rc : Int} (hf : Fr (At br none) w w1) (h : GvEnd B w1 w2 br g P (t + a) rc rn) (e : rc = 0 → rn' = a + rn) : GvEnd B w w2 br g P t rc rn' := by
  obtain ⟨t', h1, h2, h3⟩ := h
  exact ⟨t', h1, hf.trans h2, fun hr => by rw [h3 hr, e hr]; omega⟩

set_option maxHeartbeats 2000000 in
theorem getNear_any (B : Nat) (w : World) (ht : Tab w) (br : Nat) (hbr : br ≠ 0) (g : Option Nat) (P : List Nat) (t k j : Nat) (hk : k < 256) (hj : j < cnt k) (F : Nat → Int) (hr : lo k j ≤ F j ∧ F j ≤ hi k j) (h : Rd B w br g P t) :
    Calls Tryd.prog 51 #[.pointer (some ⟨br, 0, none⟩), .agg (cmp k F), .int .i64 (j : Int)] w fun e w' => e = .returned (.tuple #[.int .i32 (nr k F P t j).2.1, .int .i64 (nr k F P t j).1]) ∧ GvEnd B w w' br g P t (nr k F P t j).1 (nr k F P t j).2.2 := by
  have hc := cnt_le k
  have hlt := h.lt
  have H : Hid (Rd B w br g P t) := h
  have HT : Hid (Tab w) := ht
  have HB : Hid (Box (w.alloc (.cells (cmp k F) 24)) w.heap.size k F) := Box.new w k F
  have HF : Hid (Fr Nobody w (w.alloc (.cells (cmp k F) 24))) := (Fr.refl _ _).alloc _
  have hn : w.heap.size ≠ br := by omega
  have hres : nr k F P t j = (if 8 * P.length < t + 4 then (2, 0, 0) else if F j + zag (numAt P t 4 + 1) < lo k j ∨ hi k j < F j + zag (numAt P t 4 + 1) then (5, 0, 0) else (0, F j + zag (numAt P t 4 + 1), 4)) := rfl
  by_cases hs : 8 * P.length < t + 4
  · rw [hres, if_pos hs]
    have G : Hid (∀ w, Rd B w br g P t → Calls Tryd.prog 15 #[.pointer (some ⟨br, 0, none⟩), .int .i64 4] w fun e w' => e = .returned (.tuple #[.int .u64 0, .int .i64 2]) ∧ Fr Nobody w w') := fun w hw => get_short B w br g P t 4 hw (by decide) hs
    clear hres h ht hr
    unfold cmp at *
    go_enter Tryd.func51, Tryd.ntmps51
    go_wp2_with fail
    refine (G.out _ (H.out.quiet HF.out)).mono ?_
    rintro e w1 ⟨rfl, hf1⟩
    have HF1 : Hid (Fr Nobody w w1) := HF.out.trans hf1
    clear hf1
    go_wp2
    go_ret2
    exact ⟨rfl, t, H.out.quiet HF1.out, HF1.out.mono (fun _ _ k => k.elim), (fun e => by cases e)⟩
  · have G : Hid (∀ w, Rd B w br g P t → Calls Tryd.prog 15 #[.pointer (some ⟨br, 0, none⟩), .int .i64 4] w fun e w' => e = .returned (.tuple #[.int .u64 (numAt P t 4 : Nat), .int .i64 0]) ∧ Rd B w' br g P (t + 4) ∧ Fr (At br none) w w') := fun w hw => get_ok2 B w br g P t 4 hw (by decide) (by omega)
    have hv := numAt_lt P t 4
    have hz := zag_small (numAt P t 4) (by simpa using hv)
    have Z : Hid (∀ w, Calls Tryd.prog 57 #[.int .u64 ((numAt P t 4 : Int) + 1)] w fun e w' => e = .returned (.int .i64 (zag (numAt P t 4 + 1))) ∧ w' = w) := fun w => zag_any (numAt P t 4 + 1) w (by omega)
    have R : Hid (∀ w, Tab w → _) := fun w h => range_ok w h k hk j hj
    obtain ⟨l0, l1, l2, l3⟩ := rng_ok k j hj
    rw [hres, if_neg hs]
    generalize numAt P t 4 = v at *
    have hv16 : v < 16 := by simpa using hv
    clear hv
    generalize zag (v + 1) = zz at *
    obtain ⟨z0, z1⟩ := hz
    obtain ⟨r0, r1⟩ := hr
    have hj3 : j < 3 := by omega
    generalize lo k j = x at *
    generalize hi k j = y at *
    by_cases hb : F j + zz < x ∨ y < F j + zz
    · rw [if_pos hb]
      clear hres h ht hs
      have hbb : (decide (F j + zz < x) || decide (y < F j + zz)) = true := by simpa using hb
      unfold cmp at *
      go_enter Tryd.func51, Tryd.ntmps51
      go_wp2_with fail
      refine (G.out _ (H.out.quiet HF.out)).mono ?_
      rintro e w1 ⟨rfl, hR1, hf1⟩
      have HF1 : Hid (Fr (At br none) w w1) := (HF.out.mono (fun _ _ k => k.elim)).trans hf1
      have HR1 : Hid (Rd B w1 br g P (t + 4)) := hR1
      have B1 : Hid (Box w1 w.heap.size k F) := Box.fr1 HB.out hf1 hn
      have c0 := B1.out.kind
      clear hf1 hR1
      go_wp2_with fail
      refine (R.out _ (HT.out.fr1 HF1.out hbr)).mono ?_
      rintro e w2 ⟨rfl, hf2⟩
      have HF2 : Hid (Fr (At br none) w w2) := HF1.out.trans (hf2.mono (fun _ _ k => k.elim))
      have HR2 : Hid (Rd B w2 br g P (t + 4)) := HR1.out.quiet hf2
      have c1 := (B1.out.quiet hf2).at j hj3
      clear hf2 c0
      generalize F j = f at *
      by_cases hb1 : f + zz < x
      · go_wp2
        go_quiet (refine Calls.quiet_of_same (Z.out _))
        have HE : Hid (GvEnd B w (w2.drewN nq) br g P t 5 0) := ⟨t + 4, HR2.out.quiet ((Fr.refl _ _).drewN nq), HF2.out.drewN nq, (fun e => by cases e)⟩
        go_wp2
        go_ret2
        exact ⟨rfl, HE.out⟩
      · have d0 : decide (f + zz < x) = false := by simpa using hb1
        have d1 : decide (y < f + zz) = true := by simp; omega
        go_wp2
        go_quiet (refine Calls.quiet_of_same (Z.out _))
        have HE : Hid (GvEnd B w (w2.drewN nq) br g P t 5 0) := ⟨t + 4, HR2.out.quiet ((Fr.refl _ _).drewN nq), HF2.out.drewN nq, (fun e => by cases e)⟩
        go_wp2
        go_ret2
        exact ⟨rfl, HE.out⟩
    · rw [if_neg hb]
      clear hres h ht hs
      unfold cmp at *
      go_enter Tryd.func51, Tryd.ntmps51
      go_wp2_with fail
      refine (G.out _ (H.out.quiet HF.out)).mono ?_
      rintro e w1 ⟨rfl, hR1, hf1⟩
      have HF1 : Hid (Fr (At br none) w w1) := (HF.out.mono (fun _ _ k => k.elim)).trans hf1
      have HR1 : Hid (Rd B w1 br g P (t + 4)) := hR1
      have B1 : Hid (Box w1 w.heap.size k F) := Box.fr1 HB.out hf1 hn
      have c0 := B1.out.kind
      clear hf1 hR1
      go_wp2_with fail
      refine (R.out _ (HT.out.fr1 HF1.out hbr)).mono ?_
      rintro e w2 ⟨rfl, hf2⟩
      have HF2 : Hid (Fr (At br none) w w2) := HF1.out.trans (hf2.mono (fun _ _ k => k.elim))
      have HR2 : Hid (Rd B w2 br g P (t + 4)) := HR1.out.quiet hf2
      have c1 := (B1.out.quiet hf2).at j hj3
      clear hf2 c0
      obtain ⟨f, hfj⟩ : ∃ f, F j = f := ⟨_, rfl⟩
      have HFJ : Hid (F j = f) := hfj
      rw [hfj] at c1 hb r0 r1
      clear hfj
      have d0 : decide (f + zz < x) = false := by simp; omega
      have d1 : decide (y < f + zz) = false := by simp; omega
      go_wp2
      go_quiet (refine Calls.quiet_of_same (Z.out _))
      have HE : Hid (GvEnd B w (w2.drewN nq) br g P t 0 4) := ⟨t + 4, HR2.out.quiet ((Fr.refl _ _).drewN nq), HF2.out.drewN nq, fun _ => rfl⟩
      go_wp2
      go_ret2
      exact ⟨by rw [HFJ.out]; rfl, HE.out⟩
end Go.Proofs.YtllhipfielgnbaaDoor
