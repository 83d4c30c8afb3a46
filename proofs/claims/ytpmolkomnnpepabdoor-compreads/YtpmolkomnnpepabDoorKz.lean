/-
  One field, and a component, read behind another one: the program's GetStep and the document's.
-/
import Derived.Test.YtpmolkomnnpepabDoorKp
namespace Go.Proofs.YtpmolkomnnpepabDoor
open Go.RowKit
set_option linter.unusedVariables false
set_option maxRecDepth 100000

theorem chk_ok (k : Nat) (F : Nat → Int) (h : chk k F = 0) : k < 6 ∧ (∀ j, j < cnt k → lo k j ≤ F j ∧ F j ≤ hi k j) ∧ ∀ j, cnt k ≤ j → j < 3 → F j = 0 := by
  unfold chk at h
  by_cases h6 : 6 ≤ k
  · rw [if_pos h6] at h; cases h
  · rw [if_neg h6] at h
    cases hs : stray k F with
    | true => rw [hs, if_pos rfl] at h; cases h
    | false =>
      rw [hs, if_neg (by decide)] at h
      cases ho : outside k F with
      | true => rw [ho, if_pos rfl] at h; cases h
      | false => exact ⟨by omega, fun j hj => outside_no k j F ho hj, fun j hj h3 => stray_no k j F hs hj h3⟩

/-- a near field: error, number, bits -/
def nr (k : Nat) (F : Nat → Int) (P : List Nat) (t j : Nat) : Int × Int × Nat :=
  if 8 * P.length < t + 4 then (2, 0, 0)
  else if F j + zag (numAt P t 4 + 1) < lo k j ∨ hi k j < F j + zag (numAt P t 4 + 1) then (5, 0, 0)
  else (0, F j + zag (numAt P t 4 + 1), 4)
/-- a field that isn't said to be near -/
def fa (k : Nat) (F : Nat → Int) (P : List Nat) (t j : Nat) : Int × Int × Nat :=
  if (gf k P t j).1 ≠ 0 then ((gf k P t j).1, 0, 0)
  else if zig ((gf k P t j).2.1 - F j) ≤ 16 then (4, 0, 0)
  else (0, (gf k P t j).2.1, (gf k P t j).2.2)
def gs (k : Nat) (F : Nat → Int) (P : List Nat) (t j : Nat) : Int × Int × Nat :=
  if 8 * P.length < t + 1 then (2, F j, 0)
  else if numAt P t 1 = 0 then (0, F j, 1)
  else if 8 * P.length < t + 1 + 1 then (2, 0, 0)
  else if numAt P (t + 1) 1 = 1 then ((nr k F P (t + 1 + 1) j).1, (nr k F P (t + 1 + 1) j).2.1, 2 + (nr k F P (t + 1 + 1) j).2.2)
  else ((fa k F P (t + 1 + 1) j).1, (fa k F P (t + 1 + 1) j).2.1, 2 + (fa k F P (t + 1 + 1) j).2.2)

theorem zag_small (v : Nat) (h : v < 16) : -8 ≤ zag (v + 1) ∧ zag (v + 1) ≤ 8 := by unfold zag; split <;> omega

theorem GvEnd.after {B : Nat} {w w1 w2 : World} {br : Nat} {g : Option Nat} {P : List Nat} {t a rn rn' : Nat} {rc : Int} (hf : Fr (At br none) w w1) (h : GvEnd B w1 w2 br g P (t + a) rc rn) (e : rc = 0 → rn' = a + rn) : GvEnd B w w2 br g P t rc rn' := by
  obtain ⟨t', h1, h2, h3⟩ := h
  exact ⟨t', h1, hf.trans h2, fun hr => by rw [h3 hr, e hr]; omega⟩

set_option maxHeartbeats 2000000 in
theorem getNear_any (B : Nat) (w : World) (ht : Tab w) (br : Nat) (hbr : br ≠ 0) (g : Option Nat) (P : List Nat) (t k j : Nat) (hk : k < 256) (hj : j < cnt k) (F : Nat → Int) (hr : lo k j ≤ F j ∧ F j ≤ hi k j) (h : Rd B w br g P t) :
    Calls Tryd.prog 71 #[.pointer (some ⟨br, 0, none⟩), .agg (cmp k F), .int .i64 (j : Int)] w fun e w' => e = .returned (.tuple #[.int .i32 (nr k F P t j).2.1, .int .i64 (nr k F P t j).1]) ∧ GvEnd B w w' br g P t (nr k F P t j).1 (nr k F P t j).2.2 := by
  have hc := cnt_le k
  have hlt := h.lt
  have H : Hid (Rd B w br g P t) := h
  have HT : Hid (Tab w) := ht
  have HB : Hid (Box (w.alloc (.cells (cmp k F) 24)) w.heap.size k F) := Box.new w k F
  have HF : Hid (Fr Nobody w (w.alloc (.cells (cmp k F) 24))) := (Fr.refl _ _).alloc _
  have hn : w.heap.size ≠ br := by omega
  have hres : nr k F P t j = (if 8 * P.length < t + 4 then (2, 0, 0) else if F j + zag (numAt P t 4 + 1) < lo k j ∨ hi k j < F j + zag (numAt P t 4 + 1) then (5, 0, 0) else (0, F j + zag (numAt P t 4 + 1), 4)) := rfl
  by_cases hs : 8 * P.length < t + 4
  · rw [hres, if_pos hs]
    have G : Hid (∀ w, Rd B w br g P t → Calls Tryd.prog 19 #[.pointer (some ⟨br, 0, none⟩), .int .i64 4] w fun e w' => e = .returned (.tuple #[.int .u64 0, .int .i64 2]) ∧ Fr Nobody w w') := fun w hw => get_short B w br g P t 4 hw (by decide) hs
    clear hres h ht hr
    unfold cmp at *
    go_enter Tryd.func71, Tryd.ntmps71
    go_wp2_with fail
    refine (G.out _ (H.out.quiet HF.out)).mono ?_
    rintro e w1 ⟨rfl, hf1⟩
    have HF1 : Hid (Fr Nobody w w1) := HF.out.trans hf1
    clear hf1
    go_wp2
    go_ret2
    exact ⟨rfl, t, H.out.quiet HF1.out, HF1.out.mono (fun _ _ k => k.elim), (fun e => by cases e)⟩
  · have G : Hid (∀ w, Rd B w br g P t → Calls Tryd.prog 19 #[.pointer (some ⟨br, 0, none⟩), .int .i64 4] w fun e w' => e = .returned (.tuple #[.int .u64 (numAt P t 4 : Nat), .int .i64 0]) ∧ Rd B w' br g P (t + 4) ∧ Fr (At br none) w w') := fun w hw => get_ok2 B w br g P t 4 hw (by decide) (by omega)
    have hv := numAt_lt P t 4
    have hz := zag_small (numAt P t 4) (by simpa using hv)
    have Z : Hid (∀ w, Calls Tryd.prog 79 #[.int .u64 ((numAt P t 4 : Int) + 1)] w fun e w' => e = .returned (.int .i64 (zag (numAt P t 4 + 1))) ∧ w' = w) := fun w => zag_any (numAt P t 4 + 1) w (by omega)
    have R : Hid (∀ w, Tab w → _) := fun w h => range_ok w h k hk j hj
    obtain ⟨l0, l1, l2, l3⟩ := rng_ok k j hj
    rw [hres, if_neg hs]
    generalize numAt P t 4 = v at *
    have hv16 : v < 16 := by simpa using hv
    clear hv
    generalize zag (v + 1) = zz at *
    obtain ⟨z0, z1⟩ := hz
    obtain ⟨r0, r1⟩ := hr
    have hj3 : j < 3 := by omega
    generalize lo k j = x at *
    generalize hi k j = y at *
    by_cases hb : F j + zz < x ∨ y < F j + zz
    · rw [if_pos hb]
      clear hres h ht hs
      have hbb : (decide (F j + zz < x) || decide (y < F j + zz)) = true := by simpa using hb
      unfold cmp at *
      go_enter Tryd.func71, Tryd.ntmps71
      go_wp2_with fail
      refine (G.out _ (H.out.quiet HF.out)).mono ?_
      rintro e w1 ⟨rfl, hR1, hf1⟩
      have HF1 : Hid (Fr (At br none) w w1) := (HF.out.mono (fun _ _ k => k.elim)).trans hf1
      have HR1 : Hid (Rd B w1 br g P (t + 4)) := hR1
      have B1 : Hid (Box w1 w.heap.size k F) := Box.fr1 HB.out hf1 hn
      have c0 := B1.out.kind
      clear hf1 hR1
      go_wp2_with fail
      refine (R.out _ (HT.out.fr1 HF1.out hbr)).mono ?_
      rintro e w2 ⟨rfl, hf2⟩
      have HF2 : Hid (Fr (At br none) w w2) := HF1.out.trans (hf2.mono (fun _ _ k => k.elim))
      have HR2 : Hid (Rd B w2 br g P (t + 4)) := HR1.out.quiet hf2
      have c1 := (B1.out.quiet hf2).at j hj3
      clear hf2 c0
      generalize F j = f at *
      by_cases hb1 : f + zz < x
      · go_wp2
        go_quiet (refine Calls.quiet_of_same (Z.out _))
        have HE : Hid (GvEnd B w (w2.drewN nq) br g P t 5 0) := ⟨t + 4, HR2.out.quiet ((Fr.refl _ _).drewN nq), HF2.out.drewN nq, (fun e => by cases e)⟩
        go_wp2
        go_ret2
        exact ⟨rfl, HE.out⟩
      · have d0 : decide (f + zz < x) = false := by simpa using hb1
        have d1 : decide (y < f + zz) = true := by simp; omega
        go_wp2
        go_quiet (refine Calls.quiet_of_same (Z.out _))
        have HE : Hid (GvEnd B w (w2.drewN nq) br g P t 5 0) := ⟨t + 4, HR2.out.quiet ((Fr.refl _ _).drewN nq), HF2.out.drewN nq, (fun e => by cases e)⟩
        go_wp2
        go_ret2
        exact ⟨rfl, HE.out⟩
    · rw [if_neg hb]
      clear hres h ht hs
      unfold cmp at *
      go_enter Tryd.func71, Tryd.ntmps71
      go_wp2_with fail
      refine (G.out _ (H.out.quiet HF.out)).mono ?_
      rintro e w1 ⟨rfl, hR1, hf1⟩
      have HF1 : Hid (Fr (At br none) w w1) := (HF.out.mono (fun _ _ k => k.elim)).trans hf1
      have HR1 : Hid (Rd B w1 br g P (t + 4)) := hR1
      have B1 : Hid (Box w1 w.heap.size k F) := Box.fr1 HB.out hf1 hn
      have c0 := B1.out.kind
      clear hf1 hR1
      go_wp2_with fail
      refine (R.out _ (HT.out.fr1 HF1.out hbr)).mono ?_
      rintro e w2 ⟨rfl, hf2⟩
      have HF2 : Hid (Fr (At br none) w w2) := HF1.out.trans (hf2.mono (fun _ _ k => k.elim))
      have HR2 : Hid (Rd B w2 br g P (t + 4)) := HR1.out.quiet hf2
      have c1 := (B1.out.quiet hf2).at j hj3
      clear hf2 c0
      obtain ⟨f, hfj⟩ : ∃ f, F j = f := ⟨_, rfl⟩
      have HFJ : Hid (F j = f) := hfj
      rw [hfj] at c1 hb r0 r1
      clear hfj
      have d0 : decide (f + zz < x) = false := by simp; omega
      have d1 : decide (y < f + zz) = false := by simp; omega
      go_wp2
      go_quiet (refine Calls.quiet_of_same (Z.out _))
      have HE : Hid (GvEnd B w (w2.drewN nq) br g P t 0 4) := ⟨t + 4, HR2.out.quiet ((Fr.refl _ _).drewN nq), HF2.out.drewN nq, fun _ => rfl⟩
      go_wp2
      go_ret2
      exact ⟨by rw [HFJ.out]; rfl, HE.out⟩

theorem I32.of_chk {k : Nat} {F : Nat → Int} (h : chk k F = 0) : I32 F := by
  obtain ⟨h6, h1, h2⟩ := chk_ok k F h
  intro j hj
  by_cases hc : j < cnt k
  · have := h1 j hc
    have := rng_ok k j hc
    omega
  · rw [h2 j (by omega) hj]; omega

set_option maxHeartbeats 2000000 in
theorem getFar_any (B : Nat) (w : World) (ht : Tab w) (br : Nat) (hbr : br ≠ 0) (g : Option Nat) (P : List Nat) (t k j : Nat) (hk : k < 256) (hj : j < cnt k) (F : Nat → Int) (hI : I32 F) (h : Rd B w br g P t) :
    Calls Tryd.prog 72 #[.pointer (some ⟨br, 0, none⟩), .agg (cmp k F), .int .i64 (j : Int)] w fun e w' => e = .returned (.tuple #[.int .i32 (fa k F P t j).2.1, .int .i64 (fa k F P t j).1]) ∧ GvEnd B w w' br g P t (fa k F P t j).1 (fa k F P t j).2.2 := by
  have hc := cnt_le k
  have hlt := h.lt
  have hj3 : j < 3 := by omega
  have H : Hid (Rd B w br g P t) := h
  have HT : Hid (Tab w) := ht
  have HB : Hid (Box (w.alloc (.cells (cmp k F) 24)) w.heap.size k F) := Box.new w k F
  have HF : Hid (Fr Nobody w (w.alloc (.cells (cmp k F) 24))) := (Fr.refl _ _).alloc _
  have hn : w.heap.size ≠ br := by omega
  have G : Hid (∀ w, Tab w → Rd B w br g P t → _) := fun w h1 h2 => getField_any B w h1 br g P t k j hk hj h2
  have hrng : -2147483648 ≤ (gf k P t j).2.1 ∧ (gf k P t j).2.1 ≤ 2147483647 := by
    obtain ⟨l0, l1, l2, l3⟩ := rng_ok k j hj
    have := gi_rng (lo k j) (hi k j) ((bitsB P).drop t)
    unfold gf
    omega
  have M : Hid (∀ w, Calls Tryd.prog 70 #[.int .i32 (F j), .int .i32 (gf k P t j).2.1] w fun e w' => e = .returned (.int .u64 ((zig ((gf k P t j).2.1 - F j) : Nat) : Int)) ∧ w' = w) := fun w => more_any w (F j) (gf k P t j).2.1 (hI j hj3) hrng
  have hfa : fa k F P t j = (if (gf k P t j).1 ≠ 0 then ((gf k P t j).1, 0, 0) else if zig ((gf k P t j).2.1 - F j) ≤ 16 then (4, 0, 0) else (0, (gf k P t j).2.1, (gf k P t j).2.2)) := rfl
  rw [hfa]
  generalize (gf k P t j).1 = cd at *
  generalize (gf k P t j).2.1 = v at *
  generalize (gf k P t j).2.2 = n at *
  generalize zig (v - F j) = z at *
  clear h ht hI hfa hj hc
  by_cases hcd : cd = 0
  · subst hcd
    rw [if_neg (by simp)]
    by_cases hz : z ≤ 16
    · rw [if_pos hz]
      unfold cmp at *
      go_enter Tryd.func72, Tryd.ntmps72
      go_wp2_with fail
      refine (G.out _ (HT.out.quiet HF.out) (H.out.quiet HF.out)).mono ?_
      rintro e w1 ⟨rfl, hR1, hf1⟩
      have HF1 : Hid (Fr (At br none) w w1) := (HF.out.mono (fun _ _ k => k.elim)).trans hf1
      have HR1 : Hid (Rd B w1 br g P (t + n)) := hR1
      have c1 := (Box.fr1 HB.out hf1 hn).at j hj3
      clear hf1 hR1
      generalize F j = f at *
      go_wp2_with fail
      refine (M.out _).mono ?_
      rintro e w2 ⟨rfl, rfl⟩
      go_wp2
      go_ret2
      exact ⟨rfl, t + n, HR1.out, HF1.out, (fun e => by cases e)⟩
    · rw [if_neg hz]
      have d0 : decide ((z : Int) ≤ 16) = false := by simp; omega
      clear hz
      unfold cmp at *
      go_enter Tryd.func72, Tryd.ntmps72
      go_wp2_with fail
      refine (G.out _ (HT.out.quiet HF.out) (H.out.quiet HF.out)).mono ?_
      rintro e w1 ⟨rfl, hR1, hf1⟩
      have HF1 : Hid (Fr (At br none) w w1) := (HF.out.mono (fun _ _ k => k.elim)).trans hf1
      have HR1 : Hid (Rd B w1 br g P (t + n)) := hR1
      have c1 := (Box.fr1 HB.out hf1 hn).at j hj3
      clear hf1 hR1
      generalize F j = f at *
      go_wp2_with fail
      refine (M.out _).mono ?_
      rintro e w2 ⟨rfl, rfl⟩
      go_wp2
      go_ret2
      exact ⟨rfl, t + n, HR1.out, HF1.out, fun _ => rfl⟩
  · rw [if_pos hcd]
    have hne : (cd != 0) = true := by rw [bne_iff_ne]; exact hcd
    have HCD : Hid (cd ≠ 0) := hcd
    clear hcd
    unfold cmp at *
    go_enter Tryd.func72, Tryd.ntmps72
    go_wp2_with fail
    refine (G.out _ (HT.out.quiet HF.out) (H.out.quiet HF.out)).mono ?_
    rintro e w1 ⟨rfl, hR1, hf1⟩
    have HF1 : Hid (Fr (At br none) w w1) := (HF.out.mono (fun _ _ k => k.elim)).trans hf1
    have HR1 : Hid (Rd B w1 br g P (t + n)) := hR1
    clear hf1 hR1
    go_wp2
    go_ret2
    exact ⟨rfl, t + n, HR1.out, HF1.out, fun e => absurd e HCD.out⟩

set_option maxHeartbeats 2000000 in
theorem getFieldStep_any (B : Nat) (w : World) (ht : Tab w) (br : Nat) (hbr : br ≠ 0) (g : Option Nat) (P : List Nat) (t k j : Nat) (hk : k < 256) (hj : j < cnt k) (F : Nat → Int) (hI : I32 F) (hr : lo k j ≤ F j ∧ F j ≤ hi k j) (h : Rd B w br g P t) :
    Calls Tryd.prog 57 #[.pointer (some ⟨br, 0, none⟩), .agg (cmp k F), .int .i64 (j : Int)] w fun e w' => e = .returned (.tuple #[.int .i32 (gs k F P t j).2.1, .int .i64 (gs k F P t j).1]) ∧ GvEnd B w w' br g P t (gs k F P t j).1 (gs k F P t j).2.2 := by
  have hc := cnt_le k
  have hlt := h.lt
  have hj3 : j < 3 := by omega
  have H : Hid (Rd B w br g P t) := h
  have HT : Hid (Tab w) := ht
  have HB : Hid (Box (w.alloc (.cells (cmp k F) 24)) w.heap.size k F) := Box.new w k F
  have HF : Hid (Fr Nobody w (w.alloc (.cells (cmp k F) 24))) := (Fr.refl _ _).alloc _
  have hn : w.heap.size ≠ br := by omega
  have hgs : gs k F P t j = (if 8 * P.length < t + 1 then (2, F j, 0) else if numAt P t 1 = 0 then (0, F j, 1) else if 8 * P.length < t + 1 + 1 then (2, 0, 0) else if numAt P (t + 1) 1 = 1 then ((nr k F P (t + 1 + 1) j).1, (nr k F P (t + 1 + 1) j).2.1, 2 + (nr k F P (t + 1 + 1) j).2.2) else ((fa k F P (t + 1 + 1) j).1, (fa k F P (t + 1 + 1) j).2.1, 2 + (fa k F P (t + 1 + 1) j).2.2)) := rfl
  rw [hgs]
  by_cases h1 : 8 * P.length < t + 1
  · rw [if_pos h1]
    have G : Hid (∀ w, Rd B w br g P t → Calls Tryd.prog 19 #[.pointer (some ⟨br, 0, none⟩), .int .i64 1] w fun e w' => e = .returned (.tuple #[.int .u64 0, .int .i64 2]) ∧ Fr Nobody w w') := fun w hw => get_short B w br g P t 1 hw (by decide) h1
    clear hgs h ht hr hI
    unfold cmp at *
    go_enter Tryd.func57, Tryd.ntmps57
    go_wp2_with fail
    refine (G.out _ (H.out.quiet HF.out)).mono ?_
    rintro e w1 ⟨rfl, hf1⟩
    have HF1 : Hid (Fr Nobody w w1) := HF.out.trans hf1
    have c1 := (Box.quiet HB.out hf1).at j hj3
    clear hf1
    go_wp2
    go_ret2
    exact ⟨rfl, t, H.out.quiet HF1.out, HF1.out.mono (fun _ _ k => k.elim), (fun e => by cases e)⟩
  · rw [if_neg h1]
    have G : Hid (∀ w, Rd B w br g P t → Calls Tryd.prog 19 #[.pointer (some ⟨br, 0, none⟩), .int .i64 1] w fun e w' => e = .returned (.tuple #[.int .u64 (numAt P t 1 : Nat), .int .i64 0]) ∧ Rd B w' br g P (t + 1) ∧ Fr (At br none) w w') := fun w hw => get_ok2 B w br g P t 1 hw (by decide) (by omega)
    have hv := numAt_lt P t 1
    by_cases h2 : numAt P t 1 = 0
    · rw [if_pos h2]
      rw [h2] at G
      clear hgs h ht hr hI hv h2
      unfold cmp at *
      go_enter Tryd.func57, Tryd.ntmps57
      go_wp2_with fail
      refine (G.out _ (H.out.quiet HF.out)).mono ?_
      rintro e w1 ⟨rfl, hR1, hf1⟩
      have HF1 : Hid (Fr (At br none) w w1) := (HF.out.mono (fun _ _ k => k.elim)).trans hf1
      have HR1 : Hid (Rd B w1 br g P (t + 1)) := hR1
      have c1 := (Box.fr1 HB.out hf1 hn).at j hj3
      clear hf1 hR1
      go_wp2
      go_ret2
      exact ⟨rfl, t + 1, HR1.out, HF1.out, fun _ => rfl⟩
    · rw [if_neg h2]
      have e1 : numAt P t 1 = 1 := by have : numAt P t 1 < 2 := by simpa using hv
                                      omega
      rw [e1] at G
      clear hv h2 e1
      by_cases h3 : 8 * P.length < t + 1 + 1
      · rw [if_pos h3]
        have G2 : Hid (∀ w, Rd B w br g P (t + 1) → Calls Tryd.prog 19 #[.pointer (some ⟨br, 0, none⟩), .int .i64 1] w fun e w' => e = .returned (.tuple #[.int .u64 0, .int .i64 2]) ∧ Fr Nobody w w') := fun w hw => get_short B w br g P (t + 1) 1 hw (by decide) h3
        clear hgs h ht hr hI
        unfold cmp at *
        go_enter Tryd.func57, Tryd.ntmps57
        go_wp2_with fail
        refine (G.out _ (H.out.quiet HF.out)).mono ?_
        rintro e w1 ⟨rfl, hR1, hf1⟩
        have HF1 : Hid (Fr (At br none) w w1) := (HF.out.mono (fun _ _ k => k.elim)).trans hf1
        have HR1 : Hid (Rd B w1 br g P (t + 1)) := hR1
        clear hf1 hR1
        go_wp2_with fail
        refine (G2.out _ HR1.out).mono ?_
        rintro e w2 ⟨rfl, hf2⟩
        have HF2 : Hid (Fr (At br none) w w2) := HF1.out.trans (hf2.mono (fun _ _ k => k.elim))
        have HR2 : Hid (Rd B w2 br g P (t + 1)) := HR1.out.quiet hf2
        clear hf2
        go_wp2
        go_ret2
        exact ⟨rfl, t + 1, HR2.out, HF2.out, (fun e => by cases e)⟩
      · rw [if_neg h3]
        have G2 : Hid (∀ w, Rd B w br g P (t + 1) → Calls Tryd.prog 19 #[.pointer (some ⟨br, 0, none⟩), .int .i64 1] w fun e w' => e = .returned (.tuple #[.int .u64 (numAt P (t + 1) 1 : Nat), .int .i64 0]) ∧ Rd B w' br g P (t + 1 + 1) ∧ Fr (At br none) w w') := fun w hw => get_ok2 B w br g P (t + 1) 1 hw (by decide) (by omega)
        have hv := numAt_lt P (t + 1) 1
        by_cases h4 : numAt P (t + 1) 1 = 1
        · rw [if_pos h4]
          rw [h4] at G2
          have N : Hid (∀ w, Tab w → Rd B w br g P (t + 1 + 1) → _) := fun w h1 h2 => getNear_any B w h1 br hbr g P (t + 1 + 1) k j hk hj F hr h2
          generalize nr k F P (t + 1 + 1) j = r at *
          obtain ⟨rc, rv, rn⟩ := r
          clear hgs h ht hr hI hv h4
          unfold cmp at *
          go_enter Tryd.func57, Tryd.ntmps57
          go_wp2_with fail
          refine (G.out _ (H.out.quiet HF.out)).mono ?_
          rintro e w1 ⟨rfl, hR1, hf1⟩
          have HF1 : Hid (Fr (At br none) w w1) := (HF.out.mono (fun _ _ k => k.elim)).trans hf1
          have HR1 : Hid (Rd B w1 br g P (t + 1)) := hR1
          have B1 : Hid (Box w1 w.heap.size k F) := Box.fr1 HB.out hf1 hn
          clear hf1 hR1
          go_wp2_with fail
          refine (G2.out _ HR1.out).mono ?_
          rintro e w2 ⟨rfl, hR2, hf2⟩
          have HF2 : Hid (Fr (At br none) w w2) := HF1.out.trans hf2
          have HR2 : Hid (Rd B w2 br g P (t + 1 + 1)) := hR2
          obtain ⟨p0, p1, p2, p3⟩ := (B1.out.fr1 hf2 hn).cells
          clear hf2 hR2
          go_wp2_with fail
          refine (N.out _ (HT.out.fr1 HF2.out hbr) HR2.out).mono ?_
          rintro e w3 ⟨rfl, hE⟩
          have HE : Hid (GvEnd B w w3 br g P t rc (2 + rn)) := GvEnd.after (a := 1 + 1) HF2.out hE (fun _ => rfl)
          clear hE
          go_wp2
          go_ret2
          exact ⟨rfl, HE.out⟩
        · rw [if_neg h4]
          have e1 : numAt P (t + 1) 1 = 0 := by have : numAt P (t + 1) 1 < 2 := by simpa using hv
                                                omega
          rw [e1] at G2
          have N : Hid (∀ w, Tab w → Rd B w br g P (t + 1 + 1) → _) := fun w h1 h2 => getFar_any B w h1 br hbr g P (t + 1 + 1) k j hk hj F hI h2
          generalize fa k F P (t + 1 + 1) j = r at *
          obtain ⟨rc, rv, rn⟩ := r
          clear hgs h ht hr hI hv h4 e1
          unfold cmp at *
          go_enter Tryd.func57, Tryd.ntmps57
          go_wp2_with fail
          refine (G.out _ (H.out.quiet HF.out)).mono ?_
          rintro e w1 ⟨rfl, hR1, hf1⟩
          have HF1 : Hid (Fr (At br none) w w1) := (HF.out.mono (fun _ _ k => k.elim)).trans hf1
          have HR1 : Hid (Rd B w1 br g P (t + 1)) := hR1
          have B1 : Hid (Box w1 w.heap.size k F) := Box.fr1 HB.out hf1 hn
          clear hf1 hR1
          go_wp2_with fail
          refine (G2.out _ HR1.out).mono ?_
          rintro e w2 ⟨rfl, hR2, hf2⟩
          have HF2 : Hid (Fr (At br none) w w2) := HF1.out.trans hf2
          have HR2 : Hid (Rd B w2 br g P (t + 1 + 1)) := hR2
          obtain ⟨p0, p1, p2, p3⟩ := (B1.out.fr1 hf2 hn).cells
          clear hf2 hR2
          go_wp2_with fail
          refine (N.out _ (HT.out.fr1 HF2.out hbr) HR2.out).mono ?_
          rintro e w3 ⟨rfl, hE⟩
          have HE : Hid (GvEnd B w w3 br g P t rc (2 + rn)) := GvEnd.after (a := 1 + 1) HF2.out hE (fun _ => rfl)
          clear hE
          go_wp2
          go_ret2
          exact ⟨rfl, HE.out⟩

set_option maxHeartbeats 1000000 in
theorem step11_flds (B : Nat) (w0 : World) (ht : Tab w0) (br bx bk : Nat) (hbr : br ≠ 0) (g : Option Nat) (P : List Nat) (k : Nat) (hk : k < 256) (F : Nat → Int) (h0 : chk k F = 0) (h1 : w0.cell? ⟨bx, 0, none⟩ = some (.pointer (some ⟨br, 0, none⟩))) (h2 : Box w0 bk k F) (n1 : bx ≠ br) (n2 : bk ≠ br) :
    Flds 56 (.pointer (some ⟨bx, 0, none⟩)) (.pointer (some ⟨bk, 0, none⟩)) B w0 br g P (cnt k) (fun t j => (gs k F P t j).1) (fun t j => (gs k F P t j).2.1) (fun t j => (gs k F P t j).2.2) := by
  intro w t j hR hf hj
  have c1 : w.cell? ⟨bx, 0, none⟩ = some (.pointer (some ⟨br, 0, none⟩)) := (hf.cell (p := ⟨bx, 0, none⟩) (World.block_lt_of_cell? w0 _ h1) (by rintro (e | e); exact n1 e; cases e)).trans h1
  obtain ⟨p0, p1, p2, p3⟩ := (h2.fr1 hf n2).cells
  have G : Hid (∀ _ : Unit, _) := fun _ => getFieldStep_any B w (ht.fr1 hf hbr) br hbr g P t k j hk hj F (I32.of_chk h0) ((chk_ok k F h0).2.1 j hj) hR
  show Calls Tryd.prog 56 #[.int .i64 (j : Int), .pointer (some ⟨bx, 0, none⟩), .pointer (some ⟨bk, 0, none⟩)] w fun e w' => e = .returned (.tuple #[.int .i32 (gs k F P t j).2.1, .int .i64 (gs k F P t j).1]) ∧ GvEnd B w w' br g P t (gs k F P t j).1 (gs k F P t j).2.2
  generalize (gs k F P t j).1 = cd at *
  generalize (gs k F P t j).2.1 = v at *
  generalize (gs k F P t j).2.2 = n at *
  clear hR hf h1 h2 ht hj h0
  unfold cmp at *
  go_enter Tryd.func56, Tryd.ntmps56
  go_wp2_with fail
  refine (G.out ()).mono ?_
  rintro e w1 ⟨rfl, hE⟩
  have HE : Hid (GvEnd B w w1 br g P t cd n) := hE
  clear hE
  go_wp2
  go_ret2
  exact ⟨rfl, HE.out⟩

/-- the component behind F from place t on: error, fields, bits -/
def scode (k : Nat) (F : Nat → Int) (P : List Nat) (t : Nat) : Int := if chk k F = 0 then (rat (fun t j => (gs k F P t j).1) (fun t j => (gs k F P t j).2.2) t (cnt k)).1 else (chk k F : Nat)
def sfld (k : Nat) (F : Nat → Int) (P : List Nat) (t : Nat) : Nat → Int := upd (fun t j => (gs k F P t j).1) (fun t j => (gs k F P t j).2.1) (fun t j => (gs k F P t j).2.2) t F (cnt k)
def scons (k : Nat) (F : Nat → Int) (P : List Nat) (t : Nat) : Nat := if scode k F P t = 0 then (rat (fun t j => (gs k F P t j).1) (fun t j => (gs k F P t j).2.2) t (cnt k)).2 - t else 0

set_option maxHeartbeats 2000000 in
theorem step1_reads (B : Nat) (w0 : World) (ht : Tab w0) (br bx bk : Nat) (hbr : br ≠ 0) (g : Option Nat) (P : List Nat) (t k : Nat) (hk : k < 256) (F : Nat → Int) (h1 : w0.cell? ⟨bx, 0, none⟩ = some (.pointer (some ⟨br, 0, none⟩))) (h2 : Box w0 bk k F) (n1 : bx ≠ br) (n2 : bk ≠ br) :
    ReadsC 55 (.pointer (some ⟨bk, 0, none⟩)) (.pointer (some ⟨bx, 0, none⟩)) B w0 br g P t (scode k F P t) k (sfld k F P t) (scons k F P t) := by
  intro w hR hf
  have c1 : w.cell? ⟨bx, 0, none⟩ = some (.pointer (some ⟨br, 0, none⟩)) := (hf.cell (p := ⟨bx, 0, none⟩) (World.block_lt_of_cell? w0 _ h1) (by rintro (e | e); exact n1 e; cases e)).trans h1
  have hK : Box w bk k F := h2.fr1 hf n2
  have HK : Hid (Box w bk k F) := hK
  have hT : Tab w := ht.fr1 hf hbr
  have l1 := World.block_lt_of_cell? w _ c1
  have l2 : bk < w.heap.size := (Array.getElem?_eq_some_iff.1 hK).1
  have l3 := hR.lt
  have HR : Hid (Rd B w br g P t) := hR
  have HQ : Hid (Fr Nobody w (w.alloc (.cells (cmp 0 (f3 0 0 0)) 24))) := (Fr.refl _ _).alloc _
  have HX : Hid (Box (w.alloc (.cells (cmp 0 (f3 0 0 0)) 24)) w.heap.size 0 (f3 0 0 0)) := Box.new w 0 (f3 0 0 0)
  have HT : Hid (Tab w) := hT
  have C : Hid (∀ w, Tab w → Calls Tryd.prog 39 #[.agg (cmp k F)] w fun e w' => e = .returned (.int .i64 ((chk k F : Nat) : Int)) ∧ Fr Nobody w w') := fun w h => check_any w h k hk F
  have hbn : w.heap.size ≠ br := by omega
  obtain ⟨p0, p1, p2, p3⟩ := hK.cells
  have q2 : w.heap.size ≠ bk := by omega
  have E : Hid (∀ W, Fr Nobody w W → chk k F = 0 → _) := fun W hW h0 => eachField_step (.pointer (some ⟨bx, 0, none⟩)) (.pointer (some ⟨bk, 0, none⟩)) B W (hT.quiet hW) br hbr g P t k hk F _ _ _ (hR.quiet hW) (step11_flds B W (hT.quiet hW) br bx bk hbr g P k hk F h0 ((hW.cell (p := ⟨bx, 0, none⟩) l1 id).trans c1) (hK.quiet hW) n1 n2)
  clear hR hf ht hT h1 h2 hK c1
  by_cases h0 : chk k F = 0
  · have EG : Hid (scode k F P t = (rat (fun t j => (gs k F P t j).1) (fun t j => (gs k F P t j).2.2) t (cnt k)).1) := by show _ = _; unfold scode; rw [if_pos h0]
    have EN : Hid (scode k F P t = 0 → scons k F P t = (rat (fun t j => (gs k F P t j).1) (fun t j => (gs k F P t j).2.2) t (cnt k)).2 - t) := fun e => by unfold scons; rw [if_pos e]
    have EF : Hid (sfld k F P t = upd (fun t j => (gs k F P t j).1) (fun t j => (gs k F P t j).2.1) (fun t j => (gs k F P t j).2.2) t F (cnt k)) := rfl
    have E2 : Hid (∀ W, Fr Nobody w W → _) := fun W hW => E.out W hW h0
    rw [h0] at C
    clear E
    generalize (rat (fun t j => (gs k F P t j).1) (fun t j => (gs k F P t j).2.2) t (cnt k)).1 = rc at *
    generalize (rat (fun t j => (gs k F P t j).1) (fun t j => (gs k F P t j).2.2) t (cnt k)).2 - t = rn at *
    generalize upd (fun t j => (gs k F P t j).1) (fun t j => (gs k F P t j).2.1) (fun t j => (gs k F P t j).2.2) t F (cnt k) = RF at *
    unfold cmp at E2 C HQ HX
    go_enter Tryd.func55, Tryd.ntmps55
    go_wp2_with fail
    refine (C.out _ (HT.out.quiet HQ.out)).mono ?_
    rintro e w1 ⟨rfl, hf1⟩
    have HF1 : Hid (Fr Nobody w w1) := Fr.trans HQ.out hf1
    have X1 : Hid (Box w1 w.heap.size 0 (f3 0 0 0)) := Box.quiet HX.out hf1
    clear hf1 p0 p1 p2 p3
    obtain ⟨p0, p1, p2, p3⟩ := (HK.out.quiet HF1.out).cells
    go_wp2_with fail
    refine (E2.out _ HF1.out).mono ?_
    rintro e w2 ⟨F', rfl, hF', t', hR', hf', ht'⟩
    have X2 : Hid (Box w2 w.heap.size 0 (f3 0 0 0)) := X1.out.fr1 hf' hbn
    obtain ⟨y0, y1, y2, y3⟩ := X2.out.cells
    have z0 := X2.out.frozen 0
    have z1 := X2.out.frozen 1
    have z2 := X2.out.frozen 2
    have z3 := X2.out.frozen 3
    have HRX : Hid (Box (put4 w2 w.heap.size k F') w.heap.size k F') := put4_box X2.out
    have HRD : Hid (Rd B (put4 w2 w.heap.size k F') br g P t' ∧ Fr (At br none) w (put4 w2 w.heap.size k F') ∧ (rc = 0 → t' = t + rn) ∧ (rc = 0 → F' = RF)) := ⟨hR'.put4 X2.out, put4_fr1 ((HF1.out.mono (fun _ _ k => k.elim)).trans hf') (Nat.le_refl _), ht', hF'⟩
    clear hR' hf' ht' hF' X2 E2 C HX HT HQ X1 HF1 p0 p1 p2 p3
    simp only [f3] at y1 y2 y3
    go_wp2
    (try simp only [Exit.inBlock, Exit.then])
    refine bodyPost_ret (v := .tuple #[.agg #[.int .u8 (k : Int), .int .i32 (F' 0), .int .i32 (F' 1), .int .i32 (F' 2)], .int .i64 rc]) ?_ rfl ⟨k, F', by rw [EG.out]; rfl, fun e => by rw [HRD.out.2.2.2 (EG.out.symm.trans e), EF.out], t', HRD.out.1, HRD.out.2.1, fun e => by rw [EN.out e]; exact HRD.out.2.2.1 (EG.out.symm.trans e)⟩
    rw [results_cell_tmp rfl]
    obtain ⟨r0, r1, r2, r3⟩ := HRX.out.cells
    simp only [put4] at r0 r1 r2 r3
    go_simp
  · have EG : Hid (scode k F P t = ((chk k F : Nat) : Int)) := by show _ = _; unfold scode; rw [if_neg h0]
    have hne : (((chk k F : Nat) : Int) != 0) = true := by rw [bne_iff_ne]; omega
    have HNE : Hid (((chk k F : Nat) : Int) ≠ 0) := by show _ ≠ _; omega
    clear E h0
    generalize chk k F = cd at *
    unfold cmp at C HQ HX
    go_enter Tryd.func55, Tryd.ntmps55
    go_wp2_with fail
    refine (C.out _ (HT.out.quiet HQ.out)).mono ?_
    rintro e w1 ⟨rfl, hf1⟩
    have HF1 : Hid (Fr Nobody w w1) := Fr.trans HQ.out hf1
    have X1 : Hid (Box w1 w.heap.size 0 (f3 0 0 0)) := Box.quiet HX.out hf1
    clear hf1 p0 p1 p2 p3
    obtain ⟨p0, p1, p2, p3⟩ := (HK.out.quiet HF1.out).cells
    obtain ⟨y0, y1, y2, y3⟩ := X1.out.cells
    have z0 := X1.out.frozen 0
    have z1 := X1.out.frozen 1
    have z2 := X1.out.frozen 2
    have z3 := X1.out.frozen 3
    have HRX : Hid (Box (put4 w1 w.heap.size k F) w.heap.size k F) := put4_box X1.out
    have HRD : Hid (Rd B (put4 w1 w.heap.size k F) br g P t ∧ Fr (At br none) w (put4 w1 w.heap.size k F)) := ⟨(HR.out.quiet HF1.out).put4 X1.out, put4_fr1 (HF1.out.mono (fun _ _ k => k.elim)) (Nat.le_refl _)⟩
    simp only [f3] at y1 y2 y3
    go_wp2
    (try simp only [Exit.inBlock, Exit.then])
    refine bodyPost_ret (v := .tuple #[.agg #[.int .u8 (k : Int), .int .i32 (F 0), .int .i32 (F 1), .int .i32 (F 2)], .int .i64 (cd : Int)]) ?_ rfl ⟨k, F, by rw [EG.out]; rfl, fun e => absurd (EG.out.symm.trans e) HNE.out, t, HRD.out.1, HRD.out.2, fun e => absurd (EG.out.symm.trans e) HNE.out⟩
    rw [results_cell_tmp rfl]
    obtain ⟨r0, r1, r2, r3⟩ := HRX.out.cells
    simp only [put4] at r0 r1 r2 r3
    go_simp

set_option maxHeartbeats 2000000 in
theorem stepC_rd (B : Nat) (w : World) (ht : Tab w) (br : Nat) (hbr : br ≠ 0) (g : Option Nat) (P : List Nat) (t k : Nat) (hk : k < 256) (F : Nat → Int) (h : Rd B w br g P t) (RV : Array Value) (hv1 : scode k F P t = 0 → RV = cmp k (sfld k F P t)) (hv2 : scode k F P t ≠ 0 → RV = cmp 0 (f3 0 0 0)) :
    Calls Tryd.prog 25 #[.pointer (some ⟨br, 0, none⟩), .agg (cmp k F)] w fun e w' => e = .returned (.tuple #[.agg RV, .int .i64 (scode k F P t)]) ∧ Rd B w' br g P (t + scons k F P t) ∧ Fr (At br none) w w' := by
  have hlt := h.lt
  have HR : Hid (Rd B w br g P t) := h
  obtain ⟨W, hW⟩ : ∃ W, W = (((w.alloc (.cells #[.pointer (some ⟨br, 0, none⟩)] 40)).alloc (.cells (cmp k F) 24)).alloc (.cells #[.int .u8 0, .int .i32 0, .int .i32 0, .int .i32 0] 24)) := ⟨_, rfl⟩
  have HQ : Hid (Fr Nobody w W) := by subst hW; exact (((Fr.refl _ _).alloc _).alloc _).alloc _
  have HX : Hid (Box W (w.heap.size + 1 + 1) 0 (f3 0 0 0)) := by subst hW; exact Box.new' _ _ 0 (f3 0 0 0) (by simp)
  have d1 : W.cell? ⟨w.heap.size, 0, none⟩ = some (.pointer (some ⟨br, 0, none⟩)) := by
    subst hW
    exact ((((Fr.refl Nobody (w.alloc _)).alloc _).alloc _).cell (p := ⟨w.heap.size, 0, none⟩) (by simp) id).trans (cell_new w _ _ _ rfl)
  have d2 : Box W (w.heap.size + 1) k F := by
    subst hW
    exact (Box.new' (w.alloc _) (w.heap.size + 1) k F (by simp)).quiet ((Fr.refl _ _).alloc _)
  have HTW : Hid (Tab W) := ht.quiet HQ.out
  have E : Hid (∀ _ : Unit, _) := fun _ => tryC_step (.pointer (some ⟨w.heap.size + 1, 0, none⟩)) (.pointer (some ⟨w.heap.size, 0, none⟩)) B W br g P t (scode k F P t) k (sfld k F P t) (scons k F P t) (h.quiet HQ.out) (step1_reads B W HTW.out br w.heap.size (w.heap.size + 1) hbr g P t k hk F d1 d2 (by omega) (by omega)) (fun e => by unfold scons; rw [if_neg e]) RV hv1 hv2
  obtain ⟨k', F', hkf⟩ : ∃ k' F', RV = cmp k' F' := by
    by_cases e : scode k F P t = 0
    · exact ⟨_, _, hv1 e⟩
    · exact ⟨_, _, hv2 e⟩
  clear hv1 hv2 d1 d2
  subst hkf
  generalize scode k F P t = rc at *
  generalize scons k F P t = rn at *
  have hbn : w.heap.size + 1 + 1 ≠ br := by omega
  unfold cmp at E
  unfold cmp at hW
  unfold cmp
  have HEQ : Hid (W = _) := hW
  clear ht h hW
  go_enter Tryd.func25, Tryd.ntmps25
  go_wp2_with fail
  rw [← HEQ.out]
  refine (E.out ()).mono ?_
  rintro e w2 ⟨rfl, hR', hf'⟩
  have X2 : Hid (Box w2 (w.heap.size + 1 + 1) 0 (f3 0 0 0)) := HX.out.fr1 hf' hbn
  obtain ⟨y0, y1, y2, y3⟩ := X2.out.cells
  have z0 := X2.out.frozen 0
  have z1 := X2.out.frozen 1
  have z2 := X2.out.frozen 2
  have z3 := X2.out.frozen 3
  have HRX : Hid (Box (put4 w2 (w.heap.size + 1 + 1) k' F') (w.heap.size + 1 + 1) k' F') := put4_box X2.out
  have HRD : Hid (Rd B (put4 w2 (w.heap.size + 1 + 1) k' F') br g P (t + rn) ∧ Fr (At br none) w (put4 w2 (w.heap.size + 1 + 1) k' F')) := ⟨hR'.put4 X2.out, put4_fr1 ((HQ.out.mono (fun _ _ k => k.elim)).trans hf') (by omega)⟩
  clear hR' hf' X2 E HX HTW HQ HEQ
  simp only [f3] at y1 y2 y3
  go_wp2
  (try simp only [Exit.inBlock, Exit.then])
  refine bodyPost_ret (v := .tuple #[.agg #[.int .u8 (k' : Int), .int .i32 (F' 0), .int .i32 (F' 1), .int .i32 (F' 2)], .int .i64 rc]) ?_ rfl ⟨rfl, HRD.out.1, HRD.out.2⟩
  rw [results_cell_tmp rfl]
  obtain ⟨r0, r1, r2, r3⟩ := HRX.out.cells
  simp only [put4] at r0 r1 r2 r3
  go_simp

theorem stepC_or (w0 w : World) (ht : Tab w0) (br : Nat) (P : List Nat) (t k : Nat) (hk : k < 256) (F : Nat → Int) (h : Or w0 w br P t) (RV : Array Value) (hv1 : scode k F P t = 0 → RV = cmp k (sfld k F P t)) (hv2 : scode k F P t ≠ 0 → RV = cmp 0 (f3 0 0 0)) :
    Calls Tryd.prog 25 #[.pointer (some ⟨br, 0, none⟩), .agg (cmp k F)] w fun e w' => e = .returned (.tuple #[.agg RV, .int .i64 (scode k F P t)]) ∧ Or w0 w' br P (t + scons k F P t) ∧ Fr (At br none) w w' := by
  have hbr := h.low ht
  obtain ⟨g, hR, hf⟩ := h
  refine (stepC_rd _ w (ht.quiet hf) br hbr g P t k hk F hR RV hv1 hv2).mono ?_
  rintro e w' ⟨rfl, hR', hf'⟩
  exact ⟨rfl, Or.of_rd hR hf hR' hf', hf'⟩
def sout (k : Nat) (F : Nat → Int) (P : List Nat) (t : Nat) : Array Value := if scode k F P t = 0 then cmp k (sfld k F P t) else cmp 0 (f3 0 0 0)
theorem sout_1 (k : Nat) (F : Nat → Int) (P : List Nat) (t : Nat) (h : scode k F P t = 0) : sout k F P t = cmp k (sfld k F P t) := by unfold sout; rw [if_pos h]
theorem sout_2 (k : Nat) (F : Nat → Int) (P : List Nat) (t : Nat) (h : scode k F P t ≠ 0) : sout k F P t = cmp 0 (f3 0 0 0) := by unfold sout; rw [if_neg h]
theorem sout_cmp (k : Nat) (F : Nat → Int) (P : List Nat) (t : Nat) : ∃ k' F', sout k F P t = cmp k' F' := by
  by_cases h : scode k F P t = 0
  · exact ⟨_, _, sout_1 k F P t h⟩
  · exact ⟨_, _, sout_2 k F P t h⟩

theorem rgs (P : List Nat) (a n : Nat) (h : 8 * P.length < a + n) (h1 : 1 ≤ n) (hn : n ≤ 64) (w : World) (v : Value) (hb : Bs w v ((bitsB P).drop a)) :
    Calls Tryd.prog 59 #[v, .int .i64 (n : Int)] w fun e w' => e = .returned (.tuple #[.int .u64 0, v, .int .i64 2]) ∧ w' = w :=
  rget_short w v _ n hb hn (by rw [List.length_drop, length_bitsB]; omega)
theorem rgo (P : List Nat) (a n x : Nat) (h : a + n ≤ 8 * P.length) (hx : numAt P a n = x) (hP : (bitsB P).length ≤ 10000) (hn : n ≤ 64) (w : World) (v : Value) (hb : Bs w v ((bitsB P).drop a)) :
    Calls Tryd.prog 59 #[v, .int .i64 (n : Int)] w fun e w' => ∃ v', e = .returned (.tuple #[.int .u64 (x : Nat), v', .int .i64 0]) ∧ Bs w' v' ((bitsB P).drop (a + n)) ∧ Fr Nobody w w' := by
  have := rget_ok w v _ n hb hn (by rw [List.length_drop, length_bitsB]; omega) (by rw [List.length_drop]; omega)
  rw [List.drop_drop] at this
  rw [← hx]
  exact this
theorem zag1 : zag 1 = -1 := by decide

set_option maxHeartbeats 20000000 in
theorem rstepC_any (w : World) (v : Value) (P : List Nat) (t k : Nat) (hk : k < 256) (F : Nat → Int) (h : Bs w v ((bitsB P).drop t)) (hP : (bitsB P).length ≤ 10000) (RV : Array Value) (hv1 : scode k F P t = 0 → RV = cmp k (sfld k F P t)) (hv2 : scode k F P t ≠ 0 → RV = cmp 0 (f3 0 0 0)) :
    Calls Tryd.prog 29 #[v, .agg (cmp k F)] w fun e w' => ∃ u, e = .returned (.tuple #[.agg RV, u, .int .i64 (scode k F P t)]) ∧ GvRest w w' u ((bitsB P).drop (t + scons k F P t)) := by
  have hres : Tryd.f29.results = #[.cell 4 24, .tmp 5, .tmp 6] := by kernel_rfl
  have HV1 : Hid (scode k F P t = 0 → RV = cmp k (sfld k F P t)) := hv1
  have HV2 : Hid (scode k F P t ≠ 0 → RV = cmp 0 (f3 0 0 0)) := hv2
  have H : Hid (Bs w v ((bitsB P).drop t)) := h
  have K : Hid (∀ w, Calls Tryd.prog 31 #[.agg (cmp k F)] w fun e w' => e = .returned (.int .i64 ((chk k F : Nat) : Int)) ∧ Fr Nobody w w') := fun w => rcheck_any w k hk F
  obtain ⟨b1, b2, hf0⟩ := boxes w k 0 F (f3 0 0 0)
  have HF0 : Hid (Fr Nobody w _) := hf0
  have HW0 : Hid (Box _ w.heap.size k F) := b1
  have HX0 : Hid (Box _ (w.heap.size + 1) 0 (f3 0 0 0)) := b2
  have HG0 : Hid (scode k F P t ≠ 0 → scons k F P t = 0) := fun e => by unfold scons; rw [if_neg e]
  clear h hv1 hv2 b1 b2 hf0
  by_cases h0 : chk k F = 0
  · have EG : Hid (scode k F P t = (rat (fun t j => (gs k F P t j).1) (fun t j => (gs k F P t j).2.2) t (cnt k)).1) := by show _ = _; unfold scode; rw [if_pos h0]
    have EN : Hid (scode k F P t = 0 → scons k F P t = (rat (fun t j => (gs k F P t j).1) (fun t j => (gs k F P t j).2.2) t (cnt k)).2 - t) := fun e => by unfold scons; rw [if_pos e]
    have EF : Hid (sfld k F P t = upd (fun t j => (gs k F P t j).1) (fun t j => (gs k F P t j).2.1) (fun t j => (gs k F P t j).2.2) t F (cnt k)) := rfl
    obtain ⟨code, hcode⟩ : ∃ code : Nat → Nat → Int, code = fun t j => (gs k F P t j).1 := ⟨_, rfl⟩
    obtain ⟨val, hval⟩ : ∃ val : Nat → Nat → Int, val = fun t j => (gs k F P t j).2.1 := ⟨_, rfl⟩
    obtain ⟨cons, hcons⟩ : ∃ cons : Nat → Nat → Nat, cons = fun t j => (gs k F P t j).2.2 := ⟨_, rfl⟩
    rw [← hcode, ← hcons] at EG EN
    rw [← hcode, ← hcons, ← hval] at EF
    have hc := cnt_le k
    have GS : Hid (∀ m j a b c, gs k F P m j = (a, b, c) → code m j = a ∧ val m j = b ∧ cons m j = c) := by
      intro m j a b c e
      rw [hcode, hval, hcons]
      show (gs k F P m j).1 = a ∧ (gs k F P m j).2.1 = b ∧ (gs k F P m j).2.2 = c
      rw [e]; exact ⟨rfl, rfl, rfl⟩
    have G : Hid (∀ w v m j, j < cnt k → Bs w v ((bitsB P).drop m) → Calls Tryd.prog 58 #[v, .int .i64 (lo k j), .int .i64 (hi k j)] w fun e w' => ∃ u, e = .returned (.tuple #[.int .i64 (gf k P m j).2.1, u, .int .i64 (gf k P m j).1]) ∧ GvRest w w' u ((bitsB P).drop (m + (gf k P m j).2.2))) := by
      intro w v m j hj hb
      obtain ⟨l0, l1, l2, l3⟩ := rng_ok k j hj
      have := rgetIn_any w v _ (lo k j) (hi k j) hb (by rw [List.length_drop]; omega) (by omega) (by omega) (by omega) (by omega)
      rw [List.drop_drop] at this
      exact this
    have VR : Hid (∀ m j, j < cnt k → -524288 ≤ (gf k P m j).2.1 ∧ (gf k P m j).2.1 ≤ 524287) := by
      intro m j hj
      obtain ⟨l0, l1, l2, l3⟩ := rng_ok k j hj
      have := gi_rng (lo k j) (hi k j) ((bitsB P).drop m)
      unfold gf
      omega
    have RR : Hid (∀ w j, j < cnt k → _) := fun w j hj => rrange_ok w k j hj
    have RB : Hid (∀ j, j < cnt k → (-524288 ≤ lo k j ∧ lo k j ≤ 1 ∧ 7 ≤ hi k j ∧ hi k j ≤ 524287) ∧ lo k j ≤ F j ∧ F j ≤ hi k j) := fun j hj => ⟨rng_ok k j hj, (chk_ok k F h0).2.1 j hj⟩
    have C : Hid (∀ w, _) := fun w => rcount_any w k hk
    rw [h0] at K
    clear hcode hval hcons h0
    generalize cnt k = c at *
    unfold cmp at K HW0 HX0 HF0
    unfold cmp
    go_enter Tryd.func29, Tryd.ntmps29
    go_wp2_with fail
    refine (K.out _).mono ?_
    rintro e w1 ⟨rfl, hf1⟩
    have W1 : Hid (Box w1 w.heap.size k F) := Box.quiet HW0.out hf1
    have X1 : Hid (Box w1 (w.heap.size + 1) 0 (f3 0 0 0)) := Box.quiet HX0.out hf1
    have HF1 : Hid (Fr Nobody w w1) := Fr.trans HF0.out hf1
    have hs1 : w.heap.size + 1 < w1.heap.size := (Array.getElem?_eq_some_iff.1 X1.out).1
    have hs0 : w.heap.size < w1.heap.size := by omega
    have hs2 : w1.heap.size ≠ w.heap.size := by omega
    obtain ⟨p0, p1, p2, p3⟩ := W1.out.cells
    have Y1 : Hid (Box (w1.alloc (.cells #[.int .u8 (k : Int), .int .i32 (F 0), .int .i32 (F 1), .int .i32 (F 2)] 24)) w1.heap.size k F) := Box.new w1 k F
    clear hf1
    go_wp2_with fail
    refine (C.out _).mono ?_
    rintro e w2 ⟨rfl, hf2⟩
    have W2 : Hid (Box w2 w.heap.size k F) := (W1.out.quiet ((Fr.refl _ _).alloc _)).quiet hf2
    have X2 : Hid (Box w2 (w.heap.size + 1) 0 (f3 0 0 0)) := (X1.out.quiet ((Fr.refl _ _).alloc _)).quiet hf2
    have Y2 : Hid (Box w2 w1.heap.size k F) := Y1.out.quiet hf2
    have HF2 : Hid (Fr Nobody w w2) := (HF1.out.alloc _).trans hf2
    clear hf2 X1 Y1 W1 HX0 HF0 HW0 p0 p1 p2 p3
    go_wp2
    go_loopw [9, 36] (fun rv a wr => ∃ j : Nat, j ≤ c ∧ a = .int .i64 j ∧ (rat code cons t j).1 = 0 ∧ Bs wr rv ((bitsB P).drop (rat code cons t j).2) ∧ Box wr w.heap.size k F ∧ Box wr w1.heap.size k (upd code val cons t F j) ∧ Box wr (w.heap.size + 1) 0 (f3 0 0 0) ∧ Fr Nobody w wr) (fun _ a _ => c - (intOf a).toNat)
    case atStart => exact ⟨0, by omega, rfl, rfl, H.out.quiet HF2.out, W2.out, by rw [upd_zero]; exact Y2.out, X2.out, HF2.out⟩
    case round =>
      obtain ⟨j, hj, rfl, hz, hB, hb0, hb1, hb2, hf⟩ := hrel
      have HZ : Hid ((rat code cons t j).1 = 0) := hz
      have HB : Hid (Bs wr u9 ((bitsB P).drop (rat code cons t j).2)) := hB
      have B0 : Hid (Box wr w.heap.size k F) := hb0
      have B1 : Hid (Box wr w1.heap.size k (upd code val cons t F j)) := hb1
      have B2 : Hid (Box wr (w.heap.size + 1) 0 (f3 0 0 0)) := hb2
      have HG : Hid (Fr Nobody w wr) := hf
      clear hz hB hb0 hb1 hb2 hf X2 Y2 W2 HF2 HF1
      by_cases hlt2 : j < c
      · have RJ : Hid (∀ w, _) := fun w => RR.out w j hlt2
        have HSN : Hid (rat code cons t (j + 1) = (code (rat code cons t j).2 j, (rat code cons t j).2 + cons (rat code cons t j).2 j)) := by
          show _ = _
          rw [rat, if_pos HZ.out]
        have GJ : Hid (∀ w v m, Bs w v ((bitsB P).drop m) → _) := fun w v m hb => G.out w v m j hlt2 hb
        have VJ : Hid (∀ m, -524288 ≤ (gf k P m j).2.1 ∧ (gf k P m j).2.1 ≤ 524287) := fun m => VR.out m j hlt2
        have HEND : Hid (∀ cd : Int, code (rat code cons t j).2 j = cd → cd ≠ 0 → scode k F P t = cd ∧ RV = cmp 0 (f3 0 0 0) ∧ scons k F P t = 0) := by
          intro cd e hcd
          have e1 : scode k F P t = cd := by
            rw [EG.out]
            have : c = (j + 1) + (c - (j + 1)) := by omega
            rw [this, rat_err code cons t (j + 1) _ (by rw [HSN.out, e]; exact hcd), HSN.out, e]
          exact ⟨e1, HV2.out (by rw [e1]; exact hcd), HG0.out (by rw [e1]; exact hcd)⟩
        have HNX : Hid (∀ (w4 : World) (u : Value) (x : Int) (n : Nat), code (rat code cons t j).2 j = 0 → val (rat code cons t j).2 j = x → cons (rat code cons t j).2 j = n → Bs w4 u ((bitsB P).drop ((rat code cons t j).2 + n)) → Box w4 w.heap.size k F → Box w4 w1.heap.size k (upd code val cons t F j) → Box w4 (w.heap.size + 1) 0 (f3 0 0 0) → Fr Nobody w w4 → (rat code cons t (j + 1)).1 = 0 ∧ Bs (w4.setCell ⟨w1.heap.size, 1 + j, none⟩ (.int .i32 x)) u ((bitsB P).drop (rat code cons t (j + 1)).2) ∧ Box (w4.setCell ⟨w1.heap.size, 1 + j, none⟩ (.int .i32 x)) w.heap.size k F ∧ Box (w4.setCell ⟨w1.heap.size, 1 + j, none⟩ (.int .i32 x)) w1.heap.size k (upd code val cons t F (j + 1)) ∧ Box (w4.setCell ⟨w1.heap.size, 1 + j, none⟩ (.int .i32 x)) (w.heap.size + 1) 0 (f3 0 0 0) ∧ Fr Nobody w (w4.setCell ⟨w1.heap.size, 1 + j, none⟩ (.int .i32 x))) := by
          intro w4 u x n e1 e2 e3 hU hb0 hb1 hb2 hf
          have B13 := hb1.set (j := j) (by omega) x
          have eU : (fun i => if i = j then x else upd code val cons t F j i) = upd code val cons t F (j + 1) := by
            funext i
            unfold upd
            by_cases e4 : i = j
            · subst e4; simp [e2]
            · rw [if_neg e4]
              by_cases e5 : i < j
              · rw [if_pos e5, if_pos (by omega)]
              · rw [if_neg e5, if_neg (by omega)]
          rw [eU] at B13
          have n0 : w.heap.size ≠ w1.heap.size := by omega
          have n1 : w.heap.size + 1 ≠ w1.heap.size := by omega
          rw [HSN.out, e1, e3]
          exact ⟨rfl, hU.setBox hb1 _, (Below.heap_setCell w4 _ _ w.heap.size (by simpa using n0)).trans hb0, B13, (Below.heap_setCell w4 _ _ (w.heap.size + 1) (by simpa using n1)).trans hb2, hf.setCell (p := ⟨w1.heap.size, 1 + j, none⟩) (.inr (by show w.heap.size ≤ w1.heap.size; omega)) _⟩
        have HNS : Hid (∀ (w4 : World) (u : Value), code (rat code cons t j).2 j = 0 → val (rat code cons t j).2 j = F j → cons (rat code cons t j).2 j = 1 → Bs w4 u ((bitsB P).drop ((rat code cons t j).2 + 1)) → Box w4 w1.heap.size k (upd code val cons t F j) → (rat code cons t (j + 1)).1 = 0 ∧ Bs w4 u ((bitsB P).drop (rat code cons t (j + 1)).2) ∧ Box w4 w1.heap.size k (upd code val cons t F (j + 1))) := by
          intro w4 u e1 e2 e3 hU hb1
          have eU : upd code val cons t F j = upd code val cons t F (j + 1) := by
            funext i
            unfold upd
            by_cases e4 : i = j
            · subst e4; simp [e2]
            · by_cases e5 : i < j
              · rw [if_pos e5, if_pos (by omega)]
              · rw [if_neg e5, if_neg (by omega)]
          rw [HSN.out, e1, e3]
          rw [eU] at hb1
          exact ⟨rfl, hU, hb1⟩
        have GSJ : Hid (∀ a b c, gs k F P (rat code cons t j).2 j = (a, b, c) → code (rat code cons t j).2 j = a ∧ val (rat code cons t j).2 j = b ∧ cons (rat code cons t j).2 j = c) := fun a b c e => GS.out _ j a b c e
        obtain ⟨⟨l0, l1, l2, l3⟩, r0, r1⟩ := RB.out j hlt2
        clear G RR VR RB EG EN EF HV1 GS HSN
        generalize (rat code cons t j).2 = m at *
        generalize code m j = cdj at *
        generalize val m j = vlj at *
        generalize cons m j = cnj at *
        have c0 := B0.out.kind
        have hgs : gs k F P m j = (if 8 * P.length < m + 1 then (2, F j, 0) else if numAt P m 1 = 0 then (0, F j, 1) else if 8 * P.length < m + 1 + 1 then (2, 0, 0) else if numAt P (m + 1) 1 = 1 then ((nr k F P (m + 1 + 1) j).1, (nr k F P (m + 1 + 1) j).2.1, 2 + (nr k F P (m + 1 + 1) j).2.2) else ((fa k F P (m + 1 + 1) j).1, (fa k F P (m + 1 + 1) j).2.1, 2 + (fa k F P (m + 1 + 1) j).2.2)) := rfl
        have HP2 : Hid ((bitsB P).length ≤ 10000) := hP
        clear hP
        by_cases h1 : 8 * P.length < m + 1
        · rw [if_pos h1] at hgs
          have HSH : Hid (8 * P.length < m + 1) := h1
          have HE : Hid (scode k F P t = 2 ∧ RV = cmp 0 (f3 0 0 0) ∧ scons k F P t = 0) := HEND.out 2 (GSJ.out _ _ _ hgs).1 (by decide)
          clear hgs h1 HEND HNX HNS GJ VJ GSJ
          go_wp2_with fail
          refine (RJ.out _).mono ?_
          rintro e w3 ⟨rfl, hf3⟩
          have F3 : Hid (Fr Nobody wr w3) := hf3
          clear hf3
          go_wp2_with fail
          refine (rgs P m 1 HSH.out (by decide) (by decide) _ _ (HB.out.quiet F3.out)).mono ?_
          rintro e w4 ⟨rfl, rfl⟩
          have B2e : Hid (Box w4 (w.heap.size + 1) 0 (f3 0 0 0)) := B2.out.quiet F3.out
          have HGe : Hid (Fr Nobody w w4) := HG.out.trans F3.out
          obtain ⟨y0, y1, y2, y3⟩ := B2e.out.cells
          have z0 := B2e.out.frozen 0
          have z1 := B2e.out.frozen 1
          have z2 := B2e.out.frozen 2
          have z3 := B2e.out.frozen 3
          have HRX : Hid (Box (put4 w4 (w.heap.size + 1) 0 (f3 0 0 0)) (w.heap.size + 1) 0 (f3 0 0 0)) := put4_box B2e.out
          have HRD : Hid (Fr Nobody w (put4 w4 (w.heap.size + 1) 0 (f3 0 0 0))) := put4_fr HGe.out (.inr (by omega))
          simp only [f3] at y1 y2 y3
          go_wp2
          (try simp only [Exit.inBlock, Exit.then])
          refine bodyPost_ret (v := .tuple #[.agg #[.int .u8 0, .int .i32 0, .int .i32 0, .int .i32 0], v, .int .i64 2]) ?_ rfl ⟨v, by rw [HE.out.2.1, HE.out.1]; rfl, ?_, HRD.out⟩
          · simp only [results, hres]
            obtain ⟨q0, q1, q2, q3⟩ := HRX.out.cells
            simp only [put4, f3] at q0 q1 q2 q3
            go_simp
          · rw [HE.out.2.2]
            exact H.out.quiet HRD.out
        · rw [if_neg h1] at hgs
          have hv := numAt_lt P m 1
          by_cases h2 : numAt P m 1 = 0
          · rw [if_pos h2] at hgs
            obtain ⟨g1, g2, g3⟩ := GSJ.out _ _ _ hgs
            have HNQ : Hid (cdj = 0 ∧ vlj = F j ∧ cnj = 1) := ⟨g1, g2, g3⟩
            have O1 : Hid (∀ w v, Bs w v ((bitsB P).drop m) → _) := fun w v hb => rgo P m 1 0 (by omega) h2 HP2.out (by decide) w v hb
            clear hgs h1 HEND HNX GJ VJ GSJ hv h2 g1 g2 g3
            go_wp2_with fail
            refine (RJ.out _).mono ?_
            rintro e w3 ⟨rfl, hf3⟩
            have F3 : Hid (Fr Nobody wr w3) := hf3
            clear hf3
            go_wp2_with fail
            refine (O1.out _ _ (HB.out.quiet F3.out)).mono ?_
            rintro e w4 ⟨v4, rfl, hV4, hf4⟩
            have F4 : Hid (Fr Nobody wr w4) := F3.out.trans hf4
            have HN : Hid _ := HNS.out w4 v4 HNQ.out.1 HNQ.out.2.1 HNQ.out.2.2 hV4 (B1.out.quiet F4.out)
            clear hV4 hf4
            go_wp2
            go_roundw
            case rel => exact ⟨j + 1, by omega, by go_num, HN.out.1, HN.out.2.1, B0.out.quiet F4.out, HN.out.2.2, B2.out.quiet F4.out, HG.out.trans F4.out⟩
            case measure => simp [intOf]; omega
          · rw [if_neg h2] at hgs
            have e1 : numAt P m 1 = 1 := by
              have : numAt P m 1 < 2 := by simpa using hv
              omega
            have O1 : Hid (∀ w v, Bs w v ((bitsB P).drop m) → _) := fun w v hb => rgo P m 1 1 (by omega) e1 HP2.out (by decide) w v hb
            clear hv h2 e1
            by_cases h3 : 8 * P.length < m + 1 + 1
            · rw [if_pos h3] at hgs
              have HSH : Hid (8 * P.length < m + 1 + 1) := h3
              have HE : Hid (scode k F P t = 2 ∧ RV = cmp 0 (f3 0 0 0) ∧ scons k F P t = 0) := HEND.out 2 (GSJ.out _ _ _ hgs).1 (by decide)
              clear hgs h1 h3 HEND HNX HNS GJ VJ GSJ
              go_wp2_with fail
              refine (RJ.out _).mono ?_
              rintro e w3 ⟨rfl, hf3⟩
              have F3 : Hid (Fr Nobody wr w3) := hf3
              clear hf3
              go_wp2_with fail
              refine (O1.out _ _ (HB.out.quiet F3.out)).mono ?_
              rintro e w4 ⟨v4, rfl, hV4, hf4⟩
              have F4 : Hid (Fr Nobody wr w4) := F3.out.trans hf4
              have V4 : Hid (Bs w4 v4 ((bitsB P).drop (m + 1))) := hV4
              clear hV4 hf4
              go_wp2_with fail
              refine (rgs P (m + 1) 1 HSH.out (by decide) (by decide) _ _ V4.out).mono ?_
              rintro e w5 ⟨rfl, rfl⟩
              have B2e : Hid (Box w5 (w.heap.size + 1) 0 (f3 0 0 0)) := B2.out.quiet F4.out
              have HGe : Hid (Fr Nobody w w5) := HG.out.trans F4.out
              obtain ⟨y0, y1, y2, y3⟩ := B2e.out.cells
              have z0 := B2e.out.frozen 0
              have z1 := B2e.out.frozen 1
              have z2 := B2e.out.frozen 2
              have z3 := B2e.out.frozen 3
              have HRX : Hid (Box (put4 w5 (w.heap.size + 1) 0 (f3 0 0 0)) (w.heap.size + 1) 0 (f3 0 0 0)) := put4_box B2e.out
              have HRD : Hid (Fr Nobody w (put4 w5 (w.heap.size + 1) 0 (f3 0 0 0))) := put4_fr HGe.out (.inr (by omega))
              simp only [f3] at y1 y2 y3
              go_wp2
              (try simp only [Exit.inBlock, Exit.then])
              refine bodyPost_ret (v := .tuple #[.agg #[.int .u8 0, .int .i32 0, .int .i32 0, .int .i32 0], v, .int .i64 2]) ?_ rfl ⟨v, by rw [HE.out.2.1, HE.out.1]; rfl, ?_, HRD.out⟩
              · simp only [results, hres]
                obtain ⟨q0, q1, q2, q3⟩ := HRX.out.cells
                simp only [put4, f3] at q0 q1 q2 q3
                go_simp
              · rw [HE.out.2.2]
                exact H.out.quiet HRD.out
            · rw [if_neg h3] at hgs
              have hv := numAt_lt P (m + 1) 1
              by_cases h4 : numAt P (m + 1) 1 = 1
              · rw [if_pos h4] at hgs
                have O2 : Hid (∀ w v, Bs w v ((bitsB P).drop (m + 1)) → _) := fun w v hb => rgo P (m + 1) 1 1 (by omega) h4 HP2.out (by decide) w v hb
                clear hv h4
                have hnr : nr k F P (m + 1 + 1) j = (if 8 * P.length < m + 1 + 1 + 4 then (2, 0, 0) else if F j + zag (numAt P (m + 1 + 1) 4 + 1) < lo k j ∨ hi k j < F j + zag (numAt P (m + 1 + 1) 4 + 1) then (5, 0, 0) else (0, F j + zag (numAt P (m + 1 + 1) 4 + 1), 4)) := rfl
                rw [hnr] at hgs
                by_cases h5 : 8 * P.length < m + 1 + 1 + 4
                · rw [if_pos h5] at hgs
                  have HSH : Hid (8 * P.length < m + 1 + 1 + 4) := h5
                  have Z1 : Hid (∀ w, Calls Tryd.prog 60 #[.int .u64 1] w fun e w' => e = .returned (.int .i64 (-1)) ∧ w' = w) := fun w => by have := rzag_any 1 w (by decide); rw [zag1] at this; exact this
                  have HE : Hid (scode k F P t = 2 ∧ RV = cmp 0 (f3 0 0 0) ∧ scons k F P t = 0) := HEND.out 2 (GSJ.out _ _ _ hgs).1 (by decide)
                  clear hgs h1 h3 h5 hnr HEND HNX HNS GJ VJ GSJ
                  go_wp2_with fail
                  refine (RJ.out _).mono ?_
                  rintro e w3 ⟨rfl, hf3⟩
                  have F3 : Hid (Fr Nobody wr w3) := hf3
                  clear hf3
                  go_wp2_with fail
                  refine (O1.out _ _ (HB.out.quiet F3.out)).mono ?_
                  rintro e w4 ⟨v4, rfl, hV4, hf4⟩
                  have F4 : Hid (Fr Nobody wr w4) := F3.out.trans hf4
                  have V4 : Hid (Bs w4 v4 ((bitsB P).drop (m + 1))) := hV4
                  clear hV4 hf4
                  go_wp2_with fail
                  refine (O2.out _ _ V4.out).mono ?_
                  rintro e w5 ⟨v5, rfl, hV5, hf5⟩
                  have F5 : Hid (Fr Nobody wr w5) := F4.out.trans hf5
                  have V5 : Hid (Bs w5 v5 ((bitsB P).drop (m + 1 + 1))) := hV5
                  clear hV5 hf5
                  go_wp2_with fail
                  refine (rgs P (m + 1 + 1) 4 HSH.out (by decide) (by decide) _ _ V5.out).mono ?_
                  rintro e w6 ⟨rfl, rfl⟩
                  have x1 := (B0.out.quiet F5.out).at j (by omega)
                  generalize F j = f at *
                  go_wp2
                  go_quiet (refine Calls.quiet_of_same (Z1.out _))
                  have F6 : Hid (Fr Nobody wr (w6.drewN nq)) := F5.out.drewN nq
                  have B2e : Hid (Box (w6.drewN nq) (w.heap.size + 1) 0 (f3 0 0 0)) := B2.out.quiet F6.out
                  have HGe : Hid (Fr Nobody w (w6.drewN nq)) := HG.out.trans F6.out
                  obtain ⟨y0, y1, y2, y3⟩ := B2e.out.cells
                  have z0 := B2e.out.frozen 0
                  have z1 := B2e.out.frozen 1
                  have z2 := B2e.out.frozen 2
                  have z3 := B2e.out.frozen 3
                  have HRX : Hid (Box (put4 (w6.drewN nq) (w.heap.size + 1) 0 (f3 0 0 0)) (w.heap.size + 1) 0 (f3 0 0 0)) := put4_box B2e.out
                  have HRD : Hid (Fr Nobody w (put4 (w6.drewN nq) (w.heap.size + 1) 0 (f3 0 0 0))) := put4_fr HGe.out (.inr (by omega))
                  simp only [f3] at y1 y2 y3
                  go_wp2
                  (try simp only [Exit.inBlock, Exit.then])
                  refine bodyPost_ret (v := .tuple #[.agg #[.int .u8 0, .int .i32 0, .int .i32 0, .int .i32 0], v, .int .i64 2]) ?_ rfl ⟨v, by rw [HE.out.2.1, HE.out.1]; rfl, ?_, HRD.out⟩
                  · simp only [results, hres]
                    obtain ⟨q0, q1, q2, q3⟩ := HRX.out.cells
                    simp only [put4, f3] at q0 q1 q2 q3
                    go_simp
                  · rw [HE.out.2.2]
                    exact H.out.quiet HRD.out
                · rw [if_neg h5] at hgs
                  have hv := numAt_lt P (m + 1 + 1) 4
                  have hz := zag_small (numAt P (m + 1 + 1) 4) (by simpa using hv)
                  have hv16 : numAt P (m + 1 + 1) 4 < 16 := by simpa using hv
                  have O3 : Hid (∀ w v, Bs w v ((bitsB P).drop (m + 1 + 1)) → _) := fun w v hb => rgo P (m + 1 + 1) 4 _ (by omega) rfl HP2.out (by decide) w v hb
                  have Z : Hid (∀ w, Calls Tryd.prog 60 #[.int .u64 ((numAt P (m + 1 + 1) 4 : Int) + 1)] w fun e w' => e = .returned (.int .i64 (zag (numAt P (m + 1 + 1) 4 + 1))) ∧ w' = w) := fun w => rzag_any (numAt P (m + 1 + 1) 4 + 1) w (by omega)
                  clear hv hnr
                  generalize numAt P (m + 1 + 1) 4 = nv at *
                  generalize zag (nv + 1) = zz at *
                  obtain ⟨zz0, zz1⟩ := hz
                  by_cases h6 : F j + zz < lo k j ∨ hi k j < F j + zz
                  · rw [if_pos h6] at hgs
                    have HE : Hid (scode k F P t = 5 ∧ RV = cmp 0 (f3 0 0 0) ∧ scons k F P t = 0) := HEND.out 5 (GSJ.out _ _ _ hgs).1 (by decide)
                    clear hgs h1 h3 h5 HEND HNX HNS GJ VJ GSJ
                    generalize lo k j = x at *
                    generalize hi k j = y at *
                    go_wp2_with fail
                    refine (RJ.out _).mono ?_
                    rintro e w3 ⟨rfl, hf3⟩
                    have F3 : Hid (Fr Nobody wr w3) := hf3
                    clear hf3
                    go_wp2_with fail
                    refine (O1.out _ _ (HB.out.quiet F3.out)).mono ?_
                    rintro e w4 ⟨v4, rfl, hV4, hf4⟩
                    have F4 : Hid (Fr Nobody wr w4) := F3.out.trans hf4
                    have V4 : Hid (Bs w4 v4 ((bitsB P).drop (m + 1))) := hV4
                    clear hV4 hf4
                    go_wp2_with fail
                    refine (O2.out _ _ V4.out).mono ?_
                    rintro e w5 ⟨v5, rfl, hV5, hf5⟩
                    have F5 : Hid (Fr Nobody wr w5) := F4.out.trans hf5
                    have V5 : Hid (Bs w5 v5 ((bitsB P).drop (m + 1 + 1))) := hV5
                    clear hV5 hf5
                    go_wp2_with fail
                    refine (O3.out _ _ V5.out).mono ?_
                    rintro e w6 ⟨v6, rfl, hV6, hf6⟩
                    have F6 : Hid (Fr Nobody wr w6) := F5.out.trans hf6
                    have V6 : Hid (Bs w6 v6 ((bitsB P).drop (m + 1 + 1 + 4))) := hV6
                    have x1 := (B0.out.quiet F6.out).at j (by omega)
                    clear hV6 hf6
                    generalize F j = f at *
                    by_cases h7 : f + zz < x
                    · go_wp2
                      go_quiet (refine Calls.quiet_of_same (Z.out _))
                      have F7 : Hid (Fr Nobody wr (w6.drewN nq)) := F6.out.drewN nq
                      have B2e : Hid (Box (w6.drewN nq) (w.heap.size + 1) 0 (f3 0 0 0)) := B2.out.quiet F7.out
                      have HGe : Hid (Fr Nobody w (w6.drewN nq)) := HG.out.trans F7.out
                      obtain ⟨y0, y1, y2, y3⟩ := B2e.out.cells
                      have z0 := B2e.out.frozen 0
                      have z1 := B2e.out.frozen 1
                      have z2 := B2e.out.frozen 2
                      have z3 := B2e.out.frozen 3
                      have HRX : Hid (Box (put4 (w6.drewN nq) (w.heap.size + 1) 0 (f3 0 0 0)) (w.heap.size + 1) 0 (f3 0 0 0)) := put4_box B2e.out
                      have HRD : Hid (Fr Nobody w (put4 (w6.drewN nq) (w.heap.size + 1) 0 (f3 0 0 0))) := put4_fr HGe.out (.inr (by omega))
                      simp only [f3] at y1 y2 y3
                      go_wp2
                      (try simp only [Exit.inBlock, Exit.then])
                      refine bodyPost_ret (v := .tuple #[.agg #[.int .u8 0, .int .i32 0, .int .i32 0, .int .i32 0], v, .int .i64 5]) ?_ rfl ⟨v, by rw [HE.out.2.1, HE.out.1]; rfl, ?_, HRD.out⟩
                      · simp only [results, hres]
                        obtain ⟨q0, q1, q2, q3⟩ := HRX.out.cells
                        simp only [put4, f3] at q0 q1 q2 q3
                        go_simp
                      · rw [HE.out.2.2]
                        exact H.out.quiet HRD.out
                    · have d0 : decide (f + zz < x) = false := by simpa using h7
                      have d1 : decide (y < f + zz) = true := by simp; omega
                      go_wp2
                      go_quiet (refine Calls.quiet_of_same (Z.out _))
                      have F7 : Hid (Fr Nobody wr (w6.drewN nq)) := F6.out.drewN nq
                      have B2e : Hid (Box (w6.drewN nq) (w.heap.size + 1) 0 (f3 0 0 0)) := B2.out.quiet F7.out
                      have HGe : Hid (Fr Nobody w (w6.drewN nq)) := HG.out.trans F7.out
                      obtain ⟨y0, y1, y2, y3⟩ := B2e.out.cells
                      have z0 := B2e.out.frozen 0
                      have z1 := B2e.out.frozen 1
                      have z2 := B2e.out.frozen 2
                      have z3 := B2e.out.frozen 3
                      have HRX : Hid (Box (put4 (w6.drewN nq) (w.heap.size + 1) 0 (f3 0 0 0)) (w.heap.size + 1) 0 (f3 0 0 0)) := put4_box B2e.out
                      have HRD : Hid (Fr Nobody w (put4 (w6.drewN nq) (w.heap.size + 1) 0 (f3 0 0 0))) := put4_fr HGe.out (.inr (by omega))
                      simp only [f3] at y1 y2 y3
                      go_wp2
                      (try simp only [Exit.inBlock, Exit.then])
                      refine bodyPost_ret (v := .tuple #[.agg #[.int .u8 0, .int .i32 0, .int .i32 0, .int .i32 0], v, .int .i64 5]) ?_ rfl ⟨v, by rw [HE.out.2.1, HE.out.1]; rfl, ?_, HRD.out⟩
                      · simp only [results, hres]
                        obtain ⟨q0, q1, q2, q3⟩ := HRX.out.cells
                        simp only [put4, f3] at q0 q1 q2 q3
                        go_simp
                      · rw [HE.out.2.2]
                        exact H.out.quiet HRD.out
                  · rw [if_neg h6] at hgs
                    obtain ⟨g1, g2, g3⟩ := GSJ.out _ _ _ hgs
                    have HNQ : Hid (cdj = 0 ∧ vlj = F j + zz ∧ cnj = 2 + 4) := ⟨g1, g2, g3⟩
                    clear hgs h1 h3 h5 HEND HNS GJ VJ GSJ g1 g2 g3
                    generalize lo k j = x at *
                    generalize hi k j = y at *
                    go_wp2_with fail
                    refine (RJ.out _).mono ?_
                    rintro e w3 ⟨rfl, hf3⟩
                    have F3 : Hid (Fr Nobody wr w3) := hf3
                    clear hf3
                    go_wp2_with fail
                    refine (O1.out _ _ (HB.out.quiet F3.out)).mono ?_
                    rintro e w4 ⟨v4, rfl, hV4, hf4⟩
                    have F4 : Hid (Fr Nobody wr w4) := F3.out.trans hf4
                    have V4 : Hid (Bs w4 v4 ((bitsB P).drop (m + 1))) := hV4
                    clear hV4 hf4
                    go_wp2_with fail
                    refine (O2.out _ _ V4.out).mono ?_
                    rintro e w5 ⟨v5, rfl, hV5, hf5⟩
                    have F5 : Hid (Fr Nobody wr w5) := F4.out.trans hf5
                    have V5 : Hid (Bs w5 v5 ((bitsB P).drop (m + 1 + 1))) := hV5
                    clear hV5 hf5
                    go_wp2_with fail
                    refine (O3.out _ _ V5.out).mono ?_
                    rintro e w6 ⟨v6, rfl, hV6, hf6⟩
                    have F6 : Hid (Fr Nobody wr w6) := F5.out.trans hf6
                    have V6 : Hid (Bs w6 v6 ((bitsB P).drop (m + 1 + 1 + 4))) := hV6
                    have x1 := (B0.out.quiet F6.out).at j (by omega)
                    clear hV6 hf6
                    obtain ⟨f, hfj⟩ : ∃ f, F j = f := ⟨_, rfl⟩
                    rw [hfj] at x1 h6 r0 r1 HNQ
                    clear hfj
                    have d0 : decide (f + zz < x) = false := by simp; omega
                    have d1 : decide (y < f + zz) = false := by simp; omega
                    go_wp2
                    go_quiet (refine Calls.quiet_of_same (Z.out _))
                    have F7 : Hid (Fr Nobody wr (w6.drewN nq)) := F6.out.drewN nq
                    have B14 : Hid (Box (w6.drewN nq) w1.heap.size k (upd code val cons t F j)) := B1.out.quiet F7.out
                    have HN : Hid _ := HNX.out (w6.drewN nq) v6 (f + zz) (2 + 4) HNQ.out.1 HNQ.out.2.1 HNQ.out.2.2 (V6.out.quiet ((Fr.refl _ _).drewN nq)) (B0.out.quiet F7.out) B14.out (B2.out.quiet F7.out) (HG.out.trans F7.out)
                    have hx := B14.out.at j (by omega)
                    have hfz := B14.out.frozen (1 + j)
                    generalize upd code val cons t F j j = ov at *
                    go_wp2
                    go_roundw
                    case rel => exact ⟨j + 1, by omega, by go_num, HN.out.1, HN.out.2.1, HN.out.2.2.1, HN.out.2.2.2.1, HN.out.2.2.2.2.1, HN.out.2.2.2.2.2⟩
                    case measure => simp [intOf]; omega
              · rw [if_neg h4] at hgs
                have e1 : numAt P (m + 1) 1 = 0 := by
                  have : numAt P (m + 1) 1 < 2 := by simpa using hv
                  omega
                have O2 : Hid (∀ w v, Bs w v ((bitsB P).drop (m + 1)) → _) := fun w v hb => rgo P (m + 1) 1 0 (by omega) e1 HP2.out (by decide) w v hb
                have GK : Hid (∀ w v, Bs w v ((bitsB P).drop (m + 1 + 1)) → _) := fun w v hb => GJ.out w v (m + 1 + 1) hb
                have hVK := VJ.out (m + 1 + 1)
                have hfa : fa k F P (m + 1 + 1) j = (if (gf k P (m + 1 + 1) j).1 ≠ 0 then ((gf k P (m + 1 + 1) j).1, 0, 0) else if zig ((gf k P (m + 1 + 1) j).2.1 - F j) ≤ 16 then (4, 0, 0) else (0, (gf k P (m + 1 + 1) j).2.1, (gf k P (m + 1 + 1) j).2.2)) := rfl
                have ZG : Hid (∀ w, Calls Tryd.prog 51 #[.int .i64 ((gf k P (m + 1 + 1) j).2.1 - F j)] w fun e w' => e = .returned (.int .u64 ((zig ((gf k P (m + 1 + 1) j).2.1 - F j) : Nat) : Int)) ∧ w' = w) := fun w => rzig_any _ w (by omega) (by omega)
                rw [hfa] at hgs
                clear hv h4 e1 hfa GJ VJ
                generalize (gf k P (m + 1 + 1) j).1 = cd at *
                generalize (gf k P (m + 1 + 1) j).2.1 = gv at *
                generalize (gf k P (m + 1 + 1) j).2.2 = gn at *
                obtain ⟨vk0, vk1⟩ := hVK
                by_cases h5 : cd = 0
                · subst h5
                  rw [if_neg (by simp)] at hgs
                  generalize hzz : zig (gv - F j) = z at *
                  clear hzz
                  by_cases h6 : z ≤ 16
                  · rw [if_pos h6] at hgs
                    have HE : Hid (scode k F P t = 4 ∧ RV = cmp 0 (f3 0 0 0) ∧ scons k F P t = 0) := HEND.out 4 (GSJ.out _ _ _ hgs).1 (by decide)
                    clear hgs h1 h3 HEND HNX HNS GSJ
                    generalize lo k j = x at *
                    generalize hi k j = y at *
                    go_wp2_with fail
                    refine (RJ.out _).mono ?_
                    rintro e w3 ⟨rfl, hf3⟩
                    have F3 : Hid (Fr Nobody wr w3) := hf3
                    clear hf3
                    go_wp2_with fail
                    refine (O1.out _ _ (HB.out.quiet F3.out)).mono ?_
                    rintro e w4 ⟨v4, rfl, hV4, hf4⟩
                    have F4 : Hid (Fr Nobody wr w4) := F3.out.trans hf4
                    have V4 : Hid (Bs w4 v4 ((bitsB P).drop (m + 1))) := hV4
                    clear hV4 hf4
                    go_wp2_with fail
                    refine (O2.out _ _ V4.out).mono ?_
                    rintro e w5 ⟨v5, rfl, hV5, hf5⟩
                    have F5 : Hid (Fr Nobody wr w5) := F4.out.trans hf5
                    have V5 : Hid (Bs w5 v5 ((bitsB P).drop (m + 1 + 1))) := hV5
                    clear hV5 hf5
                    go_wp2_with fail
                    refine (GK.out _ _ V5.out).mono ?_
                    rintro e w6 ⟨v6, rfl, hV6, hf6⟩
                    have F6 : Hid (Fr Nobody wr w6) := F5.out.trans hf6
                    have V6 : Hid (Bs w6 v6 ((bitsB P).drop (m + 1 + 1 + gn))) := hV6
                    have x1 := (B0.out.quiet F6.out).at j (by omega)
                    clear hV6 hf6
                    generalize F j = f at *
                    go_wp2_with fail
                    refine (ZG.out _).mono ?_
                    rintro e w7 ⟨rfl, rfl⟩
                    have B2e : Hid (Box w7 (w.heap.size + 1) 0 (f3 0 0 0)) := B2.out.quiet F6.out
                    have HGe : Hid (Fr Nobody w w7) := HG.out.trans F6.out
                    obtain ⟨y0, y1, y2, y3⟩ := B2e.out.cells
                    have z0 := B2e.out.frozen 0
                    have z1 := B2e.out.frozen 1
                    have z2 := B2e.out.frozen 2
                    have z3 := B2e.out.frozen 3
                    have HRX : Hid (Box (put4 w7 (w.heap.size + 1) 0 (f3 0 0 0)) (w.heap.size + 1) 0 (f3 0 0 0)) := put4_box B2e.out
                    have HRD : Hid (Fr Nobody w (put4 w7 (w.heap.size + 1) 0 (f3 0 0 0))) := put4_fr HGe.out (.inr (by omega))
                    simp only [f3] at y1 y2 y3
                    go_wp2
                    (try simp only [Exit.inBlock, Exit.then])
                    refine bodyPost_ret (v := .tuple #[.agg #[.int .u8 0, .int .i32 0, .int .i32 0, .int .i32 0], v, .int .i64 4]) ?_ rfl ⟨v, by rw [HE.out.2.1, HE.out.1]; rfl, ?_, HRD.out⟩
                    · simp only [results, hres]
                      obtain ⟨q0, q1, q2, q3⟩ := HRX.out.cells
                      simp only [put4, f3] at q0 q1 q2 q3
                      go_simp
                    · rw [HE.out.2.2]
                      exact H.out.quiet HRD.out
                  · rw [if_neg h6] at hgs
                    obtain ⟨g1, g2, g3⟩ := GSJ.out _ _ _ hgs
                    have HNQ : Hid (cdj = 0 ∧ vlj = gv ∧ cnj = 2 + gn) := ⟨g1, g2, g3⟩
                    have d0 : decide ((z : Int) ≤ 16) = false := by simp; omega
                    clear hgs h1 h3 h6 HEND HNS GSJ g1 g2 g3
                    generalize lo k j = x at *
                    generalize hi k j = y at *
                    go_wp2_with fail
                    refine (RJ.out _).mono ?_
                    rintro e w3 ⟨rfl, hf3⟩
                    have F3 : Hid (Fr Nobody wr w3) := hf3
                    clear hf3
                    go_wp2_with fail
                    refine (O1.out _ _ (HB.out.quiet F3.out)).mono ?_
                    rintro e w4 ⟨v4, rfl, hV4, hf4⟩
                    have F4 : Hid (Fr Nobody wr w4) := F3.out.trans hf4
                    have V4 : Hid (Bs w4 v4 ((bitsB P).drop (m + 1))) := hV4
                    clear hV4 hf4
                    go_wp2_with fail
                    refine (O2.out _ _ V4.out).mono ?_
                    rintro e w5 ⟨v5, rfl, hV5, hf5⟩
                    have F5 : Hid (Fr Nobody wr w5) := F4.out.trans hf5
                    have V5 : Hid (Bs w5 v5 ((bitsB P).drop (m + 1 + 1))) := hV5
                    clear hV5 hf5
                    go_wp2_with fail
                    refine (GK.out _ _ V5.out).mono ?_
                    rintro e w6 ⟨v6, rfl, hV6, hf6⟩
                    have F6 : Hid (Fr Nobody wr w6) := F5.out.trans hf6
                    have V6 : Hid (Bs w6 v6 ((bitsB P).drop (m + 1 + 1 + gn))) := hV6
                    have x1 := (B0.out.quiet F6.out).at j (by omega)
                    clear hV6 hf6
                    generalize F j = f at *
                    have B14 : Hid (Box w6 w1.heap.size k (upd code val cons t F j)) := B1.out.quiet F6.out
                    have HN : Hid _ := HNX.out w6 v6 gv (2 + gn) HNQ.out.1 HNQ.out.2.1 HNQ.out.2.2 (by have := V6.out; rw [show m + (2 + gn) = m + 1 + 1 + gn from by omega]; exact this) (B0.out.quiet F6.out) B14.out (B2.out.quiet F6.out) (HG.out.trans F6.out)
                    have hx := B14.out.at j (by omega)
                    have hfz := B14.out.frozen (1 + j)
                    generalize upd code val cons t F j j = ov at *
                    go_wp2_with fail
                    refine (ZG.out _).mono ?_
                    rintro e w7 ⟨rfl, rfl⟩
                    go_wp2
                    go_roundw
                    case rel => exact ⟨j + 1, by omega, by go_num, HN.out.1, HN.out.2.1, HN.out.2.2.1, HN.out.2.2.2.1, HN.out.2.2.2.2.1, HN.out.2.2.2.2.2⟩
                    case measure => simp [intOf]; omega
                · rw [if_pos h5] at hgs
                  have hne : (cd != 0) = true := by rw [bne_iff_ne]; exact h5
                  have hne2 : (cd == 0) = false := by rw [beq_eq_false_iff_ne]; exact h5
                  have HE : Hid (scode k F P t = cd ∧ RV = cmp 0 (f3 0 0 0) ∧ scons k F P t = 0) := HEND.out cd (GSJ.out _ _ _ hgs).1 h5
                  clear hgs h1 h3 h5 HEND HNX HNS GSJ
                  generalize lo k j = x at *
                  generalize hi k j = y at *
                  go_wp2_with fail
                  refine (RJ.out _).mono ?_
                  rintro e w3 ⟨rfl, hf3⟩
                  have F3 : Hid (Fr Nobody wr w3) := hf3
                  clear hf3
                  go_wp2_with fail
                  refine (O1.out _ _ (HB.out.quiet F3.out)).mono ?_
                  rintro e w4 ⟨v4, rfl, hV4, hf4⟩
                  have F4 : Hid (Fr Nobody wr w4) := F3.out.trans hf4
                  have V4 : Hid (Bs w4 v4 ((bitsB P).drop (m + 1))) := hV4
                  clear hV4 hf4
                  go_wp2_with fail
                  refine (O2.out _ _ V4.out).mono ?_
                  rintro e w5 ⟨v5, rfl, hV5, hf5⟩
                  have F5 : Hid (Fr Nobody wr w5) := F4.out.trans hf5
                  have V5 : Hid (Bs w5 v5 ((bitsB P).drop (m + 1 + 1))) := hV5
                  clear hV5 hf5
                  go_wp2_with fail
                  refine (GK.out _ _ V5.out).mono ?_
                  rintro e w6 ⟨v6, rfl, hV6, hf6⟩
                  have F6 : Hid (Fr Nobody wr w6) := F5.out.trans hf6
                  have V6 : Hid (Bs w6 v6 ((bitsB P).drop (m + 1 + 1 + gn))) := hV6
                  have x1 := (B0.out.quiet F6.out).at j (by omega)
                  clear hV6 hf6
                  have B2e : Hid (Box w6 (w.heap.size + 1) 0 (f3 0 0 0)) := B2.out.quiet F6.out
                  have HGe : Hid (Fr Nobody w w6) := HG.out.trans F6.out
                  obtain ⟨y0, y1, y2, y3⟩ := B2e.out.cells
                  have z0 := B2e.out.frozen 0
                  have z1 := B2e.out.frozen 1
                  have z2 := B2e.out.frozen 2
                  have z3 := B2e.out.frozen 3
                  have HRX : Hid (Box (put4 w6 (w.heap.size + 1) 0 (f3 0 0 0)) (w.heap.size + 1) 0 (f3 0 0 0)) := put4_box B2e.out
                  have HRD : Hid (Fr Nobody w (put4 w6 (w.heap.size + 1) 0 (f3 0 0 0))) := put4_fr HGe.out (.inr (by omega))
                  simp only [f3] at y1 y2 y3
                  go_wp2
                  (try simp only [Exit.inBlock, Exit.then])
                  refine bodyPost_ret (v := .tuple #[.agg #[.int .u8 0, .int .i32 0, .int .i32 0, .int .i32 0], v, .int .i64 cd]) ?_ rfl ⟨v, by rw [HE.out.2.1, HE.out.1]; rfl, ?_, HRD.out⟩
                  · simp only [results, hres]
                    obtain ⟨q0, q1, q2, q3⟩ := HRX.out.cells
                    simp only [put4, f3] at q0 q1 q2 q3
                    go_simp
                  · rw [HE.out.2.2]
                    exact H.out.quiet HRD.out
      · have e : j = c := by omega
        subst e
        have HV : Hid (RV = cmp k (upd code val cons t F j)) := by rw [← EF.out]; exact HV1.out (EG.out.trans HZ.out)
        have HE0 : Hid (scode k F P t = 0) := EG.out.trans HZ.out
        have HGC : Hid (t + scons k F P t = (rat code cons t j).2) := by
          show _ = _
          rw [EN.out (EG.out.trans HZ.out)]
          have := rat_ge code cons t j
          omega
        obtain ⟨x0, x1, x2, x3⟩ := B1.out.cells
        obtain ⟨y0, y1, y2, y3⟩ := B2.out.cells
        have z0 := B2.out.frozen 0
        have z1 := B2.out.frozen 1
        have z2 := B2.out.frozen 2
        have z3 := B2.out.frozen 3
        have HRX : Hid (Box (put4 wr (w.heap.size + 1) k (upd code val cons t F j)) (w.heap.size + 1) k (upd code val cons t F j)) := put4_box B2.out
        have HRD : Hid (Bs (put4 wr (w.heap.size + 1) k (upd code val cons t F j)) u9 ((bitsB P).drop (rat code cons t j).2) ∧ Fr Nobody w (put4 wr (w.heap.size + 1) k (upd code val cons t F j))) := ⟨HB.out.put4 B2.out, put4_fr HG.out (.inr (by omega))⟩
        clear B1 B2 HB HG G RR B0
        simp only [f3] at y1 y2 y3
        go_wp2
        (try simp only [Exit.inBlock, Exit.then])
        refine bodyPost_ret (v := .tuple #[.agg #[.int .u8 (k : Int), .int .i32 (upd code val cons t F j 0), .int .i32 (upd code val cons t F j 1), .int .i32 (upd code val cons t F j 2)], u9, .int .i64 0]) ?_ rfl ⟨u9, by rw [HV.out, HE0.out]; rfl, ?_, HRD.out.2⟩
        · simp only [results, hres]
          obtain ⟨q0, q1, q2, q3⟩ := HRX.out.cells
          simp only [put4] at q0 q1 q2 q3
          go_simp
        · rw [HGC.out]
          exact HRD.out.1
  · have EG : Hid (scode k F P t = ((chk k F : Nat) : Int)) := by show _ = _; unfold scode; rw [if_neg h0]
    have hne : (((chk k F : Nat) : Int) != 0) = true := by rw [bne_iff_ne]; omega
    have HNE : Hid (scode k F P t ≠ 0) := by show _ ≠ _; rw [EG.out]; omega
    have HE : Hid (scode k F P t = ((chk k F : Nat) : Int) ∧ RV = cmp 0 (f3 0 0 0) ∧ scons k F P t = 0) := ⟨EG.out, HV2.out HNE.out, HG0.out HNE.out⟩
    clear h0 EG HNE
    generalize chk k F = cd at *
    unfold cmp at K HW0 HX0 HF0
    unfold cmp
    go_enter Tryd.func29, Tryd.ntmps29
    go_wp2_with fail
    refine (K.out _).mono ?_
    rintro e w1 ⟨rfl, hf1⟩
    have X1 : Hid (Box w1 (w.heap.size + 1) 0 (f3 0 0 0)) := Box.quiet HX0.out hf1
    have HF1 : Hid (Fr Nobody w w1) := Fr.trans HF0.out hf1
    obtain ⟨y0, y1, y2, y3⟩ := X1.out.cells
    have z0 := X1.out.frozen 0
    have z1 := X1.out.frozen 1
    have z2 := X1.out.frozen 2
    have z3 := X1.out.frozen 3
    have HRX : Hid (Box (put4 w1 (w.heap.size + 1) 0 (f3 0 0 0)) (w.heap.size + 1) 0 (f3 0 0 0)) := put4_box X1.out
    have HRD : Hid (Fr Nobody w (put4 w1 (w.heap.size + 1) 0 (f3 0 0 0))) := put4_fr HF1.out (.inr (by omega))
    clear hf1
    simp only [f3] at y1 y2 y3
    go_wp2
    (try simp only [Exit.inBlock, Exit.then])
    refine bodyPost_ret (v := .tuple #[.agg #[.int .u8 0, .int .i32 0, .int .i32 0, .int .i32 0], v, .int .i64 (cd : Int)]) ?_ rfl ⟨v, by rw [HE.out.2.1, HE.out.1]; rfl, ?_, HRD.out⟩
    · simp only [results, hres]
      obtain ⟨q0, q1, q2, q3⟩ := HRX.out.cells
      simp only [put4, f3] at q0 q1 q2 q3
      go_simp
    · rw [HE.out.2.2]
      exact H.out.quiet HRD.out
end Go.Proofs.YtpmolkomnnpepabDoor
