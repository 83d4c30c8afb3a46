/-
  Sees.
-/
import Derived.Test.YthokgjkgfolojabDoorVib
namespace Go.Proofs.YthokgjkgfolojabDoor
open Go.RowKit
set_option linter.unusedVariables false
set_option maxRecDepth 100000

theorem wr64 {x r : Int} (h1 : -32 ≤ x) (h2 : x ≤ 31) (h3 : 0 ≤ r) (h4 : r ≤ 8) : IntKind.i64.wrap (x - r) = x - r := by simp only [IntKind.wrap_i64]; omega
theorem wr64' {x r : Int} (h1 : -32 ≤ x) (h2 : x ≤ 31) (h3 : 0 ≤ r) (h4 : r ≤ 8) : IntKind.i64.wrap (x + r) = x + r := by simp only [IntKind.wrap_i64]; omega
set_option maxHeartbeats 16000000 in
theorem sees_far (w : World) (on : Bool) (x y r px py : Int) (hR : hasR on x y r = true) (hpx : I32 px) (hpy : I32 py) (h1 : bw (cel px) (x - r) (x + r) = false) : Calls Tryd.prog 14 #[rgv on x y r, .int .i32 px, .int .i32 py] w fun e w' => e = .returned (.bool false) ∧ Fr Nobody w w' := by
  have CH : Hid (∀ W, Calls Tryd.prog 21 #[.agg #[.bool on, .int .i64 x, .int .i64 y, .int .i64 r]] W fun e w' => e = .returned (.bool true) ∧ Fr Nobody W w') := fun W => by rw [← hR]; exact hasCells_ok W on x y r
  have hb := inR_iff.1 (by unfold hasR at hR; exact (Bool.and_eq_true .. ▸ hR).2 : inR x y r = true)
  obtain ⟨⟨bx1, bx2⟩, ⟨by1, by2⟩, br1, br2⟩ := hb
  obtain ⟨cx, hcx⟩ : ∃ cx, cx = cel px := ⟨_, rfl⟩
  obtain ⟨cy, hcy⟩ : ∃ cy, cy = cel py := ⟨_, rfl⟩
  have CX : Hid (∀ W, Calls Tryd.prog 19 #[.int .i32 px] W fun e w' => e = .returned (.int .i64 cx) ∧ w' = W) := fun W => by rw [hcx]; exact of_ok W px hpx
  have CY : Hid (∀ W, Calls Tryd.prog 19 #[.int .i32 py] W fun e w' => e = .returned (.int .i64 cy) ∧ w' = W) := fun W => by rw [hcy]; exact of_ok W py hpy
  rw [← hcx] at h1
  have C1 : Hid (∀ W, Calls Tryd.prog 24 #[.int .i64 cx, .int .i64 (IntKind.i64.wrap (x - r)), .int .i64 (IntKind.i64.wrap (x + r))] W fun e w' => e = .returned (.bool false) ∧ w' = W) := fun W => by rw [wr64 bx1 bx2 br1 br2, wr64' bx1 bx2 br1 br2, ← h1]; exact within_ok W _ _ _
  have hA := (Own.start w).allocC #[.bool on, .int .i64 x, .int .i64 y, .int .i64 r] 24
  have HA : Hid (Own w _ _) := hA
  clear hA hR hcx hcy hpx hpy h1
  unfold rgv
  go_enter Tryd.func14, Tryd.ntmps14
  go_wp2
  generalize hWg : w.alloc (.cells #[.bool on, .int .i64 x, .int .i64 y, .int .i64 r] 24) = W1 at *
  generalize w.heap.size = B at *
  clear hWg
  have q0 := fun f => HA.out.frCells f 0
  have q1 := fun f => HA.out.frCells f 1
  have q2 := fun f => HA.out.frCells f 2
  have q3 := fun f => HA.out.frCells f 3
  simp at q0 q1 q2 q3
  refine wp_region_fr (by kernel_rfl) (by kernel_rfl) ?_
  repeat (with_reducible refine wpQuiet_step (fun K hK => ?_)
          go_simp
          first
            | (refine hK _ ?_; clear hK K)
            | (apply Exists.intro
               refine ⟨fun _ => ?_, hK _ ?_⟩
               (first
                 | (go_at_call 21; with_reducible refine Calls.fr_of (CH.out _))
                 | (go_at_call 19; with_reducible refine Calls.fr_same (CX.out _))
                 | (go_at_call 19; with_reducible refine Calls.fr_same (CY.out _))
                 | (go_at_call 24; with_reducible refine Calls.fr_same (C1.out _)))
               clear hK K))
  refine wpQuiet_nil ?_
  rintro w' ⟨f, rfl⟩
  have HF : Hid (Fr Nobody w f.val) := HA.out.fr.trans f.fr
  clear HA q0 q1 q2 q3
  go_wp2
  go_ret
  exact ⟨by simp, HF.out⟩
set_option maxHeartbeats 16000000 in
theorem sees_near (w : World) (on : Bool) (x y r px py : Int) (hR : hasR on x y r = true) (hpx : I32 px) (hpy : I32 py) (h1 : bw (cel px) (x - r) (x + r) = true) : Calls Tryd.prog 14 #[rgv on x y r, .int .i32 px, .int .i32 py] w fun e w' => e = .returned (.bool (bw (cel py) (y - r) (y + r))) ∧ Fr Nobody w w' := by
  have CH : Hid (∀ W, Calls Tryd.prog 21 #[.agg #[.bool on, .int .i64 x, .int .i64 y, .int .i64 r]] W fun e w' => e = .returned (.bool true) ∧ Fr Nobody W w') := fun W => by rw [← hR]; exact hasCells_ok W on x y r
  have hb := inR_iff.1 (by unfold hasR at hR; exact (Bool.and_eq_true .. ▸ hR).2 : inR x y r = true)
  obtain ⟨⟨bx1, bx2⟩, ⟨by1, by2⟩, br1, br2⟩ := hb
  obtain ⟨cx, hcx⟩ : ∃ cx, cx = cel px := ⟨_, rfl⟩
  obtain ⟨cy, hcy⟩ : ∃ cy, cy = cel py := ⟨_, rfl⟩
  have CX : Hid (∀ W, Calls Tryd.prog 19 #[.int .i32 px] W fun e w' => e = .returned (.int .i64 cx) ∧ w' = W) := fun W => by rw [hcx]; exact of_ok W px hpx
  have CY : Hid (∀ W, Calls Tryd.prog 19 #[.int .i32 py] W fun e w' => e = .returned (.int .i64 cy) ∧ w' = W) := fun W => by rw [hcy]; exact of_ok W py hpy
  rw [← hcx] at h1
  have C1 : Hid (∀ W, Calls Tryd.prog 24 #[.int .i64 cx, .int .i64 (IntKind.i64.wrap (x - r)), .int .i64 (IntKind.i64.wrap (x + r))] W fun e w' => e = .returned (.bool true) ∧ w' = W) := fun W => by rw [wr64 bx1 bx2 br1 br2, wr64' bx1 bx2 br1 br2, ← h1]; exact within_ok W _ _ _
  obtain ⟨b2, hb2⟩ : ∃ b, b = bw (cel py) (y - r) (y + r) := ⟨_, rfl⟩
  have C2 : Hid (∀ W, Calls Tryd.prog 24 #[.int .i64 cy, .int .i64 (IntKind.i64.wrap (y - r)), .int .i64 (IntKind.i64.wrap (y + r))] W fun e w' => e = .returned (.bool b2) ∧ w' = W) := fun W => by rw [wr64 by1 by2 br1 br2, wr64' by1 by2 br1 br2, hb2, ← hcy]; exact within_ok W _ _ _
  have HB2 : Hid (b2 = bw (cel py) (y - r) (y + r)) := hb2
  rw [← hb2]
  have hA := (Own.start w).allocC #[.bool on, .int .i64 x, .int .i64 y, .int .i64 r] 24
  have HA : Hid (Own w _ _) := hA
  clear hA hR hcx hcy hpx hpy h1 hb2
  unfold rgv
  go_enter Tryd.func14, Tryd.ntmps14
  go_wp2
  generalize hWg : w.alloc (.cells #[.bool on, .int .i64 x, .int .i64 y, .int .i64 r] 24) = W1 at *
  generalize w.heap.size = B at *
  clear hWg
  have q0 := fun f => HA.out.frCells f 0
  have q1 := fun f => HA.out.frCells f 1
  have q2 := fun f => HA.out.frCells f 2
  have q3 := fun f => HA.out.frCells f 3
  simp at q0 q1 q2 q3
  refine wp_region_fr (by kernel_rfl) (by kernel_rfl) ?_
  repeat (with_reducible refine wpQuiet_step (fun K hK => ?_)
          go_simp
          first
            | (refine hK _ ?_; clear hK K)
            | (apply Exists.intro
               refine ⟨fun _ => ?_, hK _ ?_⟩
               (first
                 | (go_at_call 21; with_reducible refine Calls.fr_of (CH.out _))
                 | (go_at_call 19; with_reducible refine Calls.fr_same (CX.out _))
                 | (go_at_call 19; with_reducible refine Calls.fr_same (CY.out _))
                 | (go_at_call 24; with_reducible refine Calls.fr_same (C1.out _))
                 | (go_at_call 24; with_reducible refine Calls.fr_same (C2.out _)))
               clear hK K))
  refine wpQuiet_nil ?_
  rintro w' ⟨f, rfl⟩
  have HF : Hid (Fr Nobody w f.val) := HA.out.fr.trans f.fr
  clear HA q0 q1 q2 q3
  go_wp2
  go_ret
  exact ⟨by simp, HF.out⟩
theorem sees_ok (w : World) (on : Bool) (x y r px py : Int) (hpx : I32 px) (hpy : I32 py) : Calls Tryd.prog 14 #[rgv on x y r, .int .i32 px, .int .i32 py] w fun e w' => e = .returned (.bool (hasC on x y r (cel px) (cel py))) ∧ Fr Nobody w w' := by
  unfold hasC
  cases hR : hasR on x y r with
  | false => exact sees_no w on x y r px py hR
  | true =>
    cases h1 : bw (cel px) (x - r) (x + r) with
    | false => exact sees_far w on x y r px py hR hpx hpy h1
    | true => exact sees_near w on x y r px py hR hpx hpy h1
end Go.Proofs.YthokgjkgfolojabDoor
