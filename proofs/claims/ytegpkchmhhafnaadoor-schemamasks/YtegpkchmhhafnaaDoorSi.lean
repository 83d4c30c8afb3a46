/-
  The document's examples of layer 5.
-/
import Derived.Test.YtegpkchmhhafnaaDoorSh
namespace Go.Proofs.YtegpkchmhhafnaaDoor
open Go.RowKit
set_option linter.unusedVariables false

theorem chk_a : chk 3 (f3 3 0 5) = 0 := by decide
theorem chk_b : chk 3 (f3 3 1001 5) = 5 := by decide
theorem chk_c : chk 2 (f3 3 1 0) = 4 := by decide
theorem bits_pos : bitsK 0 = 40 := by decide +kernel

set_option maxHeartbeats 1000000 in
theorem awake5 (w : World) (ht : Tab w) : Calls Tryd.prog 5 #[] w fun e w' => e = .returned (.bool true) ∧ Fr Nobody w w' := by
  have H : Hid (Tab w) := ht
  have h1 : Hid (∀ w, Tab w → Calls Tryd.prog 13 #[.agg #[.int .u8 3, .int .i32 3, .int .i32 0, .int .i32 5]] w fun e w' => e = .returned (.int .i64 0) ∧ Fr Nobody w w') := fun w h => by have := check3 w h 3 (by decide) 3 0 5; rw [chk_a] at this; exact this
  have h2 : Hid (∀ w, Tab w → Calls Tryd.prog 13 #[.agg #[.int .u8 3, .int .i32 3, .int .i32 1001, .int .i32 5]] w fun e w' => e = .returned (.int .i64 5) ∧ Fr Nobody w w') := fun w h => by have := check3 w h 3 (by decide) 3 1001 5; rw [chk_b] at this; exact this
  have h3 : Hid (∀ w, Tab w → Calls Tryd.prog 13 #[.agg #[.int .u8 2, .int .i32 3, .int .i32 1, .int .i32 0]] w fun e w' => e = .returned (.int .i64 4) ∧ Fr Nobody w w') := fun w h => by have := check3 w h 2 (by decide) 3 1 0; rw [chk_c] at this; exact this
  have h4 : Hid (∀ w, Tab w → Calls Tryd.prog 14 #[.int .u8 0] w fun e w' => e = .returned (.int .i64 40) ∧ Fr Nobody w w') := fun w h => by have := bits_any w h 0 (by decide); rw [bits_pos] at this; exact this
  clear ht
  go_enter Tryd.func5, Tryd.ntmps5
  go_wp2_with fail
  refine (h1.out _ H.out).mono ?_
  rintro e w1 ⟨rfl, hf1⟩
  have HF1 : Hid (Fr Nobody w w1) := hf1
  clear hf1
  go_wp2_with fail
  refine (h2.out _ (H.out.quiet HF1.out)).mono ?_
  rintro e w2 ⟨rfl, hf2⟩
  have HF2 : Hid (Fr Nobody w w2) := HF1.out.trans hf2
  clear hf2
  go_wp2_with fail
  refine (h3.out _ (H.out.quiet HF2.out)).mono ?_
  rintro e w3 ⟨rfl, hf3⟩
  have HF3 : Hid (Fr Nobody w w3) := HF2.out.trans hf3
  clear hf3
  go_wp2_with fail
  refine (h4.out _ (H.out.quiet HF3.out)).mono ?_
  rintro e w4 ⟨rfl, hf4⟩
  have HF4 : Hid (Fr Nobody w w4) := HF3.out.trans hf4
  clear hf4
  go_wp2
  go_ret
  exact ⟨rfl, HF4.out⟩
end Go.Proofs.YtegpkchmhhafnaaDoor
