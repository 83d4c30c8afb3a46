/-
  The document's examples of layer 6.
-/
import Derived.Test.YtllhipfielgnbaaDoorKc
namespace Go.Proofs.YtllhipfielgnbaaDoor
open Go.RowKit
set_option linter.unusedVariables false
set_option maxRecDepth 100000

set_option maxHeartbeats 2000000 in
theorem awake6 (w : World) (ht : Tab w) : Calls Tryd.prog 5 #[] w fun e w' => e = .returned (.bool true) ∧ Fr Nobody w w' := by
  have H : Hid (Tab w) := ht
  have h1 : Hid (∀ w, Tab w → Calls Tryd.prog 21 #[.agg #[.int .u8 2, .int .i32 5, .int .i32 0, .int .i32 0]] w fun e w' => e = .returned (.int .i64 12) ∧ Fr Nobody w w') := fun w h => by have := size_any w h 2 (by decide) (f3 5 0 0); rw [sz_a] at this; exact this
  have h2 : Hid (∀ w, Tab w → Calls Tryd.prog 13 #[.agg #[.int .u8 2, .int .i32 6, .int .i32 0, .int .i32 0], .agg #[.int .u8 2, .int .i32 5, .int .i32 0, .int .i32 0]] w fun e w' => e = .returned (.int .i64 6) ∧ Fr Nobody w w') := fun w h => by have := sizeStep_any w h 2 2 (by decide) (by decide) (f3 6 0 0) (f3 5 0 0) (i32_life 6 (by decide)) (i32_life 5 (by decide)); rw [sz_b] at this; exact this
  have h3 : Hid (∀ w, Tab w → Calls Tryd.prog 13 #[.agg #[.int .u8 2, .int .i32 5, .int .i32 0, .int .i32 0], .agg #[.int .u8 2, .int .i32 5, .int .i32 0, .int .i32 0]] w fun e w' => e = .returned (.int .i64 1) ∧ Fr Nobody w w') := fun w h => by have := sizeStep_any w h 2 2 (by decide) (by decide) (f3 5 0 0) (f3 5 0 0) (i32_life 5 (by decide)) (i32_life 5 (by decide)); rw [sz_c] at this; exact this
  have h4 : Hid (∀ w, Tab w → Calls Tryd.prog 13 #[.agg #[.int .u8 2, .int .i32 500, .int .i32 0, .int .i32 0], .agg #[.int .u8 2, .int .i32 5, .int .i32 0, .int .i32 0]] w fun e w' => e = .returned (.int .i64 14) ∧ Fr Nobody w w') := fun w h => by have := sizeStep_any w h 2 2 (by decide) (by decide) (f3 500 0 0) (f3 5 0 0) (i32_life 500 (by decide)) (i32_life 5 (by decide)); rw [sz_d] at this; exact this
  have hl : Hid (∀ w n, _) := fun w n => life_any w n
  clear ht
  go_enter Tryd.func5, Tryd.ntmps5
  go_wp2_with fail
  refine (hl.out _ _).mono ?_
  rintro e w1 ⟨rfl, hf1⟩
  have HF1 : Hid (Fr Nobody w w1) := hf1
  clear hf1
  go_wp2_with fail
  refine (h1.out _ (H.out.quiet HF1.out)).mono ?_
  rintro e w2 ⟨rfl, hf2⟩
  have HF2 : Hid (Fr Nobody w w2) := HF1.out.trans hf2
  clear hf2
  go_wp2_with fail
  refine (hl.out _ _).mono ?_
  rintro e w3 ⟨rfl, hf3⟩
  have HF3 : Hid (Fr Nobody w w3) := HF2.out.trans hf3
  clear hf3
  go_wp2_with fail
  refine (hl.out _ _).mono ?_
  rintro e w4 ⟨rfl, hf4⟩
  have HF4 : Hid (Fr Nobody w w4) := HF3.out.trans hf4
  clear hf4
  go_wp2_with fail
  refine (h2.out _ (H.out.quiet HF4.out)).mono ?_
  rintro e w5 ⟨rfl, hf5⟩
  have HF5 : Hid (Fr Nobody w w5) := HF4.out.trans hf5
  clear hf5
  go_wp2_with fail
  refine (hl.out _ _).mono ?_
  rintro e w6 ⟨rfl, hf6⟩
  have HF6 : Hid (Fr Nobody w w6) := HF5.out.trans hf6
  clear hf6
  go_wp2_with fail
  refine (hl.out _ _).mono ?_
  rintro e w7 ⟨rfl, hf7⟩
  have HF7 : Hid (Fr Nobody w w7) := HF6.out.trans hf7
  clear hf7
  go_wp2_with fail
  refine (h3.out _ (H.out.quiet HF7.out)).mono ?_
  rintro e w8 ⟨rfl, hf8⟩
  have HF8 : Hid (Fr Nobody w w8) := HF7.out.trans hf8
  clear hf8
  go_wp2_with fail
  refine (hl.out _ _).mono ?_
  rintro e w9 ⟨rfl, hf9⟩
  have HF9 : Hid (Fr Nobody w w9) := HF8.out.trans hf9
  clear hf9
  go_wp2_with fail
  refine (hl.out _ _).mono ?_
  rintro e w10 ⟨rfl, hf10⟩
  have HF10 : Hid (Fr Nobody w w10) := HF9.out.trans hf10
  clear hf10
  go_wp2_with fail
  refine (h4.out _ (H.out.quiet HF10.out)).mono ?_
  rintro e w11 ⟨rfl, hf11⟩
  have HF11 : Hid (Fr Nobody w w11) := HF10.out.trans hf11
  clear hf11
  go_wp2
  go_ret
  exact ⟨rfl, HF11.out⟩
end Go.Proofs.YtllhipfielgnbaaDoor
