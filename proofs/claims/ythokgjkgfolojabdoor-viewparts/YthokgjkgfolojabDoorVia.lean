/-
  Regions: what is one, what it sees; in the program and in the document.
-/
import Derived.Test.YthokgjkgfolojabDoorCea
import Derived.Lib.MinMax
import Derived.Deep.RegionHeld3
namespace Go.Proofs.YthokgjkgfolojabDoor
open Go.RowKit
set_option linter.unusedVariables false
set_option maxRecDepth 100000

def rgv (on : Bool) (x y r : Int) : Value := .agg #[.bool on, .int .i64 x, .int .i64 y, .int .i64 r]
/-- between two ends -/
def bw (n lo hi : Int) : Bool := decide (lo ≤ n) && decide (n ≤ hi)
/-- is it a region? -/
def inR (x y r : Int) : Bool := bw x (-32) 31 && bw y (-32) 31 && bw r 0 8
/-- what Check tells -/
def erR (x y r : Int) : Int := if inR x y r then 0 else 1
def hasR (on : Bool) (x y r : Int) : Bool := on && inR x y r
/-- is that cell one of its cells? -/
def hasC (on : Bool) (x y r cx cy : Int) : Bool := hasR on x y r && bw cx (x - r) (x + r) && bw cy (y - r) (y + r)
/-- a whole number of 64 bits -/
def I64 (x : Int) : Prop := -9223372036854775808 ≤ x ∧ x ≤ 9223372036854775807
theorem bw_iff {n lo hi : Int} : bw n lo hi = true ↔ lo ≤ n ∧ n ≤ hi := by simp [bw]
theorem inR_iff {x y r : Int} : inR x y r = true ↔ (-32 ≤ x ∧ x ≤ 31) ∧ (-32 ≤ y ∧ y ≤ 31) ∧ 0 ≤ r ∧ r ≤ 8 := by simp [inR, bw, and_assoc]
set_option maxHeartbeats 1000000 in
theorem within_ok (w : World) (n lo hi : Int) : Calls Tryd.prog 24 #[.int .i64 n, .int .i64 lo, .int .i64 hi] w fun e w' => e = .returned (.bool (bw n lo hi)) ∧ w' = w := by
  go_enter Tryd.func24, Tryd.ntmps24
  by_cases h : lo ≤ n
  · go_wp2
    go_ret
    exact ⟨by simp [bw, h], rfl⟩
  · go_wp2
    go_ret
    exact ⟨by simp [bw]; omega, rfl⟩
set_option maxHeartbeats 1000000 in
theorem keep_ok (w : World) (n lo hi : Int) (hlh : lo ≤ hi) : Calls Tryd.prog 25 #[.int .i64 n, .int .i64 lo, .int .i64 hi] w fun e w' => e = .returned (.int .i64 (min (max n lo) hi)) ∧ w' = w := by
  go_enter Tryd.func25, Tryd.ntmps25
  go_wp2
  go_ret
  exact ⟨rfl, rfl⟩
set_option maxHeartbeats 4000000 in
theorem check_ok (w : World) (on : Bool) (x y r : Int) : Calls Tryd.prog 13 #[rgv on x y r] w fun e w' => e = .returned (.int .i64 (erR x y r)) ∧ Fr Nobody w w' := by
  have HF : Hid (Fr Nobody w (w.alloc (.cells #[.bool on, .int .i64 x, .int .i64 y, .int .i64 r] 24))) := (Fr.refl _ _).alloc _
  unfold rgv
  go_enter Tryd.func13, Tryd.ntmps13
  obtain ⟨b1, hb1⟩ : ∃ b, b = bw x (-32) 31 := ⟨_, rfl⟩
  obtain ⟨b2, hb2⟩ : ∃ b, b = bw y (-32) 31 := ⟨_, rfl⟩
  obtain ⟨b3, hb3⟩ : ∃ b, b = bw r 0 8 := ⟨_, rfl⟩
  have hin : inR x y r = (b1 && b2 && b3) := by rw [hb1, hb2, hb3]; rfl
  have HIN : Hid (inR x y r = (b1 && b2 && b3)) := hin
  have C1 : Hid (∀ W, Calls Tryd.prog 24 #[.int .i64 x, .int .i64 (-32), .int .i64 31] W fun e w' => e = .returned (.bool b1) ∧ w' = W) := fun W => by rw [hb1]; exact within_ok W _ _ _
  have C2 : Hid (∀ W, Calls Tryd.prog 24 #[.int .i64 y, .int .i64 (-32), .int .i64 31] W fun e w' => e = .returned (.bool b2) ∧ w' = W) := fun W => by rw [hb2]; exact within_ok W _ _ _
  have C3 : Hid (∀ W, Calls Tryd.prog 24 #[.int .i64 r, .int .i64 0, .int .i64 8] W fun e w' => e = .returned (.bool b3) ∧ w' = W) := fun W => by rw [hb3]; exact within_ok W _ _ _
  clear hin hb1 hb2 hb3
  go_wp2_with fail
  refine (C1.out _).mono ?_
  rintro e w1 ⟨rfl, rfl⟩
  cases b1 with
  | false =>
    go_wp2
    go_ret
    exact ⟨by unfold erR; rw [HIN.out]; rfl, HF.out⟩
  | true =>
    go_wp2_with fail
    refine (C2.out _).mono ?_
    rintro e w1 ⟨rfl, rfl⟩
    cases b2 with
    | false =>
      go_wp2
      go_ret
      exact ⟨by unfold erR; rw [HIN.out]; rfl, HF.out⟩
    | true =>
      go_wp2_with fail
      refine (C3.out _).mono ?_
      rintro e w1 ⟨rfl, rfl⟩
      cases b3 with
      | false =>
        go_wp2
        go_ret
        exact ⟨by unfold erR; rw [HIN.out]; rfl, HF.out⟩
      | true =>
        go_wp2
        go_ret
        exact ⟨by unfold erR; rw [HIN.out]; rfl, HF.out⟩
set_option maxHeartbeats 4000000 in
theorem hasCells_ok (w : World) (on : Bool) (x y r : Int) : Calls Tryd.prog 21 #[rgv on x y r] w fun e w' => e = .returned (.bool (hasR on x y r)) ∧ Fr Nobody w w' := by
  obtain ⟨W, hW⟩ : ∃ W, W = w.alloc (.cells #[.bool on, .int .i64 x, .int .i64 y, .int .i64 r] 24) := ⟨_, rfl⟩
  have HF : Hid (Fr Nobody w W) := by show Fr _ _ _; rw [hW]; exact (Fr.refl _ _).alloc _
  have C1 : Hid (Calls _ _ _ _ _) := check_ok W on x y r
  unfold rgv at C1 ⊢
  have HW : Hid (W = w.alloc (.cells #[.bool on, .int .i64 x, .int .i64 y, .int .i64 r] 24)) := hW
  clear hW
  obtain ⟨bi, hbi⟩ : ∃ b, b = inR x y r := ⟨_, rfl⟩
  obtain ⟨er, her⟩ : ∃ er, er = erR x y r := ⟨_, rfl⟩
  rw [← her] at C1
  have HBI : Hid (bi = inR x y r) := hbi
  have HER : Hid (er = if bi then 0 else 1) := by show _ = _; rw [her, hbi]; rfl
  clear hbi her
  go_enter Tryd.func21, Tryd.ntmps21
  cases on with
  | false =>
    go_wp2
    go_ret
    refine ⟨rfl, ?_⟩
    have := HF.out
    rw [HW.out] at this
    exact this
  | true =>
    rw [HW.out] at C1
    go_wp2_with fail
    refine C1.out.mono ?_
    rintro e w1 ⟨rfl, hf⟩
    have HF1 : Hid (Fr Nobody w w1) := by
      have := HF.out
      rw [HW.out] at this
      exact this.trans hf
    clear hf C1
    cases bi with
    | false =>
      have he := HER.out
      simp at he
      subst he
      go_wp2
      go_ret
      exact ⟨by simp [hasR, ← HBI.out], HF1.out⟩
    | true =>
      have he := HER.out
      simp at he
      subst he
      go_wp2
      go_ret
      exact ⟨by simp [hasR, ← HBI.out], HF1.out⟩
end Go.Proofs.YthokgjkgfolojabDoor
