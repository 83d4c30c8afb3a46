/-
  The cell of a place: in the program and in the document.
-/
import Derived.Test.YthokgjkgfolojabDoorXm
namespace Go.Proofs.YthokgjkgfolojabDoor
open Go.RowKit
set_option linter.unusedVariables false
set_option maxRecDepth 100000

/-- the cell of a place -/
def cel (x : Int) : Int := x / 16384
/-- a place may be any number of 32 bits -/
def I32 (x : Int) : Prop := -2147483648 ≤ x ∧ x ≤ 2147483647
theorem cel_lo {x : Int} (h : I32 x) : -131072 ≤ cel x ∧ cel x ≤ 131071 := by unfold cel; unfold I32 at h; omega
theorem tdiv_cell (x : Int) : x.tdiv 16384 = if x < 0 then -((-x) / 16384) else x / 16384 := by
  split
  · have : x = -(-x) := by omega
    rw [this, Int.neg_tdiv, Int.tdiv_eq_ediv_of_nonneg (by omega)]
    simp
  · exact Int.tdiv_eq_ediv_of_nonneg (by omega)
theorem tmod_cell (x : Int) : x.tmod 16384 = x - 16384 * x.tdiv 16384 := by
  have := Int.tmod_def x 16384
  omega
set_option maxHeartbeats 1000000 in
theorem of_ok (w : World) (x : Int) (h : I32 x) : Calls Tryd.prog 19 #[.int .i32 x] w fun e w' => e = .returned (.int .i64 (cel x)) ∧ w' = w := by
  obtain ⟨q, hq⟩ : ∃ q, x.tdiv 16384 = q := ⟨_, rfl⟩
  obtain ⟨r, hr⟩ : ∃ r, x.tmod 16384 = r := ⟨_, rfl⟩
  have h1 := tdiv_cell x
  have h2 := tmod_cell x
  rw [hq] at h1 h2
  rw [hr] at h2
  have b1 : -131072 ≤ q ∧ q ≤ 131071 := by unfold I32 at h; split at h1 <;> omega
  have b2 : -16384 < r ∧ r < 16384 := by unfold I32 at h; split at h1 <;> omega
  obtain ⟨b1a, b1b⟩ := b1
  obtain ⟨b2a, b2b⟩ := b2
  have hc : cel x = if r < 0 then q - 1 else q := by unfold cel; split at h1 <;> split <;> omega
  have HC : Hid (cel x = if r < 0 then q - 1 else q) := hc
  obtain ⟨hx1, hx2⟩ := h
  clear h1 h2 hc
  by_cases hr0 : r < 0
  · go_enter Tryd.func19, Tryd.ntmps19
    go_wp2
    go_ret
    refine ⟨?_, rfl⟩
    rw [HC.out, if_pos hr0]
    rfl
  · go_enter Tryd.func19, Tryd.ntmps19
    go_wp2
    go_ret
    refine ⟨?_, rfl⟩
    rw [HC.out, if_neg (by omega)]
    rfl
set_option maxHeartbeats 1000000 in
theorem rof_ok (w : World) (x : Int) (h : I32 x) : Calls Tryd.prog 32 #[.int .i32 x] w fun e w' => e = .returned (.int .i64 (cel x)) ∧ w' = w := by
  obtain ⟨q, hq⟩ : ∃ q, x.tdiv 16384 = q := ⟨_, rfl⟩
  have h1 := tdiv_cell x
  rw [hq] at h1
  have b1 : -131072 ≤ q ∧ q ≤ 131071 := by unfold I32 at h; split at h1 <;> omega
  obtain ⟨b1a, b1b⟩ := b1
  have hc : cel x = if x < q * 16384 then q - 1 else q := by unfold cel; split at h1 <;> split <;> omega
  have HC : Hid (cel x = if x < q * 16384 then q - 1 else q) := hc
  obtain ⟨hx1, hx2⟩ := h
  clear h1 hc
  by_cases hr0 : x < q * 16384
  · go_enter Tryd.func32, Tryd.ntmps32
    go_wp2
    go_ret
    refine ⟨?_, rfl⟩
    rw [HC.out, if_pos hr0]
    rfl
  · go_enter Tryd.func32, Tryd.ntmps32
    go_wp2
    go_ret
    refine ⟨?_, rfl⟩
    rw [HC.out, if_neg (by omega)]
    rfl
end Go.Proofs.YthokgjkgfolojabDoor
