/-
  Changed of package comp; what is known of a step's length.
-/
import Derived.Test.YtllhipfielgnbaaDoorKf
namespace Go.Proofs.YtllhipfielgnbaaDoor
open Go.RowKit
set_option linter.unusedVariables false
set_option maxRecDepth 100000

def dif (F G : Nat → Int) (j : Nat) : Nat := if F j = G j then 0 else 1
def chg (F G : Nat → Int) : Nat → Nat
  | 0 => 0
  | n + 1 => chg F G n + dif F G n * 2 ^ n
theorem dif_le (F G : Nat → Int) (j : Nat) : dif F G j ≤ 1 := by unfold dif; split <;> omega
theorem chg_lt (F G : Nat → Int) (n : Nat) : chg F G n < 2 ^ n := by
  induction n with
  | zero => simp [chg]
  | succ n ih =>
    have h := dif_le F G n
    have h2 : dif F G n * 2 ^ n ≤ 1 * 2 ^ n := Nat.mul_le_mul_right _ h
    rw [chg, Nat.pow_succ]; omega
theorem chg_bit (F G : Nat → Int) (j : Nat) (hj : j < 3) : chg F G 3 / 2 ^ j % 2 = dif F G j := by
  have h0 := dif_le F G 0
  have h1 := dif_le F G 1
  have h2 := dif_le F G 2
  simp only [chg]
  have : j = 0 ∨ j = 1 ∨ j = 2 := by omega
  rcases this with rfl | rfl | rfl <;> simp <;> omega
theorem chg_zero (F G : Nat → Int) (h : chg F G 3 = 0) (j : Nat) (hj : j < 3) : F j = G j := by
  have := chg_bit F G j hj
  rw [h] at this
  unfold dif at this
  apply Classical.byContradiction
  intro hn
  rw [if_neg hn] at this
  simp at this

set_option maxHeartbeats 2000000 in
theorem changed_any (w : World) (k k' : Nat) (F G : Nat → Int) :
    Calls Tryd.prog 18 #[.agg (cmp k F), .agg (cmp k' G)] w fun e w' => e = .returned (.int .u8 ((chg F G 3 : Nat) : Int)) ∧ Fr Nobody w w' := by
  obtain ⟨b1, b2, hf⟩ := boxes w k k' F G
  have HF : Hid (Fr Nobody w _) := hf
  have HB1 : Hid (Box _ w.heap.size k F) := b1
  have HB2 : Hid (Box _ (w.heap.size + 1) k' G) := b2
  clear hf b1 b2
  unfold cmp at *
  go_enter Tryd.func18, Tryd.ntmps18
  go_wp2
  go_loopw [5, 7] (fun a b wr => ∃ j : Nat, j ≤ 3 ∧ b = .int .i64 j ∧ a = .int .u8 (chg F G j : Nat) ∧ Box wr w.heap.size k F ∧ Box wr (w.heap.size + 1) k' G ∧ Fr Nobody w wr) (fun _ b _ => 3 - (intOf b).toNat)
  case atStart => exact ⟨0, by omega, rfl, rfl, HB1.out, HB2.out, HF.out⟩
  case round =>
    obtain ⟨j, hj, rfl, rfl, hb1, hb2, hf⟩ := hrel
    have HG : Hid (Fr Nobody w wr) := hf
    have B1 : Hid (Box wr w.heap.size k F) := hb1
    have B2 : Hid (Box wr (w.heap.size + 1) k' G) := hb2
    clear hf hb1 hb2
    by_cases hlt : j < 3
    · have x1 := B1.out.at j hlt
      have x2 := B2.out.at j hlt
      have HS : Hid (chg F G (j + 1) = chg F G j + dif F G j * 2 ^ j) := rfl
      have hm := chg_lt F G j
      by_cases he : F j = G j
      · have hd : dif F G j = 0 := by unfold dif; rw [if_pos he]
        rw [hd] at HS
        rw [he] at x1
        clear hd he
        generalize G j = g at *
        generalize chg F G j = m at *
        go_wp2
        go_quiet (fail)
        have HG2 : Hid (Fr Nobody w (wr.drewN nq)) := HG.out.drewN nq
        have B12 : Hid (Box (wr.drewN nq) w.heap.size k F) := B1.out.quiet ((Fr.refl _ _).drewN nq)
        have B22 : Hid (Box (wr.drewN nq) (w.heap.size + 1) k' G) := B2.out.quiet ((Fr.refl _ _).drewN nq)
        go_wp2
        go_roundw
        case rel => exact ⟨j + 1, by omega, by go_num, by rw [HS.out]; simp, B12.out, B22.out, HG2.out⟩
        case measure => simp [intOf]; omega
      · have hd : dif F G j = 1 := by unfold dif; rw [if_neg he]
        rw [hd] at HS
        have hne : (F j != G j) = true := by simpa using he
        clear hd he
        have hor := or_val (chg F G j) j true hm (by omega)
        have e1 : ((true.toNat : Nat) : Int) * 2 ^ j % 256 = 2 ^ j := by
          have : j = 0 ∨ j = 1 ∨ j = 2 := by omega
          rcases this with rfl | rfl | rfl <;> decide
        rw [e1] at hor
        clear e1
        generalize F j = f at *
        generalize G j = g at *
        generalize chg F G j = m at *
        have hc3 : j = 0 ∨ j = 1 ∨ j = 2 := by omega
        rcases hc3 with rfl | rfl | rfl
        all_goals
          simp at hor x1 x2
          clear hm
          go_wp2
          go_quiet (fail)
          rename_i nq
          have HG2 : Hid (Fr Nobody w (wr.drewN nq)) := HG.out.drewN nq
          have B12 : Hid (Box (wr.drewN nq) w.heap.size k F) := B1.out.quiet ((Fr.refl _ _).drewN nq)
          have B22 : Hid (Box (wr.drewN nq) (w.heap.size + 1) k' G) := B2.out.quiet ((Fr.refl _ _).drewN nq)
          go_wp2
          go_roundw
          case rel => exact ⟨_, by decide, rfl, by rw [HS.out]; simp, B12.out, B22.out, HG2.out⟩
          case measure => simp [intOf]
    · have e : j = 3 := by omega
      subst e
      go_wp2
      go_ret
      exact ⟨rfl, HG.out⟩

theorem zig0 (x : Int) : zig (x - x) = 0 := by rw [Int.sub_self]; decide
theorem ssum_same (k n : Nat) (F G : Nat → Int) (h : ∀ j, j < 3 → F j = G j) (hn : n ≤ cnt k) : ssum k F G n = n := by
  have hc := cnt_le k
  induction n with
  | zero => rfl
  | succ n ih =>
    have e : fsz k F G n = 1 := by unfold fsz mz; rw [h n (by omega), zig0, if_pos rfl]
    rw [ssum, ih (by omega), e]
theorem ssum_ge (k n : Nat) (F G : Nat → Int) (hn : n ≤ cnt k) : n ≤ ssum k F G n := by
  induction n with
  | zero => exact Nat.zero_le _
  | succ n ih =>
    have := ih (by omega)
    have := fsz_le k F G n (by omega)
    simp only [ssum]; omega
theorem ssum_bits (k n : Nat) (F G : Nat → Int) (hn : n ≤ cnt k) : ssum k F G n ≤ bsum k n + 3 * n := by
  induction n with
  | zero => simp [ssum]
  | succ n ih =>
    have := ih (by omega)
    have h1 := wd_le k n (by omega)
    have h2 : fsz k F G n ≤ wd k n + 3 := by unfold fsz; split <;> (try split) <;> omega
    simp only [ssum, bsum]; omega
end Go.Proofs.YtllhipfielgnbaaDoor
