/-
  Slices of numbers that can be read; Same of two lists of IDs.
-/
import Derived.Test.YtgflloebebggnaaDoorYa
import Derived.Test.YtgflloebebggnaaDoorYx
namespace Go.Proofs.YtgflloebebggnaaDoor
open Go.RowKit
set_option linter.unusedVariables false

/-- a slice that can be read: these numbers -/
def Nums (k : IntKind) (w : World) (v : Value) (X : List Nat) : Prop := ∃ ao cap, v = .slice ao X.length cap ∧ (X = [] ∨ ∃ g o, ao = some ⟨g, o, none⟩ ∧ ∀ (j x : Nat), X[j]? = some x → w.cell? ⟨g, o + j, none⟩ = some (.int k (x : Int)))
theorem Own.nums {w0 w : World} {l : List Thing} {e : TypeId} {k : IntKind} {v : Value} {X : List Nat} (h : Own w0 w (Row e 1 v X.length (irow k X) :: l)) : Nums k w v X := by
  have r := h.row
  obtain ⟨ao, cap, rfl⟩ := row_any r
  refine ⟨ao, cap, rfl, ?_⟩
  by_cases h0 : X.length = 0
  · exact .inl (List.eq_nil_of_length_eq_zero h0)
  · right
    obtain ⟨g, c, he, _⟩ := row_shape r (by omega)
    cases he
    refine ⟨g, 0, rfl, fun j x hx => ?_⟩
    have hj := (List.getElem?_eq_some_iff.1 hx).1
    rw [Nat.zero_add, r.cellAt _ (by omega), getElem?_irow, hx]; rfl
theorem Nums.quiet {k : IntKind} {w w' : World} {v : Value} {X : List Nat} (h : Nums k w v X) (hf : Fr Nobody w w') : Nums k w' v X := by
  obtain ⟨ao, cap, rfl, h⟩ := h
  refine ⟨ao, cap, rfl, ?_⟩
  rcases h with h | ⟨g, o, ha, hc⟩
  · exact .inl h
  · refine .inr ⟨g, o, ha, fun j x hx => ?_⟩
    have h1 := hc j x hx
    exact (hf.cell (p := ⟨g, o + j, none⟩) (World.block_lt_of_cell? w _ h1) id).trans h1

set_option maxHeartbeats 1000000 in
set_option maxRecDepth 100000 in
theorem same_ok (w : World) (v1 v2 : Value) (X : List Nat) (h1 : Nums .u32 w v1 X) (h2 : Nums .u32 w v2 X) (hX : X.length ≤ 100000000) :
    Calls Tryd.prog 25 #[v1, v2] w fun e w' => e = .returned (.bool true) ∧ Fr Nobody w w' := by
  obtain ⟨a1, c1, rfl, h1⟩ := h1
  obtain ⟨a2, c2, rfl, h2⟩ := h2
  obtain ⟨n, hn⟩ : ∃ n, n = X.length := ⟨_, rfl⟩
  rw [← hn] at hX ⊢
  have HN : Hid (n = X.length) := hn
  have H1 : Hid (X = [] ∨ ∃ g o, a1 = some ⟨g, o, none⟩ ∧ ∀ (j x : Nat), X[j]? = some x → w.cell? ⟨g, o + j, none⟩ = some (.int .u32 (x : Int))) := h1
  have H2 : Hid (X = [] ∨ ∃ g o, a2 = some ⟨g, o, none⟩ ∧ ∀ (j x : Nat), X[j]? = some x → w.cell? ⟨g, o + j, none⟩ = some (.int .u32 (x : Int))) := h2
  clear h1 h2 hn
  have hne : ((n : Int) != (n : Int)) = false := by simp
  go_enter Tryd.func25, Tryd.ntmps25
  go_wp2
  clear hne
  go_loopw [13] (fun cc wr => ∃ k : Nat, k ≤ n ∧ cc = .int .i64 k ∧ Fr Nobody w wr) (fun cc _ => n - (intOf cc).toNat)
  case atStart => exact ⟨0, Nat.zero_le _, rfl, Fr.refl _ _⟩
  case round =>
    obtain ⟨k, hk, rfl, hf⟩ := hrel
    have HF : Hid (Fr Nobody w wr) := hf
    clear hf
    by_cases hlt : k < n
    · obtain ⟨x, hx⟩ : ∃ x, X[k]? = some x := ⟨_, List.getElem?_eq_getElem (by rw [← HN.out]; exact hlt)⟩
      obtain ⟨g1, o1, rfl, d1⟩ : ∃ g o, a1 = some ⟨g, o, none⟩ ∧ wr.cell? ⟨g, o + k, none⟩ = some (.int .u32 (x : Int)) := by
        rcases H1.out with h | ⟨g, o, ha, hc⟩
        · rw [h] at hx; simp at hx
        · have h1 := hc k x hx
          exact ⟨g, o, ha, (HF.out.cell (p := ⟨g, o + k, none⟩) (World.block_lt_of_cell? w _ h1) id).trans h1⟩
      obtain ⟨g2, o2, rfl, d2⟩ : ∃ g o, a2 = some ⟨g, o, none⟩ ∧ wr.cell? ⟨g, o + k, none⟩ = some (.int .u32 (x : Int)) := by
        rcases H2.out with h | ⟨g, o, ha, hc⟩
        · rw [h] at hx; simp at hx
        · have h1 := hc k x hx
          exact ⟨g, o, ha, (HF.out.cell (p := ⟨g, o + k, none⟩) (World.block_lt_of_cell? w _ h1) id).trans h1⟩
      clear hx
      have hxx : ((x : Int) != (x : Int)) = false := by simp
      go_wp2
      go_quiet (fail)
      go_wp2
      go_roundw
      case rel => exact ⟨k + 1, by omega, by go_num, HF.out.drewN _⟩
      case measure => simp [intOf]; omega
    · go_wp2
      go_ret
      exact ⟨rfl, HF.out⟩

end Go.Proofs.YtgflloebebggnaaDoor
