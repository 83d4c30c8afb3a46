/-
  The document's side of layer 1: Bits and Get on lists of bits.
-/
import Derived.Test.YtllhipfielgnbaaDoorRb
namespace Go.Proofs.YtllhipfielgnbaaDoor
open Go.RowKit
set_option linter.unusedVariables false
set_option maxRecDepth 100000

/-- The bytes P from an address on: nothing is asked of it where there are none. -/
def BytesAt (w : World) (ao : Option Addr) (P : List Nat) : Prop :=
  P = [] ∨ ∃ g o, ao = some ⟨g, o, none⟩ ∧ ∀ (j x : Nat), P[j]? = some x → w.cell? ⟨g, o + j, none⟩ = some (.int .u8 (x : Int))
theorem BytesAt.quiet {w w' : World} {ao : Option Addr} {P : List Nat} (h : BytesAt w ao P) (hf : Fr Nobody w w') : BytesAt w' ao P := by
  rcases h with h | ⟨g, o, ha, hc⟩
  · exact .inl h
  · refine .inr ⟨g, o, ha, fun j x hx => ?_⟩
    have h1 := hc j x hx
    exact (hf.cell (p := ⟨g, o + j, none⟩) (World.block_lt_of_cell? w _ h1) id).trans h1
theorem BytesAt.src {w : World} {ao : Option Addr} {P : List Nat} (h : BytesAt w ao P) (cap : Nat) (hn : ao = none → cap = 0) : Src w (.slice ao P.length cap) P.length (vrow P) := by
  cases ao with
  | none =>
    left
    rcases h with h | ⟨g, o, ha, _⟩
    · subst h; rw [hn rfl]; exact ⟨rfl, rfl, rfl⟩
    · cases ha
  | some a =>
    right
    refine ⟨a, cap, rfl, length_vrow P, fun j u hu => ?_⟩
    rcases h with h | ⟨g, o, ha, hc⟩
    · subst h; simp [vrow] at hu
    · cases ha
      rw [getElem?_vrow] at hu
      cases hx : P[j]? with
      | none => rw [hx] at hu; cases hu
      | some x =>
        rw [hx] at hu
        simp only [Option.map_some, Option.some.injEq] at hu
        subst hu
        rw [addr_add]
        exact hc j x hx

theorem bitsB_snoc (P : List Nat) (k x : Nat) (h : P[k]? = some x) : bitsB (P.take (k + 1)) = bitsB (P.take k) ++ bitsN 8 x := by
  rw [List.take_add_one, h]; simp [bitsB]
theorem length_bitsB_take (P : List Nat) (k : Nat) (h : k ≤ P.length) : (bitsB (P.take k)).length = 8 * k := by rw [length_bitsB, List.length_take]; omega

theorem Bs.shape {w : World} {v : Value} {L : List Bool} (h : Bs w v L) : ∃ ao cap, v = .slice ao L.length cap := by
  rcases h with ⟨rfl, rfl⟩ | ⟨g, o, cap, cur, rfl, _⟩
  · exact ⟨none, 0, rfl⟩
  · exact ⟨_, _, rfl⟩
theorem num_step (L : List Bool) (i : Nat) (b : Bool) (h : L[i]? = some b) : num (L.drop i) = b.toNat + 2 * num (L.drop (i + 1)) := by
  have hi : i < L.length := by
    rcases Nat.lt_or_ge i L.length with hh | hh
    · exact hh
    · rw [List.getElem?_eq_none hh] at h; cases h
  rw [List.drop_eq_getElem_cons hi, num]
  rw [List.getElem?_eq_getElem hi] at h
  cases h; rfl

theorem Bs.drop {w : World} {ao : Option Addr} {cap : Nat} {L : List Bool} (h : Bs w (.slice ao L.length cap) L) (n : Nat) (hn : n ≤ L.length) : Bs w (.slice (if cap = n then ao else ao.map (fun x => x.add n)) (L.length - n) (cap - n)) (L.drop n) := by
  rcases h with ⟨hv, rfl⟩ | ⟨g, o, cap', cur, hv, hc, hg, hcell⟩
  · simp only [Value.slice.injEq] at hv
    obtain ⟨rfl, _, rfl⟩ := hv
    left
    simp at hn
    subst hn
    simp
  · simp only [Value.slice.injEq] at hv
    obtain ⟨rfl, _, rfl⟩ := hv
    right
    by_cases e : cap = n
    · refine ⟨g, o, cap - n, cur, by rw [if_pos e, List.length_drop], by rw [List.length_drop]; omega, hg, fun j u hu => ?_⟩
      rw [List.drop_of_length_le (by omega)] at hu
      simp [brow] at hu
    · refine ⟨g, o + n, cap - n, cur, by rw [if_neg e, List.length_drop]; simp [addr_add], by rw [List.length_drop]; omega, hg, fun j u hu => ?_⟩
      rw [Nat.add_assoc]
      refine hcell (n + j) u ?_
      rw [brow, List.getElem?_map] at hu ⊢
      rw [List.getElem?_drop] at hu
      exact hu

end Go.Proofs.YtllhipfielgnbaaDoor
