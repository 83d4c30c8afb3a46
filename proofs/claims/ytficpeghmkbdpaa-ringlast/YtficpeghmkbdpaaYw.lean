/-
  Slices of integers that come in.
-/
import Derived.Test.YtficpeghmkbdpaaYv
namespace Go.Proofs.Ytficpeghmkbdpaa
open Go.RowKit
set_option linter.unusedVariables false

/-- WHAT A WALK IS TOLD OF A SLICE OF INTEGERS THAT CAME IN (as the guide's shell has it). -/
def IsRow (k : IntKind) (w : World) (a : Option Addr) (len cap : Nat) (zs : List Int) : Prop :=
  (a = none ∧ len = 0 ∧ cap = 0 ∧ zs = []) ∨
  ∃ x, a = some x ∧ len ≤ cap ∧ cap ≤ maxLen ∧ zs.length = cap ∧ (∀ i, i < zs.length → w.cell? (x.add i) = some (.int k (zs.getD i 0))) ∧ ∀ n ∈ zs, (Lit.int k n).wf = true
/-- The numbers P of a slice of integers of kind k: nothing is asked of its address where there are none. -/
def Ints (k : IntKind) (w : World) (ao : Option Addr) (P : List Int) : Prop :=
  P = [] ∨ ∃ g o, ao = some ⟨g, o, none⟩ ∧ ∀ j x, P[j]? = some x → w.cell? ⟨g, o + j, none⟩ = some (.int k x)
theorem Ints.quiet {k : IntKind} {w w' : World} {ao : Option Addr} {P : List Int} (h : Ints k w ao P) (hf : Fr Nobody w w') : Ints k w' ao P := by
  rcases h with h | ⟨g, o, ha, hc⟩
  · exact .inl h
  · refine .inr ⟨g, o, ha, fun j x hx => ?_⟩
    have h1 := hc j x hx
    exact (hf.cell (p := ⟨g, o + j, none⟩) (World.block_lt_of_cell? w _ h1) id).trans h1
theorem IsRow.ints {k : IntKind} {w : World} {a : Option Addr} {len cap : Nat} {zs : List Int} (h : IsRow k w a len cap zs) : (zs.take len).length = len ∧ len ≤ maxLen ∧ Ints k w a (zs.take len) ∧ ∀ n ∈ zs.take len, (Lit.int k n).wf = true := by
  rcases h with ⟨rfl, rfl, rfl, rfl⟩ | ⟨x, rfl, hl, hm, hz, hc, hw⟩
  · exact ⟨rfl, Nat.zero_le _, .inl rfl, fun n hn => by simp at hn⟩
  · refine ⟨by rw [List.length_take]; omega, by omega, ?_, fun n hn => hw n (List.mem_of_mem_take hn)⟩
    by_cases h0 : len = 0
    · subst h0; left; simp
    · right
      obtain ⟨g, o, spot⟩ := x
      have h1 := hc 0 (by omega)
      have hs : spot = none := by simpa [Addr.add] using World.cell?_spot h1
      subst hs
      refine ⟨g, o, rfl, fun j y hy => ?_⟩
      rw [List.getElem?_take] at hy
      split at hy
      · rename_i hj
        have h2 := hc j (by omega)
        rw [addr_add] at h2
        rw [h2]
        rw [List.getD_eq_getElem?_getD, hy]; rfl
      · cases hy
theorem nats_of {Z : List Int} (h : ∀ n ∈ Z, (Lit.int .u8 n).wf = true) : ∃ S : List Nat, S.length = Z.length ∧ (∀ s ∈ S, s < 256) ∧ ∀ (i s : Nat), S[i]? = some s → Z[i]? = some (s : Int) := by
  refine ⟨Z.map Int.toNat, by simp, ?_, ?_⟩
  · intro s hs
    rw [List.mem_map] at hs
    obtain ⟨n, hn, rfl⟩ := hs
    have : 0 ≤ n ∧ n ≤ 255 := by simpa [Lit.wf, IntKind.min, IntKind.max, IntKind.signed, IntKind.bits] using h n hn
    omega
  · intro i s hs
    rw [List.getElem?_map] at hs
    cases hz : Z[i]? with
    | none => rw [hz] at hs; cases hs
    | some n =>
      rw [hz] at hs
      have : 0 ≤ n ∧ n ≤ 255 := by simpa [Lit.wf, IntKind.min, IntKind.max, IntKind.signed, IntKind.bits] using h n (List.mem_of_getElem? hz)
      have e : n.toNat = s := by simpa using hs
      rw [← e]; congr 1; omega
end Go.Proofs.Ytficpeghmkbdpaa
