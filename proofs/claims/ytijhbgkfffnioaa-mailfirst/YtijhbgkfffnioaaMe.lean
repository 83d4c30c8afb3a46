/-
  Slices of bools and of slices of numbers that come in.
-/
import Derived.Test.YtijhbgkfffnioaaMd
import Derived.Test.YtijhbgkfffnioaaZo
namespace Go.Proofs.Ytijhbgkfffnioaa
open Go.RowKit Go.ChangeShapes Go.WideShapes Go.Conc
set_option linter.unusedVariables false

def BoolIs (cs : List Value) (q : Bool) : Prop := cs = [.bool q]
theorem cellsBool : Try.prog.cellsOf 4 = 1 := by kernel_rfl
def IsBools (w : World) (ao : Option Addr) (len cap : Nat) (Q : List Bool) : Prop := Q.length = len ∧ len ≤ cap ∧ cap ≤ maxLen ∧ RowsAt BoolIs 1 w ao Q
set_option maxRecDepth 100000 in
theorem open_bools {H : Type} {enc : TypeId × Value → H} {W : World} {base : Nat} {ao : Option Addr} {len cap : Nat} {d : DataW H} {p : List MemPlace}
    (hv : Value.okWide Try.prog W .any base 63 (.slice ao len cap)) (h : DataW.Trod enc Try.prog W 0 (fun _ => true) true 63 (.slice ao len cap) d p) : ∃ Q, IsBools W ao len cap Q :=
  open_rows 1 Try.underlying63 cellsBool (by decide) BoolIs (fun fuel cs x hx => by obtain ⟨b, hb, _⟩ := DataW.trod_bool Try.underlying4 hx; exact ⟨b, hb⟩) h
theorem bool_at {w : World} {ao : Option Addr} {Q : List Bool} (h : RowsAt BoolIs 1 w ao Q) (k : Nat) (q : Bool) (hk : Q[k]? = some q) : ∃ g o, ao = some ⟨g, o, none⟩ ∧ w.cell? ⟨g, o + k, none⟩ = some (.bool q) := by
  rcases h with h | ⟨g, o, ha, hc⟩
  · subst h; simp at hk
  · obtain ⟨cs, h1, h2, h3⟩ := hc k q hk
    have := h3 0 (by decide)
    rw [h1] at this
    exact ⟨g, o, ha, by simpa using this⟩
/-- WHAT A WALK IS TOLD OF A SLICE OF INTEGERS THAT CAME IN (as the guide's shell has it). -/
def IsRow (k : IntKind) (w : World) (a : Option Addr) (len cap : Nat) (zs : List Int) : Prop :=
  (a = none ∧ len = 0 ∧ cap = 0 ∧ zs = []) ∨
  ∃ x, a = some x ∧ len ≤ cap ∧ cap ≤ maxLen ∧ zs.length = cap ∧ (∀ i, i < zs.length → w.cell? (x.add i) = some (.int k (zs.getD i 0))) ∧ ∀ n ∈ zs, (Lit.int k n).wf = true
/-- The numbers P of a slice of integers of kind k: nothing is asked of its address where there are none. -/
def Ints (k : IntKind) (w : World) (ao : Option Addr) (P : List Int) : Prop :=
  P = [] ∨ ∃ g o, ao = some ⟨g, o, none⟩ ∧ ∀ j x, P[j]? = some x → w.cell? ⟨g, o + j, none⟩ = some (.int k x)
theorem Ints.quiet {k : IntKind} {w w' : World} {ao : Option Addr} {P : List Int} (h : Ints k w ao P) (hf : Fr Nobody w w') : Ints k w' ao P := by
  rcases h with h | ⟨g, o, ha, hc⟩
  · exact .inl h
  · refine .inr ⟨g, o, ha, fun j x hx => ?_⟩
    have h1 := hc j x hx
    exact (hf.cell (p := ⟨g, o + j, none⟩) (World.block_lt_of_cell? w _ h1) id).trans h1
theorem IsRow.ints {k : IntKind} {w : World} {a : Option Addr} {len cap : Nat} {zs : List Int} (h : IsRow k w a len cap zs) : (zs.take len).length = len ∧ len ≤ maxLen ∧ Ints k w a (zs.take len) ∧ ∀ n ∈ zs.take len, (Lit.int k n).wf = true := by
  rcases h with ⟨rfl, rfl, rfl, rfl⟩ | ⟨x, rfl, hl, hm, hz, hc, hw⟩
  · exact ⟨rfl, Nat.zero_le _, .inl rfl, fun n hn => by simp at hn⟩
  · refine ⟨by rw [List.length_take]; omega, by omega, ?_, fun n hn => hw n (List.mem_of_mem_take hn)⟩
    by_cases h0 : len = 0
    · subst h0; left; simp
    · right
      obtain ⟨g, o, spot⟩ := x
      have h1 := hc 0 (by omega)
      have hs : spot = none := by simpa [Addr.add] using World.cell?_spot h1
      subst hs
      refine ⟨g, o, rfl, fun j y hy => ?_⟩
      rw [List.getElem?_take] at hy
      split at hy
      · rename_i hj
        have h2 := hc j (by omega)
        rw [addr_add] at h2
        rw [h2]
        rw [List.getD_eq_getElem?_getD, hy]; rfl
      · cases hy
theorem int_at {k : IntKind} {w : World} {ao : Option Addr} {P : List Int} (h : Ints k w ao P) (j : Nat) (x : Int) (hx : P[j]? = some x) : ∃ g o, ao = some ⟨g, o, none⟩ ∧ w.cell? ⟨g, o + j, none⟩ = some (.int k x) := by
  rcases h with h | ⟨g, o, ha, hc⟩
  · subst h; simp at hx
  · exact ⟨g, o, ha, hc j x hx⟩
theorem u8_rng {n : Int} (h : (Lit.int .u8 n).wf = true) : ∃ k : Nat, n = k ∧ k < 256 := by
  have : 0 ≤ n ∧ n ≤ 255 := by simpa [Lit.wf, IntKind.min, IntKind.max, IntKind.signed, IntKind.bits] using h
  exact ⟨n.toNat, by omega, by omega⟩
end Go.Proofs.Ytijhbgkfffnioaa
