/-
  What NumsGets and NumsIns share: the bytes that came in, a reader beside a list of bits.
-/
import Derived.Test.YtllhipfielgnbaaDoorVd
namespace Go.Proofs.YtllhipfielgnbaaDoor
open Go.RowKit
set_option linter.unusedVariables false
set_option maxRecDepth 100000

theorem IsRow.more {k : IntKind} {w : World} {a : Option Addr} {len cap : Nat} {zs : List Int} (h : IsRow k w a len cap zs) : len ≤ cap ∧ (a = none → cap = 0) := by
  rcases h with ⟨rfl, rfl, rfl, rfl⟩ | ⟨x, rfl, hl, _⟩
  · exact ⟨Nat.le_refl _, fun _ => rfl⟩
  · exact ⟨hl, fun h => by cases h⟩
/-- the first m numbers of a slice of bytes, as bytes -/
theorem bytes_of (w : World) (ao : Option Addr) (Z : List Int) (m : Nat) (h : Ints .u8 w ao Z) (hb : ∀ x ∈ Z, 0 ≤ x ∧ x ≤ 255) (hm : m ≤ Z.length) : ∃ P : List Nat, P.length = m ∧ BytesAt w ao P ∧ ∀ x ∈ P, x < 256 := by
  refine ⟨(Z.take m).map Int.toNat, by rw [List.length_map, List.length_take]; omega, ?_, ?_⟩
  · rcases h with rfl | ⟨g, o, ha, hc⟩
    · left; simp
    · right
      refine ⟨g, o, ha, fun j x hx => ?_⟩
      rw [List.getElem?_map, List.getElem?_take] at hx
      split at hx
      · cases hz : Z[j]? with
        | none => rw [hz] at hx; cases hx
        | some y =>
          rw [hz] at hx
          simp only [Option.map_some, Option.some.injEq] at hx
          have hy := hb y (List.mem_of_getElem? hz)
          rw [hc j y hz, ← hx, Int.toNat_of_nonneg hy.1]
      · cases hx
  · intro x hx
    obtain ⟨y, hy, rfl⟩ := List.mem_map.1 hx
    have := hb y (List.mem_of_mem_take hy)
    omega

/-- A reader beside a list of bits. -/
def Duo (w0 w : World) (br : Nat) (P : List Nat) (t : Nat) (x : Value) (M : List Bool) : Prop := Or w0 w br P t ∧ Bs w x M
theorem Duo.quiet {w0 w w' : World} {br : Nat} {P : List Nat} {t : Nat} {x : Value} {M : List Bool} (h : Duo w0 w br P t x M) (hf : Fr Nobody w w') : Duo w0 w' br P t x M := ⟨h.1.quiet hf, h.2.quiet hf⟩
theorem get_duo (w0 w : World) (br : Nat) (P : List Nat) (t n : Nat) (x : Value) (M : List Bool) (h : Duo w0 w br P t x M) (hn : n ≤ 64) (hl : t + n ≤ 8 * P.length) :
    Calls Tryd.prog 15 #[.pointer (some ⟨br, 0, none⟩), .int .i64 n] w fun e w' => e = .returned (.tuple #[.int .u64 (numAt P t n : Nat), .int .i64 0]) ∧ Duo w0 w' br P (t + n) x M := by
  obtain ⟨⟨g, hR, hF⟩, hx⟩ := h
  refine (get_ok _ w br g P t n hR hn hl).mono ?_
  rintro e w' ⟨rfl, hR', hf⟩
  exact ⟨rfl, ⟨g, hR', hF.fresh hf hR.lowAt⟩, hx.keep hf hR.apart⟩

end Go.Proofs.YtllhipfielgnbaaDoor
