/-
  Slices that came in, for the rows of numbers; the bits of a row: plain facts.
-/
import Derived.Test.YtkdodinopehpnacNg
import Derived.ProofKit
import Derived.Deep.Slices
namespace Go.Proofs.Ytkdodinopehpnac
open Go.ChangeShapes Go.WideShapes Go.ChangeAt Go.RowKit Go.Deep
set_option linter.unusedVariables false

theorem addr_add (g o j : Nat) : (⟨g, o, none⟩ : Addr).add j = ⟨g, o + j, none⟩ := by unfold Addr.add; split <;> simp_all
/-- WHAT THE WALK IS TOLD OF A SLICE OF INTEGERS THAT CAME IN (as the guide's shell has it). -/
def IsRow (k : IntKind) (w : World) (a : Option Addr) (len cap : Nat) (zs : List Int) : Prop :=
  (a = none ∧ len = 0 ∧ cap = 0 ∧ zs = []) ∨
  ∃ x, a = some x ∧ len ≤ cap ∧ cap ≤ maxLen ∧ zs.length = cap ∧ (∀ i, i < zs.length → w.cell? (x.add i) = some (.int k (zs.getD i 0))) ∧ ∀ n ∈ zs, (Lit.int k n).wf = true
def Ints (k : IntKind) (w : World) (ao : Option Addr) (P : List Int) : Prop :=
  P = [] ∨ ∃ g o, ao = some ⟨g, o, none⟩ ∧ ∀ (j : Nat) (x : Int), P[j]? = some x → w.cell? ⟨g, o + j, none⟩ = some (.int k x)
theorem Ints.quiet {k : IntKind} {w w' : World} {ao : Option Addr} {P : List Int} (h : Ints k w ao P) (hf : Fr Nobody w w') : Ints k w' ao P := by
  rcases h with h | ⟨g, o, ha, hc⟩
  · exact .inl h
  · refine .inr ⟨g, o, ha, fun j x hx => ?_⟩
    have h1 := hc j x hx
    exact (hf.cell (p := ⟨g, o + j, none⟩) (World.block_lt_of_cell? w _ h1) id).trans h1
theorem Ints.take {k : IntKind} {w : World} {ao : Option Addr} {P : List Int} (h : Ints k w ao P) (m : Nat) : Ints k w ao (P.take m) := by
  rcases h with rfl | ⟨g, o, ha, hc⟩
  · left; simp
  · refine .inr ⟨g, o, ha, fun j x hx => hc j x ?_⟩
    rw [List.getElem?_take] at hx
    split at hx
    · exact hx
    · cases hx
theorem IsRow.ints {k : IntKind} {w : World} {a : Option Addr} {len cap : Nat} {zs : List Int} (h : IsRow k w a len cap zs) : (zs.take len).length = len ∧ len ≤ maxLen ∧ len ≤ cap ∧ Ints k w a (zs.take len) ∧ ∀ n ∈ zs.take len, (Lit.int k n).wf = true := by
  rcases h with ⟨rfl, rfl, rfl, rfl⟩ | ⟨x, rfl, hl, hm, hz, hc, hw⟩
  · exact ⟨rfl, Nat.zero_le _, Nat.le_refl _, .inl rfl, fun n hn => by simp at hn⟩
  · refine ⟨by rw [List.length_take]; omega, by omega, hl, ?_, fun n hn => hw n (List.mem_of_mem_take hn)⟩
    by_cases h0 : len = 0
    · subst h0; left; simp
    · right
      obtain ⟨g, o, spot⟩ := x
      have h1 := hc 0 (by omega)
      have hs : spot = none := by simpa [Addr.add] using World.cell?_spot h1
      subst hs
      refine ⟨g, o, rfl, fun j y hy => ?_⟩
      rw [List.getElem?_take] at hy
      split at hy
      · rename_i hj
        have h2 := hc j (by omega)
        rw [addr_add] at h2
        rw [h2]
        rw [List.getD_eq_getElem?_getD, hy]; rfl
      · cases hy
def BoolsAt (w : World) (ao : Option Addr) (S : List Bool) : Prop :=
  S = [] ∨ ∃ g o, ao = some ⟨g, o, none⟩ ∧ ∀ (j : Nat) (x : Bool), S[j]? = some x → w.cell? ⟨g, o + j, none⟩ = some (.bool x)
theorem BoolsAt.quiet {w w' : World} {ao : Option Addr} {P : List Bool} (h : BoolsAt w ao P) (hf : Fr Nobody w w') : BoolsAt w' ao P := by
  rcases h with h | ⟨g, o, ha, hc⟩
  · exact .inl h
  · refine .inr ⟨g, o, ha, fun j x hx => ?_⟩
    have h1 := hc j x hx
    exact (hf.cell (p := ⟨g, o + j, none⟩) (World.block_lt_of_cell? w _ h1) id).trans h1
def IsBools (w : World) (ao : Option Addr) (len cap : Nat) (S : List Bool) : Prop := S.length = len ∧ len ≤ maxLen ∧ BoolsAt w ao S
theorem Try.cellsBool : Try.prog.cellsOf 4 = 1 := by kernel_rfl
theorem open_bools {H : Type} {enc : TypeId × Value → H} {W : World} {base : Nat} {ao : Option Addr} {len cap : Nat} {d : DataW H} {p : List MemPlace}
    (hv : Value.okWide Try.prog W .any base 23 (.slice ao len cap)) (h : DataW.Trod enc Try.prog W 0 (fun _ => true) true 23 (.slice ao len cap) d p) : ∃ S, IsBools W ao len cap S := by
  obtain ⟨fuel, hf⟩ := h
  rcases open_slice1 Try.underlying23 Try.cellsBool hf with ⟨hc, _⟩ | ⟨a, l, c, m, k, V, D, Pl, hc, _, hl, hm, hmm, _, hall⟩
  · simp [Value.cells] at hc
    obtain ⟨rfl, rfl, rfl⟩ := hc
    exact ⟨[], rfl, Nat.zero_le _, .inl rfl⟩
  · simp [Value.cells] at hc
    obtain ⟨rfl, rfl, rfl⟩ := hc
    have hml : len ≤ m := by rw [hmm]; simp; omega
    have hex : ∀ i, i < len → ∃ q : Bool, V i = .bool q := by
      intro i hi
      obtain ⟨_, t0⟩ := hall i (by omega)
      obtain ⟨x, e0, _⟩ := DataW.trod_bool Try.underlying4 t0
      simp at e0
      exact ⟨x, e0⟩
    obtain ⟨f, hfn⟩ := choose_lt hex
    refine ⟨(List.range len).map f, by simp, by omega, ?_⟩
    by_cases h0 : len = 0
    · subst h0; left; rfl
    · right
      obtain ⟨g, o, spot⟩ := a
      have h1 := (hall 0 (by omega)).1
      have hs : spot = none := by simpa [Addr.add] using World.cell?_spot h1
      subst hs
      refine ⟨g, o, rfl, fun j v hj => ?_⟩
      have hjl : j < len := by
        have := (List.getElem?_eq_some_iff.1 hj).1
        simpa using this
      rw [List.getElem?_map, List.getElem?_range hjl] at hj
      simp only [Option.map_some, Option.some.injEq] at hj
      have c0 := (hall j (by omega)).1
      rw [addr_add] at c0
      rw [c0, hfn j hjl, hj]

/-- uint64 of an int64 -/
def ofI (n : Int) : Nat := (n % 18446744073709551616).toNat
theorem ofI_lt (n : Int) : ofI n < 18446744073709551616 := by unfold ofI; omega
theorem ofI_wrap (n : Int) : IntKind.u64.wrap n = (ofI n : Int) := by rw [wrapU]; unfold ofI; omega
/-- the bits of one number, and, if it is asked for, of its sign -/
def item (n : Int) (s : Bool) : List Bool := var (ofI n) ++ if s then var (zig n) else []
/-- the bits of the first k numbers -/
def rows (N : List Int) (S : List Bool) : Nat → List Bool
  | 0 => []
  | k + 1 => rows N S k ++ item (N.getD k 0) (S.getD k false)
theorem item_le (n : Int) (s : Bool) (h0 : -9223372036854775808 ≤ n) (h1 : n ≤ 9223372036854775807) : (item n s).length ≤ 160 := by
  unfold item
  have a := grp_bd (ofI n) (ofI_lt n)
  have b := grp_bd (zig n) (zig_lt n h0 h1)
  rw [List.length_append, length_var]
  split
  · rw [length_var]; omega
  · simp; omega
theorem rows_le (N : List Int) (S : List Bool) (hN : ∀ n ∈ N, -9223372036854775808 ≤ n ∧ n ≤ 9223372036854775807) (k : Nat) : (rows N S k).length ≤ 160 * k := by
  induction k with
  | zero => simp [rows]
  | succ k ih =>
    rw [rows, List.length_append]
    have hb : -9223372036854775808 ≤ N.getD k 0 ∧ N.getD k 0 ≤ 9223372036854775807 := by
      rw [List.getD_eq_getElem?_getD]
      cases h : N[k]? with
      | none => simp
      | some x => simpa using hN x (List.mem_of_getElem? h)
    have := item_le (N.getD k 0) (S.getD k false) hb.1 hb.2
    omega
theorem rows_split (N : List Int) (S : List Bool) (k m : Nat) : ∃ R, rows N S (k + m) = rows N S k ++ R := by
  induction m with
  | zero => exact ⟨[], by simp⟩
  | succ m ih =>
    obtain ⟨R, hR⟩ := ih
    exact ⟨R ++ item (N.getD (k + m) 0) (S.getD (k + m) false), by rw [← Nat.add_assoc, rows, hR, List.append_assoc]⟩
theorem pack_lt (L : List Bool) : ∀ x ∈ pack L, x < 256 := by
  intro x hx
  obtain ⟨i, _, rfl⟩ := List.mem_map.1 hx
  exact byteAt_lt L i
/-- what stands at the k-th number -/
theorem rows_at (N : List Int) (S : List Bool) (k m : Nat) (hk : k < m) : ∃ R, (bitsB (pack (rows N S m))).drop (rows N S k).length = item (N.getD k 0) (S.getD k false) ++ R := by
  obtain ⟨d, rfl⟩ : ∃ d, m = (k + 1) + d := ⟨m - (k + 1), by omega⟩
  obtain ⟨R, hR⟩ := rows_split N S (k + 1) d
  refine ⟨R ++ List.replicate (8 * nb (rows N S (k + 1 + d)).length - (rows N S (k + 1 + d)).length) false, ?_⟩
  rw [bitsB_pack]
  generalize List.replicate (8 * nb (rows N S (k + 1 + d)).length - (rows N S (k + 1 + d)).length) false = z
  rw [hR, rows, List.append_assoc, List.append_assoc, List.drop_left]
theorem num_zeros (n : Nat) : num (List.replicate n false) = 0 := by
  induction n with
  | zero => rfl
  | succ n ih => rw [List.replicate_succ, num, ih]; rfl
theorem end_back (L : List Bool) : endOf (pack L) L.length = 0 := by
  have h8 : 8 * (pack L).length - L.length < 8 := by rw [length_pack]; unfold nb; omega
  unfold endOf
  rw [if_neg (by omega)]
  have e : numAt (pack L) L.length (8 * (pack L).length - L.length) = 0 := by
    unfold numAt
    rw [bitsB_pack, List.drop_left, List.take_of_length_le (by rw [List.length_replicate, length_pack]; omega), num_zeros]
  rw [if_pos e]

end Go.Proofs.Ytkdodinopehpnac
