/-
  The grid: who is in which cell.
-/
import Derived.Test.YthokgjkgfolojabDoorMpa
import Derived.Test.YthokgjkgfolojabDoorCea
import Derived.Maps.RangeWalk
namespace Go.Proofs.YthokgjkgfolojabDoor
open Go.RowKit Go.Maps
set_option linter.unusedVariables false
set_option maxRecDepth 100000

theorem laidP : laidOutB Tryd.prog = true := by kernel_rfl
theorem sizeP : ∃ m, Tryd.prog.types.size = m + 1 := ⟨Tryd.prog.types.size - 1, by have : 0 < Tryd.prog.types.size := of_decide_eq_true (by kernel_rfl); omega⟩
theorem wfu32 {n : Nat} (h : n < 4294967296) : (Lit.int .u32 (n : Int)).wf = true := by
  simp [Lit.wf, IntKind.min, IntKind.max, IntKind.signed, IntKind.bits]; omega
def J64 (x : Int) : Prop := -9223372036854775808 ≤ x ∧ x ≤ 9223372036854775807
theorem wfi64 {n : Int} (h : J64 n) : (Lit.int .i64 n).wf = true := by
  unfold J64 at h
  simp [Lit.wf, IntKind.min, IntKind.max, IntKind.signed, IntKind.bits]; omega
theorem lit_one {P : Program} {t : TypeId} {q : IntKind} (hu : P.underlying t = some (.int q)) {d : Nat} {a : Value} {x : List Lit} (h : P.keyLits (d + 1) t [a] = some x) : ∃ n, a = .int q n ∧ (Lit.int q n).wf = true ∧ x = [.int q n] := by
  unfold Program.keyLits at h
  rw [hu] at h
  cases a <;> simp at h
  rename_i q' n
  obtain ⟨⟨rfl, hw⟩, rfl⟩ := h
  exact ⟨n, rfl, hw, rfl⟩
/-- IDs as keys -/
def idK : Keys Tryd.prog 29 Nat where
  law := int_keyed Tryd.underlying29
  val := fun n => .int .u32 (n : Int)
  lit := fun n => .int .u32 (n : Int)
  ok := fun n => n < 4294967296
  of := fun h => keyOf_int_mk Tryd.underlying29 (wfu32 h)
  inv := by
    intro v l h
    obtain ⟨n, rfl, rfl, hw⟩ := Maps.keyOf_int_inv Tryd.underlying29 h
    have r : 0 ≤ n ∧ n ≤ 4294967295 := by simpa [Lit.wf, IntKind.min, IntKind.max, IntKind.signed, IntKind.bits] using hw
    obtain ⟨i, rfl⟩ := Int.eq_ofNat_of_zero_le r.1
    exact ⟨i, by omega, rfl, rfl⟩
  inj := by
    intro x y hx hy h
    have := (Lit.int.inj h).2
    omega
  key := fun _ => trivial
abbrev Cll := Int × Int
def cv (c : Cll) : Value := .agg #[.int .i64 c.1, .int .i64 c.2]
def cl (c : Cll) : Lit := .string (keyBytes [.int .i64 c.1, .int .i64 c.2])
def COk (c : Cll) : Prop := J64 c.1 ∧ J64 c.2
theorem cllCells : Tryd.prog.cellsOf 59 = 2 := by kernel_rfl
theorem cllCells1 : Tryd.prog.cellsOf 3 = 1 := by kernel_rfl
theorem cllKey : Tryd.prog.keyType 59 = true := by kernel_rfl
theorem keyCll : Keyed Tryd.prog 59 := Keyed.of_law (deep_law_laid laidP (m := 2) (by omega) (of_decide_eq_true (by kernel_rfl)) (by kernel_rfl) (by rw [Tryd.underlying59]))
theorem cll_of (c : Cll) (h : COk c) : keyOf Tryd.prog 59 (cv c) = some (cl c) := by
  obtain ⟨m, hm⟩ := sizeP
  have hf : (cv c).formed Tryd.prog 59 = true := by simp [cv, Value.formed, Tryd.underlying59, cllCells]
  have hl : Tryd.prog.keyLits (Tryd.prog.types.size + 1) 59 (cv c).cells.toList = some [.int .i64 c.1, .int .i64 c.2] := by
    rw [hm]
    simp [Program.keyLits, Tryd.underlying59, Tryd.underlying3, cllCells, cllCells1, cv, Value.cells, wfi64 h.1, wfi64 h.2]
  unfold keyOf
  rw [Tryd.underlying59]
  simp only [cllKey, hf, hl, Bool.and_self, if_true, Option.map_some]
  rfl
theorem cll_inv {v : Value} {l : Lit} (h : keyOf Tryd.prog 59 v = some l) : ∃ c, COk c ∧ v = cv c ∧ l = cl c := by
  obtain ⟨m, hm⟩ := sizeP
  unfold keyOf at h
  rw [Tryd.underlying59] at h
  simp only [cllKey, Bool.true_and] at h
  split at h
  · rename_i hf
    cases v with
    | agg cs =>
      have hs : cs.size = 2 := by simpa [Value.formed, Tryd.underlying59, cllCells] using hf
      obtain ⟨a, b, rfl⟩ : ∃ a b, cs = #[a, b] := by
        obtain ⟨L⟩ := cs
        match L, hs with
        | [a, b], _ => exact ⟨a, b, rfl⟩
      rw [hm] at h
      obtain ⟨ls, h1, h2⟩ := Option.map_eq_some_iff.1 h
      unfold Program.keyLits at h1
      rw [Tryd.underlying59] at h1
      simp [cllCells, cllCells1, Value.cells] at h1
      obtain ⟨x, hx, h1⟩ := Option.bind_eq_some_iff.1 h1
      simp only [Function.comp] at h1
      obtain ⟨y, hy, h1⟩ := Option.map_eq_some_iff.1 h1
      obtain ⟨t, ht, hy⟩ := Option.bind_eq_some_iff.1 hy
      obtain ⟨u, hu, ht⟩ := Option.bind_eq_some_iff.1 ht
      obtain ⟨n1, rfl, w1, rfl⟩ := lit_one Tryd.underlying3 hx
      obtain ⟨n2, rfl, w2, rfl⟩ := lit_one Tryd.underlying3 hu
      cases ht
      cases hy
      have r1 : -9223372036854775808 ≤ n1 ∧ n1 ≤ 9223372036854775807 := by simpa [Lit.wf, IntKind.min, IntKind.max, IntKind.signed, IntKind.bits] using w1
      have r2 : -9223372036854775808 ≤ n2 ∧ n2 ≤ 9223372036854775807 := by simpa [Lit.wf, IntKind.min, IntKind.max, IntKind.signed, IntKind.bits] using w2
      refine ⟨(n1, n2), ⟨r1, r2⟩, rfl, ?_⟩
      rw [← h2, ← h1]
      rfl
    | _ => simp [Value.formed, Tryd.underlying59] at hf
  · cases h
theorem cl_inj {x y : Cll} (h1 : COk x) (h2 : COk y) (h : cl x = cl y) : x = y := by
  have a := cll_of x h1
  have b := cll_of y h2
  rw [← h] at b
  have e := keyCll.inj a b
  unfold cv at e
  simp only [Value.agg.injEq, Array.mk.injEq, List.cons.injEq, Value.int.injEq, and_true, true_and] at e
  exact Prod.ext e.1 e.2
/-- cells as keys -/
def clK : Keys Tryd.prog 59 Cll where
  law := keyCll
  val := cv
  lit := cl
  ok := COk
  of := fun h => cll_of _ h
  inv := fun h => cll_inv h
  inj := fun h1 h2 h => cl_inj h1 h2 h
  key := fun _ => trivial
end Go.Proofs.YthokgjkgfolojabDoor
