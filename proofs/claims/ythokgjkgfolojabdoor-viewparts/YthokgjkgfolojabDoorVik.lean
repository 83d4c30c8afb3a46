/-
  Regions that come in, by value: read, and read again.
-/
import Derived.Test.YthokgjkgfolojabDoorVia
import Derived.OpenShut
import Derived.ProofKit
namespace Go.Proofs.YthokgjkgfolojabDoor
open Go.ChangeShapes Go.WideShapes Go.ChangeAt Go.WideMaps Go.WideElems Go.RowKit
set_option linter.unusedVariables false
set_option maxRecDepth 100000

theorem cellsRegion : Tryd.prog.cellsOf 24 = 4 := by kernel_rfl
theorem cellsBool : Tryd.prog.cellsOf 4 = 1 := by kernel_rfl
theorem cellsInt : Tryd.prog.cellsOf 3 = 1 := by kernel_rfl
/-- a region's datum -/
def rdat {H : Type} (on : Bool) (x y r : Int) : DataW H := .agg [.lit (.bool on), .lit (.int .i64 x), .lit (.int .i64 y), .lit (.int .i64 r)]
def ok64 (a : Int) : Prop := (Lit.int .i64 a).wf = true
theorem list4r {β : Type} {l : List β} (h : l.length = 4) : ∃ a b c d, l = [a, b, c, d] := by
  match l, h with
  | [a, b, c, d], _ => exact ⟨a, b, c, d, rfl⟩
theorem open_region {H : Type} {enc : TypeId × Value → H} {W : World} {base : Nat} {v : Value} {d : DataW H} {p : List MemPlace}
    (hv : Value.okWide Tryd.prog W .any base 24 v) (h : DataW.Trod enc Tryd.prog W 0 (fun _ => true) true 24 v d p) :
    ∃ on x y r, v = .agg #[.bool on, .int .i64 x, .int .i64 y, .int .i64 r] ∧ d = rdat on x y r ∧ p = [] ∧ ok64 x ∧ ok64 y ∧ ok64 r := by
  obtain ⟨cs, rfl, hsz, _⟩ : ∃ cs, v = .agg cs ∧ cs.size = Tryd.prog.cellsOf 24 ∧ Row.okWide Tryd.prog W .any base 24 cs := by
    simpa [Value.okWide, Tryd.underlying24] using hv
  obtain ⟨fuel, hf0⟩ := h
  obtain ⟨xs, n, _, hx, hl, hlen, hf⟩ := DataW.trod_struct Tryd.underlying24 hf0
  obtain ⟨ls⟩ := cs
  rw [cellsRegion] at hl
  obtain ⟨c0, c1, c2, c3, hls⟩ := list4r hl
  simp [Value.cells] at hls
  subst hls
  obtain ⟨y0, y1, y2, y3, rfl⟩ := list4r hlen
  have h0 := hf 0 _ rfl
  have h1 := hf 1 _ rfl
  have h2 := hf 2 _ rfl
  have h3 := hf 3 _ rfl
  simp [cellsBool, cellsInt, Value.cells] at h0 h1 h2 h3
  obtain ⟨a, a0, a1⟩ := DataW.trod_bool Tryd.underlying4 h0
  obtain ⟨b, b0, b1, wb⟩ := DataW.trod_int Tryd.underlying3 h1
  obtain ⟨c, k0, k1, wc⟩ := DataW.trod_int Tryd.underlying3 h2
  obtain ⟨e, d0, d1, wd⟩ := DataW.trod_int Tryd.underlying3 h3
  simp at a0 b0 k0 d0
  subst a0 b0 k0 d0 a1 b1 k1 d1
  simp at hx
  exact ⟨a, b, c, e, rfl, hx.1, hx.2, wb, wc, wd⟩
theorem shut_region {H : Type} {enc : TypeId × Value → H} {W : World} {base : Nat} {sp : Nat → Bool} {held : Bool} {on : Bool} {x y r : Int} (h1 : ok64 x) (h2 : ok64 y) (h3 : ok64 r) :
    DataW.Trod enc Tryd.prog W base sp held 24 (.agg #[.bool on, .int .i64 x, .int .i64 y, .int .i64 r]) (rdat on x y r) [] :=
  ⟨3, by
    unfold ok64 at *
    simp [DataW.trod, Value.cells, Tryd.underlying24, Tryd.underlying4, Tryd.underlying3, cellsRegion, cellsBool, cellsInt, h1, h2, h3, rdat]⟩
theorem ok32_rngV {a : Int} (h : (Lit.int .i32 a).wf = true) : I32 a := by
  unfold I32
  simpa [Lit.wf, IntKind.min, IntKind.max, IntKind.signed, IntKind.bits] using h
end Go.Proofs.YthokgjkgfolojabDoor
