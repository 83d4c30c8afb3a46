/-
  Components that come in, by value: read, and read again.
-/
import Derived.Test.YtflmgilmbppieaaGreatDoorSh
namespace Go.Proofs.YtflmgilmbppieaaGreatDoor
open Go.ChangeShapes Go.WideShapes Go.ChangeAt Go.WideMaps Go.WideElems Go.RowKit
set_option linter.unusedVariables false
set_option maxRecDepth 100000

theorem cellsComp : Tryz.prog.cellsOf 46 = 4 := by kernel_rfl
theorem cellsA3 : Tryz.prog.cellsOf 44 = 3 := by kernel_rfl
theorem cellsByte : Tryz.prog.cellsOf 5 = 1 := by kernel_rfl
theorem cellsI32 : Tryz.prog.cellsOf 21 = 1 := by kernel_rfl
/-- a component's datum -/
def cdat {H : Type} (k : Int) (a b c : Int) : DataW H := .agg [.lit (.int .u8 k), .agg [.lit (.int .i32 a), .lit (.int .i32 b), .lit (.int .i32 c)]]
def ok8 (k : Int) : Prop := (Lit.int .u8 k).wf = true
def ok32 (a : Int) : Prop := (Lit.int .i32 a).wf = true
/-- the cells of a component that is read as data -/
theorem comp_cells {H : Type} {enc : TypeId × Value → H} {W : World} {base : Nat} {sp : Nat → Bool} {held : Bool} {fuel : Nat} {cs : List Value} {x : DataW H × List MemPlace}
    (h : DataW.trod enc Tryz.prog W base sp held fuel 46 cs = some x) : ∃ k a b c, ok8 k ∧ ok32 a ∧ ok32 b ∧ ok32 c ∧ cs = [.int .u8 k, .int .i32 a, .int .i32 b, .int .i32 c] ∧ x = (cdat k a b c, []) := by
  obtain ⟨xs, n, _, hx, hl, hlen, hf⟩ := DataW.trod_struct Tryz.underlying46 h
  rw [cellsComp] at hl
  match cs, hl with
  | [c0, c1, c2, c3], _ =>
  match xs, hlen with
  | [y0, y1], _ =>
    have h0 := hf 0 _ rfl
    have h1 := hf 1 _ rfl
    simp [cellsByte, cellsA3] at h0 h1
    obtain ⟨k, e0, e0', w0⟩ := DataW.trod_int Tryz.underlying5 h0
    obtain ⟨zs, m, _, hz, hzl, hzlen, hzf⟩ := DataW.trod_array Tryz.underlying44 h1
    match zs, hzlen with
    | [z0, z1, z2], _ =>
      have g0 := hzf 0 (by decide)
      have g1 := hzf 1 (by decide)
      have g2 := hzf 2 (by decide)
      simp [cellsI32] at g0 g1 g2
      obtain ⟨a, a0, a1, wa⟩ := DataW.trod_int Tryz.underlying21 g0
      obtain ⟨b, b0, b1, wb⟩ := DataW.trod_int Tryz.underlying21 g1
      obtain ⟨c, k0, k1, wc⟩ := DataW.trod_int Tryz.underlying21 g2
      simp at e0 a0 b0 k0
      subst e0 a0 b0 k0 e0' a1 b1 k1 hz hx
      exact ⟨k, a, b, c, w0, wa, wb, wc, rfl, by simp [cdat]⟩
theorem open_comp {H : Type} {enc : TypeId × Value → H} {W : World} {base : Nat} {v : Value} {d : DataW H} {p : List MemPlace}
    (hv : Value.okWide Tryz.prog W .any base 46 v) (h : DataW.Trod enc Tryz.prog W 0 (fun _ => true) true 46 v d p) :
    ∃ k a b c, v = .agg #[.int .u8 k, .int .i32 a, .int .i32 b, .int .i32 c] ∧ d = cdat k a b c ∧ p = [] ∧ ok8 k ∧ ok32 a ∧ ok32 b ∧ ok32 c := by
  obtain ⟨cs, rfl, hsz, _⟩ : ∃ cs, v = .agg cs ∧ cs.size = Tryz.prog.cellsOf 46 ∧ Row.okWide Tryz.prog W .any base 46 cs := by
    simpa [Value.okWide, Tryz.underlying46] using hv
  obtain ⟨fuel, hf⟩ := h
  obtain ⟨k, a, b, c, h1, h2, h3, h4, hc, hx⟩ := comp_cells hf
  simp only [Prod.mk.injEq] at hx
  obtain ⟨ls⟩ := cs
  simp [Value.cells] at hc
  subst hc
  exact ⟨k, a, b, c, rfl, hx.1, hx.2, h1, h2, h3, h4⟩
theorem shut_comp {H : Type} {enc : TypeId × Value → H} {W : World} {base : Nat} {sp : Nat → Bool} {held : Bool} {k a b c : Int} (h1 : ok8 k) (h2 : ok32 a) (h3 : ok32 b) (h4 : ok32 c) :
    DataW.Trod enc Tryz.prog W base sp held 46 (.agg #[.int .u8 k, .int .i32 a, .int .i32 b, .int .i32 c]) (cdat k a b c) [] :=
  ⟨3, by
    unfold ok8 ok32 at *
    simp [DataW.trod, Value.cells, Tryz.underlying46, Tryz.underlying44, Tryz.underlying5, Tryz.underlying21, cellsComp, cellsA3, cellsByte, cellsI32, h1, h2, h3, h4, show List.range 3 = [0, 1, 2] from rfl, cdat]⟩
theorem ok8_nat {k : Int} (h : ok8 k) : ∃ n : Nat, k = n ∧ n < 256 := by
  have : 0 ≤ k ∧ k ≤ 255 := by simpa [ok8, Lit.wf, IntKind.min, IntKind.max, IntKind.signed, IntKind.bits] using h
  exact ⟨k.toNat, by omega, by omega⟩
theorem ok32_rng {a : Int} (h : ok32 a) : -2147483648 ≤ a ∧ a ≤ 2147483647 := by
  simpa [ok32, Lit.wf, IntKind.min, IntKind.max, IntKind.signed, IntKind.bits] using h
theorem Box.cells {w : World} {b k : Nat} {F : Nat → Int} (h : Box w b k F) : w.cell? ⟨b, 0, none⟩ = some (.int .u8 (k : Int)) ∧ w.cell? ⟨b, 1, none⟩ = some (.int .i32 (F 0)) ∧ w.cell? ⟨b, 2, none⟩ = some (.int .i32 (F 1)) ∧ w.cell? ⟨b, 3, none⟩ = some (.int .i32 (F 2)) :=
  ⟨h.kind, h.at 0 (by decide), h.at 1 (by decide), h.at 2 (by decide)⟩
end Go.Proofs.YtflmgilmbppieaaGreatDoor
