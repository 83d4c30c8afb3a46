/-
  Steps of a table's script that come in.
-/
import Derived.Test.YtmfdeaaemngbpaaDoorUr
namespace Go.Proofs.YtmfdeaaemngbpaaDoor
open Go.ChangeShapes Go.WideShapes Go.ChangeAt Go.RowKit Go.Deep
set_option linter.unusedVariables false
set_option maxRecDepth 100000

def OpT (W : World) (cs : List Value) (o : Nat × Nat × List Cp) : Prop := ∃ ao len cap, cs = [.int .u8 (o.1 : Int), .int .u32 (o.2.1 : Int), .slice ao len cap] ∧ o.1 < 256 ∧ o.2.1 < 4294967296 ∧ IsComps W ao len cap o.2.2
theorem cellsOp : Tryd.prog.cellsOf 35 = 3 := by kernel_rfl
theorem cellsOB : Tryd.prog.cellsOf 5 = 1 := by kernel_rfl
theorem cellsOU : Tryd.prog.cellsOf 32 = 1 := by kernel_rfl
theorem cellsOC : Tryd.prog.cellsOf 33 = 1 := by kernel_rfl
theorem lst3 {β : Type} {l : List β} (h : l.length = 3) : ∃ a b c, l = [a, b, c] := by
  match l, h with
  | [a, b, c], _ => exact ⟨a, b, c, rfl⟩
theorem op_is {H : Type} {enc : TypeId × Value → H} {W : World} (fuel : Nat) (cs : List Value) (x : DataW H × List MemPlace)
    (h : DataW.trod enc Tryd.prog W 0 (fun _ => true) true fuel 35 cs = some x) : ∃ o, OpT W cs o := by
  obtain ⟨xs, n, _, hx, hl, hlen, hf⟩ := DataW.trod_struct Tryd.underlying35 h
  rw [cellsOp] at hl
  obtain ⟨c0, c1, c2, rfl⟩ := lst3 hl
  obtain ⟨y0, y1, y2, rfl⟩ := lst3 hlen
  have h0 := hf 0 _ rfl
  have h1 := hf 1 _ rfl
  have h2 := hf 2 _ rfl
  simp [cellsOB, cellsOU, cellsOC] at h0 h1 h2
  obtain ⟨a, a0, _, wa⟩ := DataW.trod_int Tryd.underlying5 h0
  obtain ⟨b, b0, _, wb⟩ := DataW.trod_int Tryd.underlying32 h1
  simp at a0 b0
  subst a0 b0
  have ha : 0 ≤ a ∧ a ≤ 255 := by simpa [Lit.wf, IntKind.min, IntKind.max, IntKind.signed, IntKind.bits] using wa
  have hb : 0 ≤ b ∧ b ≤ 4294967295 := by simpa [Lit.wf, IntKind.min, IntKind.max, IntKind.signed, IntKind.bits] using wb
  obtain ⟨an, rfl⟩ := Int.eq_ofNat_of_zero_le ha.1
  obtain ⟨bn, rfl⟩ := Int.eq_ofNat_of_zero_le hb.1
  obtain ⟨ao, len, cap, hv⟩ : ∃ ao len cap, c2 = .slice ao len cap := by
    rcases open_slice Tryd.underlying33 h2 with ⟨hc, _⟩ | ⟨a, l, c, m, n, D, Pl, hc, _⟩
    · simp at hc; exact ⟨_, _, _, hc⟩
    · simp at hc; exact ⟨_, _, _, hc⟩
  subst hv
  obtain ⟨d, p⟩ := y2
  obtain ⟨Q, hQ⟩ : ∃ Q, IsComps W ao len cap Q := open_rows 4 Tryd.underlying33 cellsComp (by decide) CompIs (fun fuel cs x hx => by
    obtain ⟨k, a, b, c, h1, h2, h3, h4, hcs, _⟩ := comp_cells hx
    obtain ⟨n, rfl, hn⟩ := ok8_nat h1
    exact ⟨⟨n, a, b, c⟩, hcs, hn⟩) ⟨_, h2⟩
  exact ⟨(an, bn, Q), ao, len, cap, rfl, by show an < _; omega, by show bn < _; omega, hQ⟩
def IsOps (w : World) (ao : Option Addr) (len cap : Nat) (Q : List (Nat × Nat × List Cp)) : Prop := Q.length = len ∧ len ≤ cap ∧ cap ≤ maxLen ∧ RowsAt (OpT w) 3 w ao Q
theorem open_ops {H : Type} {enc : TypeId × Value → H} {W : World} {base : Nat} {ao : Option Addr} {len cap : Nat} {d : DataW H} {p : List MemPlace}
    (hv : Value.okWide Tryd.prog W .any base 22 (.slice ao len cap)) (h : DataW.Trod enc Tryd.prog W 0 (fun _ => true) true 22 (.slice ao len cap) d p) : ∃ Q, IsOps W ao len cap Q :=
  open_rows 3 Tryd.underlying22 cellsOp (by decide) (OpT W) (fun fuel cs x hx => op_is fuel cs x hx) h
theorem op_at {W w : World} {ao : Option Addr} {Q : List (Nat × Nat × List Cp)} (h : RowsAt (OpT W) 3 w ao Q) (k : Nat) (hk : k < Q.length) : ∃ g o, ao = some ⟨g, o, none⟩ ∧ ∃ (od oi : Nat) (a : Option Addr) (len cap : Nat) (M : List Cp), od < 256 ∧ oi < 4294967296 ∧ w.cell? ⟨g, o + k * 3, none⟩ = some (.int .u8 (od : Int)) ∧ w.cell? ⟨g, o + k * 3 + 1, none⟩ = some (.int .u32 (oi : Int)) ∧ w.cell? ⟨g, o + k * 3 + 2, none⟩ = some (.slice a len cap) ∧ M.length = len ∧ len ≤ cap ∧ cap ≤ maxLen ∧ Cs W a M ∧ ∀ q ∈ M, q.k < 256 := by
  obtain ⟨q, hq⟩ : ∃ q, Q[k]? = some q := ⟨_, List.getElem?_eq_getElem hk⟩
  rcases h with h | ⟨g, o, ha, hc⟩
  · subst h; simp at hq
  · obtain ⟨cs, ⟨a, len, cap, rfl, h4, h5, h6⟩, _, h3⟩ := hc k q hq
    exact ⟨g, o, ha, q.1, q.2.1, a, len, cap, q.2.2, h4, h5, h3 0 (by decide), h3 1 (by decide), h3 2 (by decide), h6.1, h6.2.1, h6.2.2.1, h6.cs.1, h6.cs.2⟩
end Go.Proofs.YtmfdeaaemngbpaaDoor
