/-
  Steps of a bag's script that come in.
-/
import Derived.Test.YtiphkndahoageaaNtm
import Derived.Test.YtiphkndahoageaaZo
namespace Go.Proofs.Ytiphkndahoageaa
open Go.ChangeShapes Go.WideShapes Go.ChangeAt Go.RowKit Go.Deep
set_option linter.unusedVariables false
set_option maxRecDepth 100000

theorem u32_rngN {n : Int} (h : (Lit.int .u32 n).wf = true) : ∃ k : Nat, n = k ∧ k < 4294967296 := by
  have : 0 ≤ n ∧ n ≤ 4294967295 := by simpa [Lit.wf, IntKind.min, IntKind.max, IntKind.signed, IntKind.bits] using h
  exact ⟨n.toNat, by omega, by omega⟩
theorem u8_rngN {n : Int} (h : (Lit.int .u8 n).wf = true) : ∃ k : Nat, n = k ∧ k < 256 := by
  have : 0 ≤ n ∧ n ≤ 255 := by simpa [Lit.wf, IntKind.min, IntKind.max, IntKind.signed, IntKind.bits] using h
  exact ⟨n.toNat, by omega, by omega⟩
theorem i64_rng {n : Int} (h : (Lit.int .i64 n).wf = true) : -9223372036854775808 ≤ n ∧ n ≤ 9223372036854775807 := by
  simpa [Lit.wf, IntKind.min, IntKind.max, IntKind.signed, IntKind.bits] using h
theorem bytes_in {H : Type} {enc : TypeId × Value → H} {W : World} {fuel : Nat} {v : Value} {x : DataW H × List MemPlace}
    (h : DataW.trod enc Try.prog W 0 (fun _ => true) true fuel 31 [v] = some x) : ∃ ao len cap P, v = .slice ao len cap ∧ len ≤ maxLen ∧ In W ao len cap P := by
  have key : ∃ ao len cap zs, v = .slice ao len cap ∧ IsRow .u8 W ao len cap zs := by
    rcases open_ints Try.underlying31 Try.underlying5 (by kernel_rfl) h with ⟨hcs, _⟩ | ⟨a, l, c, zs, hcs, _, hl, hm, hz, _, hcell, hwz⟩
    · simp at hcs
      exact ⟨none, 0, 0, [], hcs, .inl ⟨rfl, rfl, rfl, rfl⟩⟩
    · simp at hcs
      exact ⟨_, _, _, zs, hcs, .inr ⟨_, rfl, hl, hm, by simpa using hz, hcell, hwz⟩⟩
  obtain ⟨ao, len, cap, zs, hv, hr⟩ := key
  obtain ⟨hmax, P, hP⟩ := in_row hr
  exact ⟨ao, len, cap, P, hv, hmax, hP⟩
/-- a step of a script -/
structure NOp where
  d : Nat
  to : Int
  fa : Option Addr
  fl : Nat
  fc : Nat
  P : List Nat
  i : Int
  t : Int
  pat : Nat
instance : Inhabited NOp := ⟨⟨0, 0, none, 0, 0, [], 0, 0, 0⟩⟩
structure NOk (W : World) (q : NOp) : Prop where
  d : q.d < 256
  i0 : -9223372036854775808 ≤ q.i
  i1 : q.i ≤ 9223372036854775807
  t0 : -9223372036854775808 ≤ q.t
  t1 : q.t ≤ 9223372036854775807
  to0 : -9223372036854775808 ≤ q.to
  to1 : q.to ≤ 9223372036854775807
  pat : q.pat < 4294967296
  max : q.fl ≤ maxLen
  fr : In W q.fa q.fl q.fc q.P
def OpT (W : World) (cs : List Value) (q : NOp) : Prop := cs = [.int .u8 (q.d : Int), .int .i64 q.to, .slice q.fa q.fl q.fc, .int .i64 q.i, .int .i64 q.t, .int .u32 (q.pat : Int)] ∧ NOk W q
theorem cellsOp : Try.prog.cellsOf 36 = 6 := by kernel_rfl
theorem cellsOut : Try.prog.cellsOf 33 = 2 := by kernel_rfl
theorem cellsOB : Try.prog.cellsOf 5 = 1 := by kernel_rfl
theorem cellsOI : Try.prog.cellsOf 3 = 1 := by kernel_rfl
theorem cellsOU : Try.prog.cellsOf 34 = 1 := by kernel_rfl
theorem cellsOS : Try.prog.cellsOf 31 = 1 := by kernel_rfl
theorem lst2 {β : Type} {l : List β} (h : l.length = 2) : ∃ a b, l = [a, b] := by
  match l, h with
  | [a, b], _ => exact ⟨a, b, rfl⟩
theorem lst5 {β : Type} {l : List β} (h : l.length = 5) : ∃ a b c d e, l = [a, b, c, d, e] := by
  match l, h with
  | [a, b, c, d, e], _ => exact ⟨a, b, c, d, e, rfl⟩
theorem lst6 {β : Type} {l : List β} (h : l.length = 6) : ∃ a b c d e f, l = [a, b, c, d, e, f] := by
  match l, h with
  | [a, b, c, d, e, f], _ => exact ⟨a, b, c, d, e, f, rfl⟩
theorem op_is {H : Type} {enc : TypeId × Value → H} {W : World} (fuel : Nat) (cs : List Value) (x : DataW H × List MemPlace)
    (h : DataW.trod enc Try.prog W 0 (fun _ => true) true fuel 36 cs = some x) : ∃ o, OpT W cs o := by
  obtain ⟨xs, n, _, hx, hl, hlen, hf⟩ := DataW.trod_struct Try.underlying36 h
  rw [cellsOp] at hl
  obtain ⟨c0, c1, c2, c3, c4, c5, rfl⟩ := lst6 hl
  obtain ⟨y0, y1, y2, y3, y4, rfl⟩ := lst5 hlen
  have h0 := hf 0 _ rfl
  have h1 := hf 1 _ rfl
  have h2 := hf 2 _ rfl
  have h3 := hf 3 _ rfl
  have h4 := hf 4 _ rfl
  simp [cellsOB, cellsOI, cellsOU, cellsOut] at h0 h1 h2 h3 h4
  obtain ⟨a, a0, _, wa⟩ := DataW.trod_int Try.underlying5 h0
  obtain ⟨i, i0, _, wi⟩ := DataW.trod_int Try.underlying3 h2
  obtain ⟨t, t0, _, wt⟩ := DataW.trod_int Try.underlying3 h3
  obtain ⟨p, p0, _, wp⟩ := DataW.trod_int Try.underlying34 h4
  simp at a0 i0 t0 p0
  subst a0 i0 t0 p0
  obtain ⟨xs2, n2, _, hx2, hl2, hlen2, hf2⟩ := DataW.trod_struct Try.underlying33 h1
  obtain ⟨z0, z1, rfl⟩ := lst2 hlen2
  have g0 := hf2 0 _ rfl
  have g1 := hf2 1 _ rfl
  simp [cellsOI, cellsOS] at g0 g1
  obtain ⟨to, to0, _, wto⟩ := DataW.trod_int Try.underlying3 g0
  simp at to0
  subst to0
  obtain ⟨ao, len, cap, P, hv, hmax, hP⟩ := bytes_in g1
  subst hv
  obtain ⟨an, rfl, ha⟩ := u8_rngN wa
  obtain ⟨pn, rfl, hp⟩ := u32_rngN wp
  exact ⟨⟨an, to, ao, len, cap, P, i, t, pn⟩, rfl, ha, (i64_rng wi).1, (i64_rng wi).2, (i64_rng wt).1, (i64_rng wt).2, (i64_rng wto).1, (i64_rng wto).2, hp, hmax, hP⟩
def IsOps (w : World) (ao : Option Addr) (len cap : Nat) (Q : List NOp) : Prop := Q.length = len ∧ len ≤ cap ∧ cap ≤ maxLen ∧ RowsAt (OpT w) 6 w ao Q
theorem open_ops {H : Type} {enc : TypeId × Value → H} {W : World} {base : Nat} {ao : Option Addr} {len cap : Nat} {d : DataW H} {p : List MemPlace}
    (hv : Value.okWide Try.prog W .any base 22 (.slice ao len cap)) (h : DataW.Trod enc Try.prog W 0 (fun _ => true) true 22 (.slice ao len cap) d p) : ∃ Q, IsOps W ao len cap Q :=
  open_rows 6 Try.underlying22 cellsOp (by decide) (OpT W) (fun fuel cs x hx => op_is fuel cs x hx) h
theorem op_at {W w : World} {ao : Option Addr} {Q : List NOp} (h : RowsAt (OpT W) 6 w ao Q) (k : Nat) (hk : k < Q.length) : ∃ g o q, ao = some ⟨g, o, none⟩ ∧ NOk W q ∧ w.cell? ⟨g, o + k * 6, none⟩ = some (.int .u8 (q.d : Int)) ∧ w.cell? ⟨g, o + k * 6 + 1, none⟩ = some (.int .i64 q.to) ∧ w.cell? ⟨g, o + k * 6 + 2, none⟩ = some (.slice q.fa q.fl q.fc) ∧ w.cell? ⟨g, o + k * 6 + 3, none⟩ = some (.int .i64 q.i) ∧ w.cell? ⟨g, o + k * 6 + 4, none⟩ = some (.int .i64 q.t) ∧ w.cell? ⟨g, o + k * 6 + 5, none⟩ = some (.int .u32 (q.pat : Int)) := by
  obtain ⟨q, hq⟩ : ∃ q, Q[k]? = some q := ⟨_, List.getElem?_eq_getElem hk⟩
  rcases h with h | ⟨g, o, ha, hc⟩
  · subst h; simp at hq
  · obtain ⟨cs, ⟨rfl, h4⟩, _, h3⟩ := hc k q hq
    exact ⟨g, o, q, ha, h4, h3 0 (by decide), h3 1 (by decide), h3 2 (by decide), h3 3 (by decide), h3 4 (by decide), h3 5 (by decide)⟩
end Go.Proofs.Ytiphkndahoageaa
