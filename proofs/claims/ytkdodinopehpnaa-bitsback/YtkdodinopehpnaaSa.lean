/-
  Slices of numbers and their bits that came in; Put of both sides by one specification.
-/
import Derived.Test.YtkdodinopehpnaaAwa
import Derived.Test.YtkdodinopehpnaaRb
import Derived.Deep.SlicePairs
import Derived.ProofKit
namespace Go.Proofs.Ytkdodinopehpnaa
open Go.ChangeShapes Go.WideShapes Go.ChangeAt Go.RowKit Go.Deep
set_option linter.unusedVariables false

theorem Try.cellsNum : Try.prog.cellsOf 29 = 2 := by kernel_rfl
theorem Try.cellsU64 : Try.prog.cellsOf 27 = 1 := by kernel_rfl
theorem Try.cellsInt : Try.prog.cellsOf 3 = 1 := by kernel_rfl

/-- The numbers and widths Q of a slice: nothing is asked of its address where there are none. -/
def NumsAt (w : World) (ao : Option Addr) (Q : List (Nat × Int)) : Prop :=
  Q = [] ∨ ∃ g o, ao = some ⟨g, o, none⟩ ∧ ∀ (j v : Nat) (n : Int), Q[j]? = some (v, n) → w.cell? ⟨g, o + j * 2, none⟩ = some (.int .u64 (v : Int)) ∧ w.cell? ⟨g, o + j * 2 + 1, none⟩ = some (.int .i64 n)
theorem NumsAt.quiet {w w' : World} {ao : Option Addr} {Q : List (Nat × Int)} (h : NumsAt w ao Q) (hf : Fr Nobody w w') : NumsAt w' ao Q := by
  rcases h with h | ⟨g, o, ha, hc⟩
  · exact .inl h
  · refine .inr ⟨g, o, ha, fun j v n hx => ?_⟩
    obtain ⟨h1, h2⟩ := hc j v n hx
    exact ⟨(hf.cell (p := ⟨g, o + j * 2, none⟩) (World.block_lt_of_cell? w _ h1) id).trans h1, (hf.cell (p := ⟨g, o + j * 2 + 1, none⟩) (World.block_lt_of_cell? w _ h2) id).trans h2⟩
def NumOk (q : Nat × Int) : Prop := q.1 < 18446744073709551616 ∧ -9223372036854775808 ≤ q.2 ∧ q.2 ≤ 9223372036854775807
def IsNums (w : World) (ao : Option Addr) (len cap : Nat) (Q : List (Nat × Int)) : Prop := Q.length = len ∧ len ≤ maxLen ∧ NumsAt w ao Q ∧ ∀ q ∈ Q, NumOk q

theorem open_nums {H : Type} {enc : TypeId × Value → H} {W : World} {base : Nat} {ao : Option Addr} {len cap : Nat} {d : DataW H} {p : List MemPlace}
    (hv : Value.okWide Try.prog W .any base 22 (.slice ao len cap)) (h : DataW.Trod enc Try.prog W 0 (fun _ => true) true 22 (.slice ao len cap) d p) : ∃ Q, IsNums W ao len cap Q := by
  obtain ⟨fuel, hf⟩ := h
  rcases open_slice_pairs Try.underlying22 Try.underlying29 Try.cellsNum rfl rfl Try.cellsU64 Try.cellsInt hf with ⟨hc, _⟩ | ⟨a, l, c, m, k, V0, V1, D0, D1, P0, P1, hc, _, hl, hm, hmm, _, hall⟩
  · simp [Value.cells] at hc
    obtain ⟨rfl, rfl, rfl⟩ := hc
    exact ⟨[], rfl, Nat.zero_le _, .inl rfl, fun q hq => by simp at hq⟩
  · simp [Value.cells] at hc
    obtain ⟨rfl, rfl, rfl⟩ := hc
    have hml : len ≤ m := by rw [hmm]; simp; omega
    have hex : ∀ i, i < len → ∃ q : Nat × Int, NumOk q ∧ V0 i = .int .u64 (q.1 : Int) ∧ V1 i = .int .i64 q.2 := by
      intro i hi
      obtain ⟨_, _, t0, t1⟩ := hall i (by omega)
      obtain ⟨x, e0, _, w0⟩ := DataW.trod_int Try.underlying27 t0
      obtain ⟨y, e1, _, w1⟩ := DataW.trod_int Try.underlying3 t1
      simp at e0 e1
      have hx0 : 0 ≤ x ∧ x ≤ 18446744073709551615 := by simpa [Lit.wf, IntKind.min, IntKind.max, IntKind.signed, IntKind.bits] using w0
      have hx1 : -9223372036854775808 ≤ y ∧ y ≤ 9223372036854775807 := by simpa [Lit.wf, IntKind.min, IntKind.max, IntKind.signed, IntKind.bits] using w1
      obtain ⟨xn, rfl⟩ := Int.eq_ofNat_of_zero_le hx0.1
      exact ⟨(xn, y), ⟨by show xn < _; omega, hx1.1, hx1.2⟩, e0, e1⟩
    obtain ⟨f, hfn⟩ := choose_lt hex
    refine ⟨(List.range len).map f, by simp, by omega, ?_, ?_⟩
    · by_cases h0 : len = 0
      · subst h0; left; rfl
      · right
        obtain ⟨g, o, spot⟩ := a
        have h1 := (hall 0 (by omega)).1
        have hs : spot = none := by simpa [Addr.add] using World.cell?_spot h1
        subst hs
        refine ⟨g, o, rfl, fun j v n hj => ?_⟩
        have hjl : j < len := by
          have := (List.getElem?_eq_some_iff.1 hj).1
          simpa using this
        rw [List.getElem?_map, List.getElem?_range hjl] at hj
        simp only [Option.map_some, Option.some.injEq] at hj
        obtain ⟨c0, c1, _⟩ := hall j (by omega)
        rw [addr_add] at c0 c1
        obtain ⟨_, e0, e1⟩ := hfn j hjl
        rw [hj] at e0 e1
        rw [c0, e0, Nat.add_assoc, c1, e1]
        exact ⟨rfl, rfl⟩
    · intro q hq
      obtain ⟨i, hi, rfl⟩ := List.mem_map.1 hq
      exact (hfn i (by simpa using hi)).1

/-- what Put does, on both sides -/
def pL (L : List Bool) (q : Nat × Int) : List Bool := if q.2 < 0 ∨ 64 < q.2 then L else rputL L q.1 q.2.toNat
def pE (L : List Bool) (q : Nat × Int) : Int := if q.2 < 0 ∨ 64 < q.2 then 1 else rputE L q.1 q.2.toNat
theorem pL_le (L : List Bool) (q : Nat × Int) : (pL L q).length ≤ L.length + 64 := by
  unfold pL
  split
  · omega
  · unfold rputL
    split
    · rw [List.length_append, length_bitsN]; omega
    · omega

theorem rput_spec (B : Nat) (w : World) (v : Value) (L : List Bool) (q : Nat × Int) (h : Bo B w v L) (hB : B ≤ w.heap.size) (hL : L.length ≤ 1048576) (hq : NumOk q) :
    Calls Try.prog 11 #[v, .int .u64 (q.1 : Int), .int .i64 q.2] w fun e w' => ∃ v', e = .returned (.tuple #[v', .int .i64 (pE L q)]) ∧ Bo B w' v' (pL L q) ∧ Fr Nobody w w' := by
  unfold pL pE
  by_cases c : q.2 < 0 ∨ 64 < q.2
  · rw [if_pos c, if_pos c]
    refine (rput_arg w v q.1 q.2 c).mono ?_
    rintro e w' ⟨rfl, rfl⟩
    exact ⟨v, rfl, h, Fr.refl _ _⟩
  · rw [if_neg c, if_neg c]
    have e : q.2 = (q.2.toNat : Int) := by omega
    have hh := rput_own B w v L q.1 q.2.toNat h hB hL hq.1 (by omega)
    rw [← e] at hh
    exact hh
theorem put_spec (w0 w : World) (b : Nat) (v : Value) (L M : List Bool) (q : Nat × Int) (h : Ow w0 w b L) (hb : Bo w0.heap.size w v M) (hL : L.length ≤ 1048576) (hq : NumOk q) :
    Calls Try.prog 12 #[.pointer (some ⟨b, 0, none⟩), .int .u64 (q.1 : Int), .int .i64 q.2] w fun e w' => e = .returned (.int .i64 (pE L q)) ∧ Ow w0 w' b (pL L q) ∧ Bo w0.heap.size w' v M := by
  unfold pL pE
  by_cases c : q.2 < 0 ∨ 64 < q.2
  · rw [if_pos c, if_pos c]
    refine (put_arg w b q.1 q.2 c).mono ?_
    rintro e w' ⟨rfl, rfl⟩
    exact ⟨rfl, h, hb⟩
  · rw [if_neg c, if_neg c]
    have e : q.2 = (q.2.toNat : Int) := by omega
    have key : Calls Try.prog 12 #[.pointer (some ⟨b, 0, none⟩), .int .u64 (q.1 : Int), .int .i64 (q.2.toNat : Int)] w fun e w' => e = .returned (.int .i64 (rputE L q.1 q.2.toNat)) ∧ Ow w0 w' b (rputL L q.1 q.2.toNat) ∧ Bo w0.heap.size w' v M := by
      unfold rputL rputE
      by_cases c1 : q.1 / 2 ^ q.2.toNat = 0
      · have hlt : q.1 < 2 ^ q.2.toNat := by
          rcases Nat.lt_or_ge q.1 (2 ^ q.2.toNat) with hh | hh
          · exact hh
          · have := Nat.div_pos hh (Nat.two_pow_pos _); omega
        by_cases c2 : L.length + q.2.toNat ≤ 1048576
        · rw [if_pos c1, if_pos c2, if_pos ⟨c1, c2⟩]
          obtain ⟨g, hW, hF⟩ := h
          refine (put_ok _ w b g L q.1 q.2.toNat hW (by omega) hlt hq.1 c2).mono ?_
          rintro e w' ⟨rfl, g', hW', hS⟩
          exact ⟨rfl, ⟨g', hW', hF.fresh hS.fr hW.lowAt⟩, hb.keep hS.fr hW.apart⟩
        · rw [if_pos c1, if_neg c2, if_neg (fun hh => c2 hh.2)]
          have hh := h
          obtain ⟨g, hW, hF⟩ := h
          refine (put_long _ w b g L q.1 q.2.toNat hW (by omega) hlt hq.1 hL (by omega)).mono ?_
          rintro e w' ⟨rfl, rfl⟩
          exact ⟨rfl, hh, hb⟩
      · rw [if_neg c1, if_neg (fun hh => c1 hh.1)]
        refine (put_range w b q.1 q.2.toNat (by omega) ?_ hq.1).mono ?_
        · rcases Nat.lt_or_ge q.1 (2 ^ q.2.toNat) with hh | hh
          · exact absurd (Nat.div_eq_of_lt hh) c1
          · exact hh
        rintro e w' ⟨rfl, rfl⟩
        exact ⟨rfl, h, hb⟩
    rw [← e] at key
    exact key

theorem len_fr (w0 w : World) (b : Nat) (L : List Bool) (h : Ow w0 w b L) : Calls Try.prog 13 #[.pointer (some ⟨b, 0, none⟩)] w fun e w' => e = .returned (.int .i64 (L.length : Int)) ∧ Fr Nobody w w' := by
  obtain ⟨g, hW, hF⟩ := h
  refine (len_any _ w b g L hW).mono ?_
  rintro e w' ⟨rfl, rfl⟩
  exact ⟨rfl, Fr.refl _ _⟩
theorem packed_src {w w' : World} {v : Value} {L : List Bool} (h : Packed w w' v L) : Src w' v (pack L).length (vrow (pack L)) := by
  rw [length_pack]; exact Src.of_row h.1

end Go.Proofs.Ytkdodinopehpnaa
