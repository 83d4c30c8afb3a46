/-
  For every bytes and widths: they are read by any widths as they stand, to their end and not beyond, come back untouched and aren't kept: BitsReads returns true, whatever its arguments, and changes nothing that was there.
-/
import Derived.Test.YtkdodinopehpnaaAwa
import Derived.Test.YtkdodinopehpnaaRe
import Derived.ProofKit
import Derived.OpenShut
import Derived.ShutString
import Derived.ChangeOld
namespace Go.Proofs.Ytkdodinopehpnaa
open Go.ChangeShapes Go.WideShapes Go.ChangeAt Go.RowKit
set_option linter.unusedVariables false

theorem own : ownKnob Try.prog.godebug = none := by kernel_rfl

/-- WHAT THE WALK IS TOLD OF A SLICE OF INTEGERS THAT CAME IN (as the guide's shell has it). -/
def IsRow (k : IntKind) (w : World) (a : Option Addr) (len cap : Nat) (zs : List Int) : Prop :=
  (a = none ∧ len = 0 ∧ cap = 0 ∧ zs = []) ∨
  ∃ x, a = some x ∧ len ≤ cap ∧ cap ≤ maxLen ∧ zs.length = cap ∧ (∀ i, i < zs.length → w.cell? (x.add i) = some (.int k (zs.getD i 0))) ∧ ∀ n ∈ zs, (Lit.int k n).wf = true
/-- The numbers P of a slice of integers of kind k. -/
def Ints (k : IntKind) (w : World) (ao : Option Addr) (P : List Int) : Prop :=
  P = [] ∨ ∃ g o, ao = some ⟨g, o, none⟩ ∧ ∀ (j : Nat) (x : Int), P[j]? = some x → w.cell? ⟨g, o + j, none⟩ = some (.int k x)
theorem Ints.quiet {k : IntKind} {w w' : World} {ao : Option Addr} {P : List Int} (h : Ints k w ao P) (hf : Fr Nobody w w') : Ints k w' ao P := by
  rcases h with h | ⟨g, o, ha, hc⟩
  · exact .inl h
  · refine .inr ⟨g, o, ha, fun j x hx => ?_⟩
    have h1 := hc j x hx
    exact (hf.cell (p := ⟨g, o + j, none⟩) (World.block_lt_of_cell? w _ h1) id).trans h1
theorem IsRow.ints {k : IntKind} {w : World} {a : Option Addr} {len cap : Nat} {zs : List Int} (h : IsRow k w a len cap zs) : (zs.take len).length = len ∧ len ≤ maxLen ∧ len ≤ cap ∧ (a = none → cap = 0) ∧ Ints k w a (zs.take len) ∧ ∀ n ∈ zs.take len, (Lit.int k n).wf = true := by
  rcases h with ⟨rfl, rfl, rfl, rfl⟩ | ⟨x, rfl, hl, hm, hz, hc, hw⟩
  · exact ⟨rfl, Nat.zero_le _, Nat.le_refl _, fun _ => rfl, .inl rfl, fun n hn => by simp at hn⟩
  · refine ⟨by rw [List.length_take]; omega, by omega, hl, (fun h => by cases h), ?_, fun n hn => hw n (List.mem_of_mem_take hn)⟩
    by_cases h0 : len = 0
    · subst h0; left; simp
    · right
      obtain ⟨g, o, spot⟩ := x
      have h1 := hc 0 (by omega)
      have hs : spot = none := by simpa [Addr.add] using World.cell?_spot h1
      subst hs
      refine ⟨g, o, rfl, fun j y hy => ?_⟩
      rw [List.getElem?_take] at hy
      split at hy
      · rename_i hj
        have h2 := hc j (by omega)
        rw [addr_add] at h2
        rw [h2]
        rw [List.getD_eq_getElem?_getD, hy]; rfl
      · cases hy
/-- the first m numbers of a slice of bytes, as bytes -/
theorem bytes_of (w : World) (ao : Option Addr) (Z : List Int) (m : Nat) (h : Ints .u8 w ao Z) (hb : ∀ x ∈ Z, 0 ≤ x ∧ x ≤ 255) (hm : m ≤ Z.length) : ∃ P : List Nat, P.length = m ∧ BytesAt w ao P ∧ ∀ x ∈ P, x < 256 := by
  refine ⟨(Z.take m).map Int.toNat, by rw [List.length_map, List.length_take]; omega, ?_, ?_⟩
  · rcases h with rfl | ⟨g, o, ha, hc⟩
    · left; simp
    · right
      refine ⟨g, o, ha, fun j x hx => ?_⟩
      rw [List.getElem?_map, List.getElem?_take] at hx
      split at hx
      · cases hz : Z[j]? with
        | none => rw [hz] at hx; cases hx
        | some y =>
          rw [hz] at hx
          simp only [Option.map_some, Option.some.injEq] at hx
          have hy := hb y (List.mem_of_getElem? hz)
          rw [hc j y hz, ← hx, Int.toNat_of_nonneg hy.1]
      · cases hx
  · intro x hx
    obtain ⟨y, hy, rfl⟩ := List.mem_map.1 hx
    have := hb y (List.mem_of_mem_take hy)
    omega

/-- A reader of P at t beside a row of the law's own: m bytes, and one more, 165. -/
def Rdy (w0 w : World) (br gm capm m : Nat) (P : List Nat) (t : Nat) : Prop :=
  ∃ g xs, Rd w0.heap.size w br g P t ∧ Fr Nobody w0 w ∧ br ≠ gm ∧ g ≠ some gm ∧ w.ownsRow w0.heap.size 5 1 (.slice (some ⟨gm, 0, none⟩) (m + 1) capm) (m + 1) (vrow xs ++ [.int .u8 165]) ∧ xs.length = m ∧ ∀ x ∈ xs, x < 256
theorem Rdy.quiet {w0 w w' : World} {br gm capm m : Nat} {P : List Nat} {t : Nat} (h : Rdy w0 w br gm capm m P t) (hf : Fr Nobody w w') : Rdy w0 w' br gm capm m P t := by
  obtain ⟨g, xs, h1, h2, h3, h4, h5, h6, h7⟩ := h
  exact ⟨g, xs, h1.quiet hf, h2.trans hf, h3, h4, hf.row h5 (fun _ _ => id), h6, h7⟩
theorem Rdy.fr {w0 w : World} {br gm capm m : Nat} {P : List Nat} {t : Nat} (h : Rdy w0 w br gm capm m P t) : Fr Nobody w0 w := by
  obtain ⟨g, xs, h1, h2, _⟩ := h
  exact h2
theorem Rdy.orr {w0 w : World} {br gm capm m : Nat} {P : List Nat} {t : Nat} (h : Rdy w0 w br gm capm m P t) : Or w0 w br P t := by
  obtain ⟨g, xs, h1, h2, _⟩ := h
  exact ⟨g, h1, h2⟩
theorem get_rdy (w0 w : World) (br gm capm m : Nat) (P : List Nat) (t n : Nat) (x : Value) (M : List Bool) (h : Rdy w0 w br gm capm m P t) (hx : Bs w x M) (hn : n ≤ 64) (hl : t + n ≤ 8 * P.length) :
    Calls Try.prog 20 #[.pointer (some ⟨br, 0, none⟩), .int .i64 n] w fun e w' => e = .returned (.tuple #[.int .u64 (numAt P t n : Nat), .int .i64 0]) ∧ Rdy w0 w' br gm capm m P (t + n) ∧ Bs w' x M := by
  obtain ⟨g, xs, h1, h2, h3, h4, h5, h6, h7⟩ := h
  refine (get_ok _ w br g P t n h1 hn hl).mono ?_
  rintro e w' ⟨rfl, hR', hf⟩
  refine ⟨rfl, ⟨g, xs, hR', h2.fresh hf h1.lowAt, h3, h4, hf.row h5 ?_, h6, h7⟩, hx.keep hf h1.apart⟩
  intro k hk
  simp [Value.ownBlock] at hk
  subst hk
  rintro (e | e)
  · exact h3 e.symm
  · exact h4 e.symm
/-- what a width n does, on both sides -/
theorem both_get (P : List Nat) (t : Nat) (n : Int) (hP : P.length ≤ 10000) (ht : t ≤ 8 * P.length) : ∃ (vv : Nat) (c : Int) (t' : Nat), t' ≤ 8 * P.length ∧
    (∀ w x, Bs w x ((bitsB P).drop t) → Calls Try.prog 19 #[x, .int .i64 n] w fun e w' => ∃ x', e = .returned (.tuple #[.int .u64 (vv : Int), x', .int .i64 c]) ∧ Bs w' x' ((bitsB P).drop t') ∧ Fr Nobody w w') ∧
    (∀ w0 w br gm capm m x M, Rdy w0 w br gm capm m P t → Bs w x M → Calls Try.prog 20 #[.pointer (some ⟨br, 0, none⟩), .int .i64 n] w fun e w' => e = .returned (.tuple #[.int .u64 (vv : Int), .int .i64 c]) ∧ Rdy w0 w' br gm capm m P t' ∧ Bs w' x M) := by
  have hlen : ((bitsB P).drop t).length = 8 * P.length - t := by rw [List.length_drop, length_bitsB]
  by_cases c : n < 0 ∨ 64 < n
  · refine ⟨0, 1, t, ht, ?_, ?_⟩
    · intro w x hx
      refine (rget_arg w x n c).mono ?_
      rintro e w' ⟨rfl, rfl⟩
      exact ⟨x, rfl, hx, Fr.refl _ _⟩
    · intro w0 w br gm capm m x M h hx
      refine (get_arg w br n c).mono ?_
      rintro e w' ⟨rfl, rfl⟩
      exact ⟨rfl, h, hx⟩
  · obtain ⟨k, rfl⟩ := Int.eq_ofNat_of_zero_le (show 0 ≤ n by omega)
    by_cases hs : 8 * P.length < t + k
    · refine ⟨0, 2, t, ht, ?_, ?_⟩
      · intro w x hx
        refine (rget_short w x _ k hx (by omega) (by omega)).mono ?_
        rintro e w' ⟨rfl, rfl⟩
        exact ⟨x, rfl, hx, Fr.refl _ _⟩
      · intro w0 w br gm capm m x M h hx
        have hh := h
        obtain ⟨g, xs, h1, _⟩ := h
        refine (get_short _ w br g P t k h1 (by omega) hs).mono ?_
        rintro e w' ⟨rfl, hf⟩
        exact ⟨rfl, hh.quiet hf, hx.quiet hf⟩
    · refine ⟨numAt P t k, 0, t + k, by omega, ?_, ?_⟩
      · intro w x hx
        refine (rget_ok w x _ k hx (by omega) (by omega) (by omega)).mono ?_
        rintro e w' ⟨x', rfl, hx', hf⟩
        refine ⟨x', rfl, ?_, hf⟩
        rw [List.drop_drop] at hx'
        exact hx'
      · intro w0 w br gm capm m x M h hx
        exact get_rdy w0 w br gm capm m P t k x M h hx (by omega) (by omega)
theorem both_end (P : List Nat) (t : Nat) (ht : t ≤ 8 * P.length) : endOf P t = rendOf ((bitsB P).drop t) := by
  have hlen : ((bitsB P).drop t).length = 8 * P.length - t := by rw [List.length_drop, length_bitsB]
  unfold endOf rendOf numAt
  rw [hlen, List.take_of_length_le (by omega)]

theorem row_cap {w : World} {B : Nat} {e : TypeId} {n cap g : Nat} {xs : List Value} (h : w.ownsRow B e 1 (.slice (some ⟨g, 0, none⟩) n cap) n xs) : n ≤ cap := by
  rcases h.2 with ⟨h', _⟩ | ⟨g', cap', cur, h', _, _, hn, _⟩
  · simp at h'
  · simp only [Value.slice.injEq] at h'
    omega
/-- the copy of the bytes that came in -/
theorem copy_bytes {w : World} {ops : Array Oper} {rest : List Oper} {o : Oper} {a : Act} {Q : Exit → Act → World → Prop} (hgd : o.guard = none) (s x : Operand)
    (ho : o.op = .call { callee := .builtin .append, args := #[s, x], argTypes := #[36, 36] }) (ao : Option Addr) (m cap : Nat) (P : List Nat) (h : Src w (.slice ao m cap) P.length (vrow P)) (hm : P.length = m) (hL : m ≤ 1000)
    (hs : a.eval s = .slice (some ⟨w.heap.size, 0, none⟩) 0 0) (hx : a.eval x = .slice ao m cap)
    (hK : ∀ v' w', w'.ownsRow w.heap.size 5 1 v' m (vrow P) → Fr Nobody w w' → wpList Try.prog ops Q rest (a.put o.dst v') w') :
    wpList Try.prog ops Q (o :: rest) a (w.alloc (.cells #[] 5)) := by
  obtain ⟨i0, hi, hz0, hz1, hz2⟩ := info_parts Try.infoB
  have hown := World.ownsRow_made (e := 5) (size := 1) (base := w.heap.size) w #[] 0 (Nat.le_refl _) (Nat.zero_le _) rfl
  have hfr : Fr Nobody w (w.alloc (.cells #[] 5)) := (Fr.refl _ w).alloc _
  rcases h with ⟨hv, h0, h00⟩ | ⟨a', cap', hv, hl, hc⟩
  · have hP0 : P = [] := List.eq_nil_of_length_eq_zero h0
    subst hP0
    subst hm
    rw [hv] at hx
    refine wpList_plain hgd fun K hK' => ?_
    have hr := run_append_owned_none (P := Try.prog) (w.alloc (.cells #[] 5)) w.heap.size 36 o.type 5 i0 1 Try.underlying36 hi _ 0 [] hown
    unfold Oper.wp
    simp [execOp, ho, resolve, invoke, builtin, hs, hx, hr, Result.andThen]
    exact hK' _ _ (hK _ _ hown hfr)
  · simp only [Value.slice.injEq] at hv
    obtain ⟨rfl, _, rfl⟩ := hv
    refine wpList_append_own (w.alloc (.cells #[] 5)) hgd s x 36 ho w.heap.size 5 i0 (.int .u8 0) 1 1 Try.underlying36 hi hz0 hz1 hz2 rfl (by decide) _ 0 [] hs hown a' m cap (vrow P) hx (by rw [length_vrow]; omega) (fun j u hu => Lib.cell?_alloc_some _ (hc j u hu)) (one_vrow P) (by unfold maxLen; omega) (by omega) (by simp) ?_
    intro v' w' ho' hg' _
    exact hK v' w' (by simpa using ho') (hfr.grown hg' (by intro k hk; simp [Value.ownBlock] at hk; omega))

theorem row_src {w : World} {B g n capm : Nat} {P : List Nat} (h : w.ownsRow B 5 1 (.slice (some ⟨g, 0, none⟩) (n + 1) capm) (n + 1) (vrow P ++ [.int .u8 165])) (hn : P.length = n) : Src w (.slice (some ⟨g, 0, none⟩) n capm) P.length (vrow P) := by
  right
  refine ⟨⟨g, 0, none⟩, capm, by rw [hn], length_vrow P, fun j u hu => ?_⟩
  refine h.cells rfl j u ?_
  rw [List.getElem?_append_left]
  · exact hu
  · exact (List.getElem?_eq_some_iff.1 hu).1
/-- one byte of the law's own row is turned: the reader doesn't see it -/
theorem rdy_turn (w0 w : World) (br gm capm m : Nat) (P : List Nat) (t k : Nat) (h : Rdy w0 w br gm capm m P t) (hk : k < m) :
    ∃ x : Nat, x < 256 ∧ w.cell? ⟨gm, k, none⟩ = some (.int .u8 (x : Int)) ∧ w.frozen? ⟨gm, k, none⟩ = false ∧ Rdy w0 (w.setCell ⟨gm, k, none⟩ (.int .u8 (bits .xor .u8 (x : Int) 255))) br gm capm m P t := by
  obtain ⟨g, xs, h1, h2, h3, h4, h5, h6, h7⟩ := h
  have hkx : k < xs.length := by omega
  have hx : xs[k]? = some xs[k] := List.getElem?_eq_getElem hkx
  have hx2 := h7 xs[k] (List.getElem_mem _)
  refine ⟨xs[k], hx2, ?_, h5.frozenAt _, ?_⟩
  · rw [h5.cellAt k (by omega), List.getElem?_append_left (by rw [length_vrow]; exact hkx), getElem?_vrow, hx]; rfl
  · have hlt := (World.ownsRow.lt h5 gm rfl)
    have hf : Fr (fun k => k = gm) w (w.setCell ⟨gm, k, none⟩ (.int .u8 (bits .xor .u8 ((xs[k] : Nat) : Int) 255))) := Fr.setCell (S := fun k => k = gm) (Fr.refl _ w) (.inl rfl) _
    have hv : bits .xor .u8 ((xs[k] : Nat) : Int) 255 = ((xs[k] ^^^ 255 : Nat) : Int) := by
      have := u8_xor_nat xs[k] 255 hx2 (by decide)
      exact this
    have hxl : xs[k] ^^^ 255 < 256 := Nat.xor_lt_two_pow (n := 8) hx2 (by decide)
    refine ⟨g, xs.set k (xs[k] ^^^ 255), h1.keep hf h3 (fun q hq e => h4 (by rw [hq, e])), h2.fresh hf (fun q hq => by subst hq; exact hlt.1), h3, h4, ?_, by rw [List.length_set]; exact h6, ?_⟩
    · have hst := (h5.stored k (.int .u8 (bits .xor .u8 ((xs[k] : Nat) : Int) 255))).1
      rw [List.set_append_left _ _ (by rw [length_vrow]; exact hkx)] at hst
      rw [vrow_set, ← hv]
      exact hst
    · intro y hy
      rcases List.mem_or_eq_of_mem_set hy with hy | hy
      · exact h7 y hy
      · rw [hy]; exact hxl

theorem rdy_last {w0 w : World} {br gm capm m : Nat} {P : List Nat} {t : Nat} (h : Rdy w0 w br gm capm m P t) : w.cell? ⟨gm, m, none⟩ = some (.int .u8 165) := by
  obtain ⟨g, xs, h1, h2, h3, h4, h5, h6, h7⟩ := h
  rw [h5.cellAt m (by omega), List.getElem?_append_right (by rw [length_vrow]; omega), length_vrow, h6]
  simp
theorem left_rdy (w0 w : World) (br gm capm m : Nat) (P : List Nat) (t : Nat) (h : Rdy w0 w br gm capm m P t) :
    Calls Try.prog 21 #[.pointer (some ⟨br, 0, none⟩)] w fun e w' => e = .returned (.int .i64 ((8 * P.length - t : Nat) : Int)) ∧ Fr Nobody w w' := by
  obtain ⟨g, xs, h1, _⟩ := h
  exact left_any _ w br g P t h1
theorem end_rdy (w0 w : World) (br gm capm m : Nat) (P : List Nat) (t : Nat) (h : Rdy w0 w br gm capm m P t) :
    Calls Try.prog 22 #[.pointer (some ⟨br, 0, none⟩)] w fun e w' => e = .returned (.int .i64 (endOf P t)) ∧ Fr Nobody w w' := by
  obtain ⟨g, xs, h1, _⟩ := h
  unfold endOf
  by_cases h8 : 8 ≤ 8 * P.length - t
  · rw [if_pos h8]
    exact end_much _ w br g P t h1 h8
  · rw [if_neg h8]
    by_cases hz : numAt P t (8 * P.length - t) = 0
    · rw [if_pos hz]
      exact end_zero _ w br g P t h1 (by omega) hz
    · rw [if_neg hz]
      exact end_bad _ w br g P t h1 (by omega) hz

set_option maxHeartbeats 4000000 in
set_option maxRecDepth 100000 in
theorem bitsReads_short (w : World) (ao : Option Addr) (len cap : Nat) (a1 : Option Addr) (len1 cap1 : Nat) (P : List Nat) (W : List Int) (hlen : len ≤ 300) (hlc : len ≤ cap) (hmax : len ≤ maxLen) (hn : ao = none → cap = 0) (hPl : P.length = len) (hPa : BytesAt w ao P) (hPb : ∀ x ∈ P, x < 256)
    (hW : Ints .i64 w a1 W) (hWl : W.length = len1) (hmax1 : len1 ≤ maxLen) :
    Calls Try.prog 4 #[.slice ao len cap, .slice a1 len1 cap1] w fun e w' => e = .returned (.bool true) ∧ Fr Nobody w w' := by
  obtain ⟨i0, hi, hz0, hz1, hz2⟩ := info_parts Try.infoB
  unfold maxLen at hmax hmax1
  have HP : Hid (P.length = len ∧ BytesAt w ao P ∧ (∀ x ∈ P, x < 256) ∧ (ao = none → cap = 0)) := ⟨hPl, hPa, hPb, hn⟩
  have HW : Hid (Ints .i64 w a1 W ∧ W.length = len1) := ⟨hW, hWl⟩
  clear hn hPl hPa hPb hW hWl
  go_enter Try.func4, Try.ntmps4
  go_wp2_with fail
  refine (awake1 w).mono ?_
  rintro e w1 ⟨rfl, hf⟩
  have F1 : Hid (Fr Nobody w w1) := hf
  clear hf
  have HS : Hid (Src w1 (.slice ao (len) cap) P.length (vrow P)) := by
    have := (HP.out.2.1.quiet F1.out).src cap HP.out.2.2.2
    rw [HP.out.1] at this ⊢
    exact this
  go_wp2_with (at_builtin; refine copy_bytes rfl _ _ rfl ao (len) cap P HS.out HP.out.1 (by omega) rfl rfl ?_)
  intro v2 w2 ho2 hf2
  have H2 : Hid (w2.ownsRow w.heap.size 5 1 v2 (len) (vrow P) ∧ Fr Nobody w w2) := ⟨row_low ho2 F1.out.size, F1.out.trans hf2⟩
  have hs2 := H2.out.2.size
  clear ho2 hf2 F1 HS
  go_wp2_with (at_builtin; refine wpList_append_own _ rfl _ _ 36 rfl w.heap.size 5 i0 (.int .u8 0) 1 1 Try.underlying36 hi hz0 hz1 hz2 rfl (by decide) _ _ _ rfl (H2.out.1.alloc _) ⟨w2.heap.size, 0, none⟩ 1 1 [.int .u8 165] rfl rfl (cell_one_new _ _ _) (one_int _ _) (by unfold maxLen; omega) (by omega) (by simp; omega) ?_)
  intro v3 w3 ho3 hg3 _
  obtain ⟨gm, capm, hv3, hgm⟩ := row_shape ho3 (by omega)
  subst hv3
  have hcm : len + 1 ≤ capm := row_cap ho3
  have hgs : gm < w3.heap.size := (World.ownsRow.lt ho3 gm rfl).2
  have H3 : Hid (w3.ownsRow w.heap.size 5 1 (.slice (some ⟨gm, 0, none⟩) (len + 1) capm) (len + 1) (vrow P ++ [.int .u8 165]) ∧ Fr Nobody w w3) := ⟨ho3, (H2.out.2.alloc _).grown hg3 (fun k hk => .inr (World.ownsRow.lt H2.out.1 k hk).1)⟩
  clear ho3 hg3 H2 hs2
  go_wp2_with fail
  refine (read_any w.heap.size w3 _ P (row_src H3.out.1 HP.out.1) HP.out.2.2.1 (by rw [HP.out.1]; omega) H3.out.2.size).mono ?_
  rintro e w4 ⟨br, g4, rfl, hb4, hg4, hR4, hf4⟩
  have H4 : Hid (Rdy w w4 br gm capm (len) P 0) := by
    refine ⟨g4, P, hR4, H3.out.2.trans hf4, by omega, ?_, hf4.row H3.out.1 (fun _ _ => id), HP.out.1, HP.out.2.2.1⟩
    intro e; have := hg4 gm e; omega
  clear hb4 hg4 hR4 hf4 H3 hgs
  go_wp2
  go_loopw [35] (fun c wr => ∃ k : Nat, k ≤ len ∧ c = .int .i64 k ∧ Rdy w wr br gm capm (len) P 0) (fun c _ => len - (intOf c).toNat)
  case atStart => exact ⟨0, Nat.zero_le _, rfl, H4.out⟩
  case round =>
    obtain ⟨k, hk, rfl, hR⟩ := hrel
    have HR : Hid (Rdy w wr br gm capm (len) P 0) := hR
    clear hR H4
    by_cases hlt : k < len
    · obtain ⟨x, hx, cx, fx, hnext⟩ := rdy_turn w wr br gm capm (len) P 0 k HR.out hlt
      have HN : Hid _ := hnext
      clear hnext
      go_wp2
      go_roundw
      case rel => exact ⟨k + 1, by omega, by go_num, HN.out⟩
      case measure => simp [intOf]; omega
    · have hd : decide ((k : Int) < ((len : Nat) : Int)) = false := by simp; omega
      have HB : Hid (BytesAt wr ao P) := HP.out.2.1.quiet HR.out.fr
      go_wp2_with fail
      refine (rbits_any wr ao cap (len) P HB.out HP.out.1 HP.out.2.2.1 (by omega)).mono ?_
      rintro e w5 ⟨x5, rfl, hB5, hf5⟩
      have H5 : Hid (Rdy w w5 br gm capm (len) P 0 ∧ Bs w5 x5 ((bitsB P).drop 0)) := ⟨HR.out.quiet hf5, by rw [List.drop_zero]; exact hB5.bs⟩
      clear hB5 hf5 HR HB
      go_wp2
      clear hd
      go_loopw [8, 49] (fun u c wr2 => ∃ j t : Nat, j ≤ len1 ∧ c = .int .i64 j ∧ t ≤ 8 * P.length ∧ Rdy w wr2 br gm capm (len) P t ∧ Bs wr2 u ((bitsB P).drop t)) (fun _ c _ => len1 - (intOf c).toNat)
      case atStart => exact ⟨0, 0, Nat.zero_le _, rfl, Nat.zero_le _, H5.out.1, H5.out.2⟩
      case round =>
        obtain ⟨j, t, hj, rfl, ht, hR, hB⟩ := hrel
        have cl := rdy_last hR
        have HB : Hid (Rdy w _ br gm capm (len) P t ∧ Bs _ _ ((bitsB P).drop t)) := ⟨hR, hB⟩
        have HF : Hid (Fr Nobody w _) := hR.fr
        clear hR hB H5
        by_cases hlt1 : j < len1
        · obtain ⟨n, hx⟩ : ∃ x, W[j]? = some x := ⟨_, List.getElem?_eq_getElem (by rw [HW.out.2]; exact hlt1)⟩
          obtain ⟨g1, o1, hao, cx⟩ : ∃ g o, a1 = some ⟨g, o, none⟩ ∧ World.cell? _ ⟨g, o + j, none⟩ = some (.int .i64 n) := by
            rcases HW.out.1.quiet HF.out with h | ⟨g, o, ha, hc⟩
            · subst h; simp at hx
            · exact ⟨g, o, ha, hc j _ hx⟩
          subst hao
          clear hx
          by_cases h80 : j < 80
          · obtain ⟨vv, c, t', ht', G1, G2⟩ := both_get P t n (by rw [HP.out.1]; omega) ht
            obtain ⟨N, hN⟩ : ∃ N, N = (bitsB P).drop t' := ⟨_, rfl⟩
            have HNN : Hid (N = (bitsB P).drop t') := hN
            rw [← hN] at G1
            have K1 : Hid _ := G1
            have K2 : Hid _ := G2
            have HE : Hid (endOf P t' = rendOf N ∧ N.length = 8 * P.length - t') := ⟨by rw [hN]; exact both_end P t' ht', by rw [hN, List.length_drop, length_bitsB]⟩
            have HT : Hid (t' ≤ 8 * P.length) := ht'
            have hNl : N.length ≤ 100000 := by have := HE.out.2; have := HP.out.1; omega
            clear G1 G2 ht' cl hN
            go_wp2_with fail
            refine (K1.out _ _ HB.out.2).mono ?_
            rintro e w6 ⟨x6, rfl, hB6, hf6⟩
            have H6 : Hid (Rdy w w6 br gm capm (len) P t ∧ Bs w6 x6 N) := ⟨HB.out.1.quiet hf6, hB6⟩
            obtain ⟨ax, cx6, hux⟩ := hB6.shape
            subst hux
            clear hB6 hf6 HB cx HF
            go_wp2_with fail
            refine (K2.out w w6 br gm capm (len) _ _ H6.out.1 H6.out.2).mono ?_
            rintro e w7 ⟨rfl, hR7, hB7⟩
            have H7 : Hid (Rdy w w7 br gm capm (len) P t' ∧ Bs w7 (.slice ax N.length cx6) N) := ⟨hR7, hB7⟩
            clear hR7 hB7 H6 K1 K2
            have t1 : ((vv : Int) != (vv : Int)) = false := by simp
            have t2 : (c != c) = false := by simp
            have t3 : ((N.length : Int) != (N.length : Int)) = false := by simp
            have t4 : ((rendOf N) != (rendOf N)) = false := by simp
            go_wp2_with fail
            refine (left_rdy w w7 br gm capm (len) P t' H7.out.1).mono ?_
            rw [← HE.out.2]
            rintro e w8 ⟨rfl, hf8⟩
            have H8 : Hid (Rdy w w8 br gm capm (len) P t' ∧ Bs w8 (.slice ax N.length cx6) N) := ⟨H7.out.1.quiet hf8, H7.out.2.quiet hf8⟩
            clear hf8 H7
            go_wp2_with fail
            refine (end_rdy w w8 br gm capm (len) P t' H8.out.1).mono ?_
            rw [HE.out.1]
            rintro e w9 ⟨rfl, hf9⟩
            have H9 : Hid (Rdy w w9 br gm capm (len) P t' ∧ Bs w9 (.slice ax N.length cx6) N) := ⟨H8.out.1.quiet hf9, H8.out.2.quiet hf9⟩
            clear hf9 H8
            go_wp2_with fail
            refine (rend_any w9 _ N H9.out.2 (by omega)).mono ?_
            rintro e w10 ⟨rfl, rfl⟩
            have HX : Hid (Rdy w _ br gm capm (len) P t' ∧ Bs _ (.slice ax N.length cx6) ((bitsB P).drop t')) := ⟨H9.out.1, by rw [← HNN.out]; exact H9.out.2⟩
            clear H9
            go_wp2
            go_roundw
            case rel => exact ⟨j + 1, t', by omega, by go_num, HT.out, HX.out.1, HX.out.2⟩
            case measure => simp [intOf]; omega
          · go_wp2
            go_ret
            exact ⟨rfl, HF.out⟩
        · go_wp2
          go_ret
          exact ⟨rfl, HF.out⟩

set_option maxHeartbeats 4000000 in
set_option maxRecDepth 100000 in
theorem bitsReads_long (w : World) (ao : Option Addr) (len cap : Nat) (a1 : Option Addr) (len1 cap1 : Nat) (P : List Nat) (W : List Int) (hlen : 300 < len) (hlc : len ≤ cap) (hmax : len ≤ maxLen) (hn : ao = none → cap = 0) (hPl : P.length = 300) (hPa : BytesAt w ao P) (hPb : ∀ x ∈ P, x < 256)
    (hW : Ints .i64 w a1 W) (hWl : W.length = len1) (hmax1 : len1 ≤ maxLen) :
    Calls Try.prog 4 #[.slice ao len cap, .slice a1 len1 cap1] w fun e w' => e = .returned (.bool true) ∧ Fr Nobody w w' := by
  obtain ⟨i0, hi, hz0, hz1, hz2⟩ := info_parts Try.infoB
  unfold maxLen at hmax hmax1
  have HP : Hid (P.length = 300 ∧ BytesAt w ao P ∧ (∀ x ∈ P, x < 256) ∧ (ao = none → cap = 0)) := ⟨hPl, hPa, hPb, hn⟩
  have HW : Hid (Ints .i64 w a1 W ∧ W.length = len1) := ⟨hW, hWl⟩
  clear hn hPl hPa hPb hW hWl
  go_enter Try.func4, Try.ntmps4
  go_wp2_with fail
  refine (awake1 w).mono ?_
  rintro e w1 ⟨rfl, hf⟩
  have F1 : Hid (Fr Nobody w w1) := hf
  clear hf
  have HS : Hid (Src w1 (.slice ao (300) cap) P.length (vrow P)) := by
    have := (HP.out.2.1.quiet F1.out).src cap HP.out.2.2.2
    rw [HP.out.1] at this ⊢
    exact this
  go_wp2_with (at_builtin; refine copy_bytes rfl _ _ rfl ao (300) cap P HS.out HP.out.1 (by omega) rfl rfl ?_)
  intro v2 w2 ho2 hf2
  have H2 : Hid (w2.ownsRow w.heap.size 5 1 v2 (300) (vrow P) ∧ Fr Nobody w w2) := ⟨row_low ho2 F1.out.size, F1.out.trans hf2⟩
  have hs2 := H2.out.2.size
  clear ho2 hf2 F1 HS
  go_wp2_with (at_builtin; refine wpList_append_own _ rfl _ _ 36 rfl w.heap.size 5 i0 (.int .u8 0) 1 1 Try.underlying36 hi hz0 hz1 hz2 rfl (by decide) _ _ _ rfl (H2.out.1.alloc _) ⟨w2.heap.size, 0, none⟩ 1 1 [.int .u8 165] rfl rfl (cell_one_new _ _ _) (one_int _ _) (by unfold maxLen; omega) (by omega) (by simp; omega) ?_)
  intro v3 w3 ho3 hg3 _
  obtain ⟨gm, capm, hv3, hgm⟩ := row_shape ho3 (by omega)
  subst hv3
  have hcm : 300 + 1 ≤ capm := row_cap ho3
  have hgs : gm < w3.heap.size := (World.ownsRow.lt ho3 gm rfl).2
  have H3 : Hid (w3.ownsRow w.heap.size 5 1 (.slice (some ⟨gm, 0, none⟩) (300 + 1) capm) (300 + 1) (vrow P ++ [.int .u8 165]) ∧ Fr Nobody w w3) := ⟨ho3, (H2.out.2.alloc _).grown hg3 (fun k hk => .inr (World.ownsRow.lt H2.out.1 k hk).1)⟩
  clear ho3 hg3 H2 hs2
  go_wp2_with fail
  refine (read_any w.heap.size w3 _ P (row_src H3.out.1 HP.out.1) HP.out.2.2.1 (by rw [HP.out.1]; omega) H3.out.2.size).mono ?_
  rintro e w4 ⟨br, g4, rfl, hb4, hg4, hR4, hf4⟩
  have H4 : Hid (Rdy w w4 br gm capm (300) P 0) := by
    refine ⟨g4, P, hR4, H3.out.2.trans hf4, by omega, ?_, hf4.row H3.out.1 (fun _ _ => id), HP.out.1, HP.out.2.2.1⟩
    intro e; have := hg4 gm e; omega
  clear hb4 hg4 hR4 hf4 H3 hgs
  go_wp2
  go_loopw [35] (fun c wr => ∃ k : Nat, k ≤ 300 ∧ c = .int .i64 k ∧ Rdy w wr br gm capm (300) P 0) (fun c _ => 300 - (intOf c).toNat)
  case atStart => exact ⟨0, Nat.zero_le _, rfl, H4.out⟩
  case round =>
    obtain ⟨k, hk, rfl, hR⟩ := hrel
    have HR : Hid (Rdy w wr br gm capm (300) P 0) := hR
    clear hR H4
    by_cases hlt : k < 300
    · obtain ⟨x, hx, cx, fx, hnext⟩ := rdy_turn w wr br gm capm (300) P 0 k HR.out hlt
      have HN : Hid _ := hnext
      clear hnext
      go_wp2
      go_roundw
      case rel => exact ⟨k + 1, by omega, by go_num, HN.out⟩
      case measure => simp [intOf]; omega
    · have hd : decide ((k : Int) < ((300 : Nat) : Int)) = false := by simp; omega
      have HB : Hid (BytesAt wr ao P) := HP.out.2.1.quiet HR.out.fr
      go_wp2_with fail
      refine (rbits_any wr ao cap (300) P HB.out HP.out.1 HP.out.2.2.1 (by omega)).mono ?_
      rintro e w5 ⟨x5, rfl, hB5, hf5⟩
      have H5 : Hid (Rdy w w5 br gm capm (300) P 0 ∧ Bs w5 x5 ((bitsB P).drop 0)) := ⟨HR.out.quiet hf5, by rw [List.drop_zero]; exact hB5.bs⟩
      clear hB5 hf5 HR HB
      go_wp2
      clear hd
      go_loopw [8, 49] (fun u c wr2 => ∃ j t : Nat, j ≤ len1 ∧ c = .int .i64 j ∧ t ≤ 8 * P.length ∧ Rdy w wr2 br gm capm (300) P t ∧ Bs wr2 u ((bitsB P).drop t)) (fun _ c _ => len1 - (intOf c).toNat)
      case atStart => exact ⟨0, 0, Nat.zero_le _, rfl, Nat.zero_le _, H5.out.1, H5.out.2⟩
      case round =>
        obtain ⟨j, t, hj, rfl, ht, hR, hB⟩ := hrel
        have cl := rdy_last hR
        have HB : Hid (Rdy w _ br gm capm (300) P t ∧ Bs _ _ ((bitsB P).drop t)) := ⟨hR, hB⟩
        have HF : Hid (Fr Nobody w _) := hR.fr
        clear hR hB H5
        by_cases hlt1 : j < len1
        · obtain ⟨n, hx⟩ : ∃ x, W[j]? = some x := ⟨_, List.getElem?_eq_getElem (by rw [HW.out.2]; exact hlt1)⟩
          obtain ⟨g1, o1, hao, cx⟩ : ∃ g o, a1 = some ⟨g, o, none⟩ ∧ World.cell? _ ⟨g, o + j, none⟩ = some (.int .i64 n) := by
            rcases HW.out.1.quiet HF.out with h | ⟨g, o, ha, hc⟩
            · subst h; simp at hx
            · exact ⟨g, o, ha, hc j _ hx⟩
          subst hao
          clear hx
          by_cases h80 : j < 80
          · obtain ⟨vv, c, t', ht', G1, G2⟩ := both_get P t n (by rw [HP.out.1]; omega) ht
            obtain ⟨N, hN⟩ : ∃ N, N = (bitsB P).drop t' := ⟨_, rfl⟩
            have HNN : Hid (N = (bitsB P).drop t') := hN
            rw [← hN] at G1
            have K1 : Hid _ := G1
            have K2 : Hid _ := G2
            have HE : Hid (endOf P t' = rendOf N ∧ N.length = 8 * P.length - t') := ⟨by rw [hN]; exact both_end P t' ht', by rw [hN, List.length_drop, length_bitsB]⟩
            have HT : Hid (t' ≤ 8 * P.length) := ht'
            have hNl : N.length ≤ 100000 := by have := HE.out.2; have := HP.out.1; omega
            clear G1 G2 ht' cl hN
            go_wp2_with fail
            refine (K1.out _ _ HB.out.2).mono ?_
            rintro e w6 ⟨x6, rfl, hB6, hf6⟩
            have H6 : Hid (Rdy w w6 br gm capm (300) P t ∧ Bs w6 x6 N) := ⟨HB.out.1.quiet hf6, hB6⟩
            obtain ⟨ax, cx6, hux⟩ := hB6.shape
            subst hux
            clear hB6 hf6 HB cx HF
            go_wp2_with fail
            refine (K2.out w w6 br gm capm (300) _ _ H6.out.1 H6.out.2).mono ?_
            rintro e w7 ⟨rfl, hR7, hB7⟩
            have H7 : Hid (Rdy w w7 br gm capm (300) P t' ∧ Bs w7 (.slice ax N.length cx6) N) := ⟨hR7, hB7⟩
            clear hR7 hB7 H6 K1 K2
            have t1 : ((vv : Int) != (vv : Int)) = false := by simp
            have t2 : (c != c) = false := by simp
            have t3 : ((N.length : Int) != (N.length : Int)) = false := by simp
            have t4 : ((rendOf N) != (rendOf N)) = false := by simp
            go_wp2_with fail
            refine (left_rdy w w7 br gm capm (300) P t' H7.out.1).mono ?_
            rw [← HE.out.2]
            rintro e w8 ⟨rfl, hf8⟩
            have H8 : Hid (Rdy w w8 br gm capm (300) P t' ∧ Bs w8 (.slice ax N.length cx6) N) := ⟨H7.out.1.quiet hf8, H7.out.2.quiet hf8⟩
            clear hf8 H7
            go_wp2_with fail
            refine (end_rdy w w8 br gm capm (300) P t' H8.out.1).mono ?_
            rw [HE.out.1]
            rintro e w9 ⟨rfl, hf9⟩
            have H9 : Hid (Rdy w w9 br gm capm (300) P t' ∧ Bs w9 (.slice ax N.length cx6) N) := ⟨H8.out.1.quiet hf9, H8.out.2.quiet hf9⟩
            clear hf9 H8
            go_wp2_with fail
            refine (rend_any w9 _ N H9.out.2 (by omega)).mono ?_
            rintro e w10 ⟨rfl, rfl⟩
            have HX : Hid (Rdy w _ br gm capm (300) P t' ∧ Bs _ (.slice ax N.length cx6) ((bitsB P).drop t')) := ⟨H9.out.1, by rw [← HNN.out]; exact H9.out.2⟩
            clear H9
            go_wp2
            go_roundw
            case rel => exact ⟨j + 1, t', by omega, by go_num, HT.out, HX.out.1, HX.out.2⟩
            case measure => simp [intOf]; omega
          · go_wp2
            go_ret
            exact ⟨rfl, HF.out⟩
        · go_wp2
          go_ret
          exact ⟨rfl, HF.out⟩

theorem bitsReads_walk (w : World) (a0 : Option Addr) (len0 cap0 : Nat) (z0 : List Int) (w0 : IsRow .u8 w a0 len0 cap0 z0) (a1 : Option Addr) (len1 cap1 : Nat) (z1 : List Int) (w1 : IsRow .i64 w a1 len1 cap1 z1) :
    Calls Try.prog 4 #[.slice a0 len0 cap0, .slice a1 len1 cap1] w fun e w' => e = .returned (.bool true) ∧ Below w.heap.size w w' := by
  obtain ⟨hl, hm, hc, hn, hI, hw⟩ := w0.ints
  obtain ⟨hl1, hm1, _, _, hI1, _⟩ := w1.ints
  have hb : ∀ x ∈ z0.take len0, 0 ≤ x ∧ x ≤ 255 := fun x hx => by
    have := hw x hx
    simpa [Lit.wf, IntKind.min, IntKind.max, IntKind.signed, IntKind.bits] using this
  have fin : Calls Try.prog 4 #[.slice a0 len0 cap0, .slice a1 len1 cap1] w fun e w' => e = .returned (.bool true) ∧ Fr Nobody w w' := by
    by_cases h300 : len0 ≤ 300
    · obtain ⟨P, hPl, hPa, hPb⟩ := bytes_of w a0 _ len0 hI hb (by omega)
      exact bitsReads_short w a0 len0 cap0 a1 len1 cap1 P _ h300 hc hm hn hPl hPa hPb hI1 hl1 hm1
    · obtain ⟨P, hPl, hPa, hPb⟩ := bytes_of w a0 _ 300 hI hb (by omega)
      exact bitsReads_long w a0 len0 cap0 a1 len1 cap1 P _ (by omega) hc hm hn hPl hPa hPb hI1 hl1 hm1
  refine fin.mono ?_
  rintro e w' ⟨rfl, hf⟩
  exact ⟨rfl, hf.below (Nat.le_refl _) (fun _ _ => id)⟩

theorem laidOut : laidOutB Try.prog = true := by kernel_rfl

set_option maxRecDepth 100000 in
theorem bitsReads_lifted (os : Os) (started : os.Started) (H : Type) (enc : TypeId × Value → H) :
    ReturnsInHanded {} Try.checked os 4 .any (Rows.bitsReadsSpec.pre6 enc Try.prog Try.f4 Rows.bitsReadsRow.domain false) (Rows.bitsReadsSpec.post enc Try.prog Try.f4 false true false false) := by
  refine returnsInHanded_of_change (C := Try.checked) own started (by kernel_rfl) Try.func4
    (ChangeSpec.witness6 (enc := enc) (C := Try.checked) false ⟨#[], #[.slice none 0 0, .slice none 0 0], []⟩ 8 (by kernel_rfl) (by kernel_rfl) (by kernel_rfl) (by kernel_rfl)) ?_
  intro W base args ds gs before hval0 hW hcnd _
  have hval : ∀ (j : Nat) t v, Try.f4.params[j]? = some t → args[j]? = some v → Value.okWide Try.prog W .any base t v := hval0
  have hW' := hW
  obtain ⟨p, q, hA0, hV, rfl, hfz, hnd⟩ := hW
  have hA : DataW.TrodAll enc Try.prog W 0 (fun _ => true) true Try.f4.params.toList args.toList ds p := hA0
  rw [Try.params4] at hA hval
  obtain ⟨v0, vs0, d0, ds0, p0, q0, hargs, rfl, rfl, h0, r0⟩ := trodAll_cons hA
  obtain ⟨v1, vs1, d1, ds1, p1, q1, rfl, rfl, rfl, h1, r1⟩ := trodAll_cons r0
  obtain ⟨rfl, rfl, rfl⟩ := trodAll_nil r1
  obtain rfl : args = #[v0, v1] := by cases args; simp_all
  obtain ⟨rfl, rfl⟩ := trodVars_none hV
  obtain ⟨a0, len0, cap0, rfl⟩ := okWide_slice Try.underlying36 (hval 0 36 v0 rfl rfl)
  have k0 := h0
  have lt0 : ∀ x ∈ p0, x.block < W.heap.size := by obtain ⟨m, hm⟩ := k0; exact DataW.trod_lt m _ _ _ hm
  obtain ⟨z0, w0⟩ : ∃ zs, IsRow .u8 W a0 len0 cap0 zs := by
    obtain ⟨fuel, hf⟩ := h0
    rcases open_ints Try.underlying36 Try.underlying5 (by kernel_rfl) hf with ⟨hcs, _⟩ | ⟨x, l, c, zs, hcs, _, hl, hm, hz, _, hcell, hwz⟩
    · simp [Value.cells] at hcs
      obtain ⟨rfl, rfl, rfl⟩ := hcs
      exact ⟨[], .inl ⟨rfl, rfl, rfl, rfl⟩⟩
    · simp [Value.cells] at hcs
      obtain ⟨rfl, rfl, rfl⟩ := hcs
      exact ⟨zs, .inr ⟨_, rfl, hl, hm, by simpa using hz, hcell, hwz⟩⟩
  obtain ⟨a1, len1, cap1, rfl⟩ := okWide_slice Try.underlying40 (hval 1 40 v1 rfl rfl)
  have k1 := h1
  have lt1 : ∀ x ∈ p1, x.block < W.heap.size := by obtain ⟨m, hm⟩ := k1; exact DataW.trod_lt m _ _ _ hm
  obtain ⟨z1, w1⟩ : ∃ zs, IsRow .i64 W a1 len1 cap1 zs := by
    obtain ⟨fuel, hf⟩ := h1
    rcases open_ints Try.underlying40 Try.underlying3 (by kernel_rfl) hf with ⟨hcs, _⟩ | ⟨x, l, c, zs, hcs, _, hl, hm, hz, _, hcell, hwz⟩
    · simp [Value.cells] at hcs
      obtain ⟨rfl, rfl, rfl⟩ := hcs
      exact ⟨[], .inl ⟨rfl, rfl, rfl, rfl⟩⟩
    · simp [Value.cells] at hcs
      obtain ⟨rfl, rfl, rfl⟩ := hcs
      exact ⟨zs, .inr ⟨_, rfl, hl, hm, by simpa using hz, hcell, hwz⟩⟩
  clear hA0 hval0
  refine (bitsReads_walk W a0 len0 cap0 z0 w0 a1 len1 cap1 z1 w1).mono fun e W' ⟨he, bel⟩ => ?_
  subst he
  exact ⟨_, rfl, _, _, _, [], _, [], hW', trodAll_mk1 (shut_bool Try.underlying4 _), (trodAll_cons_mk (Below.trod laidOut (by kernel_rfl) (of_decide_eq_true (by kernel_rfl)) k0 bel lt0) (trodAll_cons_mk (Below.trod laidOut (by kernel_rfl) (of_decide_eq_true (by kernel_rfl)) k1 bel lt1) trodAll_mk0)), rfl, bel.frame _, fun h => by cases h⟩

theorem bitsReads_holds : Rows.BitsReadsSaid :=
  OpenClaim.holds_of_wide 4 Try.f4 rfl rfl rfl rfl rfl rfl rfl ⟨rfl, rfl, rfl, rfl, rfl⟩ rfl rfl rfl rfl rfl (by kernel_rfl) Try.func4 (by kernel_rfl)
    (of_decide_eq_true (by kernel_rfl)) (by unfold Func.isWrapper; first | (rw [if_pos (by decide +kernel)]; kernel_rfl) | (rw [if_neg (by decide +kernel)]; exact ⟨rfl, rfl⟩))
    (fun os started H enc _ => bitsReads_lifted os started H enc)


end Go.Proofs.Ytkdodinopehpnaa
