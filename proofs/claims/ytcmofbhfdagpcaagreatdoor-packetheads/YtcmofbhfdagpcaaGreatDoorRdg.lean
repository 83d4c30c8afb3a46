/-
  The document's side of layer 1: lists of bits in memory, and Put on them.
-/
import Derived.Test.YtcmofbhfdagpcaaGreatDoorWg
import Derived.Test.YtcmofbhfdagpcaaGreatDoorNeg
namespace Go.Proofs.YtcmofbhfdagpcaaGreatDoor
open Go.RowKit
set_option linter.unusedVariables false
set_option maxRecDepth 100000

/-- A slice that reads as the bits L: nil, or cells of a row of bools. -/
def Bs (w : World) (v : Value) (L : List Bool) : Prop :=
  (v = .slice none 0 0 ∧ L = []) ∨ ∃ g o cap cur, v = .slice (some ⟨g, o, none⟩) L.length cap ∧ L.length ≤ cap ∧ w.heap[g]? = some (.cells cur 4 (0, 0)) ∧ ∀ j u, (brow L)[j]? = some u → cur[o + j]? = some u

theorem Bs.src {w : World} {v : Value} {L : List Bool} (h : Bs w v L) : Src w v L.length (brow L) := by
  rcases h with ⟨rfl, rfl⟩ | ⟨g, o, cap, cur, rfl, _, hg, hc⟩
  · left; exact ⟨rfl, rfl, rfl⟩
  · right
    refine ⟨_, _, rfl, length_brow L, fun j u hu => ?_⟩
    rw [addr_add, cell_of_row w g _ cur 4 (0, 0) hg]
    exact hc j u hu
theorem Bs.of_row {w : World} {v : Value} {L : List Bool} (h : w.ownsRow 0 4 1 v L.length (brow L)) : Bs w v L := by
  rcases h.2 with ⟨rfl, h0⟩ | ⟨g, cap, cur, rfl, _, hg, hn, _, hs, ht⟩
  · left; exact ⟨rfl, List.eq_nil_of_length_eq_zero h0⟩
  · right
    refine ⟨g, 0, cap, cur, rfl, hn, hg, fun j u hu => ?_⟩
    rw [← ht, List.getElem?_take] at hu
    split at hu
    · simpa using hu
    · cases hu
/-- It stays while only other blocks turn. -/
theorem Bs.keep {S : Nat → Prop} {w w' : World} {v : Value} {L : List Bool} (h : Bs w v L) (hf : Fr S w w') (hs : ∀ k cur, w.heap[k]? = some (.cells cur 4 (0, 0)) → ¬ S k) : Bs w' v L := by
  rcases h with hn | ⟨g, o, cap, cur, rfl, hn, hg, hc⟩
  · exact .inl hn
  · refine .inr ⟨g, o, cap, cur, rfl, hn, ?_, hc⟩
    rw [hf.block g (Array.getElem?_eq_some_iff.1 hg).1 (hs g cur hg)]
    exact hg
theorem Bs.quiet {w w' : World} {v : Value} {L : List Bool} (h : Bs w v L) (hf : Fr Nobody w w') : Bs w' v L := h.keep hf (fun _ _ _ => id)
/-- No block of a writer is a row of bools. -/
theorem Wr.apart {B : Nat} {w : World} {b : Nat} {g : Option Nat} {M : List Bool} (h : Wr B w b g M) : ∀ k cur, w.heap[k]? = some (.cells cur 4 (0, 0)) → ¬ At b g k := by
  obtain ⟨v, hb, ho, hv⟩ := h.obj
  rintro k cur hk (e | e)
  · subst e; rw [hb] at hk; simp at hk
  · rcases ho.2 with ⟨rfl, _⟩ | ⟨g', cap, cur', rfl, _, hg, _⟩
    · rw [← hv] at e; simp [Value.ownBlock] at e
    · rw [← hv] at e
      simp [Value.ownBlock] at e
      subst e
      rw [hg] at hk; simp at hk
theorem Rd.apart {B : Nat} {w : World} {b : Nat} {g : Option Nat} {P : List Nat} {t : Nat} (h : Rd B w b g P t) : ∀ k cur, w.heap[k]? = some (.cells cur 4 (0, 0)) → ¬ At b g k := by
  obtain ⟨v, hb, ho, hv⟩ := h.obj
  rintro k cur hk (e | e)
  · subst e; rw [hb] at hk; simp at hk
  · rcases ho.2 with ⟨rfl, _⟩ | ⟨g', cap, cur', rfl, _, hg, _⟩
    · rw [← hv] at e; simp [Value.ownBlock] at e
    · rw [← hv] at e
      simp [Value.ownBlock] at e
      subst e
      rw [hg] at hk; simp at hk

/-- A slice of bools of the call's own, from block B on. -/
def Bo (B : Nat) (w : World) (v : Value) (L : List Bool) : Prop := w.ownsRow B 4 1 v L.length (brow L)
theorem row_low {w : World} {B B' : Nat} {e : TypeId} {size n : Nat} {v : Value} {xs : List Value} (h : w.ownsRow B e size v n xs) (hB : B' ≤ B) : w.ownsRow B' e size v n xs := by
  refine ⟨h.1, ?_⟩
  rcases h.2 with hn | ⟨g, cap, cur, rfl, hb, rest⟩
  · exact .inl hn
  · exact .inr ⟨g, cap, cur, rfl, Nat.le_trans hB hb, rest⟩
theorem Bo.low {B B' : Nat} {w : World} {v : Value} {L : List Bool} (h : Bo B w v L) (hB : B' ≤ B) : Bo B' w v L := row_low h hB
theorem Bo.bs {B : Nat} {w : World} {v : Value} {L : List Bool} (h : Bo B w v L) : Bs w v L := Bs.of_row (row_low h (Nat.zero_le _))
theorem Bo.keep {S : Nat → Prop} {B : Nat} {w w' : World} {v : Value} {L : List Bool} (h : Bo B w v L) (hf : Fr S w w') (hs : ∀ k cur, w.heap[k]? = some (.cells cur 4 (0, 0)) → ¬ S k) : Bo B w' v L := by
  refine hf.row h (fun k hk => ?_)
  rcases h.2 with ⟨rfl, _⟩ | ⟨g, cap, cur, rfl, _, hg, _⟩
  · simp [Value.ownBlock] at hk
  · simp [Value.ownBlock] at hk
    subst hk
    exact hs _ cur hg
theorem Bo.quiet {B : Nat} {w w' : World} {v : Value} {L : List Bool} (h : Bo B w v L) (hf : Fr Nobody w w') : Bo B w' v L := h.keep hf (fun _ _ _ => id)
theorem Bo.nil (B : Nat) (w : World) : Bo B w (.slice none 0 0) [] := World.ownsRow_nil _ _ _ _

/-- the copy that Put begins with, as a fact on lists of operations -/
theorem copy_bools {w : World} {ops : Array Oper} {rest : List Oper} {o : Oper} {a : Act} {Q : Exit → Act → World → Prop} (hgd : o.guard = none) (s x : Operand)
    (ho : o.op = .call { callee := .builtin .append, args := #[s, x], argTypes := #[118, 118] }) (v : Value) (L : List Bool) (h : Bs w v L) (hL : L.length ≤ 100000000)
    (hs : a.eval s = .slice (some ⟨w.heap.size, 0, none⟩) 0 0) (hx : a.eval x = v)
    (hK : ∀ v' w', w'.ownsRow w.heap.size 4 1 v' L.length (brow L) → Fr Nobody w w' → v' ≠ .slice none 0 0 → wpList Tryz.prog ops Q rest (a.put o.dst v') w') :
    wpList Tryz.prog ops Q (o :: rest) a (w.alloc (.cells #[] 4)) := by
  obtain ⟨i0, hi, hz0, hz1, hz2⟩ := info_parts Tryz.infoBool
  have hown := World.ownsRow_made (e := 4) (size := 1) (base := w.heap.size) w #[] 0 (Nat.le_refl _) (Nat.zero_le _) rfl
  have hfr : Fr Nobody w (w.alloc (.cells #[] 4)) := (Fr.refl _ w).alloc _
  rcases h with ⟨rfl, rfl⟩ | ⟨g, off, cap, cur, rfl, hn, hg, hc⟩
  · refine wpList_plain hgd fun K hK' => ?_
    have hr := run_append_owned_none (P := Tryz.prog) (w.alloc (.cells #[] 4)) w.heap.size 118 o.type 4 i0 1 Tryz.underlying118 hi _ 0 [] hown
    unfold Oper.wp
    simp [execOp, ho, resolve, invoke, builtin, hs, hx, hr, Result.andThen]
    exact hK' _ _ (hK _ _ hown hfr (by simp))
  · refine wpList_append_own (w.alloc (.cells #[] 4)) hgd s x 118 ho w.heap.size 4 i0 (.bool false) 1 1 Tryz.underlying118 hi hz0 hz1 hz2 rfl (by decide) _ 0 [] hs hown ⟨g, off, none⟩ L.length cap (brow L) hx (by rw [length_brow]; omega) ?_ (one_brow L) (by unfold maxLen; omega) (by omega) (by simp) ?_
    · intro j u hu
      refine Lib.cell?_alloc_some _ ?_
      rw [addr_add, cell_of_row w g _ cur 4 (0, 0) hg]
      exact hc j u hu
    · intro v' w' ho' hg' hnil
      refine hK v' w' (by simpa using ho') (hfr.grown hg' (by intro k hk; simp [Value.ownBlock] at hk; omega)) ?_
      intro e
      exact absurd (hnil.1 e).1 (by simp)

/-- what Put of the document makes of a list -/
def rputL (L : List Bool) (x n : Nat) : List Bool := if x / 2 ^ n = 0 ∧ L.length + n ≤ 1048576 then L ++ bitsN n x else L
def rputE (L : List Bool) (x n : Nat) : Int := if x / 2 ^ n = 0 then (if L.length + n ≤ 1048576 then 0 else 3) else 5

/-- what stands behind Put: a new list, or the old one -/
def RPut (w w' : World) (v v' : Value) (M : List Bool) (c : Int) : Prop := ((c = 0 ∧ Bo w.heap.size w' v' M) ∨ (c ≠ 0 ∧ v' = v)) ∧ Fr Nobody w w'
theorem half_pow (x k : Nat) : x / 2 ^ k / 2 = x / 2 ^ (k + 1) := by rw [Nat.div_div_eq_div_mul, ← Nat.pow_succ]

theorem rputL_same (L : List Bool) (x n : Nat) (h : rputE L x n ≠ 0) : rputL L x n = L := by
  unfold rputE at h
  unfold rputL
  by_cases c1 : x / 2 ^ n = 0
  · by_cases c2 : L.length + n ≤ 1048576
    · simp [c1, c2] at h
    · rw [if_neg (fun hh => c2 hh.2)]
  · rw [if_neg (fun hh => c1 hh.1)]
end Go.Proofs.YtcmofbhfdagpcaaGreatDoor


/-
  The document's side of layer 1: Bytes.
-/
namespace Go.Proofs.YtcmofbhfdagpcaaGreatDoor
open Go.RowKit
set_option linter.unusedVariables false
set_option maxRecDepth 100000

/-- the bytes behind k bits, as many as n bits want -/
def packTo (L : List Bool) (n k : Nat) : List Nat := (List.range (nb n)).map (byteAt (L.take k))
theorem packTo_zero (L : List Bool) (n : Nat) : packTo L n 0 = List.replicate (nb n) 0 := by
  apply List.ext_getElem?
  intro i
  simp only [packTo, List.getElem?_map, List.take_zero, List.getElem?_replicate]
  by_cases h : i < nb n
  · rw [List.getElem?_range h, if_pos h]
    simp [byteAt, bt]
  · rw [List.getElem?_eq_none (by simp; omega), if_neg h]; rfl
theorem packTo_all (L : List Bool) : packTo L L.length L.length = pack L := by simp [packTo, pack]
theorem length_packTo (L : List Bool) (n k : Nat) : (packTo L n k).length = nb n := by simp [packTo]
theorem getElem?_packTo (L : List Bool) (n k i : Nat) : (packTo L n k)[i]? = if i < nb n then some (byteAt (L.take k) i) else none := by
  unfold packTo
  by_cases h : i < nb n
  · rw [if_pos h, List.getElem?_map, List.getElem?_range h]; rfl
  · rw [if_neg h, List.getElem?_eq_none (by simp; omega)]
theorem packTo_succ (L : List Bool) (n k : Nat) (b : Bool) (hk : L[k]? = some b) (hn : k < n) (hl : k < L.length) :
    packTo L n (k + 1) = (packTo L n k).set (k / 8) (byteAt (L.take k) (k / 8) + b.toNat * 2 ^ (k % 8)) := by
  have hlen : (L.take k).length = k := by rw [List.length_take]; omega
  have e : L.take (k + 1) = L.take k ++ [b] := by rw [List.take_add_one, hk]; rfl
  apply List.ext_getElem?
  intro i
  rw [getElem?_packTo, List.getElem?_set, length_packTo, getElem?_packTo, e, byteAt_snoc, hlen]
  have hq : k / 8 < nb n := by unfold nb; omega
  by_cases hi : i = k / 8
  · subst hi; rw [if_pos hq, if_pos rfl, if_pos rfl, if_pos hq]
  · rw [if_neg hi, if_neg (show ¬ k / 8 = i from fun e => hi e.symm)]
theorem packTo_false (L : List Bool) (n k : Nat) (hk : L[k]? = some false) (hl : k < L.length) : packTo L n (k + 1) = packTo L n k := by
  have hlen : (L.take k).length = k := by rw [List.length_take]; omega
  have e : L.take (k + 1) = L.take k ++ [false] := by rw [List.take_add_one, hk]; rfl
  apply List.ext_getElem?
  intro i
  rw [getElem?_packTo, getElem?_packTo, e, byteAt_snoc]
  simp
theorem byte_small (L : List Bool) (k : Nat) (hl : k ≤ L.length) : byteAt (L.take k) (k / 8) < 2 ^ (k % 8) := by
  have hlen : (L.take k).length = k := by rw [List.length_take]; omega
  have h := byteAt_small (L.take k)
  rw [hlen] at h
  exact h

theorem plus_bit (x r : Nat) (hx : x < 2 ^ r) (hr : r < 8) : (((x : Int) + 2 ^ r) % 256) = ((x + true.toNat * 2 ^ r : Nat) : Int) := by
  have h256 : 2 ^ r ≤ 128 := by
    have := Nat.pow_le_pow_right (n := 2) (by decide) (show r ≤ 7 by omega)
    simpa using this
  have hp : ((2 : Int) ^ r) = ((2 ^ r : Nat) : Int) := by simp
  rw [hp]
  simp only [Bool.toNat_true, Nat.one_mul]
  omega
theorem made_bytes (w : World) (L : List Bool) (n : Nat) (hn : n = nb L.length) (hL : L.length ≤ 100000000) :
    (w.alloc (.cells (madeCells #[.int .u8 0] n) 5)).ownsRow w.heap.size 5 1 (.slice (some ⟨w.heap.size, 0, none⟩) n n) n (vrow (packTo L L.length 0)) := by
  have hn8 : n ≤ 100000000 := by rw [hn]; unfold nb; omega
  have hr := World.ownsRow_lit (base := w.heap.size) (e := 5) (size := 1) w (madeCells #[.int .u8 0] n) n (Nat.le_refl _) (by unfold maxLen; omega) (by simp [size_madeCells])
  have e : (madeCells #[.int .u8 0] n).toList = vrow (packTo L L.length 0) := by
    rw [toList_madeCells_one, packTo_zero, ← hn]; simp [vrow]
  rw [e] at hr
  exact hr
theorem make_bytes (n : Nat) (hn : n ≤ 100000000) (u : World) : (Instr.makeSlice 26 (.int .i64 (n : Int)) (.int .i64 (n : Int))).run Tryz.prog u =
      .ok (.slice (some ⟨u.heap.size, 0, none⟩) n n) (u.alloc (.cells (madeCells #[.int .u8 0] n) 5)) := by
  obtain ⟨i0, hi, hz0, hz1, hz2⟩ := info_parts Tryz.infoB
  have h := run_make (P := Tryz.prog) u 26 5 i0 (.int .u8 0) Tryz.underlying26 hi hz0 .i64 .i64 (n : Int) (n : Int) (by omega) (Int.le_refl _) (by rw [hz2]; omega) (by omega)
  simpa [hz1, Value.cells] using h

/-- what stands behind Bytes -/
def Packed (w w' : World) (v' : Value) (L : List Bool) : Prop := w'.ownsRow 0 5 1 v' (nb L.length) (vrow (pack L)) ∧ Fr Nobody w w' ∧ (∀ k, v'.ownBlock = some k → w.heap.size ≤ k)

end Go.Proofs.YtcmofbhfdagpcaaGreatDoor


/-
  Slices that came in; a writer and a list side by side; what 'written' of the laws makes.
-/
namespace Go.Proofs.YtcmofbhfdagpcaaGreatDoor
open Go.RowKit
set_option linter.unusedVariables false
set_option maxRecDepth 100000

/-- WHAT A WALK IS TOLD OF A SLICE OF INTEGERS THAT CAME IN (as the guide's shell has it). -/
def IsRow (k : IntKind) (w : World) (a : Option Addr) (len cap : Nat) (zs : List Int) : Prop :=
  (a = none ∧ len = 0 ∧ cap = 0 ∧ zs = []) ∨
  ∃ x, a = some x ∧ len ≤ cap ∧ cap ≤ maxLen ∧ zs.length = cap ∧ (∀ i, i < zs.length → w.cell? (x.add i) = some (.int k (zs.getD i 0))) ∧ ∀ n ∈ zs, (Lit.int k n).wf = true

/-- The numbers P of a slice of integers of kind k: nothing is asked of its address where there are none. -/
def Ints (k : IntKind) (w : World) (ao : Option Addr) (P : List Int) : Prop :=
  P = [] ∨ ∃ g o, ao = some ⟨g, o, none⟩ ∧ ∀ j x, P[j]? = some x → w.cell? ⟨g, o + j, none⟩ = some (.int k x)
theorem Ints.quiet {k : IntKind} {w w' : World} {ao : Option Addr} {P : List Int} (h : Ints k w ao P) (hf : Fr Nobody w w') : Ints k w' ao P := by
  rcases h with h | ⟨g, o, ha, hc⟩
  · exact .inl h
  · refine .inr ⟨g, o, ha, fun j x hx => ?_⟩
    have h1 := hc j x hx
    exact (hf.cell (p := ⟨g, o + j, none⟩) (World.block_lt_of_cell? w _ h1) id).trans h1
theorem IsRow.ints {k : IntKind} {w : World} {a : Option Addr} {len cap : Nat} {zs : List Int} (h : IsRow k w a len cap zs) : (zs.take len).length = len ∧ len ≤ maxLen ∧ Ints k w a (zs.take len) ∧ ∀ n ∈ zs.take len, (Lit.int k n).wf = true := by
  rcases h with ⟨rfl, rfl, rfl, rfl⟩ | ⟨x, rfl, hl, hm, hz, hc, hw⟩
  · exact ⟨rfl, Nat.zero_le _, .inl rfl, fun n hn => by simp at hn⟩
  · refine ⟨by rw [List.length_take]; omega, by omega, ?_, fun n hn => hw n (List.mem_of_mem_take hn)⟩
    by_cases h0 : len = 0
    · subst h0; left; simp
    · right
      obtain ⟨g, o, spot⟩ := x
      have h1 := hc 0 (by omega)
      have hs : spot = none := by simpa [Addr.add] using World.cell?_spot h1
      subst hs
      refine ⟨g, o, rfl, fun j y hy => ?_⟩
      rw [List.getElem?_take] at hy
      split at hy
      · rename_i hj
        have h2 := hc j (by omega)
        rw [addr_add] at h2
        rw [h2]
        rw [List.getD_eq_getElem?_getD, hy]; rfl
      · cases hy

/-- A writer and a list of bits, both of the same bits. -/
def Both (w0 w : World) (b : Nat) (v : Value) (L : List Bool) : Prop := Ow w0 w b L ∧ Bo w0.heap.size w v L
theorem Ow.apart {w0 w : World} {b : Nat} {M : List Bool} (h : Ow w0 w b M) : ∃ g, Wr w0.heap.size w b g M ∧ ∀ k cur, w.heap[k]? = some (.cells cur 4 (0, 0)) → ¬ At b g k := by
  obtain ⟨g, hW, _⟩ := h
  exact ⟨g, hW, hW.apart⟩
theorem Both.fr {w0 w : World} {b : Nat} {v : Value} {L : List Bool} (h : Both w0 w b v L) : Fr Nobody w0 w := h.1.fr
/-- Put into the writer; the list stays -/
theorem put_keep (w0 w : World) (b : Nat) (v : Value) (L M : List Bool) (x n : Nat) (h : Ow w0 w b L) (hb : Bo w0.heap.size w v M) (hn : n ≤ 64) (hv : x < 2 ^ n) (hv2 : x < 18446744073709551616) (hl : L.length + n ≤ 1048576) :
    Calls Tryz.prog 46 #[.pointer (some ⟨b, 0, none⟩), .int .u64 x, .int .i64 n] w fun e w' => e = .returned (.int .i64 0) ∧ Ow w0 w' b (L ++ bitsN n x) ∧ Bo w0.heap.size w' v M := by
  obtain ⟨g, hW, hF⟩ := h
  refine (put_ok _ w b g L x n hW hn hv hv2 hl).mono ?_
  rintro e w' ⟨rfl, g', hW', hS⟩
  exact ⟨rfl, ⟨g', hW', hF.fresh hS.fr hW.lowAt⟩, hb.keep hS.fr hW.apart⟩
end Go.Proofs.YtcmofbhfdagpcaaGreatDoor


/-
  The document's side of layer 2: Width and In; appending one list of bits to another.
-/
namespace Go.Proofs.YtcmofbhfdagpcaaGreatDoor
open Go.RowKit
set_option linter.unusedVariables false
set_option maxRecDepth 100000

theorem bitLen0 : Lib.bitLen 0 = 0 := by decide +kernel

/-- 'l = append(l, in...)', both lists of bits -/
theorem append_bits {w : World} {ops : Array Oper} {rest : List Oper} {o : Oper} {a : Act} {Q : Exit → Act → World → Prop} (hgd : o.guard = none) (s x : Operand)
    (ho : o.op = .call { callee := .builtin .append, args := #[s, x], argTypes := #[118, 118] }) (B : Nat) (v u : Value) (L M : List Bool) (h : Bo B w v L) (hM : Bs w u M) (hL : L.length ≤ 100000000) (hM2 : M.length ≤ 100000000) (hB : B ≤ w.heap.size)
    (hs : a.eval s = v) (hx : a.eval x = u)
    (hK : ∀ v' w', Bo B w' v' (L ++ M) → w.grownBy w' v.ownBlock → wpList Tryz.prog ops Q rest (a.put o.dst v') w') :
    wpList Tryz.prog ops Q (o :: rest) a w := by
  obtain ⟨i0, hi, hz0, hz1, hz2⟩ := info_parts Tryz.infoBool
  rcases hM with ⟨rfl, rfl⟩ | ⟨g, off, cap, cur, rfl, hn, hg, hc⟩
  · refine wpList_plain hgd fun K hK' => ?_
    have hr := run_append_owned_none (P := Tryz.prog) w B 118 o.type 4 i0 1 Tryz.underlying118 hi v L.length (brow L) h
    unfold Oper.wp
    simp [execOp, ho, resolve, invoke, builtin, hs, hx, hr, Result.andThen]
    exact hK' _ _ (hK v w (by simpa using h) ⟨rfl, rfl, rfl, Nat.le_refl _, fun _ _ _ => rfl⟩)
  · refine wpList_append_own w hgd s x 118 ho B 4 i0 (.bool false) 1 1 Tryz.underlying118 hi hz0 hz1 hz2 rfl (by decide) v L.length (brow L) hs h ⟨g, off, none⟩ M.length cap (brow M) hx (by rw [length_brow]; omega) ?_ (one_brow M) (by unfold maxLen; omega) (by omega) hB ?_
    · intro j u hu
      rw [addr_add, cell_of_row w g _ cur 4 (0, 0) hg]
      exact hc j u hu
    · intro v' w' ho' hg' _
      refine hK v' w' ?_ hg'
      unfold Bo
      rw [brow_append, List.length_append]
      exact ho'
/-- a list's row turns: a writer stays -/
theorem Ow.grown {w0 w w' : World} {b : Nat} {M L : List Bool} {v : Value} (h : Ow w0 w b M) (hv : Bo w0.heap.size w v L) (hg : w.grownBy w' v.ownBlock) : Ow w0 w' b M := by
  obtain ⟨g, hW, hF⟩ := h
  have hfr : Fr (fun k => v.ownBlock = some k) w w' := Fr.grown (S := fun k => v.ownBlock = some k) (Fr.refl _ w) hg (fun k hk => .inl hk)
  have hap : ∀ k, At b g k → ¬ v.ownBlock = some k := by
    intro k hk e
    rcases hv.2 with ⟨rfl, _⟩ | ⟨g', cap, cur, rfl, _, hgg, _⟩
    · simp [Value.ownBlock] at e
    · simp [Value.ownBlock] at e
      subst e
      exact hW.apart _ cur hgg hk
  refine ⟨g, hW.keep hfr (hap b (.inl rfl)) (fun k hk => hap k (.inr hk.symm)), hF.fresh hfr (fun k hk => (World.ownsRow.lt hv k hk).1)⟩

end Go.Proofs.YtcmofbhfdagpcaaGreatDoor

