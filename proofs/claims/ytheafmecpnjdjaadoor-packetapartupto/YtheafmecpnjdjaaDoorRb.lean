/-
  The document's side of layer 1: Bytes.
-/
import Derived.Test.YtheafmecpnjdjaaDoorRa
namespace Go.Proofs.YtheafmecpnjdjaaDoor
open Go.RowKit
set_option linter.unusedVariables false
set_option maxRecDepth 100000

/-- the bytes behind k bits, as many as n bits want -/
def packTo (L : List Bool) (n k : Nat) : List Nat := (List.range (nb n)).map (byteAt (L.take k))
theorem packTo_zero (L : List Bool) (n : Nat) : packTo L n 0 = List.replicate (nb n) 0 := by
  apply List.ext_getElem?
  intro i
  simp only [packTo, List.getElem?_map, List.take_zero, List.getElem?_replicate]
  by_cases h : i < nb n
  · rw [List.getElem?_range h, if_pos h]
    simp [byteAt, bt]
  · rw [List.getElem?_eq_none (by simp; omega), if_neg h]; rfl
theorem packTo_all (L : List Bool) : packTo L L.length L.length = pack L := by simp [packTo, pack]
theorem length_packTo (L : List Bool) (n k : Nat) : (packTo L n k).length = nb n := by simp [packTo]
theorem getElem?_packTo (L : List Bool) (n k i : Nat) : (packTo L n k)[i]? = if i < nb n then some (byteAt (L.take k) i) else none := by
  unfold packTo
  by_cases h : i < nb n
  · rw [if_pos h, List.getElem?_map, List.getElem?_range h]; rfl
  · rw [if_neg h, List.getElem?_eq_none (by simp; omega)]
theorem packTo_succ (L : List Bool) (n k : Nat) (b : Bool) (hk : L[k]? = some b) (hn : k < n) (hl : k < L.length) :
    packTo L n (k + 1) = (packTo L n k).set (k / 8) (byteAt (L.take k) (k / 8) + b.toNat * 2 ^ (k % 8)) := by
  have hlen : (L.take k).length = k := by rw [List.length_take]; omega
  have e : L.take (k + 1) = L.take k ++ [b] := by rw [List.take_add_one, hk]; rfl
  apply List.ext_getElem?
  intro i
  rw [getElem?_packTo, List.getElem?_set, length_packTo, getElem?_packTo, e, byteAt_snoc, hlen]
  have hq : k / 8 < nb n := by unfold nb; omega
  by_cases hi : i = k / 8
  · subst hi; rw [if_pos hq, if_pos rfl, if_pos rfl, if_pos hq]
  · rw [if_neg hi, if_neg (show ¬ k / 8 = i from fun e => hi e.symm)]
theorem packTo_false (L : List Bool) (n k : Nat) (hk : L[k]? = some false) (hl : k < L.length) : packTo L n (k + 1) = packTo L n k := by
  have hlen : (L.take k).length = k := by rw [List.length_take]; omega
  have e : L.take (k + 1) = L.take k ++ [false] := by rw [List.take_add_one, hk]; rfl
  apply List.ext_getElem?
  intro i
  rw [getElem?_packTo, getElem?_packTo, e, byteAt_snoc]
  simp
theorem byte_small (L : List Bool) (k : Nat) (hl : k ≤ L.length) : byteAt (L.take k) (k / 8) < 2 ^ (k % 8) := by
  have hlen : (L.take k).length = k := by rw [List.length_take]; omega
  have h := byteAt_small (L.take k)
  rw [hlen] at h
  exact h

theorem plus_bit (x r : Nat) (hx : x < 2 ^ r) (hr : r < 8) : (((x : Int) + 2 ^ r) % 256) = ((x + true.toNat * 2 ^ r : Nat) : Int) := by
  have h256 : 2 ^ r ≤ 128 := by
    have := Nat.pow_le_pow_right (n := 2) (by decide) (show r ≤ 7 by omega)
    simpa using this
  have hp : ((2 : Int) ^ r) = ((2 ^ r : Nat) : Int) := by simp
  rw [hp]
  simp only [Bool.toNat_true, Nat.one_mul]
  omega
theorem made_bytes (w : World) (L : List Bool) (n : Nat) (hn : n = nb L.length) (hL : L.length ≤ 100000000) :
    (w.alloc (.cells (madeCells #[.int .u8 0] n) 5)).ownsRow w.heap.size 5 1 (.slice (some ⟨w.heap.size, 0, none⟩) n n) n (vrow (packTo L L.length 0)) := by
  have hn8 : n ≤ 100000000 := by rw [hn]; unfold nb; omega
  have hr := World.ownsRow_lit (base := w.heap.size) (e := 5) (size := 1) w (madeCells #[.int .u8 0] n) n (Nat.le_refl _) (by unfold maxLen; omega) (by simp [size_madeCells])
  have e : (madeCells #[.int .u8 0] n).toList = vrow (packTo L L.length 0) := by
    rw [toList_madeCells_one, packTo_zero, ← hn]; simp [vrow]
  rw [e] at hr
  exact hr
theorem make_bytes (n : Nat) (hn : n ≤ 100000000) (u : World) : (Instr.makeSlice 29 (.int .i64 (n : Int)) (.int .i64 (n : Int))).run Tryd.prog u =
      .ok (.slice (some ⟨u.heap.size, 0, none⟩) n n) (u.alloc (.cells (madeCells #[.int .u8 0] n) 5)) := by
  obtain ⟨i0, hi, hz0, hz1, hz2⟩ := info_parts Tryd.infoB
  have h := run_make (P := Tryd.prog) u 29 5 i0 (.int .u8 0) Tryd.underlying29 hi hz0 .i64 .i64 (n : Int) (n : Int) (by omega) (Int.le_refl _) (by rw [hz2]; omega) (by omega)
  simpa [hz1, Value.cells] using h

/-- what stands behind Bytes -/
def Packed (w w' : World) (v' : Value) (L : List Bool) : Prop := w'.ownsRow 0 5 1 v' (nb L.length) (vrow (pack L)) ∧ Fr Nobody w w' ∧ (∀ k, v'.ownBlock = some k → w.heap.size ≤ k)

end Go.Proofs.YtheafmecpnjdjaaDoor

