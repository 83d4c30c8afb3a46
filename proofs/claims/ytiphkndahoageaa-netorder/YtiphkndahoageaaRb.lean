/-
  The document's side of layer 1: Bytes.
-/
import Derived.Test.YtiphkndahoageaaRa
namespace Go.Proofs.Ytiphkndahoageaa
open Go.RowKit
set_option linter.unusedVariables false
set_option maxRecDepth 100000

/-- the bytes behind k bits, as many as n bits want -/
def packTo (L : List Bool) (n k : Nat) : List Nat := (List.range (nb n)).map (byteAt (L.take k))
theorem packTo_zero (L : List Bool) (n : Nat) : packTo L n 0 = List.replicate (nb n) 0 := by
  apply List.ext_getElem?
  intro i
  simp only [packTo, List.getElem?_map, List.take_zero, List.getElem?_replicate]
  by_cases h : i < nb n
  · rw [List.getElem?_range h, if_pos h]
    simp [byteAt, bt]
  · rw [List.getElem?_eq_none (by simp; omega), if_neg h]; rfl
theorem packTo_all (L : List Bool) : packTo L L.length L.length = pack L := by simp [packTo, pack]
theorem length_packTo (L : List Bool) (n k : Nat) : (packTo L n k).length = nb n := by simp [packTo]
theorem getElem?_packTo (L : List Bool) (n k i : Nat) : (packTo L n k)[i]? = if i < nb n then some (byteAt (L.take k) i) else none := by
  unfold packTo
  by_cases h : i < nb n
  · rw [if_pos h, List.getElem?_map, List.getElem?_range h]; rfl
  · rw [if_neg h, List.getElem?_eq_none (by simp; omega)]
theorem packTo_succ (L : List Bool) (n k : Nat) (b : Bool) (hk : L[k]? = some b) (hn : k < n) (hl : k < L.length) :
    packTo L n (k + 1) = (packTo L n k).set (k / 8) (byteAt (L.take k) (k / 8) + b.toNat * 2 ^ (k % 8)) := by
  have hlen : (L.take k).length = k := by rw [List.length_take]; omega
  have e : L.take (k + 1) = L.take k ++ [b] := by rw [List.take_add_one, hk]; rfl
  apply List.ext_getElem?
  intro i
  rw [getElem?_packTo, List.getElem?_set, length_packTo, getElem?_packTo, e, byteAt_snoc, hlen]
  have hq : k / 8 < nb n := by unfold nb; omega
  by_cases hi : i = k / 8
  · subst hi; rw [if_pos hq, if_pos rfl, if_pos rfl, if_pos hq]
  · rw [if_neg hi, if_neg (show ¬ k / 8 = i from fun e => hi e.symm)]
theorem packTo_false (L : List Bool) (n k : Nat) (hk : L[k]? = some false) (hl : k < L.length) : packTo L n (k + 1) = packTo L n k := by
  have hlen : (L.take k).length = k := by rw [List.length_take]; omega
  have e : L.take (k + 1) = L.take k ++ [false] := by rw [List.take_add_one, hk]; rfl
  apply List.ext_getElem?
  intro i
  rw [getElem?_packTo, getElem?_packTo, e, byteAt_snoc]
  simp
theorem byte_small (L : List Bool) (k : Nat) (hl : k ≤ L.length) : byteAt (L.take k) (k / 8) < 2 ^ (k % 8) := by
  have hlen : (L.take k).length = k := by rw [List.length_take]; omega
  have h := byteAt_small (L.take k)
  rw [hlen] at h
  exact h

theorem plus_bit (x r : Nat) (hx : x < 2 ^ r) (hr : r < 8) : (((x : Int) + 2 ^ r) % 256) = ((x + true.toNat * 2 ^ r : Nat) : Int) := by
  have h256 : 2 ^ r ≤ 128 := by
    have := Nat.pow_le_pow_right (n := 2) (by decide) (show r ≤ 7 by omega)
    simpa using this
  have hp : ((2 : Int) ^ r) = ((2 ^ r : Nat) : Int) := by simp
  rw [hp]
  simp only [Bool.toNat_true, Nat.one_mul]
  omega
theorem made_bytes (w : World) (L : List Bool) (n : Nat) (hn : n = nb L.length) (hL : L.length ≤ 100000000) :
    (w.alloc (.cells (madeCells #[.int .u8 0] n) 5)).ownsRow w.heap.size 5 1 (.slice (some ⟨w.heap.size, 0, none⟩) n n) n (vrow (packTo L L.length 0)) := by
  have hn8 : n ≤ 100000000 := by rw [hn]; unfold nb; omega
  have hr := World.ownsRow_lit (base := w.heap.size) (e := 5) (size := 1) w (madeCells #[.int .u8 0] n) n (Nat.le_refl _) (by unfold maxLen; omega) (by simp [size_madeCells])
  have e : (madeCells #[.int .u8 0] n).toList = vrow (packTo L L.length 0) := by
    rw [toList_madeCells_one, packTo_zero, ← hn]; simp [vrow]
  rw [e] at hr
  exact hr
theorem make_bytes (n : Nat) (hn : n ≤ 100000000) (u : World) : (Instr.makeSlice 31 (.int .i64 (n : Int)) (.int .i64 (n : Int))).run Try.prog u =
      .ok (.slice (some ⟨u.heap.size, 0, none⟩) n n) (u.alloc (.cells (madeCells #[.int .u8 0] n) 5)) := by
  obtain ⟨i0, hi, hz0, hz1, hz2⟩ := info_parts Try.infoB
  have h := run_make (P := Try.prog) u 31 5 i0 (.int .u8 0) Try.underlying31 hi hz0 .i64 .i64 (n : Int) (n : Int) (by omega) (Int.le_refl _) (by rw [hz2]; omega) (by omega)
  simpa [hz1, Value.cells] using h

/-- what stands behind Bytes -/
def Packed (w w' : World) (v' : Value) (L : List Bool) : Prop := w'.ownsRow 0 5 1 v' (nb L.length) (vrow (pack L)) ∧ Fr Nobody w w' ∧ (∀ k, v'.ownBlock = some k → w.heap.size ≤ k)

set_option maxHeartbeats 1000000 in
theorem rbytes_some (w : World) (g o len cap n : Nat) (cur : Array Value) (L : List Bool) (hlen : L.length = len) (hg : w.heap[g]? = some (.cells cur 4 (0, 0))) (hc : ∀ j u, (brow L)[j]? = some u → cur[o + j]? = some u) (hL : len ≤ 100000000) (hn : n = nb len) :
    Calls Try.prog 29 #[.slice (some ⟨g, o, none⟩) len cap] w fun e w' => ∃ v', e = .returned v' ∧ Packed w w' v' L := by
  have hq : ((len : Int) + 7) / 8 = (n : Int) := by rw [hn]; unfold nb; omega
  have hn8 : n ≤ 100000000 := by rw [hn]; unfold nb; omega
  have hmk := make_bytes n hn8
  have HO : Hid _ := made_bytes w L n (by rw [hn, hlen]) (by omega)
  have hglt : g < w.heap.size := (Array.getElem?_eq_some_iff.1 hg).1
  have HC : Hid (∀ j b, L[j]? = some b → w.cell? ⟨g, o + j, none⟩ = some (.bool b)) := by
    intro j b hb
    rw [cell_of_row w g _ cur 4 (0, 0) hg]
    exact hc j (.bool b) (by simp [brow, hb])
  have HN : Hid (n = nb len ∧ L.length = len) := ⟨hn, hlen⟩
  clear hn hlen hc hg
  go_enter Try.func29, Try.ntmps29
  go_wp2
  clear hmk hq
  go_loopw [13] (fun c wr => ∃ k : Nat, k ≤ len ∧ c = .int .i64 k ∧ wr.ownsRow w.heap.size 5 1 (.slice (some ⟨w.heap.size, 0, none⟩) n n) n (vrow (packTo L L.length k)) ∧ Fr Nobody w wr) (fun c _ => len - (intOf c).toNat)
  case atStart => exact ⟨0, Nat.zero_le _, rfl, HO.out, (Fr.refl _ w).alloc _⟩
  case round =>
    obtain ⟨k, hk, rfl, ho, hf⟩ := hrel
    by_cases hlt : k < len
    · obtain ⟨b, hb⟩ : ∃ b, L[k]? = some b := ⟨_, List.getElem?_eq_getElem (by rw [HN.out.2]; exact hlt)⟩
      have cb : wr.cell? ⟨g, o + k, none⟩ = some (.bool b) := (hf.cell (p := ⟨g, o + k, none⟩) hglt id).trans (HC.out k b hb)
      have HS : Hid _ := packTo_succ L L.length k b hb (by rw [HN.out.2]; exact hlt) (by rw [HN.out.2]; exact hlt)
      have hkn : k / 8 < n := by rw [HN.out.1]; unfold nb; omega
      have hki : (k : Int) / 8 < (n : Int) := by omega
      have cx : wr.cell? ⟨w.heap.size, k / 8, none⟩ = some (.int .u8 ((byteAt (L.take k) (k / 8) : Nat) : Int)) := by
        rw [ho.cellAt (k / 8) (by omega), getElem?_vrow, getElem?_packTo, if_pos (by rw [HN.out.2, ← HN.out.1]; exact hkn)]; rfl
      have fx : wr.frozen? ⟨w.heap.size, k / 8, none⟩ = false := ho.frozenAt _
      have HF : Hid (b = false → packTo L L.length (k + 1) = packTo L L.length k) := by
        intro e; subst e; exact packTo_false L L.length k hb (by rw [HN.out.2]; exact hlt)
      have HX : Hid (byteAt (L.take k) (k / 8) < 2 ^ (k % 8)) := byte_small L k (by rw [HN.out.2]; exact hk)
      have H1 : Hid (wr.ownsRow w.heap.size 5 1 (.slice (some ⟨w.heap.size, 0, none⟩) n n) n (vrow (packTo L L.length k)) ∧ Fr Nobody w wr) := ⟨ho, hf⟩
      generalize byteAt (L.take k) (k / 8) = x at *
      clear ho hf hb HC HO
      cases b
      · have HE : Hid (packTo L L.length (k + 1) = packTo L L.length k) := HF.out rfl
        clear HS HF
        go_wp2
        go_roundw
        case rel => exact ⟨k + 1, by omega, by go_num, by rw [HE.out]; exact H1.out.1, H1.out.2⟩
        case measure => simp [intOf]; omega
      · have H2 : Hid ((wr.setCell ⟨w.heap.size, k / 8, none⟩ (.int .u8 (((x : Int) + 2 ^ (k % 8)) % 256))).ownsRow w.heap.size 5 1 (.slice (some ⟨w.heap.size, 0, none⟩) n n) n (vrow (packTo L L.length (k + 1))) ∧ Fr Nobody w (wr.setCell ⟨w.heap.size, k / 8, none⟩ (.int .u8 (((x : Int) + 2 ^ (k % 8)) % 256)))) := by
          refine ⟨?_, H1.out.2.setCell (.inr (Nat.le_refl _)) _⟩
          rw [HS.out, vrow_set, ← plus_bit x (k % 8) HX.out (by omega)]
          exact (H1.out.1.stored (k / 8) _).1
        clear HS HF H1
        go_wp2
        go_roundw
        case rel => exact ⟨k + 1, by omega, by go_num, H2.out.1, H2.out.2⟩
        case measure => simp [intOf]; omega
    · have e : k = len := by omega
      subst e
      have H3 : Hid (Packed w wr (.slice (some ⟨w.heap.size, 0, none⟩) n n) L) := by
        refine ⟨?_, hf, fun q hq => by simp [Value.ownBlock] at hq; omega⟩
        rw [HN.out.2, ← HN.out.1]
        have e2 := packTo_all L
        rw [HN.out.2] at e2 ho
        rw [← e2]
        exact row_weak ho
      clear ho hf
      go_wp2
      go_ret
      exact ⟨_, rfl, H3.out⟩

set_option maxHeartbeats 1000000 in
theorem rbytes_none (w : World) : Calls Try.prog 29 #[.slice none 0 0] w fun e w' => ∃ v', e = .returned v' ∧ Packed w w' v' [] := by
  have hmk : ∀ u : World, (Instr.makeSlice 31 (.int .i64 0) (.int .i64 0)).run Try.prog u = .ok (.slice (some ⟨u.heap.size, 0, none⟩) 0 0) (u.alloc (.cells (madeCells #[.int .u8 0] 0) 5)) := make_bytes 0 (by decide)
  go_enter Try.func29, Try.ntmps29
  go_wp2
  refine wp_loop_rounds 1 ?_
  rw [rounds_succ]
  go_wp2
  go_ret
  refine ⟨_, rfl, ?_, (Fr.refl _ w).alloc _, fun q hq => by simp [Value.ownBlock] at hq; omega⟩
  exact row_weak (made_bytes w [] 0 rfl (by decide))

theorem rbytes_any (w : World) (v : Value) (L : List Bool) (h : Bs w v L) (hL : L.length ≤ 100000000) :
    Calls Try.prog 29 #[v] w fun e w' => ∃ v', e = .returned v' ∧ Packed w w' v' L := by
  rcases h with ⟨rfl, rfl⟩ | ⟨g, o, cap, cur, rfl, _, hg, hc⟩
  · exact rbytes_none w
  · exact rbytes_some w g o L.length cap (nb L.length) cur L rfl hg hc hL rfl

end Go.Proofs.Ytiphkndahoageaa

