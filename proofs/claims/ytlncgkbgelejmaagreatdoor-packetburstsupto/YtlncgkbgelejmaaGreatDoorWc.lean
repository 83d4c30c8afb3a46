/-
  What add does to a writer.
-/
import Derived.Test.YtlncgkbgelejmaaGreatDoorWb
namespace Go.Proofs.YtlncgkbgelejmaaGreatDoor
open Go.RowKit
set_option linter.unusedVariables false

theorem or_val (x r : Nat) (bit : Bool) (hx : x < 2 ^ r) (hr : r < 8) : bits .or .u8 (x : Int) ((bit.toNat : Int) * 2 ^ r % 256) = ((x + bit.toNat * 2 ^ r : Nat) : Int) := by
  have h256 : 2 ^ r ≤ 128 := by
    have := Nat.pow_le_pow_right (n := 2) (by decide) (show r ≤ 7 by omega)
    simpa using this
  have hm : ((bit.toNat : Int) * 2 ^ r % 256) = ((bit.toNat * 2 ^ r : Nat) : Int) := by
    have hp : ((2 : Int) ^ r) = ((2 ^ r : Nat) : Int) := by simp
    rw [hp]
    cases bit
    · simp
    · simp only [Bool.toNat_true, Nat.one_mul]
      omega
  rw [hm, u8_or_nat x (bit.toNat * 2 ^ r) (by omega) (by cases bit <;> simp; omega)]
  rw [← or_bit x r bit hx, Nat.shiftLeft_eq]

theorem setCell_heap (w : World) (b o : Nat) (cur : Array Value) (t : TypeId) (u : Value) (h : w.heap[b]? = some (.cells cur t (0, 0))) : (w.setCell ⟨b, o, none⟩ u).heap[b]? = some (.cells (cur.setIfInBounds o u) t (0, 0)) :=
  heap_setCell_same w b o cur t u h

theorem add_any (B : Nat) (w : World) (b : Nat) (g : Option Nat) (L : List Bool) (bit : Bool) (k : Int) (hk : k = (bit.toNat : Int)) (h : Wr B w b g L) (hn : L.length < 1048576) :
    Calls Tryz.prog 119 #[.pointer (some ⟨b, 0, none⟩), .int .u8 k] w fun e w' => e = .returned (.tuple #[]) ∧ ∃ g', Wr B w' b g' (L ++ [bit]) ∧ Step w b g w' g' := by
  have hlt := h.lt
  have hne := h.ne
  have hlow := h.low
  have hglow := h.glow
  obtain ⟨v, hb, hown, hv⟩ := h.obj
  have hk0 : 0 ≤ k := by rw [hk]; omega
  have hk1 : k ≤ 1 := by rw [hk]; cases bit <;> simp
  have hcast : ((L.length : Int) + 1) = (((L ++ [bit]).length : Nat) : Int) := by simp
  by_cases hr : L.length % 8 = 0
  · have hnb : nb L.length = L.length / 8 := by unfold nb; omega
    have hnb' : nb (L ++ [bit]).length = L.length / 8 + 1 := by simp [nb]; omega
    rw [hnb] at hown
    refine (add_new0 w b L.length v (vrow (pack L)) k hn (by simp; omega) hk0 hk1 hlt (cell0 hb) (cell1 hb) (froz hb) (froz hb) hown (by rw [hv]; exact hne)).mono ?_
    rintro e w' ⟨rfl, w1, g', cap, ho1, hg1, hgg, rfl⟩
    have hgb : g' ≠ b := by
      rintro rfl
      rcases hgg with hh | hh
      · exact hne (hv.symm.trans hh)
      · omega
    have hblk : w1.heap[b]? = w.heap[b]? := (hg1.block b (by simp; omega) (fun e => hne (by rw [← hv]; exact e.symm))).trans (Below.heap_alloc _ _ _ hlt)
    have hb1 := hblk.trans hb
    have hw2 := setCell_heap w1 b 0 _ _ (.slice (some ⟨g', 0, none⟩) (L.length / 8 + 1) cap) hb1
    have ho2 : (w1.setCell ⟨b, 0, none⟩ (.slice (some ⟨g', 0, none⟩) (L.length / 8 + 1) cap)).ownsRow 0 5 1 (.slice (some ⟨g', 0, none⟩) (L.length / 8 + 1) cap) (L.length / 8 + 1) (vrow (pack L) ++ [.int .u8 0]) :=
      row_setCell ho1 _ _ (by simp [Value.ownBlock]; omega)
    have ho3 := (ho2.stored (L.length / 8) (.int .u8 (bits .or .u8 0 (k * 2 ^ (L.length % 8) % 256)))).1
    have hw3 : ((w1.setCell ⟨b, 0, none⟩ (.slice (some ⟨g', 0, none⟩) (L.length / 8 + 1) cap)).setCell ⟨g', L.length / 8, none⟩ (.int .u8 (bits .or .u8 0 (k * 2 ^ (L.length % 8) % 256)))).heap[b]? = _ :=
      (Below.heap_setCell _ _ _ b (fun e => hgb e.symm)).trans hw2
    have hw4 := setCell_heap _ b 1 _ _ (.int .i64 ((L.length : Int) + 1)) hw3
    have ho4 := row_setCell ho3 ⟨b, 1, none⟩ (.int .i64 ((L.length : Int) + 1)) (by simp [Value.ownBlock]; omega)
    refine ⟨rfl, some g', ⟨hlow, ?_, by simp; omega, ⟨.slice (some ⟨g', 0, none⟩) (L.length / 8 + 1) cap, ?_, ?_, rfl⟩⟩, ⟨?_, ?_⟩⟩
    · intro q hq
      cases hq
      rcases hgg with hh | hh
      · exact hglow _ (hv.symm.trans hh)
      · omega
    · refine hw4.trans ?_
      rw [hcast]; simp
    · rw [hnb', pack_snoc_new L bit hr, vrow_set, vrow_append]
      have hval : bits .or .u8 (0 : Int) (k * 2 ^ (L.length % 8) % 256) = ((bit.toNat * 2 ^ (L.length % 8) : Nat) : Int) := by
        rw [hk]
        have := or_val 0 (L.length % 8) bit (Nat.two_pow_pos _) (by omega)
        simpa using this
      rw [← hval]
      exact ho4
    · refine ((((Fr.refl _ w).alloc _).grown hg1 ?_).setCell (.inl (.inl rfl)) _ |>.setCell ?_ _ |>.setCell (.inl (.inl rfl)) _).drew
      · intro q hq
        left; right; rw [← hv]; exact hq.symm
      · rcases hgg with hh | hh
        · left; right; rw [← hv]; exact hh.symm
        · right; exact Nat.le_of_lt hh
    · rcases hgg with hh | hh
      · left; rw [← hv]; exact hh.symm
      · right; exact ⟨g', rfl, by omega⟩
  · have hnb : nb L.length = L.length / 8 + 1 := by unfold nb; omega
    have hnb' : nb (L ++ [bit]).length = L.length / 8 + 1 := by simp [nb]; omega
    rw [hnb] at hown
    obtain ⟨g', cap, rfl, _⟩ := row_shape hown (by omega)
    have hgb : g' ≠ b := by
      rintro rfl
      exact hne hv.symm
    have hx := byteAt_lt L (L.length / 8)
    have cx : w.cell? ⟨g', L.length / 8, none⟩ = some (.int .u8 (byteAt L (L.length / 8) : Nat)) := by
      rw [hown.cellAt (L.length / 8) (by omega), getElem?_vrow, getElem?_pack, if_pos (by omega)]; rfl
    refine (add_in0 w b g' L.length cap (L.length / 8 + 1) (byteAt L (L.length / 8) : Nat) k hn (by simp; omega) (by omega) (by omega) (by omega) hk0 hk1 (cell0 hb) (cell1 hb) (froz hb) cx (hown.frozenAt _) hgb).mono ?_
    rintro e w' ⟨rfl, rfl⟩
    have ho3 := (hown.stored (L.length / 8) (.int .u8 (bits .or .u8 (byteAt L (L.length / 8) : Nat) (k * 2 ^ (L.length % 8) % 256)))).1
    have hw3 := (Below.heap_setCell w ⟨g', L.length / 8, none⟩ (.int .u8 (bits .or .u8 (byteAt L (L.length / 8) : Nat) (k * 2 ^ (L.length % 8) % 256))) b (fun e => hgb e.symm)).trans hb
    have hw4 := setCell_heap _ b 1 _ _ (.int .i64 ((L.length : Int) + 1)) hw3
    have ho4 := row_setCell ho3 ⟨b, 1, none⟩ (.int .i64 ((L.length : Int) + 1)) (by simp [Value.ownBlock]; omega)
    refine ⟨rfl, g, ⟨hlow, hglow, hne, ⟨.slice (some ⟨g', 0, none⟩) (L.length / 8 + 1) cap, ?_, ?_, hv⟩⟩, ⟨?_, .inl rfl⟩⟩
    · refine hw4.trans ?_
      rw [hcast]; simp
    · rw [hnb', pack_snoc_in L bit hr, vrow_set]
      have hval := or_val (byteAt L (L.length / 8)) (L.length % 8) bit (byteAt_small L) (by omega)
      rw [← hval, ← hk]
      exact ho4
    · refine ((Fr.refl _ w).setCell ?_ _ |>.setCell (.inl (.inl rfl)) _).drew
      left; right; rw [← hv]; rfl

end Go.Proofs.YtlncgkbgelejmaaGreatDoor

