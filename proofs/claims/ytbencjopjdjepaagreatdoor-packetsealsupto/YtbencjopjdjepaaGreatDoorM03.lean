/-
  The walk of add: one bit more behind the bits of a writer.
-/
import Derived.Test.YtbencjopjdjepaaGreatDoorM02
import Derived.Laws.BitsAllLaws
namespace Go.Proofs.YtbencjopjdjepaaGreatDoor
open Go.RowKit
set_option linter.unusedVariables false

set_option maxHeartbeats 400000 in
set_option maxRecDepth 100000 in
theorem add_in0 (w : World) (b g n cap len : Nat) (x bit : Int) (hn : n < 1048576) (hr : ((n : Int) % 8 == 0) = false) (hlen : n / 8 < len) (hx : 0 ≤ x) (hx2 : x ≤ 255) (hb0 : 0 ≤ bit) (hb1 : bit ≤ 1)
    (c0 : w.cell? ⟨b, 0, none⟩ = some (.slice (some ⟨g, 0, none⟩) len cap)) (c1 : w.cell? ⟨b, 1, none⟩ = some (.int .i64 n)) (f1 : w.frozen? ⟨b, 1, none⟩ = false)
    (cx : w.cell? ⟨g, n / 8, none⟩ = some (.int .u8 x)) (fx : w.frozen? ⟨g, n / 8, none⟩ = false) (hgb : g ≠ b) :
    Calls Tryz.prog 169 #[.pointer (some ⟨b, 0, none⟩), .int .u8 bit] w fun e w' => e = .returned (.tuple #[]) ∧
      w' = ((w.setCell ⟨g, n / 8, none⟩ (.int .u8 (bits .or .u8 x (bit * 2 ^ (n % 8) % 256)))).setCell ⟨b, 1, none⟩ (.int .i64 ((n : Int) + 1))).drew := by
  have hi : (n : Int) / 8 < len := by omega
  go_enter Tryz.func169, Tryz.ntmps169
  go_wp2
  go_region
  go_wp2
  go_end0
  exact ⟨rfl, rfl⟩

set_option maxHeartbeats 400000 in
set_option maxRecDepth 100000 in
theorem add_new0 (w : World) (b n : Nat) (v : Value) (xs : List Value) (bit : Int) (hn : n < 1048576) (hr : ((n : Int) % 8 == 0) = true) (hb0 : 0 ≤ bit) (hb1 : bit ≤ 1) (hbl : b < w.heap.size)
    (c0 : w.cell? ⟨b, 0, none⟩ = some v) (c1 : w.cell? ⟨b, 1, none⟩ = some (.int .i64 n)) (f0 : w.frozen? ⟨b, 0, none⟩ = false) (f1 : w.frozen? ⟨b, 1, none⟩ = false)
    (hown : w.ownsRow 0 5 1 v (n / 8) xs) (hvb : v.ownBlock ≠ some b) :
    Calls Tryz.prog 169 #[.pointer (some ⟨b, 0, none⟩), .int .u8 bit] w fun e w' => e = .returned (.tuple #[]) ∧
      ∃ w1 g cap, w1.ownsRow 0 5 1 (.slice (some ⟨g, 0, none⟩) (n / 8 + 1) cap) (n / 8 + 1) (xs ++ [.int .u8 0]) ∧ (w.alloc (.cells #[.int .u8 0] 5)).grownBy w1 v.ownBlock ∧ (v.ownBlock = some g ∨ w.heap.size < g) ∧
      w' = (((w1.setCell ⟨b, 0, none⟩ (.slice (some ⟨g, 0, none⟩) (n / 8 + 1) cap)).setCell ⟨g, n / 8, none⟩ (.int .u8 (bits .or .u8 0 (bit * 2 ^ (n % 8) % 256)))).setCell ⟨b, 1, none⟩ (.int .i64 ((n : Int) + 1))).drew := by
  obtain ⟨i0, hi, hz0, hz1, hz2⟩ := info_parts Tryz.infoB
  go_enter Tryz.func169, Tryz.ntmps169
  go_wp2_with (at_builtin; refine wpList_append_ours _ rfl _ _ 29 rfl 5 i0 (.int .u8 0) 1 1 Tryz.underlying29 hi hz0 hz1 hz2 rfl (by decide) _ _ _ rfl (hown.alloc _) ⟨w.heap.size, 0, none⟩ 1 1 [.int .u8 0] rfl rfl (cell_one_new _ _ _) (one_int _ _) (by decide) (by unfold maxLen; omega) (by omega) ?_)
  intro v' w1 hown' hgrow hnew
  obtain ⟨g, cap, hv', hgg⟩ := hnew
  subst hv'
  have hbl' : b < (w.alloc (.cells #[.int .u8 0] 5)).heap.size := by simp; omega
  have hblk : w1.heap[b]? = w.heap[b]? := (hgrow.block b hbl' (fun e => hvb e.symm)).trans (Below.heap_alloc _ _ _ hbl)
  have k0 : w1.cell? ⟨b, 0, none⟩ = some v := (World.cell?_of_block (w := w) hblk).trans c0
  have k1 : w1.cell? ⟨b, 1, none⟩ = some (.int .i64 n) := (World.cell?_of_block (w := w) hblk).trans c1
  have e0 : w1.frozen? ⟨b, 0, none⟩ = false := (World.frozen?_of_block (w := w) hblk).trans f0
  have e1 : w1.frozen? ⟨b, 1, none⟩ = false := (World.frozen?_of_block (w := w) hblk).trans f1
  have hgb : g ≠ b := by
    rintro rfl
    rcases hgg with h | h
    · exact hvb h
    · simp at h; omega
  have hxl : xs.length = n / 8 := by have := hown.1; omega
  have cx : w1.cell? ⟨g, n / 8, none⟩ = some (.int .u8 0) := by
    rw [hown'.cellAt (n / 8) (by omega), List.getElem?_append_right (by omega), hxl]; simp
  have fx : w1.frozen? ⟨g, n / 8, none⟩ = false := hown'.frozenAt _
  have hi8 : (n : Int) / 8 < ((n / 8 + 1 : Nat) : Int) := by omega
  have hgg2 : v.ownBlock = some g ∨ w.heap.size < g := by
    rcases hgg with h | h
    · exact .inl h
    · right; simp at h; omega
  have H : Hid (w1.ownsRow 0 5 1 (.slice (some ⟨g, 0, none⟩) (n / 8 + 1) cap) (n / 8 + 1) (xs ++ [.int .u8 0]) ∧ (w.alloc (.cells #[.int .u8 0] 5)).grownBy w1 v.ownBlock ∧ (v.ownBlock = some g ∨ w.heap.size < g)) := ⟨hown', hgrow, hgg2⟩
  clear hown' hgrow hgg hgg2 hblk c0 c1 f0 f1 hown hvb hxl hi hz0 hz1 hz2 hbl' hbl
  go_wp2
  go_region
  go_wp2
  go_end0
  exact ⟨rfl, w1, g, cap, H.out.1, H.out.2.1, H.out.2.2, rfl⟩

end Go.Proofs.YtbencjopjdjepaaGreatDoor


