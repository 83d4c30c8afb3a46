/- A law on append for a slice of the call's own: the new value's row is the old one's, or a new block. -/
import Derived.Test.YtgifeckbflkkpaaGreatDoorQr01
import Derived.Laws.BitsAllLaws
import Derived.Laws.BytesString
import Derived.Lib.BitFns
import Derived.Lib.Walk
import Derived.Lib.Small
namespace Go.Proofs.YtgifeckbflkkpaaGreatDoor
open Go.RowKit
set_option linter.unusedVariables false
set_option maxHeartbeats 400000
theorem one_vrow (l : List Nat) : ∀ u ∈ vrow l,u.oneCell' = true := by intro u hu; rw [vrow,List.mem_map] at hu; obtain ⟨x,_,rfl⟩ := hu; rfl
set_option maxRecDepth 100000 in
theorem add_in0 (w : World) (b g n cap len : Nat) (x bit : Int) (hn : n < 1048576) (hr : ((n : Int) % 8 == 0) = false) (hlen : n / 8 < len) (hx : 0 ≤ x) (hx2 : x ≤ 255) (hb0 : 0 ≤ bit) (hb1 : bit ≤ 1)
  (c0 : w.cell? ⟨b,0,none⟩ = some (.slice (some ⟨g,0,none⟩) len cap)) (c1 : w.cell? ⟨b,1,none⟩ = some (.int .i64 n)) (f1 : w.frozen? ⟨b,1,none⟩ = false)
  (cx : w.cell? ⟨g,n / 8,none⟩ = some (.int .u8 x)) (fx : w.frozen? ⟨g,n / 8,none⟩ = false) (hgb : g ≠ b) :
  Calls Tryz.prog 181 #[.pointer (some ⟨b,0,none⟩),.int .u8 bit] w fun e w' => e = .returned (.tuple #[]) ∧
   w' = ((w.setCell ⟨g,n / 8,none⟩ (.int .u8 (bits .or .u8 x (bit * 2 ^ (n % 8) % 256)))).setCell ⟨b,1,none⟩ (.int .i64 ((n : Int) + 1))).drew := by
 have hi : (n : Int) / 8 < len := by omega
 go_enter Tryz.func181,Tryz.ntmps181
 go_wp2
 go_region
 go_wp2
 go_end0
 exact ⟨rfl,rfl⟩
set_option maxRecDepth 100000 in
theorem add_new0 (w : World) (b n : Nat) (v : Value) (xs : List Value) (bit : Int) (hn : n < 1048576) (hr : ((n : Int) % 8 == 0) = true) (hb0 : 0 ≤ bit) (hb1 : bit ≤ 1) (hbl : b < w.heap.size)
  (c0 : w.cell? ⟨b,0,none⟩ = some v) (c1 : w.cell? ⟨b,1,none⟩ = some (.int .i64 n)) (f0 : w.frozen? ⟨b,0,none⟩ = false) (f1 : w.frozen? ⟨b,1,none⟩ = false)
  (hown : w.ownsRow 0 5 1 v (n / 8) xs) (hvb : v.ownBlock ≠ some b) :
  Calls Tryz.prog 181 #[.pointer (some ⟨b,0,none⟩),.int .u8 bit] w fun e w' => e = .returned (.tuple #[]) ∧
   ∃ w1 g cap,w1.ownsRow 0 5 1 (.slice (some ⟨g,0,none⟩) (n / 8 + 1) cap) (n / 8 + 1) (xs ++ [.int .u8 0]) ∧ (w.alloc (.cells #[.int .u8 0] 5)).grownBy w1 v.ownBlock ∧ (v.ownBlock = some g ∨ w.heap.size < g) ∧
   w' = (((w1.setCell ⟨b,0,none⟩ (.slice (some ⟨g,0,none⟩) (n / 8 + 1) cap)).setCell ⟨g,n / 8,none⟩ (.int .u8 (bits .or .u8 0 (bit * 2 ^ (n % 8) % 256)))).setCell ⟨b,1,none⟩ (.int .i64 ((n : Int) + 1))).drew := by
 obtain ⟨i0,hi,hz0,hz1,hz2⟩ := info_parts Tryz.infoB
 go_enter Tryz.func181,Tryz.ntmps181
 go_wp2_with (at_builtin; refine wpList_append_ours _ rfl _ _ 22 rfl 5 i0 (.int .u8 0) 1 1 Tryz.underlying22 hi hz0 hz1 hz2 rfl (by decide) _ _ _ rfl (hown.alloc _) ⟨w.heap.size,0,none⟩ 1 1 [.int .u8 0] rfl rfl (cell_one_new _ _ _) (one_int _ _) (by decide) (by unfold maxLen; omega) (by omega) ?_)
 intro v' w1 hown' hgrow hnew
 obtain ⟨g,cap,hv',hgg⟩ := hnew
 subst hv'
 have hbl' : b < (w.alloc (.cells #[.int .u8 0] 5)).heap.size := by simp; omega
 have hblk : w1.heap[b]? = w.heap[b]? := (hgrow.block b hbl' (fun e => hvb e.symm)).trans (Below.heap_alloc _ _ _ hbl)
 have k0 : w1.cell? ⟨b,0,none⟩ = some v := (World.cell?_of_block (w := w) hblk).trans c0
 have k1 : w1.cell? ⟨b,1,none⟩ = some (.int .i64 n) := (World.cell?_of_block (w := w) hblk).trans c1
 have e0 : w1.frozen? ⟨b,0,none⟩ = false := (World.frozen?_of_block (w := w) hblk).trans f0
 have e1 : w1.frozen? ⟨b,1,none⟩ = false := (World.frozen?_of_block (w := w) hblk).trans f1
 have hgb : g ≠ b := by
  rintro rfl
  rcases hgg with h | h
  ·exact hvb h
  ·simp at h; omega
 have hxl : xs.length = n / 8 := by have := hown.1; omega
 have cx : w1.cell? ⟨g,n / 8,none⟩ = some (.int .u8 0) := by
  rw [hown'.cellAt (n / 8) (by omega),List.getElem?_append_right (by omega),hxl]; simp
 have fx : w1.frozen? ⟨g,n / 8,none⟩ = false := hown'.frozenAt _
 have hi8 : (n : Int) / 8 < ((n / 8 + 1 : Nat) : Int) := by omega
 have hgg2 : v.ownBlock = some g ∨ w.heap.size < g := by
  rcases hgg with h | h
  ·exact .inl h
  ·right; simp at h; omega
 have H : Hid (w1.ownsRow 0 5 1 (.slice (some ⟨g,0,none⟩) (n / 8 + 1) cap) (n / 8 + 1) (xs ++ [.int .u8 0]) ∧ (w.alloc (.cells #[.int .u8 0] 5)).grownBy w1 v.ownBlock ∧ (v.ownBlock = some g ∨ w.heap.size < g)) := ⟨hown',hgrow,hgg2⟩
 clear hown' hgrow hgg hgg2 hblk c0 c1 f0 f1 hown hvb hxl hi hz0 hz1 hz2 hbl' hbl
 go_wp2
 go_region
 go_wp2
 go_end0
 exact ⟨rfl,w1,g,cap,H.out.1,H.out.2.1,H.out.2.2,rfl⟩
theorem or_val (x r : Nat) (bit : Bool) (hx : x < 2 ^ r) (hr : r < 8) : bits .or .u8 (x : Int) ((bit.toNat : Int) * 2 ^ r % 256) = ((x + bit.toNat * 2 ^ r : Nat) : Int) := by
 have h256 : 2 ^ r ≤ 128 := by
  have := Nat.pow_le_pow_right (n := 2) (by decide) (show r ≤ 7 by omega)
  simpa using this
 have hm : ((bit.toNat : Int) * 2 ^ r % 256) = ((bit.toNat * 2 ^ r : Nat) : Int) := by
  have hp : ((2 : Int) ^ r) = ((2 ^ r : Nat) : Int) := by simp
  rw [hp]
  cases bit
  ·simp
  ·simp only [Bool.toNat_true,Nat.one_mul]
   omega
 rw [hm,u8_or_nat x (bit.toNat * 2 ^ r) (by omega) (by cases bit <;> simp; omega)]
 rw [← or_bit x r bit hx,Nat.shiftLeft_eq]
theorem setCell_heap (w : World) (b o : Nat) (cur : Array Value) (t : TypeId) (u : Value) (h : w.heap[b]? = some (.cells cur t (0,0))) : (w.setCell ⟨b,o,none⟩ u).heap[b]? = some (.cells (cur.setIfInBounds o u) t (0,0)) :=
 heap_setCell_same w b o cur t u h
theorem add_any (B : Nat) (w : World) (b : Nat) (g : Option Nat) (L : List Bool) (bit : Bool) (k : Int) (hk : k = (bit.toNat : Int)) (h : Wr B w b g L) (hn : L.length < 1048576) :
  Calls Tryz.prog 181 #[.pointer (some ⟨b,0,none⟩),.int .u8 k] w fun e w' => e = .returned (.tuple #[]) ∧ ∃ g',Wr B w' b g' (L ++ [bit]) ∧ Step w b g w' g' := by
 have hlt := h.lt
 have hne := h.ne
 have hlow := h.low
 have hglow := h.glow
 obtain ⟨v,hb,hown,hv⟩ := h.obj
 have hk0 : 0 ≤ k := by rw [hk]; omega
 have hk1 : k ≤ 1 := by rw [hk]; cases bit <;> simp
 have hcast : ((L.length : Int) + 1) = (((L ++ [bit]).length : Nat) : Int) := by simp
 by_cases hr : L.length % 8 = 0
 ·have hnb : nb L.length = L.length / 8 := by unfold nb; omega
  have hnb' : nb (L ++ [bit]).length = L.length / 8 + 1 := by simp [nb]; omega
  rw [hnb] at hown
  refine (add_new0 w b L.length v (vrow (pack L)) k hn (by simp; omega) hk0 hk1 hlt (cell0 hb) (cell1 hb) (froz hb) (froz hb) hown (by rw [hv]; exact hne)).mono ?_
  rintro e w' ⟨rfl,w1,g',cap,ho1,hg1,hgg,rfl⟩
  have hgb : g' ≠ b := by
   rintro rfl
   rcases hgg with hh | hh
   ·exact hne (hv.symm.trans hh)
   ·omega
  have hblk : w1.heap[b]? = w.heap[b]? := (hg1.block b (by simp; omega) (fun e => hne (by rw [← hv]; exact e.symm))).trans (Below.heap_alloc _ _ _ hlt)
  have hb1 := hblk.trans hb
  have hw2 := setCell_heap w1 b 0 _ _ (.slice (some ⟨g',0,none⟩) (L.length / 8 + 1) cap) hb1
  have ho2 : (w1.setCell ⟨b,0,none⟩ (.slice (some ⟨g',0,none⟩) (L.length / 8 + 1) cap)).ownsRow 0 5 1 (.slice (some ⟨g',0,none⟩) (L.length / 8 + 1) cap) (L.length / 8 + 1) (vrow (pack L) ++ [.int .u8 0]) :=
   row_setCell ho1 _ _ (by simp [Value.ownBlock]; omega)
  have ho3 := (ho2.stored (L.length / 8) (.int .u8 (bits .or .u8 0 (k * 2 ^ (L.length % 8) % 256)))).1
  have hw3 : ((w1.setCell ⟨b,0,none⟩ (.slice (some ⟨g',0,none⟩) (L.length / 8 + 1) cap)).setCell ⟨g',L.length / 8,none⟩ (.int .u8 (bits .or .u8 0 (k * 2 ^ (L.length % 8) % 256)))).heap[b]? = _ :=
   (Below.heap_setCell _ _ _ b (fun e => hgb e.symm)).trans hw2
  have hw4 := setCell_heap _ b 1 _ _ (.int .i64 ((L.length : Int) + 1)) hw3
  have ho4 := row_setCell ho3 ⟨b,1,none⟩ (.int .i64 ((L.length : Int) + 1)) (by simp [Value.ownBlock]; omega)
  refine ⟨rfl,some g',⟨hlow,?_,by simp; omega,⟨.slice (some ⟨g',0,none⟩) (L.length / 8 + 1) cap,?_,?_,rfl⟩⟩,⟨?_,?_⟩⟩
  ·intro q hq
   cases hq
   rcases hgg with hh | hh
   ·exact hglow _ (hv.symm.trans hh)
   ·omega
  ·refine hw4.trans ?_
   rw [hcast]; simp
  ·rw [hnb',pack_snoc_new L bit hr,vrow_set,vrow_append]
   have hval : bits .or .u8 (0 : Int) (k * 2 ^ (L.length % 8) % 256) = ((bit.toNat * 2 ^ (L.length % 8) : Nat) : Int) := by
    rw [hk]
    have := or_val 0 (L.length % 8) bit (Nat.two_pow_pos _) (by omega)
    simpa using this
   rw [← hval]
   exact ho4
  ·refine ((((Fr.refl _ w).alloc _).grown hg1 ?_).setCell (.inl (.inl rfl)) _ |>.setCell ?_ _ |>.setCell (.inl (.inl rfl)) _).drew
   ·intro q hq
    left; right; rw [← hv]; exact hq.symm
   ·rcases hgg with hh | hh
    ·left; right; rw [← hv]; exact hh.symm
    ·right; exact Nat.le_of_lt hh
  ·rcases hgg with hh | hh
   ·left; rw [← hv]; exact hh.symm
   ·right; exact ⟨g',rfl,by omega⟩
 ·have hnb : nb L.length = L.length / 8 + 1 := by unfold nb; omega
  have hnb' : nb (L ++ [bit]).length = L.length / 8 + 1 := by simp [nb]; omega
  rw [hnb] at hown
  obtain ⟨g',cap,rfl,_⟩ := row_shape hown (by omega)
  have hgb : g' ≠ b := by
   rintro rfl
   exact hne hv.symm
  have hx := byteAt_lt L (L.length / 8)
  have cx : w.cell? ⟨g',L.length / 8,none⟩ = some (.int .u8 (byteAt L (L.length / 8) : Nat)) := by
   rw [hown.cellAt (L.length / 8) (by omega),getElem?_vrow,getElem?_pack,if_pos (by omega)]; rfl
  refine (add_in0 w b g' L.length cap (L.length / 8 + 1) (byteAt L (L.length / 8) : Nat) k hn (by simp; omega) (by omega) (by omega) (by omega) hk0 hk1 (cell0 hb) (cell1 hb) (froz hb) cx (hown.frozenAt _) hgb).mono ?_
  rintro e w' ⟨rfl,rfl⟩
  have ho3 := (hown.stored (L.length / 8) (.int .u8 (bits .or .u8 (byteAt L (L.length / 8) : Nat) (k * 2 ^ (L.length % 8) % 256)))).1
  have hw3 := (Below.heap_setCell w ⟨g',L.length / 8,none⟩ (.int .u8 (bits .or .u8 (byteAt L (L.length / 8) : Nat) (k * 2 ^ (L.length % 8) % 256))) b (fun e => hgb e.symm)).trans hb
  have hw4 := setCell_heap _ b 1 _ _ (.int .i64 ((L.length : Int) + 1)) hw3
  have ho4 := row_setCell ho3 ⟨b,1,none⟩ (.int .i64 ((L.length : Int) + 1)) (by simp [Value.ownBlock]; omega)
  refine ⟨rfl,g,⟨hlow,hglow,hne,⟨.slice (some ⟨g',0,none⟩) (L.length / 8 + 1) cap,?_,?_,hv⟩⟩,⟨?_,.inl rfl⟩⟩
  ·refine hw4.trans ?_
   rw [hcast]; simp
  ·rw [hnb',pack_snoc_in L bit hr,vrow_set]
   have hval := or_val (byteAt L (L.length / 8)) (L.length % 8) bit (byteAt_small L) (by omega)
   rw [← hval,← hk]
   exact ho4
  ·refine ((Fr.refl _ w).setCell ?_ _ |>.setCell (.inl (.inl rfl)) _).drew
   left; right; rw [← hv]; rfl
theorem bit_val (v k : Nat) (hv : v < 18446744073709551616) : bits .and .u64 ((v : Int) / 2 ^ k) 1 % 256 = (((v / 2 ^ k % 2 == 1) : Bool).toNat : Int) := by
 have h2 : ((v : Int) / 2 ^ k) = ((v / 2 ^ k : Nat) : Int) := by simp
 have hle : v / 2 ^ k ≤ v := Nat.div_le_self _ _
 have h3 := u64_and_nat (v / 2 ^ k) 1 (by omega) (by decide)
 rw [h2]
 have h1 : ((1 : Nat) : Int) = 1 := rfl
 rw [h1] at h3
 rw [h3,nat_mask1]
 have hc : v / 2 ^ k % 2 = 0 ∨ v / 2 ^ k % 2 = 1 := by omega
 rcases hc with hc | hc <;> rw [hc] <;> rfl
theorem shr_eq (v n : Nat) (h : v < 2 ^ n) : ((v : Int) / 2 ^ n != 0) = false := by
 have h1 : v / 2 ^ n = 0 := Nat.div_eq_of_lt h
 have h2 : ((v : Int) / 2 ^ n) = ((v / 2 ^ n : Nat) : Int) := by simp
 rw [h2,h1]; rfl
theorem put_ok (B : Nat) (w : World) (b : Nat) (g : Option Nat) (L : List Bool) (v n : Nat) (h : Wr B w b g L) (hn : n ≤ 64) (hv : v < 2 ^ n) (hv2 : v < 18446744073709551616) (hl : L.length + n ≤ 1048576) :
  Calls Tryz.prog 154 #[.pointer (some ⟨b,0,none⟩),.int .u64 v,.int .i64 n] w fun e w' => e = .returned (.int .i64 0) ∧ ∃ g',Wr B w' b g' (L ++ bitsN n v) ∧ Step w b g w' g' := by
 have h0 : ¬ (n : Int) < 0 := by omega
 have h1 : ¬ (64 : Int) < (n : Int) := by omega
 have h2 := shr_eq v n hv
 have h3 : ¬ (1048576 : Int) - (L.length : Int) < (n : Int) := by omega
 obtain ⟨u,hb,_⟩ := h.obj
 have c1 := cell1 hb
 have H : Hid (Wr B w b g L) := h
 clear hb h
 go_enter Tryz.func154,Tryz.ntmps154
 go_wp2
 clear c1 h0 h1 h2 h3
 go_loopw [32] (fun c wr => ∃ k : Nat,k ≤ n ∧ c = .int .i64 k ∧ ∃ g',Wr B wr b g' (L ++ bitsN k v) ∧ Step w b g wr g') (fun c _ => n - (intOf c).toNat)
 case atStart => exact ⟨0,Nat.zero_le _,rfl,g,by simpa [bitsN] using H.out,Step.refl _ _ _⟩
 case round =>
  obtain ⟨k,hk,rfl,g',hW,hS⟩ := hrel
  by_cases hlt : k < n
  ·go_wp2_with fail
   refine (add_any B wr b g' (L ++ bitsN k v) (v / 2 ^ k % 2 == 1) _ (bit_val v k hv2) hW (by rw [List.length_append,length_bitsN]; omega)).mono ?_
   rintro e w1 ⟨rfl,g1,hW1,hS1⟩
   have HW : Hid (∃ g',Wr B w1 b g' (L ++ bitsN (k + 1) v) ∧ Step w b g w1 g') := ⟨g1,by rw [bitsN_snoc,← List.append_assoc]; exact hW1,hS.trans hS1⟩
   clear hW hS hW1 hS1 H
   go_wp2
   go_roundw
   case rel => exact ⟨k + 1,by omega,by go_num,HW.out⟩
   case measure => simp [intOf]; omega
  ·go_wp2
   go_ret
   have e : k = n := by omega
   subst e
   exact ⟨rfl,g',hW,hS⟩
def Src (w : World) (v : Value) (n : Nat) (xs : List Value) : Prop :=
 (v = .slice none 0 0 ∧ n = 0 ∧ xs = []) ∨ ∃ a cap,v = .slice (some a) n cap ∧ xs.length = n ∧ ∀ j u,xs[j]? = some u → w.cell? (a.add j) = some u
theorem Src.of_row {w : World} {e : TypeId} {v : Value} {n : Nat} {xs : List Value} (h : w.ownsRow 0 e 1 v n xs) : Src w v n xs := by
 have hl := h.1
 rcases h.2 with ⟨rfl,rfl⟩ | ⟨g,cap,cur,rfl,_⟩
 ·left; exact ⟨rfl,rfl,List.eq_nil_of_length_eq_zero (by rw [hl,Nat.zero_mul])⟩
 ·right; exact ⟨_,_,rfl,by rw [hl,Nat.mul_one],h.cells rfl⟩
theorem clone_nil (w : World) : Calls Tryz.prog 91 #[.slice none 0 0] w fun e w' => e = .returned (.slice none 0 0) ∧ w' = w := by
 have qn : ∀ (w : World) (a : Option Addr) (n c n' c' : Nat),(binOp .eql 22 (.slice a n c) (.slice none n' c')).run Tryz.prog w = .ok (.bool a.isNone) w := fun w a n c n' c' => Lib.run_eql_slice_nil w _ _ a n c n' c' Tryz.underlying22
 go_enter Tryz.func91,Tryz.ntmps91
 go_wp2
 go_ret
 exact ⟨rfl,rfl⟩
theorem clone_some (w : World) (a : Addr) (n cap : Nat) (xs : List Value) (hl : xs.length = n) (hc : ∀ j u,xs[j]? = some u → w.cell? (a.add j) = some u) (h1 : ∀ u ∈ xs,u.oneCell' = true) (hn : n ≤ 140737488351232) :
  Calls Tryz.prog 91 #[.slice (some a) n cap] w fun e w' => ∃ v',e = .returned v' ∧ w'.ownsRow 0 5 1 v' n xs ∧ Fr Nobody w w' ∧ (∀ k,v'.ownBlock = some k → w.heap.size ≤ k) := by
 obtain ⟨i0,hi,hz0,hz1,hz2⟩ := info_parts Tryz.infoB
 have qn : ∀ (w : World) (a : Option Addr) (n c n' c' : Nat),(binOp .eql 22 (.slice a n c) (.slice none n' c')).run Tryz.prog w = .ok (.bool a.isNone) w := fun w a n c n' c' => Lib.run_eql_slice_nil w _ _ a n c n' c' Tryz.underlying22
 go_enter Tryz.func91,Tryz.ntmps91
 go_wp2_with (at_builtin; refine wpList_append_own _ rfl _ _ 22 rfl w.heap.size 5 i0 (.int .u8 0) 1 1 Tryz.underlying22 hi hz0 hz1 hz2 rfl (by decide) _ _ _ rfl (World.ownsRow_made w #[] 0 (Nat.le_refl _) (Nat.zero_le _) rfl) a n cap xs rfl (by omega) (fun j u hj => Lib.cell?_alloc_some _ (hc j u hj)) h1 (by unfold maxLen; omega) (by omega) (by simp) ?_)
 intro v' w1 hown hgrow hnil
 go_wp2
 go_ret
 have hown' : w1.ownsRow w.heap.size 5 1 v' n xs := by simpa using hown
 refine ⟨v',rfl,row_weak hown',?_,fun k hk => (hown'.lt k hk).1⟩
 exact ((Fr.refl _ w).alloc _).grown hgrow (by intro k hk; simp [Value.ownBlock] at hk; omega)
theorem clone_any (w : World) (v : Value) (n : Nat) (xs : List Value) (h : Src w v n xs) (h1 : ∀ u ∈ xs,u.oneCell' = true) (hn : n ≤ 140737488351232) :
  Calls Tryz.prog 91 #[v] w fun e w' => ∃ v',e = .returned v' ∧ w'.ownsRow 0 5 1 v' n xs ∧ Fr Nobody w w' ∧ (∀ k,v'.ownBlock = some k → w.heap.size ≤ k) := by
 rcases h with ⟨rfl,rfl,rfl⟩ | ⟨a,cap,rfl,hl,hc⟩
 ·refine (clone_nil w).mono ?_
  rintro e w' ⟨rfl,rfl⟩
  exact ⟨_,rfl,World.ownsRow_nil _ _ _ _,Fr.refl _ _,fun k hk => by simp [Value.ownBlock] at hk⟩
 ·exact clone_some w a n cap xs hl hc h1 hn
theorem bytes_any (B : Nat) (w : World) (b : Nat) (g : Option Nat) (L : List Bool) (h : Wr B w b g L) (hl : L.length ≤ 1048576) :
  Calls Tryz.prog 88 #[.pointer (some ⟨b,0,none⟩)] w fun e w' => ∃ v',e = .returned v' ∧ w'.ownsRow 0 5 1 v' (nb L.length) (vrow (pack L)) ∧ Fr Nobody w w' ∧ (∀ k,v'.ownBlock = some k → w.heap.size ≤ k) := by
 obtain ⟨v,hb,hown,hv⟩ := h.obj
 have c0 := cell0 hb
 have H : Hid (Src w v (nb L.length) (vrow (pack L))) := Src.of_row hown
 have hnb : nb L.length ≤ 140737488351232 := by unfold nb; omega
 clear hb h hown hv
 go_enter Tryz.func88,Tryz.ntmps88
 go_wp2_with fail
 refine (clone_any w v _ _ H.out (one_vrow _) hnb).mono ?_
 rintro e w1 ⟨v',rfl,ho,hf,hk⟩
 have HH : Hid (w1.ownsRow 0 5 1 v' (nb L.length) (vrow (pack L)) ∧ Fr Nobody w w1 ∧ (∀ k,v'.ownBlock = some k → w.heap.size ≤ k)) := ⟨ho,hf,hk⟩
 clear ho hf hk
 go_wp2
 go_ret
 exact ⟨v',rfl,HH.out⟩
def bitsB (P : List Nat) : List Bool := P.flatMap (bitsN 8)
theorem length_bitsB (P : List Nat) : (bitsB P).length = 8 * P.length := by
 induction P with
 | nil => rfl
 | cons p P ih => rw [bitsB,List.flatMap_cons,List.length_append,length_bitsN]; rw [bitsB] at ih; rw [ih,List.length_cons]; omega
theorem getElem?_bitsN (n v i : Nat) : (bitsN n v)[i]? = if i < n then some (v / 2 ^ i % 2 == 1) else none := by
 induction n generalizing v i with
 | zero => simp [bitsN]
 | succ n ih =>
  rw [bitsN]
  cases i with
  | zero => simp
  | succ i => rw [List.getElem?_cons_succ,ih,Nat.div_div_eq_div_mul,← Nat.pow_succ']; simp
theorem getElem?_bitsB (P : List Nat) (i : Nat) : (bitsB P)[i]? = (P[i / 8]?).map (fun (x : Nat) => (x / 2 ^ (i % 8) % 2 == 1)) := by
 induction P generalizing i with
 | nil => simp [bitsB]
 | cons p P ih =>
  rw [bitsB,List.flatMap_cons]
  by_cases h : i < 8
  ·rw [List.getElem?_append_left (by rw [length_bitsN]; exact h),getElem?_bitsN,if_pos h]
   have h0 : i / 8 = 0 := by omega
   have h1 : i % 8 = i := by omega
   rw [h0,h1]; rfl
  ·rw [List.getElem?_append_right (by rw [length_bitsN]; omega),length_bitsN]
   have := ih (i - 8)
   rw [bitsB] at this
   rw [this]
   have h0 : i / 8 = (i - 8) / 8 + 1 := by omega
   have h1 : i % 8 = (i - 8) % 8 := by omega
   rw [h0,h1,List.getElem?_cons_succ]
def numAt (P : List Nat) (a n : Nat) : Nat := num (((bitsB P).drop a).take n)
theorem numAt_lt (P : List Nat) (a n : Nat) : numAt P a n < 2 ^ n := by
 have h := num_lt (((bitsB P).drop a).take n)
 have h2 : (((bitsB P).drop a).take n).length ≤ n := List.length_take_le _ _
 exact Nat.lt_of_lt_of_le h (Nat.pow_le_pow_right (by decide) h2)
theorem oct (b0 b1 b2 b3 b4 b5 b6 b7 : Nat) (h0 : b0 ≤ 1) (h1 : b1 ≤ 1) (h2 : b2 ≤ 1) (h3 : b3 ≤ 1) (h4 : b4 ≤ 1) (h5 : b5 ≤ 1) (h6 : b6 ≤ 1) (h7 : b7 ≤ 1) (s : Nat)
  (e : s = b0 + 2 * b1 + 4 * b2 + 8 * b3 + 16 * b4 + 32 * b5 + 64 * b6 + 128 * b7) :
  s % 2 = b0 ∧ s / 2 % 2 = b1 ∧ s / 4 % 2 = b2 ∧ s / 8 % 2 = b3 ∧ s / 16 % 2 = b4 ∧ s / 32 % 2 = b5 ∧ s / 64 % 2 = b6 ∧ s / 128 % 2 = b7 := by
 have e1 : s / 2 = b1 + 2 * b2 + 4 * b3 + 8 * b4 + 16 * b5 + 32 * b6 + 64 * b7 := by omega
 have e2 : s / 4 = b2 + 2 * b3 + 4 * b4 + 8 * b5 + 16 * b6 + 32 * b7 := by omega
 have e3 : s / 8 = b3 + 2 * b4 + 4 * b5 + 8 * b6 + 16 * b7 := by omega
 have e4 : s / 16 = b4 + 2 * b5 + 4 * b6 + 8 * b7 := by omega
 have e5 : s / 32 = b5 + 2 * b6 + 4 * b7 := by omega
 have e6 : s / 64 = b6 + 2 * b7 := by omega
 have e7 : s / 128 = b7 := by omega
 rw [e1,e2,e3,e4,e5,e6,e7]
 refine ⟨by omega,by omega,by omega,by omega,by omega,by omega,by omega,by omega⟩
theorem bitsB_pack (L : List Bool) : bitsB (pack L) = L ++ List.replicate (8 * nb L.length - L.length) false := by
 apply List.ext_getElem?
 intro i
 rw [getElem?_bitsB,getElem?_pack]
 by_cases h : i / 8 < nb L.length
 ·rw [if_pos h,Option.map_some]
  have key : byteAt L (i / 8) / 2 ^ (i % 8) % 2 = bt L i := by
   have e : i = 8 * (i / 8) + i % 8 := by omega
   have hm : i % 8 < 8 := Nat.mod_lt _ (by decide)
   generalize i / 8 = q at *
   generalize i % 8 = r at *
   subst e
   obtain ⟨o0,o1,o2,o3,o4,o5,o6,o7⟩ := oct _ _ _ _ _ _ _ _ (bt_le L (8 * q)) (bt_le L (8 * q + 1)) (bt_le L (8 * q + 2)) (bt_le L (8 * q + 3)) (bt_le L (8 * q + 4)) (bt_le L (8 * q + 5)) (bt_le L (8 * q + 6)) (bt_le L (8 * q + 7)) (byteAt L q) rfl
   have c : r = 0 ∨ r = 1 ∨ r = 2 ∨ r = 3 ∨ r = 4 ∨ r = 5 ∨ r = 6 ∨ r = 7 := by omega
   rcases c with rfl | rfl | rfl | rfl | rfl | rfl | rfl | rfl
   ·simpa using o0
   ·simpa using o1
   ·simpa using o2
   ·simpa using o3
   ·simpa using o4
   ·simpa using o5
   ·simpa using o6
   ·simpa using o7
  rw [key]
  unfold bt
  by_cases hl : i < L.length
  ·rw [List.getElem?_append_left hl,List.getElem?_eq_getElem hl]
   simp only [Option.getD_some]
   cases L[i] <;> rfl
  ·rw [List.getElem?_eq_none (by omega),List.getElem?_append_right (by omega),List.getElem?_replicate]
   unfold nb at *
   rw [if_pos (by omega)]; rfl
 ·rw [if_neg h,Option.map_none,List.getElem?_eq_none]
  rw [List.length_append,List.length_replicate]
  unfold nb at *; omega
structure Rd (B : Nat) (w : World) (b : Nat) (g : Option Nat) (P : List Nat) (t : Nat) : Prop where
 low : B ≤ b
 glow : ∀ k,g = some k → B ≤ k
 ne : g ≠ some b
 byt : ∀ x ∈ P,x < 256
 len : P.length ≤ 1048576
 le : t ≤ 8 * P.length
 obj : ∃ v,w.heap[b]? = some (.cells #[v,.int .i64 (t : Int)] 220 (0,0)) ∧ w.ownsRow 0 5 1 v P.length (vrow P) ∧ v.ownBlock = g
theorem Rd.lt {B : Nat} {w : World} {b : Nat} {g : Option Nat} {P : List Nat} {t : Nat} (h : Rd B w b g P t) : b < w.heap.size := by
 obtain ⟨v,hb,_⟩ := h.obj
 exact (Array.getElem?_eq_some_iff.1 hb).1
theorem Rd.glt {B : Nat} {w : World} {b : Nat} {g : Option Nat} {P : List Nat} {t : Nat} (h : Rd B w b g P t) : ∀ k,g = some k → k < w.heap.size := by
 intro k hk
 obtain ⟨v,_,ho,hv⟩ := h.obj
 exact (ho.lt k (hv.trans hk)).2
theorem Rd.keep {S : Nat → Prop} {B : Nat} {w w' : World} {b : Nat} {g : Option Nat} {P : List Nat} {t : Nat} (h : Rd B w b g P t) (hf : Fr S w w') (hb : ¬ S b) (hg : ∀ k,g = some k → ¬ S k) : Rd B w' b g P t := by
 refine ⟨h.low,h.glow,h.ne,h.byt,h.len,h.le,?_⟩
 have hl := h.lt
 obtain ⟨v,h1,h2,h3⟩ := h.obj
 exact ⟨v,(hf.block b hl hb).trans h1,hf.row h2 (fun k hk => hg k (h3.symm.trans hk)),h3⟩
theorem Rd.quiet {B : Nat} {w w' : World} {b : Nat} {g : Option Nat} {P : List Nat} {t : Nat} (h : Rd B w b g P t) (hf : Fr Nobody w w') : Rd B w' b g P t := h.keep hf id (fun _ _ => id)
theorem Wr.quiet {B : Nat} {w w' : World} {b : Nat} {g : Option Nat} {L : List Bool} (h : Wr B w b g L) (hf : Fr Nobody w w') : Wr B w' b g L := h.keep hf id (fun _ _ => id)
def bstr (P : List Nat) : ByteArray := (P.map (fun (n : Nat) => (n : Int))).foldl (fun r n => r.push (UInt8.ofNat n.toNat)) ByteArray.empty
theorem conv_src (w : World) (ao : Option Addr) (n c : Nat) (P : List Nat) (h : Src w (.slice ao n c) P.length (vrow P)) : (convert 22 9 (.slice ao n c)).run Tryz.prog w = .ok (.string (bstr P)) w := by
 rw [run_convert_bytes_string w 22 9 5 ao n c Tryz.underlying22 Tryz.underlying5 Tryz.underlying9]
 rcases h with ⟨h0,h1,h2⟩ | ⟨a,cap,h0,h1,h2⟩
 ·cases h0
  have : P = [] := List.eq_nil_of_length_eq_zero h1
  subst this
  simp [Conv.bytesToString,bstr]
 ·cases h0
  refine run_bytesToString w a P.length c (P.map (fun (n : Nat) => (n : Int))) ?_
  have e : (P.map (fun (n : Nat) => (n : Int))).map (Value.int .u8) = vrow P := by simp [vrow]
  rw [e,← length_vrow P]
  exact run_loadCells_list w a (vrow P) h2
theorem same_any (w : World) (a b : Value) (P : List Nat) (ha : Src w a P.length (vrow P)) (hb : Src w b P.length (vrow P)) :
  Calls Tryz.prog 17 #[a,b] w fun e w' => e = .returned (.bool true) ∧ w' = w := by
 obtain ⟨aa,an,ac,rfl⟩ : ∃ aa an ac,a = .slice aa an ac := by
  rcases ha with ⟨rfl,_⟩ | ⟨_,_,rfl,_⟩ <;> exact ⟨_,_,_,rfl⟩
 obtain ⟨ba,bn,bc,rfl⟩ : ∃ aa an ac,b = .slice aa an ac := by
  rcases hb with ⟨rfl,_⟩ | ⟨_,_,rfl,_⟩ <;> exact ⟨_,_,_,rfl⟩
 have ca := conv_src w aa an ac P ha
 have cb := conv_src w ba bn bc P hb
 clear ha hb
 generalize bstr P = s at *
 have hs : (s.toList == s.toList) = true := by simp
 go_enter Tryz.func17,Tryz.ntmps17
 go_wp2
 go_ret
 exact ⟨rfl,rfl⟩
theorem Wr.lowAt {B : Nat} {w : World} {b : Nat} {g : Option Nat} {L : List Bool} (h : Wr B w b g L) : ∀ k,At b g k → B ≤ k := by
 rintro k (rfl | e)
 ·exact h.low
 ·exact h.glow k e.symm
theorem Rd.lowAt {B : Nat} {w : World} {b : Nat} {g : Option Nat} {P : List Nat} {t : Nat} (h : Rd B w b g P t) : ∀ k,At b g k → B ≤ k := by
 rintro k (rfl | e)
 ·exact h.low
 ·exact h.glow k e.symm
def Ow (w0 w : World) (b : Nat) (L : List Bool) : Prop := ∃ g,Wr w0.heap.size w b g L ∧ Fr Nobody w0 w
def Or (w0 w : World) (b : Nat) (P : List Nat) (t : Nat) : Prop := ∃ g,Rd w0.heap.size w b g P t ∧ Fr Nobody w0 w
theorem Ow.quiet {w0 w w' : World} {b : Nat} {L : List Bool} (h : Ow w0 w b L) (hf : Fr Nobody w w') : Ow w0 w' b L := by
 obtain ⟨g,hW,hF⟩ := h
 exact ⟨g,hW.quiet hf,hF.trans hf⟩
theorem Or.quiet {w0 w w' : World} {b : Nat} {P : List Nat} {t : Nat} (h : Or w0 w b P t) (hf : Fr Nobody w w') : Or w0 w' b P t := by
 obtain ⟨g,hW,hF⟩ := h
 exact ⟨g,hW.quiet hf,hF.trans hf⟩
theorem Ow.fr {w0 w : World} {b : Nat} {L : List Bool} (h : Ow w0 w b L) : Fr Nobody w0 w := by
 obtain ⟨g,hW,hF⟩ := h
 exact hF
theorem Or.fr {w0 w : World} {b : Nat} {P : List Nat} {t : Nat} (h : Or w0 w b P t) : Fr Nobody w0 w := by
 obtain ⟨g,hW,hF⟩ := h
 exact hF
theorem new_ow (w0 w : World) (hf : Fr Nobody w0 w) : Calls Tryz.prog 84 #[] w fun e w' => ∃ b,e = .returned (.pointer (some ⟨b,0,none⟩)) ∧ w.heap.size ≤ b ∧ Ow w0 w' b [] := by
 refine (new_any w0.heap.size w hf.size).mono ?_
 rintro e w' ⟨b,rfl,hb,hW,hF⟩
 exact ⟨b,rfl,hb,none,hW,hf.trans hF⟩
theorem same_fr (w : World) (a b : Value) (P : List Nat) (ha : Src w a P.length (vrow P)) (hb : Src w b P.length (vrow P)) :
  Calls Tryz.prog 17 #[a,b] w fun e w' => e = .returned (.bool true) ∧ Fr Nobody w w' := by
 refine (same_any w a b P ha hb).mono ?_
 rintro e w' ⟨rfl,rfl⟩
 exact ⟨rfl,Fr.refl _ _⟩
theorem len_byte (x s : Nat) (hx : x < 18446744073709551616) (hs : s = 0 ∨ 2 ^ s ≤ x) (hb : x / 2 ^ s ≤ 255) (b : Int) (e : b = ((x / 2 ^ s : Nat) : Int)) : ∃ l : Nat,l ≤ 8 ∧ Lib.len8 b = (l : Int) ∧ s + l = Lib.bitLen x := by
 have h : b.toNat = x / 2 ^ s := by rw [e,Int.toNat_natCast]
 have hb0 : 0 ≤ b := by rw [e]; exact Int.natCast_nonneg _
 have hb1 : b ≤ 255 := by rw [e]; exact Int.ofNat_le.2 hb
 refine ⟨Lib.bitLen b.toNat,Lib.bitLen_le8' b hb0 hb1,Lib.len8_of b hb0 hb1,?_⟩
 rw [h]
 rcases hs with rfl | hs
 ·simp
 ·exact (Lib.bitLen_shift s x hs hx).symm
set_option maxRecDepth 100000 in
theorem len64_111 (x : Int) (l : Nat) (w : World) (h0 : 0 ≤ x) (h1 : x ≤ 18446744073709551615) (t0 : 4294967296 ≤ x) (t1 : 65536 ≤ x / 4294967296) (t2 : 256 ≤ x / 4294967296 / 65536) (b0 : 0 ≤ x / 4294967296 / 65536 / 256) (b1 : x / 4294967296 / 65536 / 256 ≤ 255) (hl : l ≤ 8) (hL : Lib.len8 (x / 4294967296 / 65536 / 256) = (l : Int)) :
  Calls Tryz.prog 186 #[.int .u64 x] w fun e w' => e = .returned (.int .i64 (56 + (l : Int))) ∧ w' = w := by
 go_enter Tryz.func186,Tryz.ntmps186
 go_wp2
 go_ret
 exact ⟨ret_int (by omega),rfl⟩
set_option maxRecDepth 100000 in
theorem len64_110 (x : Int) (l : Nat) (w : World) (h0 : 0 ≤ x) (h1 : x ≤ 18446744073709551615) (t0 : 4294967296 ≤ x) (t1 : 65536 ≤ x / 4294967296) (t2 : x / 4294967296 / 65536 < 256) (b0 : 0 ≤ x / 4294967296 / 65536) (b1 : x / 4294967296 / 65536 ≤ 255) (hl : l ≤ 8) (hL : Lib.len8 (x / 4294967296 / 65536) = (l : Int)) :
  Calls Tryz.prog 186 #[.int .u64 x] w fun e w' => e = .returned (.int .i64 (48 + (l : Int))) ∧ w' = w := by
 go_enter Tryz.func186,Tryz.ntmps186
 go_wp2
 go_ret
 exact ⟨ret_int (by omega),rfl⟩
set_option maxRecDepth 100000 in
theorem len64_101 (x : Int) (l : Nat) (w : World) (h0 : 0 ≤ x) (h1 : x ≤ 18446744073709551615) (t0 : 4294967296 ≤ x) (t1 : x / 4294967296 < 65536) (t2 : 256 ≤ x / 4294967296) (b0 : 0 ≤ x / 4294967296 / 256) (b1 : x / 4294967296 / 256 ≤ 255) (hl : l ≤ 8) (hL : Lib.len8 (x / 4294967296 / 256) = (l : Int)) :
  Calls Tryz.prog 186 #[.int .u64 x] w fun e w' => e = .returned (.int .i64 (40 + (l : Int))) ∧ w' = w := by
 go_enter Tryz.func186,Tryz.ntmps186
 go_wp2
 go_ret
 exact ⟨ret_int (by omega),rfl⟩
set_option maxRecDepth 100000 in
theorem len64_100 (x : Int) (l : Nat) (w : World) (h0 : 0 ≤ x) (h1 : x ≤ 18446744073709551615) (t0 : 4294967296 ≤ x) (t1 : x / 4294967296 < 65536) (t2 : x / 4294967296 < 256) (b0 : 0 ≤ x / 4294967296) (b1 : x / 4294967296 ≤ 255) (hl : l ≤ 8) (hL : Lib.len8 (x / 4294967296) = (l : Int)) :
  Calls Tryz.prog 186 #[.int .u64 x] w fun e w' => e = .returned (.int .i64 (32 + (l : Int))) ∧ w' = w := by
 go_enter Tryz.func186,Tryz.ntmps186
 go_wp2
 go_ret
 exact ⟨ret_int (by omega),rfl⟩
set_option maxRecDepth 100000 in
theorem len64_011 (x : Int) (l : Nat) (w : World) (h0 : 0 ≤ x) (h1 : x ≤ 18446744073709551615) (t0 : x < 4294967296) (t1 : 65536 ≤ x) (t2 : 256 ≤ x / 65536) (b0 : 0 ≤ x / 65536 / 256) (b1 : x / 65536 / 256 ≤ 255) (hl : l ≤ 8) (hL : Lib.len8 (x / 65536 / 256) = (l : Int)) :
  Calls Tryz.prog 186 #[.int .u64 x] w fun e w' => e = .returned (.int .i64 (24 + (l : Int))) ∧ w' = w := by
 go_enter Tryz.func186,Tryz.ntmps186
 go_wp2
 go_ret
 exact ⟨ret_int (by omega),rfl⟩
set_option maxRecDepth 100000 in
theorem len64_010 (x : Int) (l : Nat) (w : World) (h0 : 0 ≤ x) (h1 : x ≤ 18446744073709551615) (t0 : x < 4294967296) (t1 : 65536 ≤ x) (t2 : x / 65536 < 256) (b0 : 0 ≤ x / 65536) (b1 : x / 65536 ≤ 255) (hl : l ≤ 8) (hL : Lib.len8 (x / 65536) = (l : Int)) :
  Calls Tryz.prog 186 #[.int .u64 x] w fun e w' => e = .returned (.int .i64 (16 + (l : Int))) ∧ w' = w := by
 go_enter Tryz.func186,Tryz.ntmps186
 go_wp2
 go_ret
 exact ⟨ret_int (by omega),rfl⟩
set_option maxRecDepth 100000 in
theorem len64_001 (x : Int) (l : Nat) (w : World) (h0 : 0 ≤ x) (h1 : x ≤ 18446744073709551615) (t0 : x < 4294967296) (t1 : x < 65536) (t2 : 256 ≤ x) (b0 : 0 ≤ x / 256) (b1 : x / 256 ≤ 255) (hl : l ≤ 8) (hL : Lib.len8 (x / 256) = (l : Int)) :
  Calls Tryz.prog 186 #[.int .u64 x] w fun e w' => e = .returned (.int .i64 (8 + (l : Int))) ∧ w' = w := by
 go_enter Tryz.func186,Tryz.ntmps186
 go_wp2
 go_ret
 exact ⟨ret_int (by omega),rfl⟩
set_option maxRecDepth 100000 in
theorem len64_000 (x : Int) (l : Nat) (w : World) (h0 : 0 ≤ x) (h1 : x ≤ 18446744073709551615) (t0 : x < 4294967296) (t1 : x < 65536) (t2 : x < 256) (b0 : 0 ≤ x) (b1 : x ≤ 255) (hl : l ≤ 8) (hL : Lib.len8 (x) = (l : Int)) :
  Calls Tryz.prog 186 #[.int .u64 x] w fun e w' => e = .returned (.int .i64 (0 + (l : Int))) ∧ w' = w := by
 go_enter Tryz.func186,Tryz.ntmps186
 go_wp2
 go_ret
 exact ⟨ret_int (by omega),rfl⟩
theorem len64_any (x : Nat) (w : World) (hx : x < 18446744073709551616) :
  Calls Tryz.prog 186 #[.int .u64 x] w fun e w' => e = .returned (.int .i64 ((Lib.bitLen x : Nat) : Int)) ∧ w' = w := by
 have fin : ∀ (s l : Nat),s + l = Lib.bitLen x → Calls Tryz.prog 186 #[.int .u64 x] w (fun e w' => e = .returned (.int .i64 ((s : Int) + (l : Int))) ∧ w' = w) → Calls Tryz.prog 186 #[.int .u64 x] w fun e w' => e = .returned (.int .i64 ((Lib.bitLen x : Nat) : Int)) ∧ w' = w := by
  intro s l hsl hc
  refine hc.mono ?_
  rintro e w' ⟨rfl,rfl⟩
  exact ⟨ret_int (by omega),rfl⟩
 by_cases t0 : 4294967296 ≤ x
 ·skip
  by_cases t1 : 65536 ≤ x / 4294967296
  ·skip
   by_cases t2 : 256 ≤ x / 4294967296 / 65536
   ·skip
    obtain ⟨l,hl,hL,hsl⟩ := len_byte x 56 hx (.inr (by omega)) (by omega) ((x : Int) / 4294967296 / 65536 / 256) (by omega)
    exact fin 56 l hsl (len64_111 x l w (by omega) (by omega) (by omega) (by omega) (by omega) (by omega) (by omega) hl hL)
   ·skip
    obtain ⟨l,hl,hL,hsl⟩ := len_byte x 48 hx (.inr (by omega)) (by omega) ((x : Int) / 4294967296 / 65536) (by omega)
    exact fin 48 l hsl (len64_110 x l w (by omega) (by omega) (by omega) (by omega) (by omega) (by omega) (by omega) hl hL)
  ·skip
   by_cases t2 : 256 ≤ x / 4294967296
   ·skip
    obtain ⟨l,hl,hL,hsl⟩ := len_byte x 40 hx (.inr (by omega)) (by omega) ((x : Int) / 4294967296 / 256) (by omega)
    exact fin 40 l hsl (len64_101 x l w (by omega) (by omega) (by omega) (by omega) (by omega) (by omega) (by omega) hl hL)
   ·skip
    obtain ⟨l,hl,hL,hsl⟩ := len_byte x 32 hx (.inr (by omega)) (by omega) ((x : Int) / 4294967296) (by omega)
    exact fin 32 l hsl (len64_100 x l w (by omega) (by omega) (by omega) (by omega) (by omega) (by omega) (by omega) hl hL)
 ·skip
  by_cases t1 : 65536 ≤ x
  ·skip
   by_cases t2 : 256 ≤ x / 65536
   ·skip
    obtain ⟨l,hl,hL,hsl⟩ := len_byte x 24 hx (.inr (by omega)) (by omega) ((x : Int) / 65536 / 256) (by omega)
    exact fin 24 l hsl (len64_011 x l w (by omega) (by omega) (by omega) (by omega) (by omega) (by omega) (by omega) hl hL)
   ·skip
    obtain ⟨l,hl,hL,hsl⟩ := len_byte x 16 hx (.inr (by omega)) (by omega) ((x : Int) / 65536) (by omega)
    exact fin 16 l hsl (len64_010 x l w (by omega) (by omega) (by omega) (by omega) (by omega) (by omega) (by omega) hl hL)
  ·skip
   by_cases t2 : 256 ≤ x
   ·skip
    obtain ⟨l,hl,hL,hsl⟩ := len_byte x 8 hx (.inr (by omega)) (by omega) ((x : Int) / 256) (by omega)
    exact fin 8 l hsl (len64_001 x l w (by omega) (by omega) (by omega) (by omega) (by omega) (by omega) (by omega) hl hL)
   ·skip
    obtain ⟨l,hl,hL,hsl⟩ := len_byte x 0 hx (.inl rfl) (by omega) ((x : Int)) (by omega)
    exact fin 0 l hsl (len64_000 x l w (by omega) (by omega) (by omega) (by omega) (by omega) (by omega) (by omega) hl hL)
end Go.Proofs.YtgifeckbflkkpaaGreatDoor
