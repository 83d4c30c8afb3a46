/- What add does to a writer. -/
import Derived.Test.YtgifeckbflkkpaaGreatDoorQf02
namespace Go.Proofs.YtgifeckbflkkpaaGreatDoor
open Go.RowKit
set_option linter.unusedVariables false
set_option maxHeartbeats 400000
theorem or_val (x r : Nat) (bit : Bool) (hx : x < 2 ^ r) (hr : r < 8) : bits .or .u8 (x : Int) ((bit.toNat : Int) * 2 ^ r % 256) = ((x + bit.toNat * 2 ^ r : Nat) : Int) := by
 have h256 : 2 ^ r ≤ 128 := by
  have := Nat.pow_le_pow_right (n := 2) (by decide) (show r ≤ 7 by omega)
  simpa using this
 have hm : ((bit.toNat : Int) * 2 ^ r % 256) = ((bit.toNat * 2 ^ r : Nat) : Int) := by
  have hp : ((2 : Int) ^ r) = ((2 ^ r : Nat) : Int) := by simp
  rw [hp]
  cases bit
  ·simp
  ·simp only [Bool.toNat_true,Nat.one_mul]
   omega
 rw [hm,u8_or_nat x (bit.toNat * 2 ^ r) (by omega) (by cases bit <;> simp; omega)]
 rw [← or_bit x r bit hx,Nat.shiftLeft_eq]
theorem setCell_heap (w : World) (b o : Nat) (cur : Array Value) (t : TypeId) (u : Value) (h : w.heap[b]? = some (.cells cur t (0,0))) : (w.setCell ⟨b,o,none⟩ u).heap[b]? = some (.cells (cur.setIfInBounds o u) t (0,0)) :=
 heap_setCell_same w b o cur t u h
theorem add_any (B : Nat) (w : World) (b : Nat) (g : Option Nat) (L : List Bool) (bit : Bool) (k : Int) (hk : k = (bit.toNat : Int)) (h : Wr B w b g L) (hn : L.length < 1048576) :
  Calls Tryz.prog 181 #[.pointer (some ⟨b,0,none⟩),.int .u8 k] w fun e w' => e = .returned (.tuple #[]) ∧ ∃ g',Wr B w' b g' (L ++ [bit]) ∧ Step w b g w' g' := by
 have hlt := h.lt
 have hne := h.ne
 have hlow := h.low
 have hglow := h.glow
 obtain ⟨v,hb,hown,hv⟩ := h.obj
 have hk0 : 0 ≤ k := by rw [hk]; omega
 have hk1 : k ≤ 1 := by rw [hk]; cases bit <;> simp
 have hcast : ((L.length : Int) + 1) = (((L ++ [bit]).length : Nat) : Int) := by simp
 by_cases hr : L.length % 8 = 0
 ·have hnb : nb L.length = L.length / 8 := by unfold nb; omega
  have hnb' : nb (L ++ [bit]).length = L.length / 8 + 1 := by simp [nb]; omega
  rw [hnb] at hown
  refine (add_new0 w b L.length v (vrow (pack L)) k hn (by simp; omega) hk0 hk1 hlt (cell0 hb) (cell1 hb) (froz hb) (froz hb) hown (by rw [hv]; exact hne)).mono ?_
  rintro e w' ⟨rfl,w1,g',cap,ho1,hg1,hgg,rfl⟩
  have hgb : g' ≠ b := by
   rintro rfl
   rcases hgg with hh | hh
   ·exact hne (hv.symm.trans hh)
   ·omega
  have hblk : w1.heap[b]? = w.heap[b]? := (hg1.block b (by simp; omega) (fun e => hne (by rw [← hv]; exact e.symm))).trans (Below.heap_alloc _ _ _ hlt)
  have hb1 := hblk.trans hb
  have hw2 := setCell_heap w1 b 0 _ _ (.slice (some ⟨g',0,none⟩) (L.length / 8 + 1) cap) hb1
  have ho2 : (w1.setCell ⟨b,0,none⟩ (.slice (some ⟨g',0,none⟩) (L.length / 8 + 1) cap)).ownsRow 0 5 1 (.slice (some ⟨g',0,none⟩) (L.length / 8 + 1) cap) (L.length / 8 + 1) (vrow (pack L) ++ [.int .u8 0]) :=
   row_setCell ho1 _ _ (by simp [Value.ownBlock]; omega)
  have ho3 := (ho2.stored (L.length / 8) (.int .u8 (bits .or .u8 0 (k * 2 ^ (L.length % 8) % 256)))).1
  have hw3 : ((w1.setCell ⟨b,0,none⟩ (.slice (some ⟨g',0,none⟩) (L.length / 8 + 1) cap)).setCell ⟨g',L.length / 8,none⟩ (.int .u8 (bits .or .u8 0 (k * 2 ^ (L.length % 8) % 256)))).heap[b]? = _ :=
   (Below.heap_setCell _ _ _ b (fun e => hgb e.symm)).trans hw2
  have hw4 := setCell_heap _ b 1 _ _ (.int .i64 ((L.length : Int) + 1)) hw3
  have ho4 := row_setCell ho3 ⟨b,1,none⟩ (.int .i64 ((L.length : Int) + 1)) (by simp [Value.ownBlock]; omega)
  refine ⟨rfl,some g',⟨hlow,?_,by simp; omega,⟨.slice (some ⟨g',0,none⟩) (L.length / 8 + 1) cap,?_,?_,rfl⟩⟩,⟨?_,?_⟩⟩
  ·intro q hq
   cases hq
   rcases hgg with hh | hh
   ·exact hglow _ (hv.symm.trans hh)
   ·omega
  ·refine hw4.trans ?_
   rw [hcast]; simp
  ·rw [hnb',pack_snoc_new L bit hr,vrow_set,vrow_append]
   have hval : bits .or .u8 (0 : Int) (k * 2 ^ (L.length % 8) % 256) = ((bit.toNat * 2 ^ (L.length % 8) : Nat) : Int) := by
    rw [hk]
    have := or_val 0 (L.length % 8) bit (Nat.two_pow_pos _) (by omega)
    simpa using this
   rw [← hval]
   exact ho4
  ·refine ((((Fr.refl _ w).alloc _).grown hg1 ?_).setCell (.inl (.inl rfl)) _ |>.setCell ?_ _ |>.setCell (.inl (.inl rfl)) _).drew
   ·intro q hq
    left; right; rw [← hv]; exact hq.symm
   ·rcases hgg with hh | hh
    ·left; right; rw [← hv]; exact hh.symm
    ·right; exact Nat.le_of_lt hh
  ·rcases hgg with hh | hh
   ·left; rw [← hv]; exact hh.symm
   ·right; exact ⟨g',rfl,by omega⟩
 ·have hnb : nb L.length = L.length / 8 + 1 := by unfold nb; omega
  have hnb' : nb (L ++ [bit]).length = L.length / 8 + 1 := by simp [nb]; omega
  rw [hnb] at hown
  obtain ⟨g',cap,rfl,_⟩ := row_shape hown (by omega)
  have hgb : g' ≠ b := by
   rintro rfl
   exact hne hv.symm
  have hx := byteAt_lt L (L.length / 8)
  have cx : w.cell? ⟨g',L.length / 8,none⟩ = some (.int .u8 (byteAt L (L.length / 8) : Nat)) := by
   rw [hown.cellAt (L.length / 8) (by omega),getElem?_vrow,getElem?_pack,if_pos (by omega)]; rfl
  refine (add_in0 w b g' L.length cap (L.length / 8 + 1) (byteAt L (L.length / 8) : Nat) k hn (by simp; omega) (by omega) (by omega) (by omega) hk0 hk1 (cell0 hb) (cell1 hb) (froz hb) cx (hown.frozenAt _) hgb).mono ?_
  rintro e w' ⟨rfl,rfl⟩
  have ho3 := (hown.stored (L.length / 8) (.int .u8 (bits .or .u8 (byteAt L (L.length / 8) : Nat) (k * 2 ^ (L.length % 8) % 256)))).1
  have hw3 := (Below.heap_setCell w ⟨g',L.length / 8,none⟩ (.int .u8 (bits .or .u8 (byteAt L (L.length / 8) : Nat) (k * 2 ^ (L.length % 8) % 256))) b (fun e => hgb e.symm)).trans hb
  have hw4 := setCell_heap _ b 1 _ _ (.int .i64 ((L.length : Int) + 1)) hw3
  have ho4 := row_setCell ho3 ⟨b,1,none⟩ (.int .i64 ((L.length : Int) + 1)) (by simp [Value.ownBlock]; omega)
  refine ⟨rfl,g,⟨hlow,hglow,hne,⟨.slice (some ⟨g',0,none⟩) (L.length / 8 + 1) cap,?_,?_,hv⟩⟩,⟨?_,.inl rfl⟩⟩
  ·refine hw4.trans ?_
   rw [hcast]; simp
  ·rw [hnb',pack_snoc_in L bit hr,vrow_set]
   have hval := or_val (byteAt L (L.length / 8)) (L.length % 8) bit (byteAt_small L) (by omega)
   rw [← hval,← hk]
   exact ho4
  ·refine ((Fr.refl _ w).setCell ?_ _ |>.setCell (.inl (.inl rfl)) _).drew
   left; right; rw [← hv]; rfl
theorem bit_val (v k : Nat) (hv : v < 18446744073709551616) : bits .and .u64 ((v : Int) / 2 ^ k) 1 % 256 = (((v / 2 ^ k % 2 == 1) : Bool).toNat : Int) := by
 have h2 : ((v : Int) / 2 ^ k) = ((v / 2 ^ k : Nat) : Int) := by simp
 have hle : v / 2 ^ k ≤ v := Nat.div_le_self _ _
 have h3 := u64_and_nat (v / 2 ^ k) 1 (by omega) (by decide)
 rw [h2]
 have h1 : ((1 : Nat) : Int) = 1 := rfl
 rw [h1] at h3
 rw [h3,nat_mask1]
 have hc : v / 2 ^ k % 2 = 0 ∨ v / 2 ^ k % 2 = 1 := by omega
 rcases hc with hc | hc <;> rw [hc] <;> rfl
theorem shr_eq (v n : Nat) (h : v < 2 ^ n) : ((v : Int) / 2 ^ n != 0) = false := by
 have h1 : v / 2 ^ n = 0 := Nat.div_eq_of_lt h
 have h2 : ((v : Int) / 2 ^ n) = ((v / 2 ^ n : Nat) : Int) := by simp
 rw [h2,h1]; rfl
theorem put_ok (B : Nat) (w : World) (b : Nat) (g : Option Nat) (L : List Bool) (v n : Nat) (h : Wr B w b g L) (hn : n ≤ 64) (hv : v < 2 ^ n) (hv2 : v < 18446744073709551616) (hl : L.length + n ≤ 1048576) :
  Calls Tryz.prog 154 #[.pointer (some ⟨b,0,none⟩),.int .u64 v,.int .i64 n] w fun e w' => e = .returned (.int .i64 0) ∧ ∃ g',Wr B w' b g' (L ++ bitsN n v) ∧ Step w b g w' g' := by
 have h0 : ¬ (n : Int) < 0 := by omega
 have h1 : ¬ (64 : Int) < (n : Int) := by omega
 have h2 := shr_eq v n hv
 have h3 : ¬ (1048576 : Int) - (L.length : Int) < (n : Int) := by omega
 obtain ⟨u,hb,_⟩ := h.obj
 have c1 := cell1 hb
 have H : Hid (Wr B w b g L) := h
 clear hb h
 go_enter Tryz.func154,Tryz.ntmps154
 go_wp2
 clear c1 h0 h1 h2 h3
 go_loopw [32] (fun c wr => ∃ k : Nat,k ≤ n ∧ c = .int .i64 k ∧ ∃ g',Wr B wr b g' (L ++ bitsN k v) ∧ Step w b g wr g') (fun c _ => n - (intOf c).toNat)
 case atStart => exact ⟨0,Nat.zero_le _,rfl,g,by simpa [bitsN] using H.out,Step.refl _ _ _⟩
 case round =>
  obtain ⟨k,hk,rfl,g',hW,hS⟩ := hrel
  by_cases hlt : k < n
  ·go_wp2_with fail
   refine (add_any B wr b g' (L ++ bitsN k v) (v / 2 ^ k % 2 == 1) _ (bit_val v k hv2) hW (by rw [List.length_append,length_bitsN]; omega)).mono ?_
   rintro e w1 ⟨rfl,g1,hW1,hS1⟩
   have HW : Hid (∃ g',Wr B w1 b g' (L ++ bitsN (k + 1) v) ∧ Step w b g w1 g') := ⟨g1,by rw [bitsN_snoc,← List.append_assoc]; exact hW1,hS.trans hS1⟩
   clear hW hS hW1 hS1 H
   go_wp2
   go_roundw
   case rel => exact ⟨k + 1,by omega,by go_num,HW.out⟩
   case measure => simp [intOf]; omega
  ·go_wp2
   go_ret
   have e : k = n := by omega
   subst e
   exact ⟨rfl,g',hW,hS⟩
def Src (w : World) (v : Value) (n : Nat) (xs : List Value) : Prop :=
 (v = .slice none 0 0 ∧ n = 0 ∧ xs = []) ∨ ∃ a cap,v = .slice (some a) n cap ∧ xs.length = n ∧ ∀ j u,xs[j]? = some u → w.cell? (a.add j) = some u
theorem Src.of_row {w : World} {e : TypeId} {v : Value} {n : Nat} {xs : List Value} (h : w.ownsRow 0 e 1 v n xs) : Src w v n xs := by
 have hl := h.1
 rcases h.2 with ⟨rfl,rfl⟩ | ⟨g,cap,cur,rfl,_⟩
 ·left; exact ⟨rfl,rfl,List.eq_nil_of_length_eq_zero (by rw [hl,Nat.zero_mul])⟩
 ·right; exact ⟨_,_,rfl,by rw [hl,Nat.mul_one],h.cells rfl⟩
theorem clone_nil (w : World) : Calls Tryz.prog 91 #[.slice none 0 0] w fun e w' => e = .returned (.slice none 0 0) ∧ w' = w := by
 have qn : ∀ (w : World) (a : Option Addr) (n c n' c' : Nat),(binOp .eql 22 (.slice a n c) (.slice none n' c')).run Tryz.prog w = .ok (.bool a.isNone) w := fun w a n c n' c' => Lib.run_eql_slice_nil w _ _ a n c n' c' Tryz.underlying22
 go_enter Tryz.func91,Tryz.ntmps91
 go_wp2
 go_ret
 exact ⟨rfl,rfl⟩
theorem clone_some (w : World) (a : Addr) (n cap : Nat) (xs : List Value) (hl : xs.length = n) (hc : ∀ j u,xs[j]? = some u → w.cell? (a.add j) = some u) (h1 : ∀ u ∈ xs,u.oneCell' = true) (hn : n ≤ 140737488351232) :
  Calls Tryz.prog 91 #[.slice (some a) n cap] w fun e w' => ∃ v',e = .returned v' ∧ w'.ownsRow 0 5 1 v' n xs ∧ Fr Nobody w w' ∧ (∀ k,v'.ownBlock = some k → w.heap.size ≤ k) := by
 obtain ⟨i0,hi,hz0,hz1,hz2⟩ := info_parts Tryz.infoB
 have qn : ∀ (w : World) (a : Option Addr) (n c n' c' : Nat),(binOp .eql 22 (.slice a n c) (.slice none n' c')).run Tryz.prog w = .ok (.bool a.isNone) w := fun w a n c n' c' => Lib.run_eql_slice_nil w _ _ a n c n' c' Tryz.underlying22
 go_enter Tryz.func91,Tryz.ntmps91
 go_wp2_with (at_builtin; refine wpList_append_own _ rfl _ _ 22 rfl w.heap.size 5 i0 (.int .u8 0) 1 1 Tryz.underlying22 hi hz0 hz1 hz2 rfl (by decide) _ _ _ rfl (World.ownsRow_made w #[] 0 (Nat.le_refl _) (Nat.zero_le _) rfl) a n cap xs rfl (by omega) (fun j u hj => Lib.cell?_alloc_some _ (hc j u hj)) h1 (by unfold maxLen; omega) (by omega) (by simp) ?_)
 intro v' w1 hown hgrow hnil
 go_wp2
 go_ret
 have hown' : w1.ownsRow w.heap.size 5 1 v' n xs := by simpa using hown
 refine ⟨v',rfl,row_weak hown',?_,fun k hk => (hown'.lt k hk).1⟩
 exact ((Fr.refl _ w).alloc _).grown hgrow (by intro k hk; simp [Value.ownBlock] at hk; omega)
theorem clone_any (w : World) (v : Value) (n : Nat) (xs : List Value) (h : Src w v n xs) (h1 : ∀ u ∈ xs,u.oneCell' = true) (hn : n ≤ 140737488351232) :
  Calls Tryz.prog 91 #[v] w fun e w' => ∃ v',e = .returned v' ∧ w'.ownsRow 0 5 1 v' n xs ∧ Fr Nobody w w' ∧ (∀ k,v'.ownBlock = some k → w.heap.size ≤ k) := by
 rcases h with ⟨rfl,rfl,rfl⟩ | ⟨a,cap,rfl,hl,hc⟩
 ·refine (clone_nil w).mono ?_
  rintro e w' ⟨rfl,rfl⟩
  exact ⟨_,rfl,World.ownsRow_nil _ _ _ _,Fr.refl _ _,fun k hk => by simp [Value.ownBlock] at hk⟩
 ·exact clone_some w a n cap xs hl hc h1 hn
theorem bytes_any (B : Nat) (w : World) (b : Nat) (g : Option Nat) (L : List Bool) (h : Wr B w b g L) (hl : L.length ≤ 1048576) :
  Calls Tryz.prog 88 #[.pointer (some ⟨b,0,none⟩)] w fun e w' => ∃ v',e = .returned v' ∧ w'.ownsRow 0 5 1 v' (nb L.length) (vrow (pack L)) ∧ Fr Nobody w w' ∧ (∀ k,v'.ownBlock = some k → w.heap.size ≤ k) := by
 obtain ⟨v,hb,hown,hv⟩ := h.obj
 have c0 := cell0 hb
 have H : Hid (Src w v (nb L.length) (vrow (pack L))) := Src.of_row hown
 have hnb : nb L.length ≤ 140737488351232 := by unfold nb; omega
 clear hb h hown hv
 go_enter Tryz.func88,Tryz.ntmps88
 go_wp2_with fail
 refine (clone_any w v _ _ H.out (one_vrow _) hnb).mono ?_
 rintro e w1 ⟨v',rfl,ho,hf,hk⟩
 have HH : Hid (w1.ownsRow 0 5 1 v' (nb L.length) (vrow (pack L)) ∧ Fr Nobody w w1 ∧ (∀ k,v'.ownBlock = some k → w.heap.size ≤ k)) := ⟨ho,hf,hk⟩
 clear ho hf hk
 go_wp2
 go_ret
 exact ⟨v',rfl,HH.out⟩
def bitsB (P : List Nat) : List Bool := P.flatMap (bitsN 8)
theorem length_bitsB (P : List Nat) : (bitsB P).length = 8 * P.length := by
 induction P with
 | nil => rfl
 | cons p P ih => rw [bitsB,List.flatMap_cons,List.length_append,length_bitsN]; rw [bitsB] at ih; rw [ih,List.length_cons]; omega
theorem getElem?_bitsN (n v i : Nat) : (bitsN n v)[i]? = if i < n then some (v / 2 ^ i % 2 == 1) else none := by
 induction n generalizing v i with
 | zero => simp [bitsN]
 | succ n ih =>
  rw [bitsN]
  cases i with
  | zero => simp
  | succ i => rw [List.getElem?_cons_succ,ih,Nat.div_div_eq_div_mul,← Nat.pow_succ']; simp
theorem getElem?_bitsB (P : List Nat) (i : Nat) : (bitsB P)[i]? = (P[i / 8]?).map (fun (x : Nat) => (x / 2 ^ (i % 8) % 2 == 1)) := by
 induction P generalizing i with
 | nil => simp [bitsB]
 | cons p P ih =>
  rw [bitsB,List.flatMap_cons]
  by_cases h : i < 8
  ·rw [List.getElem?_append_left (by rw [length_bitsN]; exact h),getElem?_bitsN,if_pos h]
   have h0 : i / 8 = 0 := by omega
   have h1 : i % 8 = i := by omega
   rw [h0,h1]; rfl
  ·rw [List.getElem?_append_right (by rw [length_bitsN]; omega),length_bitsN]
   have := ih (i - 8)
   rw [bitsB] at this
   rw [this]
   have h0 : i / 8 = (i - 8) / 8 + 1 := by omega
   have h1 : i % 8 = (i - 8) % 8 := by omega
   rw [h0,h1,List.getElem?_cons_succ]
theorem oct (b0 b1 b2 b3 b4 b5 b6 b7 : Nat) (h0 : b0 ≤ 1) (h1 : b1 ≤ 1) (h2 : b2 ≤ 1) (h3 : b3 ≤ 1) (h4 : b4 ≤ 1) (h5 : b5 ≤ 1) (h6 : b6 ≤ 1) (h7 : b7 ≤ 1) (s : Nat)
  (e : s = b0 + 2 * b1 + 4 * b2 + 8 * b3 + 16 * b4 + 32 * b5 + 64 * b6 + 128 * b7) :
  s % 2 = b0 ∧ s / 2 % 2 = b1 ∧ s / 4 % 2 = b2 ∧ s / 8 % 2 = b3 ∧ s / 16 % 2 = b4 ∧ s / 32 % 2 = b5 ∧ s / 64 % 2 = b6 ∧ s / 128 % 2 = b7 := by
 have e1 : s / 2 = b1 + 2 * b2 + 4 * b3 + 8 * b4 + 16 * b5 + 32 * b6 + 64 * b7 := by omega
 have e2 : s / 4 = b2 + 2 * b3 + 4 * b4 + 8 * b5 + 16 * b6 + 32 * b7 := by omega
 have e3 : s / 8 = b3 + 2 * b4 + 4 * b5 + 8 * b6 + 16 * b7 := by omega
 have e4 : s / 16 = b4 + 2 * b5 + 4 * b6 + 8 * b7 := by omega
 have e5 : s / 32 = b5 + 2 * b6 + 4 * b7 := by omega
 have e6 : s / 64 = b6 + 2 * b7 := by omega
 have e7 : s / 128 = b7 := by omega
 rw [e1,e2,e3,e4,e5,e6,e7]
 refine ⟨by omega,by omega,by omega,by omega,by omega,by omega,by omega,by omega⟩
theorem bitsB_pack (L : List Bool) : bitsB (pack L) = L ++ List.replicate (8 * nb L.length - L.length) false := by
 apply List.ext_getElem?
 intro i
 rw [getElem?_bitsB,getElem?_pack]
 by_cases h : i / 8 < nb L.length
 ·rw [if_pos h,Option.map_some]
  have key : byteAt L (i / 8) / 2 ^ (i % 8) % 2 = bt L i := by
   have e : i = 8 * (i / 8) + i % 8 := by omega
   have hm : i % 8 < 8 := Nat.mod_lt _ (by decide)
   generalize i / 8 = q at *
   generalize i % 8 = r at *
   subst e
   obtain ⟨o0,o1,o2,o3,o4,o5,o6,o7⟩ := oct _ _ _ _ _ _ _ _ (bt_le L (8 * q)) (bt_le L (8 * q + 1)) (bt_le L (8 * q + 2)) (bt_le L (8 * q + 3)) (bt_le L (8 * q + 4)) (bt_le L (8 * q + 5)) (bt_le L (8 * q + 6)) (bt_le L (8 * q + 7)) (byteAt L q) rfl
   have c : r = 0 ∨ r = 1 ∨ r = 2 ∨ r = 3 ∨ r = 4 ∨ r = 5 ∨ r = 6 ∨ r = 7 := by omega
   rcases c with rfl | rfl | rfl | rfl | rfl | rfl | rfl | rfl
   ·simpa using o0
   ·simpa using o1
   ·simpa using o2
   ·simpa using o3
   ·simpa using o4
   ·simpa using o5
   ·simpa using o6
   ·simpa using o7
  rw [key]
  unfold bt
  by_cases hl : i < L.length
  ·rw [List.getElem?_append_left hl,List.getElem?_eq_getElem hl]
   simp only [Option.getD_some]
   cases L[i] <;> rfl
  ·rw [List.getElem?_eq_none (by omega),List.getElem?_append_right (by omega),List.getElem?_replicate]
   unfold nb at *
   rw [if_pos (by omega)]; rfl
 ·rw [if_neg h,Option.map_none,List.getElem?_eq_none]
  rw [List.length_append,List.length_replicate]
  unfold nb at *; omega
structure Rd (B : Nat) (w : World) (b : Nat) (g : Option Nat) (P : List Nat) (t : Nat) : Prop where
 low : B ≤ b
 glow : ∀ k,g = some k → B ≤ k
 ne : g ≠ some b
 byt : ∀ x ∈ P,x < 256
 len : P.length ≤ 1048576
 le : t ≤ 8 * P.length
 obj : ∃ v,w.heap[b]? = some (.cells #[v,.int .i64 (t : Int)] 220 (0,0)) ∧ w.ownsRow 0 5 1 v P.length (vrow P) ∧ v.ownBlock = g
theorem Rd.lt {B : Nat} {w : World} {b : Nat} {g : Option Nat} {P : List Nat} {t : Nat} (h : Rd B w b g P t) : b < w.heap.size := by
 obtain ⟨v,hb,_⟩ := h.obj
 exact (Array.getElem?_eq_some_iff.1 hb).1
theorem Rd.glt {B : Nat} {w : World} {b : Nat} {g : Option Nat} {P : List Nat} {t : Nat} (h : Rd B w b g P t) : ∀ k,g = some k → k < w.heap.size := by
 intro k hk
 obtain ⟨v,_,ho,hv⟩ := h.obj
 exact (ho.lt k (hv.trans hk)).2
theorem Rd.keep {S : Nat → Prop} {B : Nat} {w w' : World} {b : Nat} {g : Option Nat} {P : List Nat} {t : Nat} (h : Rd B w b g P t) (hf : Fr S w w') (hb : ¬ S b) (hg : ∀ k,g = some k → ¬ S k) : Rd B w' b g P t := by
 refine ⟨h.low,h.glow,h.ne,h.byt,h.len,h.le,?_⟩
 have hl := h.lt
 obtain ⟨v,h1,h2,h3⟩ := h.obj
 exact ⟨v,(hf.block b hl hb).trans h1,hf.row h2 (fun k hk => hg k (h3.symm.trans hk)),h3⟩
theorem Rd.quiet {B : Nat} {w w' : World} {b : Nat} {g : Option Nat} {P : List Nat} {t : Nat} (h : Rd B w b g P t) (hf : Fr Nobody w w') : Rd B w' b g P t := h.keep hf id (fun _ _ => id)
theorem Wr.quiet {B : Nat} {w w' : World} {b : Nat} {g : Option Nat} {L : List Bool} (h : Wr B w b g L) (hf : Fr Nobody w w') : Wr B w' b g L := h.keep hf id (fun _ _ => id)
end Go.Proofs.YtgifeckbflkkpaaGreatDoor
