/- Plain facts on lists of bits and the bytes that hold them: no program is named here. -/
import Derived.Test.YtgifeckbflkkpaaGreatDoorQp01
import Derived.WalkKit
import Derived.Test.YtgifeckbflkkpaaGreatDoorRows
import Derived.WalkSpells
import Derived.WalkLawsBesides
import Derived.BigRegion
import Derived.BigQuiet
import Derived.Deep.QuietTactic
import Derived.Laws.BitsAllLaws
namespace Go.Proofs.YtgifeckbflkkpaaGreatDoor
def bitsN : Nat → Nat → List Bool
 | 0,_ => []
 | n + 1,v => (v % 2 == 1) :: bitsN n (v / 2)
def num : List Bool → Nat
 | [] => 0
 | b :: l => b.toNat + 2 * num l
def bt (L : List Bool) (i : Nat) : Nat := (L[i]?.getD false).toNat
def byteAt (L : List Bool) (i : Nat) : Nat :=
 bt L (8 * i) + 2 * bt L (8 * i + 1) + 4 * bt L (8 * i + 2) + 8 * bt L (8 * i + 3) + 16 * bt L (8 * i + 4) + 32 * bt L (8 * i + 5) + 64 * bt L (8 * i + 6) + 128 * bt L (8 * i + 7)
def nb (n : Nat) : Nat := (n + 7) / 8
def pack (L : List Bool) : List Nat := (List.range (nb L.length)).map (byteAt L)
def vrow (ps : List Nat) : List Value := ps.map (fun (x : Nat) => Value.int .u8 (x : Int))
theorem bt_le (L : List Bool) (i : Nat) : bt L i ≤ 1 := by unfold bt; cases L[i]?.getD false <;> simp
theorem byteAt_lt (L : List Bool) (i : Nat) : byteAt L i < 256 := by
 have h0 := bt_le L (8 * i); have h1 := bt_le L (8 * i + 1); have h2 := bt_le L (8 * i + 2); have h3 := bt_le L (8 * i + 3)
 have h4 := bt_le L (8 * i + 4); have h5 := bt_le L (8 * i + 5); have h6 := bt_le L (8 * i + 6); have h7 := bt_le L (8 * i + 7)
 unfold byteAt; omega
theorem bt_out (L : List Bool) (i : Nat) (h : L.length ≤ i) : bt L i = 0 := by unfold bt; simp [h]
theorem bt_snoc (L : List Bool) (b : Bool) (i : Nat) : bt (L ++ [b]) i = if i = L.length then b.toNat else bt L i := by
 unfold bt
 by_cases h : i < L.length
 ·rw [if_neg (by omega),List.getElem?_append_left h]
 ·by_cases e : i = L.length
  ·subst e; simp
  ·rw [if_neg e,List.getElem?_eq_none (by simp; omega),List.getElem?_eq_none (by omega)]
theorem length_pack (L : List Bool) : (pack L).length = nb L.length := by simp [pack]
theorem length_vrow (l : List Nat) : (vrow l).length = l.length := by simp [vrow]
theorem byteAt_small (L : List Bool) : byteAt L (L.length / 8) < 2 ^ (L.length % 8) := by
 have z : ∀ j,L.length ≤ j → bt L j = 0 := bt_out L
 have hm : L.length % 8 < 8 := Nat.mod_lt _ (by decide)
 have e : L.length = 8 * (L.length / 8) + L.length % 8 := by omega
 generalize hq : L.length / 8 = q at *
 generalize hr : L.length % 8 = r at *
 have h0 := bt_le L (8 * q); have h1 := bt_le L (8 * q + 1); have h2 := bt_le L (8 * q + 2); have h3 := bt_le L (8 * q + 3)
 have h4 := bt_le L (8 * q + 4); have h5 := bt_le L (8 * q + 5); have h6 := bt_le L (8 * q + 6); have h7 := bt_le L (8 * q + 7)
 unfold byteAt
 have c : r = 0 ∨ r = 1 ∨ r = 2 ∨ r = 3 ∨ r = 4 ∨ r = 5 ∨ r = 6 ∨ r = 7 := by omega
 rcases c with rfl | rfl | rfl | rfl | rfl | rfl | rfl | rfl
 ·rw [z (8 * q) (by omega),z (8 * q + 1) (by omega),z (8 * q + 2) (by omega),z (8 * q + 3) (by omega),z (8 * q + 4) (by omega),z (8 * q + 5) (by omega),z (8 * q + 6) (by omega),z (8 * q + 7) (by omega)]; decide
 ·rw [z (8 * q + 1) (by omega),z (8 * q + 2) (by omega),z (8 * q + 3) (by omega),z (8 * q + 4) (by omega),z (8 * q + 5) (by omega),z (8 * q + 6) (by omega),z (8 * q + 7) (by omega)]; omega
 ·rw [z (8 * q + 2) (by omega),z (8 * q + 3) (by omega),z (8 * q + 4) (by omega),z (8 * q + 5) (by omega),z (8 * q + 6) (by omega),z (8 * q + 7) (by omega)]; omega
 ·rw [z (8 * q + 3) (by omega),z (8 * q + 4) (by omega),z (8 * q + 5) (by omega),z (8 * q + 6) (by omega),z (8 * q + 7) (by omega)]; omega
 ·rw [z (8 * q + 4) (by omega),z (8 * q + 5) (by omega),z (8 * q + 6) (by omega),z (8 * q + 7) (by omega)]; omega
 ·rw [z (8 * q + 5) (by omega),z (8 * q + 6) (by omega),z (8 * q + 7) (by omega)]; omega
 ·rw [z (8 * q + 6) (by omega),z (8 * q + 7) (by omega)]; omega
 ·rw [z (8 * q + 7) (by omega)]; omega
theorem byteAt_snoc (L : List Bool) (b : Bool) (i : Nat) : byteAt (L ++ [b]) i = if i = L.length / 8 then byteAt L i + b.toNat * 2 ^ (L.length % 8) else byteAt L i := by
 have hm : L.length % 8 < 8 := Nat.mod_lt _ (by decide)
 have e : L.length = 8 * (L.length / 8) + L.length % 8 := by omega
 have z := bt_out L L.length (Nat.le_refl _)
 generalize hq : L.length / 8 = q at *
 generalize hr : L.length % 8 = r at *
 unfold byteAt
 simp only [bt_snoc]
 by_cases hi : i = q
 ·subst hi
  rw [if_pos rfl]
  have c : r = 0 ∨ r = 1 ∨ r = 2 ∨ r = 3 ∨ r = 4 ∨ r = 5 ∨ r = 6 ∨ r = 7 := by omega
  rw [e] at z ⊢
  rcases c with rfl | rfl | rfl | rfl | rfl | rfl | rfl | rfl
  all_goals simp only [Nat.add_zero,Nat.add_left_cancel_iff] at *
  all_goals simp [z]
  all_goals omega
 ·rw [if_neg hi,if_neg (by omega),if_neg (by omega),if_neg (by omega),if_neg (by omega),if_neg (by omega),if_neg (by omega),if_neg (by omega),if_neg (by omega)]
theorem getElem?_pack (L : List Bool) (i : Nat) : (pack L)[i]? = if i < nb L.length then some (byteAt L i) else none := by
 unfold pack
 by_cases h : i < nb L.length
 ·rw [if_pos h,List.getElem?_map,List.getElem?_range h]; rfl
 ·rw [if_neg h,List.getElem?_eq_none (by simp; omega)]
theorem pack_snoc_new (L : List Bool) (b : Bool) (h : L.length % 8 = 0) : pack (L ++ [b]) = (pack L ++ [0]).set (L.length / 8) (b.toNat * 2 ^ (L.length % 8)) := by
 have hn : nb L.length = L.length / 8 := by unfold nb; omega
 apply List.ext_getElem?
 intro i
 rw [getElem?_pack,List.length_append,List.length_singleton,byteAt_snoc,List.getElem?_set,List.length_append,length_pack,hn]
 have hs : nb (L.length + 1) = L.length / 8 + 1 := by unfold nb; omega
 have hz : byteAt L (L.length / 8) = 0 := by have := byteAt_small L; rw [h] at this; omega
 rw [hs]
 by_cases c : i < L.length / 8
 ·rw [if_pos (by omega),if_neg (by omega),if_neg (by omega),List.getElem?_append_left (by rw [length_pack,hn]; exact c),getElem?_pack,if_pos (by omega)]
 ·by_cases c2 : i = L.length / 8
  ·subst c2; rw [if_pos (by omega),if_pos rfl,if_pos rfl,if_pos (by simp),hz,Nat.zero_add]
  ·rw [if_neg (by omega),if_neg (by omega),List.getElem?_eq_none (by simp [length_pack,hn]; omega)]
theorem pack_snoc_in (L : List Bool) (b : Bool) (h : L.length % 8 ≠ 0) : pack (L ++ [b]) = (pack L).set (L.length / 8) (byteAt L (L.length / 8) + b.toNat * 2 ^ (L.length % 8)) := by
 have hn : nb L.length = L.length / 8 + 1 := by unfold nb; omega
 apply List.ext_getElem?
 intro i
 rw [getElem?_pack,List.length_append,List.length_singleton,byteAt_snoc,List.getElem?_set,length_pack,hn,getElem?_pack,hn]
 have hs : nb (L.length + 1) = L.length / 8 + 1 := by unfold nb; omega
 rw [hs]
 by_cases c2 : i = L.length / 8
 ·subst c2; rw [if_pos (by omega),if_pos rfl,if_pos rfl,if_pos (by simp)]
 ·rw [if_neg c2,if_neg (show ¬ L.length / 8 = i from fun e => c2 e.symm)]
theorem vrow_set (l : List Nat) (i x : Nat) : vrow (l.set i x) = (vrow l).set i (.int .u8 (x : Int)) := by simp [vrow,List.map_set]
theorem vrow_append (l m : List Nat) : vrow (l ++ m) = vrow l ++ vrow m := by simp [vrow]
theorem getElem?_vrow (l : List Nat) (i : Nat) : (vrow l)[i]? = (l[i]?).map (fun (x : Nat) => Value.int .u8 (x : Int)) := by simp [vrow]
theorem or_bit (x r : Nat) (b : Bool) (hx : x < 2 ^ r) : x ||| (b.toNat <<< r) = x + b.toNat * 2 ^ r := by
 rw [Nat.or_comm,← Nat.shiftLeft_add_eq_or_of_lt hx,Nat.shiftLeft_eq,Nat.add_comm]
theorem length_bitsN (n v : Nat) : (bitsN n v).length = n := by
 induction n generalizing v with
 | zero => rfl
 | succ n ih => simp [bitsN,ih]
theorem bitsN_snoc (n v : Nat) : bitsN (n + 1) v = bitsN n v ++ [v / 2 ^ n % 2 == 1] := by
 induction n generalizing v with
 | zero => simp [bitsN]
 | succ n ih =>
  rw [bitsN,ih (v / 2),bitsN,List.cons_append,Nat.div_div_eq_div_mul,← Nat.pow_succ']
theorem num_lt (l : List Bool) : num l < 2 ^ l.length := by
 induction l with
 | nil => simp [num]
 | cons b l ih => rw [num,List.length_cons,Nat.pow_succ]; cases b <;> simp <;> omega
theorem num_bitsN (n v : Nat) : num (bitsN n v) = v % 2 ^ n := by
 induction n generalizing v with
 | zero => simp [bitsN,num,Nat.mod_one]
 | succ n ih =>
  rw [bitsN,num,ih (v / 2),Nat.pow_succ',Nat.mod_mul]
  have h : v % 2 = 0 ∨ v % 2 = 1 := by omega
  rcases h with h | h <;> simp [h]
theorem num_append (l m : List Bool) : num (l ++ m) = num l + 2 ^ l.length * num m := by
 induction l with
 | nil => simp [num]
 | cons b l ih => simp only [List.cons_append,num,ih,List.length_cons,Nat.pow_succ']; rw [Nat.mul_add,Nat.mul_assoc]; omega
end Go.Proofs.YtgifeckbflkkpaaGreatDoor
namespace Go.Proofs.YtgifeckbflkkpaaGreatDoor
open Go.RowKit
theorem Tryz.infoB : (Tryz.prog.info? 5).map (fun i => (i.zero,i.size,i.bytes)) = some (some (.int .u8 0),1,1) := by kernel_rfl
theorem Tryz.infoBool : (Tryz.prog.info? 4).map (fun i => (i.zero,i.size,i.bytes)) = some (some (.bool false),1,1) := by kernel_rfl
def At (b : Nat) (g : Option Nat) (k : Nat) : Prop := k = b ∨ some k = g
theorem row_setCell {w : World} {base : Nat} {e : TypeId} {size n : Nat} {v : Value} {xs : List Value} (ho : w.ownsRow base e size v n xs) (p : Addr) (u : Value) (h : v.ownBlock ≠ some p.block) : (w.setCell p u).ownsRow base e size v n xs := by
 have hf : Fr (fun k => k = p.block) w (w.setCell p u) := Fr.setCell (S := fun k => k = p.block) (Fr.refl _ w) (.inl rfl) u
 exact hf.row ho (fun k hk e => h (by rw [hk,e]))
structure Wr (B : Nat) (w : World) (b : Nat) (g : Option Nat) (L : List Bool) : Prop where
 low : B ≤ b
 glow : ∀ k,g = some k → B ≤ k
 ne : g ≠ some b
 obj : ∃ v,w.heap[b]? = some (.cells #[v,.int .i64 (L.length : Int)] 210 (0,0)) ∧ w.ownsRow 0 5 1 v (nb L.length) (vrow (pack L)) ∧ v.ownBlock = g
theorem Wr.lt {B : Nat} {w : World} {b : Nat} {g : Option Nat} {L : List Bool} (h : Wr B w b g L) : b < w.heap.size := by
 obtain ⟨v,hb,_⟩ := h.obj
 exact (Array.getElem?_eq_some_iff.1 hb).1
theorem Wr.glt {B : Nat} {w : World} {b : Nat} {g : Option Nat} {L : List Bool} (h : Wr B w b g L) : ∀ k,g = some k → k < w.heap.size := by
 intro k hk
 obtain ⟨v,_,ho,hv⟩ := h.obj
 exact (ho.lt k (hv.trans hk)).2
theorem Wr.keep {S : Nat → Prop} {B : Nat} {w w' : World} {b : Nat} {g : Option Nat} {L : List Bool} (h : Wr B w b g L) (hf : Fr S w w') (hb : ¬ S b) (hg : ∀ k,g = some k → ¬ S k) : Wr B w' b g L := by
 refine ⟨h.low,h.glow,h.ne,?_⟩
 have hl := h.lt
 obtain ⟨v,h1,h2,h3⟩ := h.obj
 exact ⟨v,(hf.block b hl hb).trans h1,hf.row h2 (fun k hk => hg k (h3.symm.trans hk)),h3⟩
theorem Wr.mono {B B' : Nat} {w : World} {b : Nat} {g : Option Nat} {L : List Bool} (h : Wr B w b g L) (hB : B' ≤ B) : Wr B' w b g L :=
 ⟨Nat.le_trans hB h.low,fun k hk => Nat.le_trans hB (h.glow k hk),h.ne,h.obj⟩
structure Step (w : World) (b : Nat) (g : Option Nat) (w' : World) (g' : Option Nat) : Prop where
 fr : Fr (At b g) w w'
 row : g' = g ∨ ∃ k,g' = some k ∧ w.heap.size ≤ k
theorem Step.refl (w : World) (b : Nat) (g : Option Nat) : Step w b g w g := ⟨Fr.refl _ _,.inl rfl⟩
theorem Step.trans {w w1 w2 : World} {b : Nat} {g g1 g2 : Option Nat} (h : Step w b g w1 g1) (k : Step w1 b g1 w2 g2) : Step w b g w2 g2 := by
 refine ⟨⟨k.fr.os.trans h.fr.os,k.fr.tape.trans h.fr.tape,k.fr.output.trans h.fr.output,Nat.le_trans h.fr.size k.fr.size,fun i hi hs => ?_⟩,?_⟩
 ·refine (k.fr.block i (Nat.lt_of_lt_of_le hi h.fr.size) ?_).trans (h.fr.block i hi hs)
  rintro (e | e)
  ·exact hs (.inl e)
  ·rcases h.row with r | ⟨j,r,hj⟩
   ·exact hs (.inr (e.trans r))
   ·rw [r] at e; cases e; omega
 ·rcases k.row with r | ⟨j,r,hj⟩
  ·rw [r]; exact h.row
  ·exact .inr ⟨j,r,Nat.le_trans h.fr.size hj⟩
theorem new_any (B : Nat) (w : World) (hB : B ≤ w.heap.size) :
  Calls Tryz.prog 84 #[] w fun e w' => ∃ b,e = .returned (.pointer (some ⟨b,0,none⟩)) ∧ w.heap.size ≤ b ∧ Wr B w' b none [] ∧ Fr Nobody w w' := by
 go_enter Tryz.func84,Tryz.ntmps84
 go_wp2
 go_ret
 refine ⟨_,rfl,Nat.le_refl _,⟨hB,fun k hk => by simp at hk,by simp,?_⟩,(Fr.refl _ _).alloc _⟩
 exact ⟨.slice none 0 0,heap_alloc_new w _,World.ownsRow_nil _ _ _ _,rfl⟩
theorem cell0 {w : World} {b : Nat} {v u : Value} {t : TypeId} (h : w.heap[b]? = some (.cells #[v,u] t (0,0))) : w.cell? ⟨b,0,none⟩ = some v := by simp [World.cell?,h]
theorem cell1 {w : World} {b : Nat} {v u : Value} {t : TypeId} (h : w.heap[b]? = some (.cells #[v,u] t (0,0))) : w.cell? ⟨b,1,none⟩ = some u := by simp [World.cell?,h]
theorem froz {w : World} {b o : Nat} {v u : Value} {t : TypeId} (h : w.heap[b]? = some (.cells #[v,u] t (0,0))) : w.frozen? ⟨b,o,none⟩ = false := by simp [World.frozen?,h]
theorem len_any (B : Nat) (w : World) (b : Nat) (g : Option Nat) (L : List Bool) (h : Wr B w b g L) :
  Calls Tryz.prog 180 #[.pointer (some ⟨b,0,none⟩)] w fun e w' => e = .returned (.int .i64 (L.length : Int)) ∧ w' = w := by
 obtain ⟨v,hb,_⟩ := h.obj
 have c1 := cell1 hb
 clear hb h
 go_enter Tryz.func180,Tryz.ntmps180
 go_wp2
 go_ret
 exact ⟨rfl,rfl⟩
end Go.Proofs.YtgifeckbflkkpaaGreatDoor
namespace Go.Proofs.YtgifeckbflkkpaaGreatDoor
open Go.RowKit
set_option linter.unusedVariables false
set_option maxHeartbeats 400000
theorem one_vrow (l : List Nat) : ∀ u ∈ vrow l,u.oneCell' = true := by intro u hu; rw [vrow,List.mem_map] at hu; obtain ⟨x,_,rfl⟩ := hu; rfl
set_option maxRecDepth 100000 in
theorem add_in0 (w : World) (b g n cap len : Nat) (x bit : Int) (hn : n < 1048576) (hr : ((n : Int) % 8 == 0) = false) (hlen : n / 8 < len) (hx : 0 ≤ x) (hx2 : x ≤ 255) (hb0 : 0 ≤ bit) (hb1 : bit ≤ 1)
  (c0 : w.cell? ⟨b,0,none⟩ = some (.slice (some ⟨g,0,none⟩) len cap)) (c1 : w.cell? ⟨b,1,none⟩ = some (.int .i64 n)) (f1 : w.frozen? ⟨b,1,none⟩ = false)
  (cx : w.cell? ⟨g,n / 8,none⟩ = some (.int .u8 x)) (fx : w.frozen? ⟨g,n / 8,none⟩ = false) (hgb : g ≠ b) :
  Calls Tryz.prog 181 #[.pointer (some ⟨b,0,none⟩),.int .u8 bit] w fun e w' => e = .returned (.tuple #[]) ∧
   w' = ((w.setCell ⟨g,n / 8,none⟩ (.int .u8 (bits .or .u8 x (bit * 2 ^ (n % 8) % 256)))).setCell ⟨b,1,none⟩ (.int .i64 ((n : Int) + 1))).drew := by
 have hi : (n : Int) / 8 < len := by omega
 go_enter Tryz.func181,Tryz.ntmps181
 go_wp2
 go_region
 go_wp2
 go_end0
 exact ⟨rfl,rfl⟩
set_option maxRecDepth 100000 in
theorem add_new0 (w : World) (b n : Nat) (v : Value) (xs : List Value) (bit : Int) (hn : n < 1048576) (hr : ((n : Int) % 8 == 0) = true) (hb0 : 0 ≤ bit) (hb1 : bit ≤ 1) (hbl : b < w.heap.size)
  (c0 : w.cell? ⟨b,0,none⟩ = some v) (c1 : w.cell? ⟨b,1,none⟩ = some (.int .i64 n)) (f0 : w.frozen? ⟨b,0,none⟩ = false) (f1 : w.frozen? ⟨b,1,none⟩ = false)
  (hown : w.ownsRow 0 5 1 v (n / 8) xs) (hvb : v.ownBlock ≠ some b) :
  Calls Tryz.prog 181 #[.pointer (some ⟨b,0,none⟩),.int .u8 bit] w fun e w' => e = .returned (.tuple #[]) ∧
   ∃ w1 g cap,w1.ownsRow 0 5 1 (.slice (some ⟨g,0,none⟩) (n / 8 + 1) cap) (n / 8 + 1) (xs ++ [.int .u8 0]) ∧ (w.alloc (.cells #[.int .u8 0] 5)).grownBy w1 v.ownBlock ∧ (v.ownBlock = some g ∨ w.heap.size < g) ∧
   w' = (((w1.setCell ⟨b,0,none⟩ (.slice (some ⟨g,0,none⟩) (n / 8 + 1) cap)).setCell ⟨g,n / 8,none⟩ (.int .u8 (bits .or .u8 0 (bit * 2 ^ (n % 8) % 256)))).setCell ⟨b,1,none⟩ (.int .i64 ((n : Int) + 1))).drew := by
 obtain ⟨i0,hi,hz0,hz1,hz2⟩ := info_parts Tryz.infoB
 go_enter Tryz.func181,Tryz.ntmps181
 go_wp2_with (at_builtin; refine wpList_append_ours _ rfl _ _ 22 rfl 5 i0 (.int .u8 0) 1 1 Tryz.underlying22 hi hz0 hz1 hz2 rfl (by decide) _ _ _ rfl (hown.alloc _) ⟨w.heap.size,0,none⟩ 1 1 [.int .u8 0] rfl rfl (cell_one_new _ _ _) (one_int _ _) (by decide) (by unfold maxLen; omega) (by omega) ?_)
 intro v' w1 hown' hgrow hnew
 obtain ⟨g,cap,hv',hgg⟩ := hnew
 subst hv'
 have hbl' : b < (w.alloc (.cells #[.int .u8 0] 5)).heap.size := by simp; omega
 have hblk : w1.heap[b]? = w.heap[b]? := (hgrow.block b hbl' (fun e => hvb e.symm)).trans (Below.heap_alloc _ _ _ hbl)
 have k0 : w1.cell? ⟨b,0,none⟩ = some v := (World.cell?_of_block (w := w) hblk).trans c0
 have k1 : w1.cell? ⟨b,1,none⟩ = some (.int .i64 n) := (World.cell?_of_block (w := w) hblk).trans c1
 have e0 : w1.frozen? ⟨b,0,none⟩ = false := (World.frozen?_of_block (w := w) hblk).trans f0
 have e1 : w1.frozen? ⟨b,1,none⟩ = false := (World.frozen?_of_block (w := w) hblk).trans f1
 have hgb : g ≠ b := by
  rintro rfl
  rcases hgg with h | h
  ·exact hvb h
  ·simp at h; omega
 have hxl : xs.length = n / 8 := by have := hown.1; omega
 have cx : w1.cell? ⟨g,n / 8,none⟩ = some (.int .u8 0) := by
  rw [hown'.cellAt (n / 8) (by omega),List.getElem?_append_right (by omega),hxl]; simp
 have fx : w1.frozen? ⟨g,n / 8,none⟩ = false := hown'.frozenAt _
 have hi8 : (n : Int) / 8 < ((n / 8 + 1 : Nat) : Int) := by omega
 have hgg2 : v.ownBlock = some g ∨ w.heap.size < g := by
  rcases hgg with h | h
  ·exact .inl h
  ·right; simp at h; omega
 have H : Hid (w1.ownsRow 0 5 1 (.slice (some ⟨g,0,none⟩) (n / 8 + 1) cap) (n / 8 + 1) (xs ++ [.int .u8 0]) ∧ (w.alloc (.cells #[.int .u8 0] 5)).grownBy w1 v.ownBlock ∧ (v.ownBlock = some g ∨ w.heap.size < g)) := ⟨hown',hgrow,hgg2⟩
 clear hown' hgrow hgg hgg2 hblk c0 c1 f0 f1 hown hvb hxl hi hz0 hz1 hz2 hbl' hbl
 go_wp2
 go_region
 go_wp2
 go_end0
 exact ⟨rfl,w1,g,cap,H.out.1,H.out.2.1,H.out.2.2,rfl⟩
theorem or_val (x r : Nat) (bit : Bool) (hx : x < 2 ^ r) (hr : r < 8) : bits .or .u8 (x : Int) ((bit.toNat : Int) * 2 ^ r % 256) = ((x + bit.toNat * 2 ^ r : Nat) : Int) := by
 have h256 : 2 ^ r ≤ 128 := by
  have := Nat.pow_le_pow_right (n := 2) (by decide) (show r ≤ 7 by omega)
  simpa using this
 have hm : ((bit.toNat : Int) * 2 ^ r % 256) = ((bit.toNat * 2 ^ r : Nat) : Int) := by
  have hp : ((2 : Int) ^ r) = ((2 ^ r : Nat) : Int) := by simp
  rw [hp]
  cases bit
  ·simp
  ·simp only [Bool.toNat_true,Nat.one_mul]
   omega
 rw [hm,u8_or_nat x (bit.toNat * 2 ^ r) (by omega) (by cases bit <;> simp; omega)]
 rw [← or_bit x r bit hx,Nat.shiftLeft_eq]
theorem setCell_heap (w : World) (b o : Nat) (cur : Array Value) (t : TypeId) (u : Value) (h : w.heap[b]? = some (.cells cur t (0,0))) : (w.setCell ⟨b,o,none⟩ u).heap[b]? = some (.cells (cur.setIfInBounds o u) t (0,0)) :=
 heap_setCell_same w b o cur t u h
theorem add_any (B : Nat) (w : World) (b : Nat) (g : Option Nat) (L : List Bool) (bit : Bool) (k : Int) (hk : k = (bit.toNat : Int)) (h : Wr B w b g L) (hn : L.length < 1048576) :
  Calls Tryz.prog 181 #[.pointer (some ⟨b,0,none⟩),.int .u8 k] w fun e w' => e = .returned (.tuple #[]) ∧ ∃ g',Wr B w' b g' (L ++ [bit]) ∧ Step w b g w' g' := by
 have hlt := h.lt
 have hne := h.ne
 have hlow := h.low
 have hglow := h.glow
 obtain ⟨v,hb,hown,hv⟩ := h.obj
 have hk0 : 0 ≤ k := by rw [hk]; omega
 have hk1 : k ≤ 1 := by rw [hk]; cases bit <;> simp
 have hcast : ((L.length : Int) + 1) = (((L ++ [bit]).length : Nat) : Int) := by simp
 by_cases hr : L.length % 8 = 0
 ·have hnb : nb L.length = L.length / 8 := by unfold nb; omega
  have hnb' : nb (L ++ [bit]).length = L.length / 8 + 1 := by simp [nb]; omega
  rw [hnb] at hown
  refine (add_new0 w b L.length v (vrow (pack L)) k hn (by simp; omega) hk0 hk1 hlt (cell0 hb) (cell1 hb) (froz hb) (froz hb) hown (by rw [hv]; exact hne)).mono ?_
  rintro e w' ⟨rfl,w1,g',cap,ho1,hg1,hgg,rfl⟩
  have hgb : g' ≠ b := by
   rintro rfl
   rcases hgg with hh | hh
   ·exact hne (hv.symm.trans hh)
   ·omega
  have hblk : w1.heap[b]? = w.heap[b]? := (hg1.block b (by simp; omega) (fun e => hne (by rw [← hv]; exact e.symm))).trans (Below.heap_alloc _ _ _ hlt)
  have hb1 := hblk.trans hb
  have hw2 := setCell_heap w1 b 0 _ _ (.slice (some ⟨g',0,none⟩) (L.length / 8 + 1) cap) hb1
  have ho2 : (w1.setCell ⟨b,0,none⟩ (.slice (some ⟨g',0,none⟩) (L.length / 8 + 1) cap)).ownsRow 0 5 1 (.slice (some ⟨g',0,none⟩) (L.length / 8 + 1) cap) (L.length / 8 + 1) (vrow (pack L) ++ [.int .u8 0]) :=
   row_setCell ho1 _ _ (by simp [Value.ownBlock]; omega)
  have ho3 := (ho2.stored (L.length / 8) (.int .u8 (bits .or .u8 0 (k * 2 ^ (L.length % 8) % 256)))).1
  have hw3 : ((w1.setCell ⟨b,0,none⟩ (.slice (some ⟨g',0,none⟩) (L.length / 8 + 1) cap)).setCell ⟨g',L.length / 8,none⟩ (.int .u8 (bits .or .u8 0 (k * 2 ^ (L.length % 8) % 256)))).heap[b]? = _ :=
   (Below.heap_setCell _ _ _ b (fun e => hgb e.symm)).trans hw2
  have hw4 := setCell_heap _ b 1 _ _ (.int .i64 ((L.length : Int) + 1)) hw3
  have ho4 := row_setCell ho3 ⟨b,1,none⟩ (.int .i64 ((L.length : Int) + 1)) (by simp [Value.ownBlock]; omega)
  refine ⟨rfl,some g',⟨hlow,?_,by simp; omega,⟨.slice (some ⟨g',0,none⟩) (L.length / 8 + 1) cap,?_,?_,rfl⟩⟩,⟨?_,?_⟩⟩
  ·intro q hq
   cases hq
   rcases hgg with hh | hh
   ·exact hglow _ (hv.symm.trans hh)
   ·omega
  ·refine hw4.trans ?_
   rw [hcast]; simp
  ·rw [hnb',pack_snoc_new L bit hr,vrow_set,vrow_append]
   have hval : bits .or .u8 (0 : Int) (k * 2 ^ (L.length % 8) % 256) = ((bit.toNat * 2 ^ (L.length % 8) : Nat) : Int) := by
    rw [hk]
    have := or_val 0 (L.length % 8) bit (Nat.two_pow_pos _) (by omega)
    simpa using this
   rw [← hval]
   exact ho4
  ·refine ((((Fr.refl _ w).alloc _).grown hg1 ?_).setCell (.inl (.inl rfl)) _ |>.setCell ?_ _ |>.setCell (.inl (.inl rfl)) _).drew
   ·intro q hq
    left; right; rw [← hv]; exact hq.symm
   ·rcases hgg with hh | hh
    ·left; right; rw [← hv]; exact hh.symm
    ·right; exact Nat.le_of_lt hh
  ·rcases hgg with hh | hh
   ·left; rw [← hv]; exact hh.symm
   ·right; exact ⟨g',rfl,by omega⟩
 ·have hnb : nb L.length = L.length / 8 + 1 := by unfold nb; omega
  have hnb' : nb (L ++ [bit]).length = L.length / 8 + 1 := by simp [nb]; omega
  rw [hnb] at hown
  obtain ⟨g',cap,rfl,_⟩ := row_shape hown (by omega)
  have hgb : g' ≠ b := by
   rintro rfl
   exact hne hv.symm
  have hx := byteAt_lt L (L.length / 8)
  have cx : w.cell? ⟨g',L.length / 8,none⟩ = some (.int .u8 (byteAt L (L.length / 8) : Nat)) := by
   rw [hown.cellAt (L.length / 8) (by omega),getElem?_vrow,getElem?_pack,if_pos (by omega)]; rfl
  refine (add_in0 w b g' L.length cap (L.length / 8 + 1) (byteAt L (L.length / 8) : Nat) k hn (by simp; omega) (by omega) (by omega) (by omega) hk0 hk1 (cell0 hb) (cell1 hb) (froz hb) cx (hown.frozenAt _) hgb).mono ?_
  rintro e w' ⟨rfl,rfl⟩
  have ho3 := (hown.stored (L.length / 8) (.int .u8 (bits .or .u8 (byteAt L (L.length / 8) : Nat) (k * 2 ^ (L.length % 8) % 256)))).1
  have hw3 := (Below.heap_setCell w ⟨g',L.length / 8,none⟩ (.int .u8 (bits .or .u8 (byteAt L (L.length / 8) : Nat) (k * 2 ^ (L.length % 8) % 256))) b (fun e => hgb e.symm)).trans hb
  have hw4 := setCell_heap _ b 1 _ _ (.int .i64 ((L.length : Int) + 1)) hw3
  have ho4 := row_setCell ho3 ⟨b,1,none⟩ (.int .i64 ((L.length : Int) + 1)) (by simp [Value.ownBlock]; omega)
  refine ⟨rfl,g,⟨hlow,hglow,hne,⟨.slice (some ⟨g',0,none⟩) (L.length / 8 + 1) cap,?_,?_,hv⟩⟩,⟨?_,.inl rfl⟩⟩
  ·refine hw4.trans ?_
   rw [hcast]; simp
  ·rw [hnb',pack_snoc_in L bit hr,vrow_set]
   have hval := or_val (byteAt L (L.length / 8)) (L.length % 8) bit (byteAt_small L) (by omega)
   rw [← hval,← hk]
   exact ho4
  ·refine ((Fr.refl _ w).setCell ?_ _ |>.setCell (.inl (.inl rfl)) _).drew
   left; right; rw [← hv]; rfl
theorem bit_val (v k : Nat) (hv : v < 18446744073709551616) : bits .and .u64 ((v : Int) / 2 ^ k) 1 % 256 = (((v / 2 ^ k % 2 == 1) : Bool).toNat : Int) := by
 have h2 : ((v : Int) / 2 ^ k) = ((v / 2 ^ k : Nat) : Int) := by simp
 have hle : v / 2 ^ k ≤ v := Nat.div_le_self _ _
 have h3 := u64_and_nat (v / 2 ^ k) 1 (by omega) (by decide)
 rw [h2]
 have h1 : ((1 : Nat) : Int) = 1 := rfl
 rw [h1] at h3
 rw [h3,nat_mask1]
 have hc : v / 2 ^ k % 2 = 0 ∨ v / 2 ^ k % 2 = 1 := by omega
 rcases hc with hc | hc <;> rw [hc] <;> rfl
theorem shr_eq (v n : Nat) (h : v < 2 ^ n) : ((v : Int) / 2 ^ n != 0) = false := by
 have h1 : v / 2 ^ n = 0 := Nat.div_eq_of_lt h
 have h2 : ((v : Int) / 2 ^ n) = ((v / 2 ^ n : Nat) : Int) := by simp
 rw [h2,h1]; rfl
theorem put_ok (B : Nat) (w : World) (b : Nat) (g : Option Nat) (L : List Bool) (v n : Nat) (h : Wr B w b g L) (hn : n ≤ 64) (hv : v < 2 ^ n) (hv2 : v < 18446744073709551616) (hl : L.length + n ≤ 1048576) :
  Calls Tryz.prog 154 #[.pointer (some ⟨b,0,none⟩),.int .u64 v,.int .i64 n] w fun e w' => e = .returned (.int .i64 0) ∧ ∃ g',Wr B w' b g' (L ++ bitsN n v) ∧ Step w b g w' g' := by
 have h0 : ¬ (n : Int) < 0 := by omega
 have h1 : ¬ (64 : Int) < (n : Int) := by omega
 have h2 := shr_eq v n hv
 have h3 : ¬ (1048576 : Int) - (L.length : Int) < (n : Int) := by omega
 obtain ⟨u,hb,_⟩ := h.obj
 have c1 := cell1 hb
 have H : Hid (Wr B w b g L) := h
 clear hb h
 go_enter Tryz.func154,Tryz.ntmps154
 go_wp2
 clear c1 h0 h1 h2 h3
 go_loopw [32] (fun c wr => ∃ k : Nat,k ≤ n ∧ c = .int .i64 k ∧ ∃ g',Wr B wr b g' (L ++ bitsN k v) ∧ Step w b g wr g') (fun c _ => n - (intOf c).toNat)
 case atStart => exact ⟨0,Nat.zero_le _,rfl,g,by simpa [bitsN] using H.out,Step.refl _ _ _⟩
 case round =>
  obtain ⟨k,hk,rfl,g',hW,hS⟩ := hrel
  by_cases hlt : k < n
  ·go_wp2_with fail
   refine (add_any B wr b g' (L ++ bitsN k v) (v / 2 ^ k % 2 == 1) _ (bit_val v k hv2) hW (by rw [List.length_append,length_bitsN]; omega)).mono ?_
   rintro e w1 ⟨rfl,g1,hW1,hS1⟩
   have HW : Hid (∃ g',Wr B w1 b g' (L ++ bitsN (k + 1) v) ∧ Step w b g w1 g') := ⟨g1,by rw [bitsN_snoc,← List.append_assoc]; exact hW1,hS.trans hS1⟩
   clear hW hS hW1 hS1 H
   go_wp2
   go_roundw
   case rel => exact ⟨k + 1,by omega,by go_num,HW.out⟩
   case measure => simp [intOf]; omega
  ·go_wp2
   go_ret
   have e : k = n := by omega
   subst e
   exact ⟨rfl,g',hW,hS⟩
end Go.Proofs.YtgifeckbflkkpaaGreatDoor
