/- The document's side of layer 1: Bits and Get on lists of bits. -/
import Derived.Test.YtgifeckbflkkpaaGreatDoorQp06
import Derived.Test.YtgifeckbflkkpaaGreatDoorQp08
namespace Go.Proofs.YtgifeckbflkkpaaGreatDoor
open Go.RowKit
set_option linter.unusedVariables false
set_option maxHeartbeats 4000000
set_option maxRecDepth 100000
def BytesAt (w : World) (ao : Option Addr) (P : List Nat) : Prop :=
 P = [] ∨ ∃ g o,ao = some ⟨g,o,none⟩ ∧ ∀ (j x : Nat),P[j]? = some x → w.cell? ⟨g,o + j,none⟩ = some (.int .u8 (x : Int))
theorem BytesAt.quiet {w w' : World} {ao : Option Addr} {P : List Nat} (h : BytesAt w ao P) (hf : Fr Nobody w w') : BytesAt w' ao P := by
 rcases h with h | ⟨g,o,ha,hc⟩
 ·exact .inl h
 ·refine .inr ⟨g,o,ha,fun j x hx => ?_⟩
  have h1 := hc j x hx
  exact (hf.cell (p := ⟨g,o + j,none⟩) (World.block_lt_of_cell? w _ h1) id).trans h1
theorem BytesAt.src {w : World} {ao : Option Addr} {P : List Nat} (h : BytesAt w ao P) (cap : Nat) (hn : ao = none → cap = 0) : Src w (.slice ao P.length cap) P.length (vrow P) := by
 cases ao with
 | none =>
  left
  rcases h with h | ⟨g,o,ha,_⟩
  ·subst h; rw [hn rfl]; exact ⟨rfl,rfl,rfl⟩
  ·cases ha
 | some a =>
  right
  refine ⟨a,cap,rfl,length_vrow P,fun j u hu => ?_⟩
  rcases h with h | ⟨g,o,ha,hc⟩
  ·subst h; simp [vrow] at hu
  ·cases ha
   rw [getElem?_vrow] at hu
   cases hx : P[j]? with
   | none => rw [hx] at hu; cases hu
   | some x =>
    rw [hx] at hu
    simp only [Option.map_some,Option.some.injEq] at hu
    subst hu
    rw [addr_add]
    exact hc j x hx
theorem bitsB_snoc (P : List Nat) (k x : Nat) (h : P[k]? = some x) : bitsB (P.take (k + 1)) = bitsB (P.take k) ++ bitsN 8 x := by
 rw [List.take_add_one,h]; simp [bitsB]
theorem length_bitsB_take (P : List Nat) (k : Nat) (h : k ≤ P.length) : (bitsB (P.take k)).length = 8 * k := by rw [length_bitsB,List.length_take]; omega
theorem rbits_any (w : World) (ao : Option Addr) (cap len : Nat) (P : List Nat) (h : BytesAt w ao P) (hlen : P.length = len) (hb : ∀ x ∈ P,x < 256) (hL : len ≤ 10000) :
  Calls Tryz.prog 42 #[.slice ao len cap] w fun e w' => ∃ v',e = .returned v' ∧ Bo w.heap.size w' v' (bitsB P) ∧ Fr Nobody w w' := by
 obtain ⟨i0,hi,hz0,hz1,hz2⟩ := info_parts Tryz.infoBool
 have HP : Hid (BytesAt w ao P ∧ P.length = len ∧ ∀ x ∈ P,x < 256) := ⟨h,hlen,hb⟩
 clear h hlen hb
 go_enter Tryz.func42,Tryz.ntmps42
 go_wp2
 go_loopw [3,8] (fun u c wr => ∃ k : Nat,k ≤ len ∧ c = .int .i64 k ∧ Bo w.heap.size wr u (bitsB (P.take k)) ∧ Fr Nobody w wr) (fun _ c _ => len - (intOf c).toNat)
 case atStart => exact ⟨0,Nat.zero_le _,rfl,Bo.nil _ _,Fr.refl _ _⟩
 case round =>
  obtain ⟨k,hk,rfl,hB,hf⟩ := hrel
  have H1 : Hid (Bo w.heap.size wr _ (bitsB (P.take k)) ∧ Fr Nobody w wr) := ⟨hB,hf⟩
  clear hB hf
  by_cases hlt : k < len
  ·obtain ⟨x,hx⟩ : ∃ x,P[k]? = some x := ⟨_,List.getElem?_eq_getElem (by rw [HP.out.2.1]; exact hlt)⟩
   have hx2 := HP.out.2.2 x (List.mem_of_getElem? hx)
   obtain ⟨g,o,hao,cx⟩ : ∃ g o,ao = some ⟨g,o,none⟩ ∧ wr.cell? ⟨g,o + k,none⟩ = some (.int .u8 (x : Int)) := by
    rcases HP.out.1.quiet H1.out.2 with h | ⟨g,o,ha,hc⟩
    ·subst h; simp at hx
    ·exact ⟨g,o,ha,hc k _ hx⟩
   subst hao
   have HS : Hid (bitsB (P.take (k + 1)) = bitsB (P.take k) ++ bitsN 8 x) := bitsB_snoc P k x hx
   have HL : Hid ((bitsB (P.take k)).length = 8 * k) := length_bitsB_take P k (by rw [HP.out.2.1]; exact hk)
   clear hx
   have hd : decide ((k : Int) < (len : Int)) = true := by simp; omega
   go_wp2
   clear hd cx
   go_loopw [3,5,12] (fun u xv c wr2 => ∃ j y : Nat,j ≤ 8 ∧ c = .int .i64 j ∧ y = x / 2 ^ j ∧ xv = .int .u8 (y : Int) ∧ Bo w.heap.size wr2 u (bitsB (P.take k) ++ bitsN j x) ∧ Fr Nobody w wr2) (fun _ _ c _ => 8 - (intOf c).toNat)
   case atStart => exact ⟨0,x,by decide,rfl,by simp,rfl,by simpa [bitsN] using H1.out.1,H1.out.2⟩
   case round =>
    obtain ⟨j,y,hj,rfl,hy,rfl,hB,hf⟩ := hrel
    have HY : Hid (y = x / 2 ^ j) := hy
    have hy2 : y < 256 := by rw [hy]; exact Nat.lt_of_le_of_lt (Nat.div_le_self _ _) hx2
    clear hy
    by_cases hj8 : j < 8
    ·obtain ⟨bb,hbb⟩ : ∃ bb : Bool,(((y : Int) % 2 == 1) : Bool) = bb := ⟨_,rfl⟩
     have HB : Hid ((x / 2 ^ j % 2 == 1) = bb) := by
      show _ = _
      rw [← hbb,← HY.out,Bool.eq_iff_iff]; simp; omega
     have hsz := hf.size
     have hln : (bitsB (P.take k) ++ bitsN j x).length ≤ 100000 := by rw [List.length_append,length_bitsN,HL.out]; omega
     go_wp2_with (at_builtin; refine wpList_append_own _ rfl _ _ 75 rfl w.heap.size 4 i0 (.bool false) 1 1 Tryz.underlying75 hi hz0 hz1 hz2 rfl (by decide) _ _ _ rfl (World.ownsRow.alloc hB _) ⟨_,0,none⟩ 1 1 [.bool bb] rfl rfl (cell_one_new _ _ _) (one_bool _) (by unfold maxLen; omega) (by omega) (by simp; omega) ?_)
     intro u' w2 ho2 hg2 _
     have H2 : Hid (Bo w.heap.size w2 u' (bitsB (P.take k) ++ bitsN (j + 1) x) ∧ Fr Nobody w w2) := by
      refine ⟨?_,(hf.alloc _).grown hg2 (fun q hq => .inr (World.ownsRow.lt hB q hq).1)⟩
      unfold Bo
      rw [bitsN_snoc,HB.out,← List.append_assoc,brow_append (bitsB (P.take k) ++ bitsN j x),show (bitsB (P.take k) ++ bitsN j x ++ [bb]).length = (bitsB (P.take k)).length + (bitsN j x).length + 1 from by rw [List.length_append,List.length_append]; rfl]
      exact ho2
     have HY2 : Hid (y / 2 = x / 2 ^ (j + 1)) := by show _ = _; rw [HY.out,half_pow]
     clear hB hf ho2 hg2 HB HY hbb hln
     go_wp2
     go_roundw
     case rel => exact ⟨j + 1,y / 2,by omega,by go_num,HY2.out,by go_num,H2.out.1,H2.out.2⟩
     case measure => simp [intOf]; omega
    ·have ej : j = 8 := by omega
     subst ej
     have H3 : Hid (Bo w.heap.size _ _ (bitsB (P.take (k + 1))) ∧ Fr Nobody w _) := ⟨by rw [HS.out]; exact hB,hf⟩
     clear hB hf HY
     go_wp2
     go_roundw
     case rel => exact ⟨k + 1,by omega,by go_num,H3.out.1,H3.out.2⟩
     case measure => simp [intOf]; omega
  ·have ek : P.take k = P := List.take_of_length_le (by rw [HP.out.2.1]; omega)
   rw [ek] at H1
   clear ek
   go_wp2
   go_ret
   exact ⟨_,rfl,H1.out.1,H1.out.2⟩
theorem Bs.shape {w : World} {v : Value} {L : List Bool} (h : Bs w v L) : ∃ ao cap,v = .slice ao L.length cap := by
 rcases h with ⟨rfl,rfl⟩ | ⟨g,o,cap,cur,rfl,_⟩
 ·exact ⟨none,0,rfl⟩
 ·exact ⟨_,_,rfl⟩
theorem rget_short (w : World) (v : Value) (L : List Bool) (n : Nat) (h : Bs w v L) (hn : n ≤ 64) (hs : L.length < n) : Calls Tryz.prog 105 #[v,.int .i64 n] w fun e w' => e = .returned (.tuple #[.int .u64 0,v,.int .i64 2]) ∧ w' = w := by
 have h0 : ¬ (n : Int) < 0 := by omega
 have h1 : ¬ (64 : Int) < (n : Int) := by omega
 have h2 : (L.length : Int) < (n : Int) := by omega
 obtain ⟨ao,cap,rfl⟩ := h.shape
 clear h
 go_enter Tryz.func105,Tryz.ntmps105
 go_wp2
 go_ret3
 exact ⟨rfl,rfl⟩
theorem num_step (L : List Bool) (i : Nat) (b : Bool) (h : L[i]? = some b) : num (L.drop i) = b.toNat + 2 * num (L.drop (i + 1)) := by
 have hi : i < L.length := by
  rcases Nat.lt_or_ge i L.length with hh | hh
  ·exact hh
  ·rw [List.getElem?_eq_none hh] at h; cases h
 rw [List.drop_eq_getElem_cons hi,num]
 rw [List.getElem?_eq_getElem hi] at h
 cases h; rfl
theorem Bs.drop {w : World} {ao : Option Addr} {cap : Nat} {L : List Bool} (h : Bs w (.slice ao L.length cap) L) (n : Nat) (hn : n ≤ L.length) : Bs w (.slice (if cap = n then ao else ao.map (fun x => x.add n)) (L.length - n) (cap - n)) (L.drop n) := by
 rcases h with ⟨hv,rfl⟩ | ⟨g,o,cap',cur,hv,hc,hg,hcell⟩
 ·simp only [Value.slice.injEq] at hv
  obtain ⟨rfl,_,rfl⟩ := hv
  left
  simp at hn
  subst hn
  simp
 ·simp only [Value.slice.injEq] at hv
  obtain ⟨rfl,_,rfl⟩ := hv
  right
  by_cases e : cap = n
  ·refine ⟨g,o,cap - n,cur,by rw [if_pos e,List.length_drop],by rw [List.length_drop]; omega,hg,fun j u hu => ?_⟩
   rw [List.drop_of_length_le (by omega)] at hu
   simp [brow] at hu
  ·refine ⟨g,o + n,cap - n,cur,by rw [if_neg e,List.length_drop]; simp [addr_add],by rw [List.length_drop]; omega,hg,fun j u hu => ?_⟩
   rw [Nat.add_assoc]
   refine hcell (n + j) u ?_
   rw [brow,List.getElem?_map] at hu ⊢
   rw [List.getElem?_drop] at hu
   exact hu
theorem rget_ok (w : World) (v : Value) (L : List Bool) (n : Nat) (h : Bs w v L) (hn : n ≤ 64) (hs : n ≤ L.length) (hL : L.length ≤ 100000000) :
  Calls Tryz.prog 105 #[v,.int .i64 n] w fun e w' => ∃ v',e = .returned (.tuple #[.int .u64 (num (L.take n) : Nat),v',.int .i64 0]) ∧ Bs w' v' (L.drop n) ∧ Fr Nobody w w' := by
 have h0 : ¬ (n : Int) < 0 := by omega
 have h1 : ¬ (64 : Int) < (n : Int) := by omega
 have h2 : ¬ (L.length : Int) < (n : Int) := by omega
 obtain ⟨ao,cap,rfl⟩ := h.shape
 have H : Hid (Bs w (.slice ao L.length cap) L) := h
 clear h
 go_enter Tryz.func105,Tryz.ntmps105
 go_wp2
 clear h0 h1 h2
 go_loopw [7,8] (fun xv c wr => ∃ k : Nat,k ≤ n ∧ c = .int .i64 ((k : Int) - 1) ∧ xv = .int .u64 ((num ((L.take n).drop k) : Nat) : Int) ∧ wr = w) (fun _ c _ => (intOf c + 1).toNat)
 case atStart => exact ⟨n,Nat.le_refl _,by simp,by rw [List.drop_of_length_le (by rw [List.length_take]; omega)]; rfl,rfl⟩
 case round =>
  obtain ⟨k,hk,rfl,rfl,rfl⟩ := hrel
  by_cases hpos : 0 < k
  ·obtain ⟨i,rfl⟩ : ∃ i,k = i + 1 := ⟨k - 1,by omega⟩
   obtain ⟨b,hb⟩ : ∃ b,L[i]? = some b := ⟨_,List.getElem?_eq_getElem (by omega)⟩
   have hb2 : (L.take n)[i]? = some b := by rw [List.getElem?_take,if_pos (by omega)]; exact hb
   have HS : Hid _ := num_step (L.take n) i b hb2
   have HLt : Hid (num ((L.take n).drop i) < 18446744073709551616) := by
    have h3 := num_lt ((L.take n).drop i)
    have h4 : ((L.take n).drop i).length ≤ 64 := by rw [List.length_drop,List.length_take]; omega
    exact Nat.lt_of_lt_of_le h3 (Nat.pow_le_pow_right (by decide) h4)
   obtain ⟨g,o,hao,cx⟩ : ∃ g o,ao = some ⟨g,o,none⟩ ∧ wr.cell? ⟨g,o + i,none⟩ = some (.bool b) := by
    rcases H.out with ⟨_,h0⟩ | ⟨g,o,cap',cur,hv,_,hg,hc⟩
    ·subst h0; simp at hb
    ·simp only [Value.slice.injEq] at hv
     refine ⟨g,o,hv.1,?_⟩
     rw [cell_of_row wr g _ cur 4 (0,0) hg]
     exact hc i (.bool b) (by simp [brow,hb])
   subst hao
   have hge : (0 : Int) ≤ ((i + 1 : Nat) : Int) - 1 := by omega
   have hii : (((i + 1 : Nat) : Int) - 1) = (i : Int) := by omega
   generalize num ((L.take n).drop (i + 1)) = y at *
   have hy2 : 2 * y + 1 < 18446744073709551616 := by
    have := HS.out; have := HLt.out; cases b <;> simp at * <;> omega
   clear hb hb2
   cases b
   ·go_wp2
    go_roundw
    case rel => exact ⟨i,by omega,rfl,by rw [HS.out]; simp [Int.mul_comm],trivial⟩
    case measure => simp [intOf]
   ·go_wp2
    go_roundw
    case rel => exact ⟨i,by omega,rfl,by rw [HS.out]; simp [Int.mul_comm,Int.add_comm],trivial⟩
    case measure => simp [intOf]
  ·have hk0 : k = 0 := by omega
   subst hk0
   rw [List.drop_zero]
   have hcap : L.length ≤ cap := by
    rcases H.out with ⟨hv,h0⟩ | ⟨g,o,cap',cur,hv,hc,_⟩
    ·subst h0; exact Nat.zero_le _
    ·simp only [Value.slice.injEq] at hv; omega
   have HD := H.out.drop n hs
   by_cases e : cap = n
   ·subst e
    have HD2 : Hid (Bs wr (.slice ao 0 0) (L.drop cap)) := by
     rw [if_pos rfl,Nat.sub_self,show L.length - cap = 0 from by omega] at HD; exact HD
    clear HD
    go_wp2
    go_quiet (fail)
    go_wp2
    go_ret3
    exact ⟨_,rfl,HD2.out.quiet ((Fr.refl _ _).drewN _),(Fr.refl _ _).drewN _⟩
   ·have HD2 : Hid (Bs wr (.slice (ao.map (fun x => x.add n)) (L.length - n) (cap - n)) (L.drop n)) := by
     rw [if_neg e] at HD; exact HD
    clear HD
    go_wp2
    go_quiet (fail)
    go_wp2
    go_ret3
    exact ⟨_,rfl,HD2.out.quiet ((Fr.refl _ _).drewN _),(Fr.refl _ _).drewN _⟩
def vTo (L : List Bool) : Nat → Nat
 | 0 => 0
 | k + 1 => vTo L k + g5 (L.drop (5 * k)) % 16 * 2 ^ (4 * k)
theorem vTo_lt (L : List Bool) (k : Nat) : vTo L k < 2 ^ (4 * k) := by
 induction k with
 | zero => simp [vTo]
 | succ k ih => rw [vTo]; exact vstep_lt _ _ _ ih
theorem vTo_split (L : List Bool) (j m : Nat) : ∃ q,vTo L (j + m) = vTo L j + 2 ^ (4 * j) * q := by
 induction m with
 | zero => exact ⟨0,by simp⟩
 | succ m ih =>
  obtain ⟨q,hq⟩ := ih
  refine ⟨q + g5 (L.drop (5 * (j + m))) % 16 * 2 ^ (4 * m),?_⟩
  rw [← Nat.add_assoc,vTo,hq,Nat.mul_add,Nat.add_assoc]
  congr 2
  rw [show 4 * (j + m) = 4 * j + 4 * m from by omega,Nat.pow_add,Nat.mul_left_comm,Nat.mul_add]
theorem vTo_nib (L : List Bool) (n j : Nat) (h : j < n) : vTo L n / 2 ^ (4 * j) % 16 = g5 (L.drop (5 * j)) % 16 := by
 obtain ⟨m,rfl⟩ : ∃ m,n = (j + 1) + m := ⟨n - (j + 1),by omega⟩
 obtain ⟨q,hq⟩ := vTo_split L (j + 1) m
 have hp := Nat.two_pow_pos (4 * j)
 have e : 2 ^ (4 * (j + 1)) = 2 ^ (4 * j) * 16 := by rw [show 4 * (j + 1) = 4 * j + 4 from by omega,Nat.pow_add]
 have hs : vTo L (j + 1 + m) = vTo L j + 2 ^ (4 * j) * (g5 (L.drop (5 * j)) % 16 + 16 * q) := by
  rw [hq,vTo,e,Nat.mul_add,Nat.mul_comm (g5 (L.drop (5 * j)) % 16),← Nat.mul_assoc,Nat.add_assoc]
 rw [hs,Nat.add_mul_div_left _ _ hp,Nat.div_eq_of_lt (vTo_lt L j),Nat.zero_add]
 omega
theorem vTo_step (L : List Bool) (n j : Nat) (h : j < n) : vTo L n / 2 ^ (4 * j) = 16 * (vTo L n / 2 ^ (4 * (j + 1))) + g5 (L.drop (5 * j)) % 16 := by
 rw [← vTo_nib L n j h]
 have e : vTo L n / 2 ^ (4 * (j + 1)) = vTo L n / 2 ^ (4 * j) / 16 := by rw [Nat.div_div_eq_div_mul,show 4 * (j + 1) = 4 * j + 4 from by omega,Nat.pow_add]
 rw [e]; omega
theorem num_take_mod (l : List Bool) (m n : Nat) (h : m ≤ n) : num (l.take m) = num (l.take n) % 2 ^ m := by
 induction l generalizing m n with
 | nil => simp [num]
 | cons b l ih =>
  cases m with
  | zero => simp [num,Nat.mod_one]
  | succ m =>
   obtain ⟨n',rfl⟩ : ∃ n',n = n' + 1 := ⟨n - 1,by omega⟩
   rw [List.take_succ_cons,List.take_succ_cons,num,num,ih m n' (by omega),Nat.pow_succ',Nat.mod_mul]
   have h1 : (b.toNat + 2 * num (l.take n')) / 2 = num (l.take n') := by cases b <;> simp <;> omega
   have h2 : (b.toNat + 2 * num (l.take n')) % 2 = b.toNat := by cases b <;> simp <;> omega
   rw [h1,h2]
theorem g5_low (M : List Bool) : num (M.take 4) = g5 M % 16 := by
 unfold g5; exact num_take_mod M 4 5 (by decide)
theorem g5_top (M : List Bool) (b : Bool) (h : M[4]? = some b) : 16 ≤ g5 M ↔ b = true := by
 unfold g5
 have hl : 4 < M.length := by
  rcases Nat.lt_or_ge 4 M.length with hh | hh
  ·exact hh
  ·rw [List.getElem?_eq_none hh] at h; cases h
 rw [show (5 : Nat) = 4 + 1 from rfl,List.take_add_one,h,num_append,List.length_take,Nat.min_eq_left (by omega)]
 have := num_lt (M.take 4)
 rw [List.length_take,Nat.min_eq_left (by omega)] at this
 cases b
 ·simp [num]; omega
 ·simp [num]
def GvRest (w w' : World) (u : Value) (M : List Bool) : Prop := Bs w' u M ∧ Fr Nobody w w'
theorem Bs.cell {w : World} {ao : Option Addr} {cap : Nat} {L : List Bool} (h : Bs w (.slice ao L.length cap) L) {i : Nat} {b : Bool} (hb : L[i]? = some b) : ∃ g o,ao = some ⟨g,o,none⟩ ∧ w.cell? ⟨g,o + i,none⟩ = some (.bool b) := by
 rcases h with ⟨_,h0⟩ | ⟨g,o,cap',cur,hv,_,hg,hc⟩
 ·subst h0; simp at hb
 ·simp only [Value.slice.injEq] at hv
  refine ⟨g,o,hv.1,?_⟩
  rw [cell_of_row w g _ cur 4 (0,0) hg]
  exact hc i (.bool b) (by simp [brow,hb])
theorem rgetVar_any (w : World) (v : Value) (L : List Bool) (h : Bs w v L) (hL : L.length ≤ 100000) :
  Calls Tryz.prog 104 #[v] w fun e w' => ∃ u,e = .returned (.tuple #[.int .u64 ((gv L).2.1 : Nat),u,.int .i64 (gv L).1]) ∧ GvRest w w' u (L.drop (gv L).2.2) := by
 obtain ⟨ao,cap,rfl⟩ := h.shape
 have H : Hid (Bs w (.slice ao L.length cap) L) := h
 have hcap : L.length ≤ cap := by
  rcases h with ⟨hv,h0⟩ | ⟨g,o,cap',cur,hv,hc,_⟩
  ·subst h0; exact Nat.zero_le _
  ·simp only [Value.slice.injEq] at hv; omega
 obtain ⟨r,hr⟩ : ∃ r,r = gv L := ⟨_,rfl⟩
 rw [← hr]
 have HR : Hid (r = gvAux 16 0 0 L) := hr
 clear h hr
 obtain ⟨rc,rv,rn⟩ := r
 go_enter Tryz.func104,Tryz.ntmps104
 go_wp2
 go_loopw [5] (fun c wr => ∃ i : Nat,i ≤ 15 ∧ c = .int .i64 i ∧ (rc,rv,rn) = gvAux (16 - i) i (vTo L i) (L.drop (5 * i)) ∧ wr = w) (fun c _ => 16 - (intOf c).toNat)
 case atStart => exact ⟨0,by decide,rfl,HR.out,rfl⟩
 case round =>
  obtain ⟨i,hi,rfl,hgv,hww⟩ := hrel
  have hww2 := hww.symm
  clear hww
  subst hww2
  rw [show 16 - i = (15 - i) + 1 from by omega,gvAux,List.length_drop] at hgv
  clear HR
  by_cases hsh : L.length < 5 * i + 5
  ·rw [if_pos (by omega)] at hgv
   simp only [Prod.mk.injEq] at hgv
   obtain ⟨rfl,rfl,rfl⟩ := hgv
   have hs : (L.length : Int) < 5 * (i : Int) + 5 := by omega
   go_wp2
   go_ret3
   exact ⟨_,rfl,H.out,Fr.refl _ _⟩
  ·rw [if_neg (by omega)] at hgv
   obtain ⟨b,hb⟩ : ∃ b,L[5 * i + 4]? = some b := ⟨_,List.getElem?_eq_getElem (by omega)⟩
   have htop := g5_top (L.drop (5 * i)) b (by rw [List.getElem?_drop]; exact hb)
   obtain ⟨g,o,hao,cx⟩ := H.out.cell hb
   subst hao
   obtain ⟨q,hq⟩ : ∃ q,q = 5 * i + 4 := ⟨_,rfl⟩
   rw [← hq] at cx
   have hqi : (5 : Int) * ((i : Int) + 1) - 1 = (q : Int) := by omega
   have hql : q < L.length := by omega
   have hs : ¬ (L.length : Int) < 5 * (i : Int) + 5 := by omega
   have HD : Hid ((L.drop (5 * i)).drop 5 = L.drop (5 * (i + 1))) := by show _ = _; rw [List.drop_drop]; congr 1
   have HG : Hid ((rc,rv,rn) = if 16 ≤ g5 (L.drop (5 * i)) then gvAux (15 - i) (i + 1) (vTo L (i + 1)) (L.drop (5 * (i + 1))) else if grp (vTo L (i + 1)) ≠ i + 1 then (4,0,0) else (0,vTo L (i + 1),5 * (i + 1))) := by
    show _ = _
    rw [← HD.out]
    exact hgv
   have HT : Hid (16 ≤ g5 (L.drop (5 * i)) ↔ b = true) := htop
   have HQ : Hid (q = 5 * i + 4) := hq
   clear hgv hb htop hq HD
   obtain ⟨b16,t16⟩ : ∃ c : Bool,(((i : Int) + 1) == 16) = c := ⟨_,rfl⟩
   have H16 : Hid (b16 = true ↔ i = 15) := by
    show _ ↔ _
    rw [← t16]; simp; omega
   cases b with
   | true =>
    cases b16 with
    | true =>
     have e15 : i = 15 := H16.out.1 rfl
     have hh := HG.out
     rw [if_pos (HT.out.2 rfl)] at hh
     subst e15
     rw [show 15 - 15 = 0 from rfl,gvAux] at hh
     simp only [Prod.mk.injEq] at hh
     obtain ⟨rfl,rfl,rfl⟩ := hh
     clear H16 HG HT
     have hq79 : q = 79 := by have := HQ.out; omega
     subst hq79
     go_wp2
     go_ret3
     exact ⟨_,rfl,H.out,Fr.refl _ _⟩
    | false =>
     have hlt : i < 15 := by
      rcases Nat.lt_or_ge i 15 with c | c
      ·exact c
      ·have := H16.out.2 (by omega); cases this
     have HS : Hid ((rc,rv,rn) = gvAux (16 - (i + 1)) (i + 1) (vTo L (i + 1)) (L.drop (5 * (i + 1)))) := by
      have hh := HG.out
      rw [if_pos (HT.out.2 rfl)] at hh
      show _ = _
      rw [hh,show 16 - (i + 1) = 15 - i from by omega]
     clear H16 HG HT
     go_wp2
     go_roundw
     case rel => exact ⟨i + 1,by omega,by go_num,HS.out,trivial⟩
     case measure => simp [intOf]; omega
   | false =>
    have HS : Hid ((rc,rv,rn) = if grp (vTo L (i + 1)) ≠ i + 1 then (4,0,0) else (0,vTo L (i + 1),5 * (i + 1))) := by
     have hh := HG.out
     rw [if_neg (fun c => by have := HT.out.1 c; cases this)] at hh
     exact hh
    have HX : Hid (vTo L (i + 1) < 18446744073709551616) := Nat.lt_of_lt_of_le (vTo_lt L (i + 1)) (Nat.pow_le_pow_right (n := 2) (i := 4 * (i + 1)) (j := 64) (by decide) (by omega))
    have HN : Hid (∀ j,j < i + 1 → vTo L (i + 1) / 2 ^ (4 * j) = 16 * (vTo L (i + 1) / 2 ^ (4 * (j + 1))) + num ((L.drop (5 * j)).take 4)) := fun j hj => by rw [vTo_step L (i + 1) j hj,g5_low]
    have H0 : Hid (vTo L (i + 1) / 2 ^ (4 * (i + 1)) = 0) := Nat.div_eq_of_lt (vTo_lt L (i + 1))
    clear H16 HG HT
    generalize vTo L (i + 1) = X at *
    cases b16
    all_goals
     go_wp2
     clear cx hqi hs t16
     go_loopw [6,7] (fun xv c wr => ∃ k : Nat,k ≤ i + 1 ∧ c = .int .i64 ((k : Int) - 1) ∧ xv = .int .u64 ((X / 2 ^ (4 * k) : Nat) : Int) ∧ Fr Nobody w wr) (fun _ c _ => (intOf c + 1).toNat)
     case atStart => exact ⟨i + 1,Nat.le_refl _,by go_num,by rw [H0.out]; rfl,Fr.refl _ _⟩
     case round =>
      obtain ⟨k,hk,rfl,rfl,hf⟩ := hrel
      have HF : Hid (Fr Nobody w wr) := hf
      clear hf
      by_cases hpos : 0 < k
      ·obtain ⟨j,rfl⟩ : ∃ j,k = j + 1 := ⟨k - 1,by omega⟩
       obtain ⟨p,hp⟩ : ∃ p,p = 5 * j := ⟨_,rfl⟩
       have hpi : (5 : Int) * (j : Int) = (p : Int) := by omega
       have hpl : p + 5 ≤ L.length := by have := HQ.out; omega
       have hpc : cap ≠ p := by omega
       have hge : (0 : Int) ≤ ((j + 1 : Nat) : Int) - 1 := by omega
       have hjj : (((j + 1 : Nat) : Int) - 1) = (j : Int) := by omega
       have HB : Hid (Bs wr (.slice (some ⟨g,o + p,none⟩) (L.length - p) (cap - p)) (L.drop p)) := by
        have h9 := (H.out.quiet HF.out).drop p (by omega)
        rw [if_neg hpc,Option.map_some,addr_add] at h9
        exact h9
       have HJ : Hid (X / 2 ^ (4 * j) = 16 * (X / 2 ^ (4 * (j + 1))) + num ((L.drop p).take 4)) := by have := HN.out j (by omega); rw [← hp] at this; exact this
       have hy : 16 * (X / 2 ^ (4 * (j + 1))) + num ((L.drop p).take 4) < 18446744073709551616 := by
        rw [← HJ.out]; exact Nat.lt_of_le_of_lt (Nat.div_le_self _ _) HX.out
       have G : Hid (True → _) := fun _ => rget_ok wr _ (L.drop p) 4 HB.out (by decide) (by rw [List.length_drop]; omega) (by rw [List.length_drop]; omega)
       clear hp
       generalize num ((L.drop p).take 4) = gg at *
       generalize X / 2 ^ (4 * (j + 1)) = y at *
       go_wp2_with fail
       refine (G.out trivial).mono ?_
       rintro e w2 ⟨v',rfl,hB',hf'⟩
       have H2 : Hid (Fr Nobody w w2) := HF.out.trans hf'
       clear hB' hf' HB G HF
       go_wp2
       go_roundw
       case rel => exact ⟨j,by omega,by go_num,by rw [HJ.out]; go_num,H2.out⟩
       case measure => simp [intOf]
      ·have hk0 : k = 0 := by omega
       subst hk0
       have e0 : X / 2 ^ (4 * 0) = X := by simp
       rw [e0]
       clear e0
       go_wp2_with fail
       refine (rvar_any wr X HX.out).mono ?_
       rintro e w2 ⟨u,rfl,hO,hf2⟩
       have H2 : Hid (Fr Nobody w w2) := HF.out.trans hf2
       obtain ⟨au,cu,hu⟩ := row_any hO
       subst hu
       have HLL : Hid ((var X).length = 5 * grp X) := length_var X
       clear hO hf2 HF
       generalize (var X).length = ll at *
       generalize grp X = G at *
       by_cases cg : G = i + 1
       ·subst cg
        have hh := HS.out
        rw [if_neg (by simp)] at hh
        simp only [Prod.mk.injEq] at hh
        obtain ⟨rfl,rfl,rfl⟩ := hh
        obtain ⟨p,hp⟩ : ∃ p,p = 5 * (i + 1) := ⟨_,rfl⟩
        have hpi : (5 : Int) * ((i : Int) + 1) = (p : Int) := by omega
        have hpl : p ≤ L.length := by have := HQ.out; omega
        have tg : ((ll : Int) != (p : Int)) = false := by have := HLL.out; simp; omega
        have HPE : Hid (p = 5 * (i + 1)) := hp
        have HD := (H.out.quiet H2.out).drop p hpl
        clear hp HLL HS HN H0
        by_cases e : cap = p
        ·have HD2 : Hid (Bs w2 (.slice (some ⟨g,o,none⟩) (L.length - p) (cap - p)) (L.drop p)) := by
          rw [if_pos e] at HD; exact HD
         clear HD
         subst e
         have el : L.length = cap := by omega
         have HD3 : Hid (Bs w2 (.slice (some ⟨g,o,none⟩) 0 0) (L.drop cap)) := by
          have h9 := HD2.out
          rw [Nat.sub_self,show L.length - cap = 0 from by omega] at h9; exact h9
         clear HD2 el
         go_wp2
         go_quiet (fail)
         go_wp2
         go_ret3
         exact ⟨_,rfl,by show Bs _ _ (L.drop (5 * (i + 1))); rw [← HPE.out]; exact HD3.out.quiet ((Fr.refl _ _).drewN _),H2.out.drewN _⟩
        ·have HD2 : Hid (Bs w2 (.slice (some ⟨g,o + p,none⟩) (L.length - p) (cap - p)) (L.drop p)) := by
          rw [if_neg e,Option.map_some,addr_add] at HD; exact HD
         clear HD
         go_wp2
         go_quiet (fail)
         go_wp2
         go_ret3
         exact ⟨_,rfl,by show Bs _ _ (L.drop (5 * (i + 1))); rw [← HPE.out]; exact HD2.out.quiet ((Fr.refl _ _).drewN _),H2.out.drewN _⟩
       ·have hh := HS.out
        rw [if_pos cg] at hh
        simp only [Prod.mk.injEq] at hh
        obtain ⟨rfl,rfl,rfl⟩ := hh
        have tg : ((ll : Int) != 5 * ((i : Int) + 1)) = true := by have := HLL.out; rw [bne_iff_ne]; omega
        clear HLL HS HN H0
        go_wp2
        go_ret3
        exact ⟨_,rfl,H.out.quiet H2.out,H2.out⟩
theorem IsRow.more {k : IntKind} {w : World} {a : Option Addr} {len cap : Nat} {zs : List Int} (h : IsRow k w a len cap zs) : len ≤ cap ∧ (a = none → cap = 0) := by
 rcases h with ⟨rfl,rfl,rfl,rfl⟩ | ⟨x,rfl,hl,_⟩
 ·exact ⟨Nat.le_refl _,fun _ => rfl⟩
 ·exact ⟨hl,fun h => by cases h⟩
def Duo (w0 w : World) (br : Nat) (P : List Nat) (t : Nat) (x : Value) (M : List Bool) : Prop := Or w0 w br P t ∧ Bs w x M
theorem Duo.quiet {w0 w w' : World} {br : Nat} {P : List Nat} {t : Nat} {x : Value} {M : List Bool} (h : Duo w0 w br P t x M) (hf : Fr Nobody w w') : Duo w0 w' br P t x M := ⟨h.1.quiet hf,h.2.quiet hf⟩
end Go.Proofs.YtgifeckbflkkpaaGreatDoor
