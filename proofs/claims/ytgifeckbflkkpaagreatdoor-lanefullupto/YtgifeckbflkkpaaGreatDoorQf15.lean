/- Sum of package frame: the bytes' sum by the table. -/
import Derived.Test.YtgifeckbflkkpaaGreatDoorQf10
import Derived.Test.YtgifeckbflkkpaaGreatDoorQf14
import Derived.Lib.SlBytesConst
import Derived.Lib.AppendZerosOnto
import Derived.Test.YtgifeckbflkkpaaGreatDoorQf09
namespace Go.Proofs.YtgifeckbflkkpaaGreatDoor
open Go.RowKit
set_option linter.unusedVariables false
set_option maxHeartbeats 1000000
set_option maxRecDepth 100000
def Tabf (w : World) : Prop := ∀ i : Nat,i < 16 → w.cell? ⟨0,i,none⟩ = some (.int .u32 ((tbl i : Nat) : Int))
theorem Tabf.keep {S : Nat → Prop} {w w' : World} (h : Tabf w) (hf : Fr S w w') (hs : ¬ S 0) : Tabf w' := fun i hi =>
 (hf.cell (p := ⟨0,i,none⟩) (World.block_lt_of_cell? w _ (h i hi)) hs).trans (h i hi)
theorem Tabf.quiet {w w' : World} (h : Tabf w) (hf : Fr Nobody w w') : Tabf w' := h.keep hf id
theorem xor32 (a b : Nat) (ha : a < 4294967296) (hb : b < 4294967296) : bits .xor .u32 (a : Int) (b : Int) = ((a ^^^ b : Nat) : Int) := u32_xor_nat a b ha hb
theorem step_val (y : Nat) (hy : y < 4294967296) : bits .xor .u32 ((y : Int) / 16) ((tbl (y % 16) : Nat) : Int) = ((stps 4 y : Nat) : Int) := by
 have e : (y : Int) / 16 = ((y / 16 : Nat) : Int) := by omega
 rw [e,xor32 _ _ (by omega) (tbl_lt _ (by omega)),four]
theorem sum_any (w : World) (ao : Option Addr) (cap len : Nat) (P : List Nat) (h : BytesAt w ao P) (hlen : P.length = len) (hb : ∀ x ∈ P,x < 256) (hL : len ≤ 1000000000) (ht : Tabf w) :
  Calls Tryz.prog 90 #[.slice ao len cap] w fun e w' => e = .returned (.int .u32 ((crc P : Nat) : Int)) ∧ w' = w := by
 have H : Hid (BytesAt w ao P) := h
 have HT : Hid (Tabf w) := ht
 have HB : Hid (∀ x ∈ P,x < 256) := hb
 have HL : Hid (P.length = len) := hlen
 clear h ht hb hlen
 go_enter Tryz.func90,Tryz.ntmps90
 go_wp2
 go_loopw [3,8] (fun u c wr => ∃ k : Nat,k ≤ len ∧ c = .int .i64 k ∧ u = .int .u32 ((feed 4294967295 (P.take k) : Nat) : Int) ∧ wr = w) (fun _ c _ => len - (intOf c).toNat)
 case atStart => exact ⟨0,Nat.zero_le _,rfl,rfl,rfl⟩
 case round =>
  obtain ⟨k,hk,rfl,rfl,rfl⟩ := hrel
  by_cases hlt : k < len
  ·have hP : k < P.length := by rw [HL.out]; exact hlt
   have hx : P[k]? = some P[k] := List.getElem?_eq_getElem hP
   have hx2 := HB.out P[k] (List.getElem_mem _)
   obtain ⟨g,o,rfl,hcs⟩ : ∃ g o,ao = some ⟨g,o,none⟩ ∧ ∀ (j x : Nat),P[j]? = some x → wr.cell? ⟨g,o + j,none⟩ = some (.int .u8 (x : Int)) := by
    rcases H.out with hn | hn
    ·rw [hn] at hP; cases hP
    ·exact hn
   have cx := hcs k _ hx
   have hc := feed_lt 4294967295 (P.take k) (by decide) (fun x hx => HB.out x (List.mem_of_mem_take hx))
   have HS : Hid (feed 4294967295 (P.take (k + 1)) = stps 8 (feed 4294967295 (P.take k) ^^^ P[k])) := by
    show _ = _
    rw [List.take_add_one,hx]; exact feed_snoc _ _ _
   generalize feed 4294967295 (P.take k) = c at *
   generalize P[k] = x at *
   have hy := xor_lt32 c x hc (by omega)
   have e1 := xor32 c x hc (by omega)
   generalize c ^^^ x = y at *
   have hz := stps_lt 4 y hy
   have e2 := step_val y hy
   have t2 := HT.out (y % 16) (by omega)
   have HZ : Hid (stps 8 y = stps 4 (stps 4 y)) := stps_add 4 4 y
   generalize stps 4 y = z at *
   have e3 := step_val z hz
   have t3 := HT.out (z % 16) (by omega)
   have hw := stps_lt 4 z hz
   generalize tbl (y % 16) = q at *
   generalize tbl (z % 16) = r at *
   generalize stps 4 z = v at *
   clear hcs hx
   go_wp2
   refine ⟨⟨k + 1,by omega,by go_num,?_,trivial⟩,by simp [intOf]; omega⟩
   rw [HS.out,HZ.out]
  ·go_wp2
   go_ret
   have e : k = len := by omega
   subst e
   refine ⟨ret_int ?_,rfl⟩
   have eP : P.take k = P := List.take_of_length_le (by rw [HL.out]; exact Nat.le_refl _)
   have hc := feed_lt 4294967295 P (by decide) HB.out
   rw [eP]
   have h1 := xor32 4294967295 (feed 4294967295 P) (by decide) hc
   have h2 : IntKind.u32.max = ((4294967295 : Nat) : Int) := by decide
   rw [h2,h1,crc,ones_sub _ hc,Nat.xor_comm]
theorem mul_xor (n a b : Nat) : 2 ^ n * (a ^^^ b) = (2 ^ n * a) ^^^ (2 ^ n * b) := by
 have h : (a ^^^ b) <<< n = a <<< n ^^^ b <<< n := Nat.shiftLeft_xor_distrib
 simpa [Nat.shiftLeft_eq,Nat.mul_comm] using h
def flip (l : List Nat) (k : Nat) : List Nat := l.set (k / 8) ((l[k / 8]?.getD 0) ^^^ 2 ^ (k % 8))
theorem copy_bytes {w : World} {ops : Array Oper} {rest : List Oper} {o : Oper} {a : Act} {Q : Exit → Act → World → Prop} (hgd : o.guard = none) (s x : Operand)
  (ho : o.op = .call { callee := .builtin .append,args := #[s,x],argTypes := #[22,22] }) (ao : Option Addr) (m cap : Nat) (P : List Nat) (h : Src w (.slice ao m cap) P.length (vrow P)) (hm : P.length = m) (hL : m ≤ 1000000)
  (hs : a.eval s = .slice (some ⟨w.heap.size,0,none⟩) 0 0) (hx : a.eval x = .slice ao m cap)
  (hK : ∀ v' w',w'.ownsRow w.heap.size 5 1 v' m (vrow P) → Fr Nobody w w' → wpList Tryz.prog ops Q rest (a.put o.dst v') w') :
  wpList Tryz.prog ops Q (o :: rest) a (w.alloc (.cells #[] 5)) := by
 obtain ⟨i0,hi,hz0,hz1,hz2⟩ := info_parts Tryz.infoB
 have hown := World.ownsRow_made (e := 5) (size := 1) (base := w.heap.size) w #[] 0 (Nat.le_refl _) (Nat.zero_le _) rfl
 have hfr : Fr Nobody w (w.alloc (.cells #[] 5)) := (Fr.refl _ w).alloc _
 rcases h with ⟨hv,h0,h00⟩ | ⟨a',cap',hv,hl,hc⟩
 ·have hP0 : P = [] := List.eq_nil_of_length_eq_zero h0
  subst hP0
  subst hm
  rw [hv] at hx
  refine wpList_plain hgd fun K hK' => ?_
  have hr := run_append_owned_none (P := Tryz.prog) (w.alloc (.cells #[] 5)) w.heap.size 22 o.type 5 i0 1 Tryz.underlying22 hi _ 0 [] hown
  unfold Oper.wp
  simp [execOp,ho,resolve,invoke,builtin,hs,hx,hr,Result.andThen]
  exact hK' _ _ (hK _ _ hown hfr)
 ·simp only [Value.slice.injEq] at hv
  obtain ⟨rfl,_,rfl⟩ := hv
  refine wpList_append_own (w.alloc (.cells #[] 5)) hgd s x 22 ho w.heap.size 5 i0 (.int .u8 0) 1 1 Tryz.underlying22 hi hz0 hz1 hz2 rfl (by decide) _ 0 [] hs hown a' m cap (vrow P) hx (by rw [length_vrow]; omega) (fun j u hu => Lib.cell?_alloc_some _ (hc j u hu)) (one_vrow P) (by unfold maxLen; omega) (by omega) (by simp) ?_
  intro v' w' ho' hg' _
  exact hK v' w' (by simpa using ho') (hfr.grown hg' (by intro k hk; simp [Value.ownBlock] at hk; omega))
structure In (w : World) (ao : Option Addr) (len cap : Nat) (P : List Nat) : Prop where
 at' : BytesAt w ao P
 eqn : P.length = len
 byt : ∀ x ∈ P,x < 256
 nil : ao = none → cap = 0
 le : len ≤ cap
theorem In.quiet {w w' : World} {ao : Option Addr} {len cap : Nat} {P : List Nat} (h : In w ao len cap P) (hf : Fr Nobody w w') : In w' ao len cap P := ⟨h.at'.quiet hf,h.eqn,h.byt,h.nil,h.le⟩
theorem In.cut {w : World} {ao : Option Addr} {len cap : Nat} {P : List Nat} (h : In w ao len cap P) (m : Nat) (hm : m ≤ len) : In w ao m cap (P.take m) := by
 refine ⟨?_,by rw [List.length_take,h.eqn]; omega,fun x hx => h.byt x (List.mem_of_mem_take hx),h.nil,Nat.le_trans hm h.le⟩
 rcases h.at' with h1 | ⟨g,o,h1,h2⟩
 ·left; rw [h1]; simp
 ·right
  refine ⟨g,o,h1,fun j x hx => h2 j x ?_⟩
  rw [List.getElem?_take] at hx
  split at hx
  ·exact hx
  ·cases hx
theorem In.src {w : World} {ao : Option Addr} {len cap : Nat} {P : List Nat} (h : In w ao len cap P) : Src w (.slice ao len cap) P.length (vrow P) := by
 have := h.at'.src cap h.nil
 rw [h.eqn] at this ⊢
 exact this
theorem In.some' {w : World} {ao : Option Addr} {len cap : Nat} {P : List Nat} (h : In w ao len cap P) (h0 : 0 < len) : ∃ g o,ao = some ⟨g,o,none⟩ := by
 rcases h.at' with h1 | ⟨g,o,h1,h2⟩
 ·rw [← h.eqn,h1] at h0; cases h0
 ·exact ⟨g,o,h1⟩
theorem In.of_row {w : World} {B g n cap : Nat} {P : List Nat} (h : w.ownsRow B 5 1 (.slice (some ⟨g,0,none⟩) n cap) n (vrow P)) (hl : P.length = n) (hb : ∀ x ∈ P,x < 256) : In w (some ⟨g,0,none⟩) n cap P := by
 refine ⟨.inr ⟨g,0,rfl,fun j x hx => ?_⟩,hl,hb,(fun e => by cases e),(row_cap h).2.1⟩
 have hj : j < P.length := (List.getElem?_eq_some_iff.1 hx).1
 rw [Nat.zero_add,h.cellAt j (by omega),getElem?_vrow,hx]; rfl
theorem sum_in (w : World) (ao : Option Addr) (cap len : Nat) (P : List Nat) (h : In w ao len cap P) (hL : len ≤ 1000000000) (ht : Tabf w) :
  Calls Tryz.prog 90 #[.slice ao len cap] w fun e w' => e = .returned (.int .u32 ((crc P : Nat) : Int)) ∧ w' = w := sum_any w ao cap len P h.at' h.eqn h.byt hL ht
theorem zero32 : Builtin.zeroCells (Value.bool false).cells 32 = (brow (List.replicate 32 false)).toArray := by kernel_rfl
set_option maxRecDepth 100000 in
theorem run_zeros_room (w : World) (ty : TypeId) (g n cap : Nat) (cur : Array Value) (hg : w.heap[g]? = some (.cells cur 4 (0,0))) (hroom : n + 32 ≤ cap) (hfit : n + 32 ≤ cur.size) :
  (Builtin.append_ #[75,3] ty #[.slice (some ⟨g,0,none⟩) n cap,.int .i64 32]).run Tryz.prog w =
   .ok (.slice (some ⟨g,0,none⟩) (n + 32) cap) (w.setRow g (cur.toList.take n ++ brow (List.replicate 32 false) ++ cur.toList.drop (n + 32)).toArray) := by
 obtain ⟨i0,hi,hz0,hz1,hz2⟩ := info_parts Tryz.infoBool
 have hst := run_storeCells_at Tryz.prog g n 4 (brow (List.replicate 32 false)) 0 cur w hg (by rw [length_brow]; simpa using hfit) (one_brow _)
 simp only [Nat.add_zero] at hst
 have hw : IntKind.i64.wrap 32 = 32 := by decide
 have hz3 : Builtin.zeroCells (Value.bool false).cells 32 = (brow (List.replicate 32 false)).toArray := zero32
 have hl : (brow (List.replicate 32 false)).length = 32 := rfl
 rw [hl] at hst
 generalize brow (List.replicate 32 false) = B at *
 simp [Builtin.append_,run_underlying Tryz.underlying75,run_underlying Tryz.underlying3,sizeOf,typeInfo,zeroValue,hi,hz0,hz1,hz2,asInt,asIntOf,hw,hroom,Addr.add_lit,hz3,hst]
theorem run_zeros_own (w : World) (ty : TypeId) (B : Nat) (v : Value) (L : List Bool) (h : Bo B w v L) (hL : L.length ≤ 1000000) (hB : B ≤ w.heap.size) :
  ∃ v' w',(Builtin.append_ #[75,3] ty #[v,.int .i64 32]).run Tryz.prog w = .ok v' w' ∧ Bo B w' v' (L ++ List.replicate 32 false) ∧ w.grownBy w' v.ownBlock := by
 obtain ⟨i0,hi,hz0,hz1,hz2⟩ := info_parts Tryz.infoBool
 have hlen : (brow (L ++ List.replicate 32 false)).length = L.length + 32 := by rw [length_brow,List.length_append,List.length_replicate]
 have hl32 : (brow (List.replicate 32 false)).length = 32 := rfl
 have grown : ∀ (old : Nat),(row : Option Nat) →
   (w.drew.alloc (.cells ((brow L).toArray ++ Builtin.zeroCells (Value.bool false).cells 32 ++ Builtin.zeroCells (Value.bool false).cells (grownCap w (L.length + 32) old 4 - (L.length + 32))) 4)).ownsRow B 4 1
    (.slice (some ⟨w.heap.size,0,none⟩) (L.length + 32) (grownCap w (L.length + 32) old 4)) (L.length + 32) (brow (L ++ List.replicate 32 false)) ∧
   w.grownBy (w.drew.alloc (.cells ((brow L).toArray ++ Builtin.zeroCells (Value.bool false).cells 32 ++ Builtin.zeroCells (Value.bool false).cells (grownCap w (L.length + 32) old 4 - (L.length + 32))) 4)) row := by
  intro old row
  have hge := grownCap_ge w (L.length + 32) old 4
  have hcm : grownCap w (L.length + 32) old 4 ≤ maxLen := grownCap_le_maxLen w (L.length + 32) old 4 (by unfold maxLen; omega)
  rw [zero32]
  refine ⟨⟨by rw [hlen,Nat.mul_one],.inr ⟨w.heap.size,_,_,rfl,hB,heap_alloc_new w.drew _,hge,hcm,?_,?_⟩⟩,⟨rfl,rfl,rfl,by simp,fun k hk _ => Below.heap_alloc w.drew _ k hk⟩⟩
  ·simp only [Array.size_append,List.size_toArray,size_zeroCells,length_brow,List.length_replicate,Nat.mul_one]
   show L.length + 32 + (_ - _) * 1 = _
   omega
  ·simp only [Array.toList_append,List.append_assoc]
   rw [← List.append_assoc,← brow_append,Nat.mul_one,← hlen]
   exact List.take_left
 rcases h.2 with ⟨rfl,h0⟩ | ⟨g,cap,cur,rfl,hbg,hg,hnc,hcm,hcs,htake⟩
 ·have hL0 : L = [] := List.eq_nil_of_length_eq_zero h0
  subst hL0
  have hr := Lib.run_append_grow_zeros (P := Tryz.prog) w 75 3 ty 4 i0 (.bool false) .i64 .i64 Tryz.underlying75 Tryz.underlying3 hi hz0 none 0 0 [] (by rfl) 32 (by decide) (by rw [hz1]; decide) (by decide) (by decide) (by rw [hz2]; decide) (by rw [hz2]; decide)
  obtain ⟨h1,h2⟩ := grown 0 (Value.ownBlock (.slice none 0 0))
  refine ⟨_,_,hr,?_,?_⟩
  ·exact h1
  ·exact h2
 ·by_cases hroom : L.length + 32 ≤ cap
  ·have hfit : L.length + 32 ≤ cur.size := by omega
   have hr := run_zeros_room w ty g L.length cap cur hg hroom hfit
   refine ⟨_,_,hr,⟨by rw [hlen,List.length_append,List.length_replicate,Nat.mul_one],.inr ⟨g,cap,_,by rw [List.length_append,List.length_replicate],hbg,setRow_heap w g cur _ 4 _ hg,by rw [List.length_append,List.length_replicate]; exact hroom,hcm,?_,?_⟩⟩,⟨rfl,rfl,rfl,by simp,fun k _ hk => setRow_other w g k _ (fun e => hk (by simp [Value.ownBlock,e]))⟩⟩
   ·simp only [List.size_toArray,List.length_append,List.length_take,List.length_drop,Array.length_toList,length_brow,List.length_replicate]
    omega
   ·rw [Nat.mul_one] at htake ⊢
    rw [htake,← brow_append,← length_brow (L ++ List.replicate 32 false)]
    exact List.take_left
  ·have hold : (Builtin.firstCells i0.size L.length (.slice (some ⟨g,0,none⟩) L.length cap)).run Tryz.prog w.drew = .ok (brow L).toArray w.drew := by
    rw [hz1]
    refine run_firstCells_some (P := Tryz.prog) w.drew 1 L.length ⟨g,0,none⟩ L.length cap (brow L) (by rw [length_brow,Nat.mul_one]) ?_
    intro j u hu
    exact h.cells (g := g) rfl j u hu
   have hr := Lib.run_append_grow_zeros (P := Tryz.prog) w 75 3 ty 4 i0 (.bool false) .i64 .i64 Tryz.underlying75 Tryz.underlying3 hi hz0 (some ⟨g,0,none⟩) L.length cap (brow L) hold 32 (by decide) (by rw [hz1]; decide) (by omega) (by omega) (by rw [hz2]; decide) (growslice_fits (by omega) (by rw [hz2]; omega))
   obtain ⟨h1,h2⟩ := grown cap (Value.ownBlock (.slice (some ⟨g,0,none⟩) L.length cap))
   refine ⟨_,_,hr,?_,h2⟩
   unfold Bo
   rw [List.length_append,List.length_replicate]
   exact h1
def zs32 : List Bool := List.replicate 32 false
theorem append_zeros {w : World} {ops : Array Oper} {rest : List Oper} {o : Oper} {a : Act} {Q : Exit → Act → World → Prop} (hgd : o.guard = none) (s x : Operand)
  (ho : o.op = .call { callee := .builtin .append,args := #[s,x],argTypes := #[75,3] }) (B : Nat) (v : Value) (L : List Bool) (h : Bo B w v L) (hL : L.length ≤ 1000000) (hB : B ≤ w.heap.size)
  (hs : a.eval s = v) (hx : a.eval x = .int .i64 32)
  (hK : ∀ v' w',Bo B w' v' (L ++ zs32) → w.grownBy w' v.ownBlock → wpList Tryz.prog ops Q rest (a.put o.dst v') w') :
  wpList Tryz.prog ops Q (o :: rest) a w := by
 refine wpList_plain hgd fun K hK' => ?_
 obtain ⟨v',w',hr,h1,h2⟩ := run_zeros_own w o.type B v L h hL hB
 unfold Oper.wp
 simp [execOp,ho,resolve,invoke,builtin,hs,hx,hr,Result.andThen]
 exact hK' _ _ (hK _ _ h1 h2)
def flipB (L : List Bool) (k : Nat) : List Bool := L.set k (!(L[k]?.getD false))
theorem length_flipB (L : List Bool) (k : Nat) : (flipB L k).length = L.length := by unfold flipB; rw [List.length_set]
theorem num_flipB (L : List Bool) (k : Nat) (hk : k < L.length) : num (flipB L k) = num L ^^^ 2 ^ k := by
 induction L generalizing k with
 | nil => simp at hk
 | cons b L ih =>
  cases k with
  | zero =>
   unfold flipB
   rw [List.set_cons_zero,num,num]
   have h1 := xor_add 1 (!b).toNat (num L) (by cases b <;> decide)
   have h2 := xor_add 1 b.toNat (num L) (by cases b <;> decide)
   rw [Nat.pow_one] at h1 h2
   show (!b).toNat + 2 * num L = _
   rw [h1,h2,Nat.xor_assoc,Nat.xor_comm (2 * num L),← Nat.xor_assoc]
   cases b <;> rfl
  | succ k =>
   have ih' := ih k (by simpa using hk)
   have e : flipB (b :: L) (k + 1) = b :: flipB L k := by
    unfold flipB; rw [List.set_cons_succ,List.getElem?_cons_succ]
   rw [e,num,num,ih']
   have h1 := xor_add 1 b.toNat (num L ^^^ 2 ^ k) (by cases b <;> decide)
   have h2 := xor_add 1 b.toNat (num L) (by cases b <;> decide)
   have h3 := mul_xor 1 (num L) (2 ^ k)
   rw [Nat.pow_one] at h1 h2 h3
   rw [h1,h2,h3,Nat.xor_assoc,← Nat.pow_succ']
theorem num_bitsB (P : List Nat) (hb : ∀ x ∈ P,x < 256) : num (bitsB P) = bnum P := by
 induction P with
 | nil => rfl
 | cons x P ih =>
  have hx := hb x (by simp)
  have e : bitsB (x :: P) = bitsN 8 x ++ bitsB P := by simp [bitsB]
  rw [e,num_append,num_bitsN,length_bitsN,ih (fun y hy => hb y (by simp [hy])),bnum]
  have : x % 2 ^ 8 = x := Nat.mod_eq_of_lt hx
  rw [this]
theorem num_div (L : List Bool) (k : Nat) : num (L.drop k) = num L / 2 ^ k := by
 induction k generalizing L with
 | zero => simp
 | succ k ih =>
  cases L with
  | nil => simp [num]
  | cons b L =>
   rw [List.drop_succ_cons,ih,num,Nat.pow_succ',← Nat.div_div_eq_div_mul]
   congr 1
   cases b <;> simp <;> omega
theorem num_bit (L : List Bool) (k : Nat) (b : Bool) (h : L[k]? = some b) : (num L / 2 ^ k % 2 = 1) ↔ b = true := by
 rw [← num_div]
 have hk : k < L.length := (List.getElem?_eq_some_iff.1 h).1
 rw [List.drop_eq_getElem_cons hk,num]
 have : L[k] = b := by rw [List.getElem?_eq_getElem hk] at h; exact Option.some.inj h
 rw [this]
 cases b <;> simp <;> omega
theorem ones_step (i : Nat) : (2 ^ i - 1) ^^^ 2 ^ i = 2 ^ (i + 1) - 1 := by
 have h := xor_add i (2 ^ i - 1) 1 (by have := Nat.two_pow_pos i; omega)
 rw [Nat.mul_one] at h
 rw [← h,Nat.pow_succ]
 have := Nat.two_pow_pos i
 omega
def bys : List Nat := [0,1,2,4,5,7,8,10,11,12,16,22,23,26]
def pm (j : Nat) : Nat := (bys.take j).foldl (fun a k => a ^^^ 2 ^ (31 - k)) 0
theorem pm_all : pm 14 = 3988292384 := by decide +kernel
theorem pm_succ (j k : Nat) (h : bys[j]? = some k) : pm (j + 1) = pm j ^^^ 2 ^ (31 - k) := by
 unfold pm
 rw [List.take_add_one,h,Option.toList_some,List.foldl_append]; rfl
theorem bys_le (j k : Nat) (h : bys[j]? = some k) : k ≤ 26 := by
 have hm := List.mem_of_getElem? h
 simp only [bys,List.mem_cons,List.not_mem_nil,or_false] at hm
 omega
theorem div_step (X i : Nat) (h : X / 2 ^ i % 2 = 1) : (X ^^^ 2 ^ (i + 1) * 3988292384) / 2 ^ (i + 1) = stp (X / 2 ^ i) := by
 have e : (X ^^^ 2 ^ (i + 1) * 3988292384) / 2 ^ (i + 1) = X / 2 ^ (i + 1) ^^^ (2 ^ (i + 1) * 3988292384) / 2 ^ (i + 1) := by
  have := @Nat.shiftRight_xor_distrib (i + 1) X (2 ^ (i + 1) * 3988292384)
  simpa [Nat.shiftRight_eq_div_pow] using this
 rw [e,Nat.mul_div_cancel_left _ (Nat.two_pow_pos _),stp,if_pos h,Nat.pow_succ,← Nat.div_div_eq_div_mul]
theorem div_skip (X i : Nat) (h : ¬ X / 2 ^ i % 2 = 1) : X / 2 ^ (i + 1) = stp (X / 2 ^ i) := by
 rw [stp,if_neg h,Nat.xor_zero,Nat.pow_succ,← Nat.div_div_eq_div_mul]
theorem stps_snoc (n s : Nat) : stps (n + 1) s = stp (stps n s) := by rw [stps_add]; rfl
theorem ones_bit (F i : Nat) (hF : F < 4294967296) (hi : i < 32) : (4294967295 - F) / 2 ^ i = (4294967295 - F) / 2 ^ (i + 1) * 2 + (if F / 2 ^ i % 2 = 1 then 0 else 1) := by
 have hb : (4294967295 - F) / 2 ^ i % 2 = if F / 2 ^ i % 2 = 1 then 0 else 1 := by
  have h1 : (4294967295 - F).testBit i = !(F.testBit i) := by
   rw [ones_sub F hF,Nat.testBit_xor]
   have : (4294967295 : Nat).testBit i = true := by
    have e : (4294967295 : Nat) = 2 ^ 32 - 1 := rfl
    rw [e,Nat.testBit_two_pow_sub_one]; simp [hi]
   rw [this]; simp
  rw [Nat.testBit_eq_decide_div_mod_eq,Nat.testBit_eq_decide_div_mod_eq] at h1
  by_cases c : F / 2 ^ i % 2 = 1
  ·rw [if_pos c]; simp [c] at h1; omega
  ·rw [if_neg c]; simp [c] at h1; omega
 have h2 : (4294967295 - F) / 2 ^ (i + 1) = (4294967295 - F) / 2 ^ i / 2 := by rw [Nat.pow_succ,← Nat.div_div_eq_div_mul]
 rw [h2,← hb]; omega
end Go.Proofs.YtgifeckbflkkpaaGreatDoor
