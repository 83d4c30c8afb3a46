/- append(s, make([]bool, 32)...) onto a row of the call's ownf; and turned bools as numbers. -/
import Derived.Test.YtgifeckbflkkpaaGreatDoorQr12
import Derived.Lib.AppendZerosOnto
import Derived.Test.YtgifeckbflkkpaaGreatDoorQr05
namespace Go.Proofs.YtgifeckbflkkpaaGreatDoor
open Go.RowKit
set_option linter.unusedVariables false
set_option maxHeartbeats 2000000
theorem zero32 : Builtin.zeroCells (Value.bool false).cells 32 = (brow (List.replicate 32 false)).toArray := by kernel_rfl
set_option maxRecDepth 100000 in
theorem run_zeros_room (w : World) (ty : TypeId) (g n cap : Nat) (cur : Array Value) (hg : w.heap[g]? = some (.cells cur 4 (0,0))) (hroom : n + 32 ≤ cap) (hfit : n + 32 ≤ cur.size) :
  (Builtin.append_ #[75,3] ty #[.slice (some ⟨g,0,none⟩) n cap,.int .i64 32]).run Tryz.prog w =
   .ok (.slice (some ⟨g,0,none⟩) (n + 32) cap) (w.setRow g (cur.toList.take n ++ brow (List.replicate 32 false) ++ cur.toList.drop (n + 32)).toArray) := by
 obtain ⟨i0,hi,hz0,hz1,hz2⟩ := info_parts Tryz.infoBool
 have hst := run_storeCells_at Tryz.prog g n 4 (brow (List.replicate 32 false)) 0 cur w hg (by rw [length_brow]; simpa using hfit) (one_brow _)
 simp only [Nat.add_zero] at hst
 have hw : IntKind.i64.wrap 32 = 32 := by decide
 have hz3 : Builtin.zeroCells (Value.bool false).cells 32 = (brow (List.replicate 32 false)).toArray := zero32
 have hl : (brow (List.replicate 32 false)).length = 32 := rfl
 rw [hl] at hst
 generalize brow (List.replicate 32 false) = B at *
 simp [Builtin.append_,run_underlying Tryz.underlying75,run_underlying Tryz.underlying3,sizeOf,typeInfo,zeroValue,hi,hz0,hz1,hz2,asInt,asIntOf,hw,hroom,Addr.add_lit,hz3,hst]
theorem run_zeros_own (w : World) (ty : TypeId) (B : Nat) (v : Value) (L : List Bool) (h : Bo B w v L) (hL : L.length ≤ 1000000) (hB : B ≤ w.heap.size) :
  ∃ v' w',(Builtin.append_ #[75,3] ty #[v,.int .i64 32]).run Tryz.prog w = .ok v' w' ∧ Bo B w' v' (L ++ List.replicate 32 false) ∧ w.grownBy w' v.ownBlock := by
 obtain ⟨i0,hi,hz0,hz1,hz2⟩ := info_parts Tryz.infoBool
 have hlen : (brow (L ++ List.replicate 32 false)).length = L.length + 32 := by rw [length_brow,List.length_append,List.length_replicate]
 have hl32 : (brow (List.replicate 32 false)).length = 32 := rfl
 have grown : ∀ (old : Nat),(row : Option Nat) →
   (w.drew.alloc (.cells ((brow L).toArray ++ Builtin.zeroCells (Value.bool false).cells 32 ++ Builtin.zeroCells (Value.bool false).cells (grownCap w (L.length + 32) old 4 - (L.length + 32))) 4)).ownsRow B 4 1
    (.slice (some ⟨w.heap.size,0,none⟩) (L.length + 32) (grownCap w (L.length + 32) old 4)) (L.length + 32) (brow (L ++ List.replicate 32 false)) ∧
   w.grownBy (w.drew.alloc (.cells ((brow L).toArray ++ Builtin.zeroCells (Value.bool false).cells 32 ++ Builtin.zeroCells (Value.bool false).cells (grownCap w (L.length + 32) old 4 - (L.length + 32))) 4)) row := by
  intro old row
  have hge := grownCap_ge w (L.length + 32) old 4
  have hcm : grownCap w (L.length + 32) old 4 ≤ maxLen := grownCap_le_maxLen w (L.length + 32) old 4 (by unfold maxLen; omega)
  rw [zero32]
  refine ⟨⟨by rw [hlen,Nat.mul_one],.inr ⟨w.heap.size,_,_,rfl,hB,heap_alloc_new w.drew _,hge,hcm,?_,?_⟩⟩,⟨rfl,rfl,rfl,by simp,fun k hk _ => Below.heap_alloc w.drew _ k hk⟩⟩
  ·simp only [Array.size_append,List.size_toArray,size_zeroCells,length_brow,List.length_replicate,Nat.mul_one]
   show L.length + 32 + (_ - _) * 1 = _
   omega
  ·simp only [Array.toList_append,List.append_assoc]
   rw [← List.append_assoc,← brow_append,Nat.mul_one,← hlen]
   exact List.take_left
 rcases h.2 with ⟨rfl,h0⟩ | ⟨g,cap,cur,rfl,hbg,hg,hnc,hcm,hcs,htake⟩
 ·have hL0 : L = [] := List.eq_nil_of_length_eq_zero h0
  subst hL0
  have hr := Lib.run_append_grow_zeros (P := Tryz.prog) w 75 3 ty 4 i0 (.bool false) .i64 .i64 Tryz.underlying75 Tryz.underlying3 hi hz0 none 0 0 [] (by rfl) 32 (by decide) (by rw [hz1]; decide) (by decide) (by decide) (by rw [hz2]; decide) (by rw [hz2]; decide)
  obtain ⟨h1,h2⟩ := grown 0 (Value.ownBlock (.slice none 0 0))
  refine ⟨_,_,hr,?_,?_⟩
  ·exact h1
  ·exact h2
 ·by_cases hroom : L.length + 32 ≤ cap
  ·have hfit : L.length + 32 ≤ cur.size := by omega
   have hr := run_zeros_room w ty g L.length cap cur hg hroom hfit
   refine ⟨_,_,hr,⟨by rw [hlen,List.length_append,List.length_replicate,Nat.mul_one],.inr ⟨g,cap,_,by rw [List.length_append,List.length_replicate],hbg,setRow_heap w g cur _ 4 _ hg,by rw [List.length_append,List.length_replicate]; exact hroom,hcm,?_,?_⟩⟩,⟨rfl,rfl,rfl,by simp,fun k _ hk => setRow_other w g k _ (fun e => hk (by simp [Value.ownBlock,e]))⟩⟩
   ·simp only [List.size_toArray,List.length_append,List.length_take,List.length_drop,Array.length_toList,length_brow,List.length_replicate]
    omega
   ·rw [Nat.mul_one] at htake ⊢
    rw [htake,← brow_append,← length_brow (L ++ List.replicate 32 false)]
    exact List.take_left
  ·have hold : (Builtin.firstCells i0.size L.length (.slice (some ⟨g,0,none⟩) L.length cap)).run Tryz.prog w.drew = .ok (brow L).toArray w.drew := by
    rw [hz1]
    refine run_firstCells_some (P := Tryz.prog) w.drew 1 L.length ⟨g,0,none⟩ L.length cap (brow L) (by rw [length_brow,Nat.mul_one]) ?_
    intro j u hu
    exact h.cells (g := g) rfl j u hu
   have hr := Lib.run_append_grow_zeros (P := Tryz.prog) w 75 3 ty 4 i0 (.bool false) .i64 .i64 Tryz.underlying75 Tryz.underlying3 hi hz0 (some ⟨g,0,none⟩) L.length cap (brow L) hold 32 (by decide) (by rw [hz1]; decide) (by omega) (by omega) (by rw [hz2]; decide) (growslice_fits (by omega) (by rw [hz2]; omega))
   obtain ⟨h1,h2⟩ := grown cap (Value.ownBlock (.slice (some ⟨g,0,none⟩) L.length cap))
   refine ⟨_,_,hr,?_,h2⟩
   unfold Bo
   rw [List.length_append,List.length_replicate]
   exact h1
def zs32 : List Bool := List.replicate 32 false
theorem append_zeros {w : World} {ops : Array Oper} {rest : List Oper} {o : Oper} {a : Act} {Q : Exit → Act → World → Prop} (hgd : o.guard = none) (s x : Operand)
  (ho : o.op = .call { callee := .builtin .append,args := #[s,x],argTypes := #[75,3] }) (B : Nat) (v : Value) (L : List Bool) (h : Bo B w v L) (hL : L.length ≤ 1000000) (hB : B ≤ w.heap.size)
  (hs : a.eval s = v) (hx : a.eval x = .int .i64 32)
  (hK : ∀ v' w',Bo B w' v' (L ++ zs32) → w.grownBy w' v.ownBlock → wpList Tryz.prog ops Q rest (a.put o.dst v') w') :
  wpList Tryz.prog ops Q (o :: rest) a w := by
 refine wpList_plain hgd fun K hK' => ?_
 obtain ⟨v',w',hr,h1,h2⟩ := run_zeros_own w o.type B v L h hL hB
 unfold Oper.wp
 simp [execOp,ho,resolve,invoke,builtin,hs,hx,hr,Result.andThen]
 exact hK' _ _ (hK _ _ h1 h2)
def flipB (L : List Bool) (k : Nat) : List Bool := L.set k (!(L[k]?.getD false))
theorem length_flipB (L : List Bool) (k : Nat) : (flipB L k).length = L.length := by unfold flipB; rw [List.length_set]
theorem num_flipB (L : List Bool) (k : Nat) (hk : k < L.length) : num (flipB L k) = num L ^^^ 2 ^ k := by
 induction L generalizing k with
 | nil => simp at hk
 | cons b L ih =>
  cases k with
  | zero =>
   unfold flipB
   rw [List.set_cons_zero,num,num]
   have h1 := xor_add 1 (!b).toNat (num L) (by cases b <;> decide)
   have h2 := xor_add 1 b.toNat (num L) (by cases b <;> decide)
   rw [Nat.pow_one] at h1 h2
   show (!b).toNat + 2 * num L = _
   rw [h1,h2,Nat.xor_assoc,Nat.xor_comm (2 * num L),← Nat.xor_assoc]
   cases b <;> rfl
  | succ k =>
   have ih' := ih k (by simpa using hk)
   have e : flipB (b :: L) (k + 1) = b :: flipB L k := by
    unfold flipB; rw [List.set_cons_succ,List.getElem?_cons_succ]
   rw [e,num,num,ih']
   have h1 := xor_add 1 b.toNat (num L ^^^ 2 ^ k) (by cases b <;> decide)
   have h2 := xor_add 1 b.toNat (num L) (by cases b <;> decide)
   have h3 := mul_xor 1 (num L) (2 ^ k)
   rw [Nat.pow_one] at h1 h2 h3
   rw [h1,h2,h3,Nat.xor_assoc,← Nat.pow_succ']
theorem num_bitsB (P : List Nat) (hb : ∀ x ∈ P,x < 256) : num (bitsB P) = bnum P := by
 induction P with
 | nil => rfl
 | cons x P ih =>
  have hx := hb x (by simp)
  have e : bitsB (x :: P) = bitsN 8 x ++ bitsB P := by simp [bitsB]
  rw [e,num_append,num_bitsN,length_bitsN,ih (fun y hy => hb y (by simp [hy])),bnum]
  have : x % 2 ^ 8 = x := Nat.mod_eq_of_lt hx
  rw [this]
theorem num_div (L : List Bool) (k : Nat) : num (L.drop k) = num L / 2 ^ k := by
 induction k generalizing L with
 | zero => simp
 | succ k ih =>
  cases L with
  | nil => simp [num]
  | cons b L =>
   rw [List.drop_succ_cons,ih,num,Nat.pow_succ',← Nat.div_div_eq_div_mul]
   congr 1
   cases b <;> simp <;> omega
theorem num_bit (L : List Bool) (k : Nat) (b : Bool) (h : L[k]? = some b) : (num L / 2 ^ k % 2 = 1) ↔ b = true := by
 rw [← num_div]
 have hk : k < L.length := (List.getElem?_eq_some_iff.1 h).1
 rw [List.drop_eq_getElem_cons hk,num]
 have : L[k] = b := by rw [List.getElem?_eq_getElem hk] at h; exact Option.some.inj h
 rw [this]
 cases b <;> simp <;> omega
theorem ones_step (i : Nat) : (2 ^ i - 1) ^^^ 2 ^ i = 2 ^ (i + 1) - 1 := by
 have h := xor_add i (2 ^ i - 1) 1 (by have := Nat.two_pow_pos i; omega)
 rw [Nat.mul_one] at h
 rw [← h,Nat.pow_succ]
 have := Nat.two_pow_pos i
 omega
def bys : List Nat := [0,1,2,4,5,7,8,10,11,12,16,22,23,26]
def pm (j : Nat) : Nat := (bys.take j).foldl (fun a k => a ^^^ 2 ^ (31 - k)) 0
theorem pm_all : pm 14 = 3988292384 := by decide +kernel
theorem pm_succ (j k : Nat) (h : bys[j]? = some k) : pm (j + 1) = pm j ^^^ 2 ^ (31 - k) := by
 unfold pm
 rw [List.take_add_one,h,Option.toList_some,List.foldl_append]; rfl
theorem bys_le (j k : Nat) (h : bys[j]? = some k) : k ≤ 26 := by
 have hm := List.mem_of_getElem? h
 simp only [bys,List.mem_cons,List.not_mem_nil,or_false] at hm
 omega
theorem div_step (X i : Nat) (h : X / 2 ^ i % 2 = 1) : (X ^^^ 2 ^ (i + 1) * 3988292384) / 2 ^ (i + 1) = stp (X / 2 ^ i) := by
 have e : (X ^^^ 2 ^ (i + 1) * 3988292384) / 2 ^ (i + 1) = X / 2 ^ (i + 1) ^^^ (2 ^ (i + 1) * 3988292384) / 2 ^ (i + 1) := by
  have := @Nat.shiftRight_xor_distrib (i + 1) X (2 ^ (i + 1) * 3988292384)
  simpa [Nat.shiftRight_eq_div_pow] using this
 rw [e,Nat.mul_div_cancel_left _ (Nat.two_pow_pos _),stp,if_pos h,Nat.pow_succ,← Nat.div_div_eq_div_mul]
theorem div_skip (X i : Nat) (h : ¬ X / 2 ^ i % 2 = 1) : X / 2 ^ (i + 1) = stp (X / 2 ^ i) := by
 rw [stp,if_neg h,Nat.xor_zero,Nat.pow_succ,← Nat.div_div_eq_div_mul]
theorem stps_snoc (n s : Nat) : stps (n + 1) s = stp (stps n s) := by rw [stps_add]; rfl
theorem ones_bit (F i : Nat) (hF : F < 4294967296) (hi : i < 32) : (4294967295 - F) / 2 ^ i = (4294967295 - F) / 2 ^ (i + 1) * 2 + (if F / 2 ^ i % 2 = 1 then 0 else 1) := by
 have hb : (4294967295 - F) / 2 ^ i % 2 = if F / 2 ^ i % 2 = 1 then 0 else 1 := by
  have h1 : (4294967295 - F).testBit i = !(F.testBit i) := by
   rw [ones_sub F hF,Nat.testBit_xor]
   have : (4294967295 : Nat).testBit i = true := by
    have e : (4294967295 : Nat) = 2 ^ 32 - 1 := rfl
    rw [e,Nat.testBit_two_pow_sub_one]; simp [hi]
   rw [this]; simp
  rw [Nat.testBit_eq_decide_div_mod_eq,Nat.testBit_eq_decide_div_mod_eq] at h1
  by_cases c : F / 2 ^ i % 2 = 1
  ·rw [if_pos c]; simp [c] at h1; omega
  ·rw [if_neg c]; simp [c] at h1; omega
 have h2 : (4294967295 - F) / 2 ^ (i + 1) = (4294967295 - F) / 2 ^ i / 2 := by rw [Nat.pow_succ,← Nat.div_div_eq_div_mul]
 rw [h2,← hb]; omega
def Lb (w0 wr : World) (g cp n X : Nat) : Prop := ∃ L,wr.ownsRow w0.heap.size 4 1 (.slice (some ⟨g,0,none⟩) (n + 32) cp) (n + 32) (brow L) ∧ L.length = n + 32 ∧ num L = X ∧ Fr Nobody w0 wr
theorem Lb.fr {w0 wr : World} {g cp n X : Nat} (h : Lb w0 wr g cp n X) : Fr Nobody w0 wr := by obtain ⟨L,_,_,_,h⟩ := h; exact h
theorem Lb.low {w0 wr : World} {g cp n X : Nat} (h : Lb w0 wr g cp n X) : w0.heap.size ≤ g ∧ g < wr.heap.size := by obtain ⟨L,h,_⟩ := h; exact h.lt g rfl
theorem Lb.alloc {w0 wr : World} {g cp n X : Nat} (h : Lb w0 wr g cp n X) (o : Obj) : Lb w0 (wr.alloc o) g cp n X := by
 obtain ⟨L,h1,h2,h3,h4⟩ := h
 exact ⟨L,h1.alloc o,h2,h3,h4.alloc o⟩
theorem Lb.flip {w0 wr : World} {g cp n X : Nat} (h : Lb w0 wr g cp n X) (k : Nat) (hk : k < n + 32) : ∃ b,wr.cell? ⟨g,k,none⟩ = some (.bool b) ∧ wr.frozen? ⟨g,k,none⟩ = false ∧ (X / 2 ^ k % 2 = 1 ↔ b = true) ∧ Lb w0 (wr.setCell ⟨g,k,none⟩ (.bool (!b))) g cp n (X ^^^ 2 ^ k) := by
 have hlow := h.low
 obtain ⟨L,h1,h2,h3,h4⟩ := h
 have hx : L[k]? = some L[k] := List.getElem?_eq_getElem (by omega)
 refine ⟨L[k],?_,h1.frozenAt _,by rw [← h3]; exact num_bit L k _ hx,flipB L k,?_,by rw [length_flipB,h2],by rw [num_flipB L k (by omega),h3],h4.setCell (.inr hlow.1) _⟩
 ·rw [h1.cellAt k (by omega)]; simp [brow,hx]
 ·have e : brow (flipB L k) = (brow L).set k (.bool (!L[k])) := by
   unfold flipB; rw [hx]; simp [brow,List.map_set]
  rw [e]
  exact (h1.stored k _).1
def Wk (w0 wr : World) (g cp n gb X : Nat) : Prop := Lb w0 wr g cp n X ∧ gb ≠ g ∧ ∀ j k : Nat,bys[j]? = some k → wr.cell? ⟨gb,j,none⟩ = some (.int .i64 (k : Int))
theorem Wk.flip {w0 wr : World} {g cp n gb X : Nat} (h : Wk w0 wr g cp n gb X) (k : Nat) (hk : k < n + 32) : ∃ b,wr.cell? ⟨g,k,none⟩ = some (.bool b) ∧ wr.frozen? ⟨g,k,none⟩ = false ∧ (X / 2 ^ k % 2 = 1 ↔ b = true) ∧ Wk w0 (wr.setCell ⟨g,k,none⟩ (.bool (!b))) g cp n gb (X ^^^ 2 ^ k) := by
 obtain ⟨h1,h2,h3⟩ := h
 obtain ⟨b,c1,c2,c3,c4⟩ := h1.flip k hk
 refine ⟨b,c1,c2,c3,c4,h2,fun j q hq => ?_⟩
 have hf : Fr (fun q => q = g) wr (wr.setCell ⟨g,k,none⟩ (.bool (!b))) := Fr.setCell (S := fun q => q = g) (Fr.refl _ wr) (.inl rfl) _
 exact (hf.cell (p := ⟨gb,j,none⟩) (World.block_lt_of_cell? wr _ (h3 j q hq)) h2).trans (h3 j q hq)
theorem bys_row (w : World) (t : TypeId) : ∀ j k : Nat,bys[j]? = some k → (w.alloc (.cells #[.int .i64 0,.int .i64 1,.int .i64 2,.int .i64 4,.int .i64 5,.int .i64 7,.int .i64 8,.int .i64 10,.int .i64 11,.int .i64 12,.int .i64 16,.int .i64 22,.int .i64 23,.int .i64 26] t)).cell? ⟨w.heap.size,j,none⟩ = some (.int .i64 (k : Int)) := by
 intro j k h
 rw [cell_of_row _ _ _ _ _ _ (heap_alloc_new w _)]
 have e : (#[Value.int .i64 0,.int .i64 1,.int .i64 2,.int .i64 4,.int .i64 5,.int .i64 7,.int .i64 8,.int .i64 10,.int .i64 11,.int .i64 12,.int .i64 16,.int .i64 22,.int .i64 23,.int .i64 26] : Array Value) = (bys.map (fun (x : Nat) => Value.int .i64 (x : Int))).toArray := rfl
 rw [e,List.getElem?_toArray,List.getElem?_map,h]; rfl
set_option maxRecDepth 100000 in
theorem rsum_any (w : World) (ao : Option Addr) (cap len n : Nat) (P : List Nat) (h : In w ao len cap P) (hL : len ≤ 10000) (hn : n = 8 * len) :
  Calls Tryz.prog 57 #[.slice ao len cap] w fun e w' => e = .returned (.int .u32 ((crc P : Nat) : Int)) ∧ Fr Nobody w w' := by
 have HI : Hid (In w ao len cap P) := h
 have HN : Hid (n = 8 * len ∧ (bitsB P).length = n) := ⟨hn,by rw [length_bitsB,h.eqn,hn]⟩
 have hn2 : n ≤ 80000 := by omega
 have HC : Hid (crc P = 4294967295 - stps n (bnum P ^^^ 4294967295) ∧ stps n (bnum P ^^^ 4294967295) < 4294967296) := by
  have h1 := feed_eq 4294967295 P h.byt
  have h2 := feed_lt 4294967295 P (by decide) h.byt
  rw [h.eqn,← hn,Nat.xor_comm] at h1
  unfold crc
  rw [h1] at h2 ⊢
  exact ⟨rfl,h2⟩
 clear h hn
 go_enter Tryz.func57,Tryz.ntmps57
 go_wp2_with fail
 refine (rbits_any w ao cap len P HI.out.at' HI.out.eqn HI.out.byt (by omega)).mono ?_
 rintro e w1 ⟨v1,rfl,hb1,hf1⟩
 have H1 : Hid (Bo w.heap.size w1 v1 (bitsB P) ∧ Fr Nobody w w1) := ⟨hb1,hf1⟩
 clear hb1 hf1
 go_wp2_with (at_builtin; refine append_zeros rfl _ _ rfl w.heap.size v1 (bitsB P) H1.out.1 (by rw [HN.out.2]; omega) H1.out.2.size rfl rfl ?_)
 intro v2 w2 ho2 hg2
 have hl2 : (bitsB P ++ zs32).length = n + 32 := by rw [List.length_append,HN.out.2]; rfl
 unfold Bo at ho2
 rw [hl2] at ho2
 obtain ⟨g,cp,hv2,hg⟩ := row_shape ho2 (by omega)
 subst hv2
 have HB2 : Hid (Lb w w2 g cp n (bnum P)) := ⟨_,ho2,hl2,by rw [num_append,num_bitsB P HI.out.byt,show num zs32 = 0 from num_zeros 32,Nat.mul_zero,Nat.add_zero],H1.out.2.grown hg2 (fun q hq => .inr (World.ownsRow.lt H1.out.1 q hq).1)⟩
 clear ho2 hg2 hl2
 go_wp2
 go_loopw [15] (fun c wr => ∃ j : Nat,j ≤ 32 ∧ c = .int .i64 j ∧ Lb w wr g cp n (bnum P ^^^ (2 ^ j - 1))) (fun c _ => 32 - (intOf c).toNat)
 case atStart => exact ⟨0,by omega,rfl,by simpa using HB2.out⟩
 case round =>
  obtain ⟨j,hj,rfl,hlb⟩ := hrel
  by_cases hlt : j < 32
  ·obtain ⟨b,cx,fx,_,hlb2⟩ := hlb.flip j (by omega)
   have HB : Hid (Lb w (wr.setCell ⟨g,j,none⟩ (.bool (!b))) g cp n (bnum P ^^^ (2 ^ (j + 1) - 1))) := by
    rw [Nat.xor_assoc,ones_step] at hlb2; exact hlb2
   clear hlb hlb2
   go_wp2
   exact ⟨⟨j + 1,by omega,by go_num,HB.out⟩,by simp [intOf]; omega⟩
  ·have e : j = 32 := by omega
   subst e
   have HB : Hid (Lb w wr g cp n (bnum P ^^^ 4294967295)) := hlb
   clear hlb
   generalize bnum P ^^^ 4294967295 = X0 at *
   have HW : Hid (Wk w (wr.alloc (.cells #[.int .i64 0,.int .i64 1,.int .i64 2,.int .i64 4,.int .i64 5,.int .i64 7,.int .i64 8,.int .i64 10,.int .i64 11,.int .i64 12,.int .i64 16,.int .i64 22,.int .i64 23,.int .i64 26] 3)) g cp n wr.heap.size X0) := ⟨HB.out.alloc _,Nat.ne_of_gt HB.out.low.2,bys_row wr _⟩
   clear HB
   go_wp2
   generalize wr.alloc (.cells #[.int .i64 0,.int .i64 1,.int .i64 2,.int .i64 4,.int .i64 5,.int .i64 7,.int .i64 8,.int .i64 10,.int .i64 11,.int .i64 12,.int .i64 16,.int .i64 22,.int .i64 23,.int .i64 26] 3) = wz at *
   generalize wr.heap.size = gb at *
   go_loopw [6] (fun c wr => ∃ i X : Nat,i ≤ n ∧ c = .int .i64 i ∧ Wk w wr g cp n gb X ∧ X / 2 ^ i = stps i X0) (fun c _ => n - (intOf c).toNat)
   case atStart => exact ⟨0,X0,Nat.zero_le _,rfl,HW.out,by simp [stps]⟩
   case round =>
    obtain ⟨i,X,hi,rfl,hwk,hX⟩ := hrel
    by_cases hlt : i < n
    ·obtain ⟨b,cx,_,hbit,_⟩ := hwk.flip i (by omega)
     cases b
     ·have HK : Hid (Wk w wr g cp n gb X ∧ X / 2 ^ (i + 1) = stps (i + 1) X0) := by
       refine ⟨hwk,?_⟩
       rw [div_skip X i (fun c => by have := hbit.1 c; cases this),stps_snoc,hX]
      clear hwk hX hbit
      go_wp2
      exact ⟨⟨i + 1,X,by omega,by go_num,HK.out.1,HK.out.2⟩,by simp [intOf]; omega⟩
     ·have HK : Hid (Wk w wr g cp n gb X ∧ X / 2 ^ i = stps i X0 ∧ X / 2 ^ i % 2 = 1) := ⟨hwk,hX,hbit.2 rfl⟩
      clear hwk hX hbit
      go_wp2
      go_loopw [42] (fun c wr => ∃ j : Nat,j ≤ 14 ∧ c = .int .i64 j ∧ Wk w wr g cp n gb (X ^^^ 2 ^ (i + 1) * pm j)) (fun c _ => 14 - (intOf c).toNat)
      case atStart => exact ⟨0,by omega,rfl,by rw [show pm 0 = 0 from rfl,Nat.mul_zero,Nat.xor_zero]; exact HK.out.1⟩
      case round =>
       obtain ⟨j,hj,rfl,hwk⟩ := hrel
       by_cases hlt2 : j < 14
       ·obtain ⟨k,hk⟩ : ∃ k,bys[j]? = some k := ⟨_,List.getElem?_eq_getElem hlt2⟩
        have hk26 := bys_le j k hk
        have ck := hwk.2.2 j k hk
        obtain ⟨b2,cx2,fx2,_,hwk2⟩ := hwk.flip (i + 32 - k) (by omega)
        have HK2 : Hid (Wk w (wr.setCell ⟨g,i + 32 - k,none⟩ (.bool (!b2))) g cp n gb (X ^^^ 2 ^ (i + 1) * pm (j + 1))) := by
         rw [pm_succ j k hk,mul_xor,← Nat.pow_add,show i + 1 + (31 - k) = i + 32 - k by omega,← Nat.xor_assoc]
         exact hwk2
        clear hwk hwk2 hk
        go_wp2
        exact ⟨⟨j + 1,by omega,by go_num,HK2.out⟩,by simp [intOf]; omega⟩
       ·have e : j = 14 := by omega
        subst e
        rw [pm_all] at hwk
        have HK2 : Hid (Wk w wr g cp n gb (X ^^^ 2 ^ (i + 1) * 3988292384) ∧ (X ^^^ 2 ^ (i + 1) * 3988292384) / 2 ^ (i + 1) = stps (i + 1) X0) := by
         refine ⟨hwk,?_⟩
         rw [div_step X i HK.out.2.2,stps_snoc,HK.out.2.1]
        clear hwk
        go_wp2
        exact ⟨⟨i + 1,_,by omega,by go_num,HK2.out.1,HK2.out.2⟩,by simp [intOf]; omega⟩
    ·have e : i = n := by omega
     have HK : Hid (Lb w wr g cp n X ∧ X / 2 ^ n = stps n X0) := ⟨hwk.1,by rw [← e]; exact hX⟩
     have hcp : n + 32 ≤ cp := by obtain ⟨L,h1,_⟩ := hwk.1; exact (row_cap h1).2.1
     have hF := HC.out.2
     have HC1 : Hid (crc P = 4294967295 - stps n X0) := HC.out.1
     clear hwk hX HC HW
     generalize stps n X0 = F at *
     go_wp2
     go_loopw [10,11] (fun u c wr2 => ((c = .int .i64 (-1) ∧ u = .int .u32 ((4294967295 - F : Nat) : Int)) ∨ ∃ i : Nat,i < 32 ∧ c = .int .i64 i ∧ u = .int .u32 (((4294967295 - F) / 2 ^ (i + 1) : Nat) : Int)) ∧ wr2 = wr) (fun _ c _ => (intOf c + 1).toNat)
     case atStart => exact ⟨.inr ⟨31,by omega,rfl,by rw [Nat.div_eq_of_lt (by omega)]; rfl⟩,rfl⟩
     case round =>
      obtain ⟨⟨rfl,rfl⟩ | ⟨i2,hi2,rfl,rfl⟩,rfl⟩ := hrel
      ·have HP : Hid (Fr Nobody w wr) := HK.out.1.fr
       go_wp2
       go_ret
       exact ⟨ret_int (by rw [HC1.out]),HP.out⟩
      ·obtain ⟨b,cx,_,hbit,_⟩ := HK.out.1.flip (n + i2) (by omega)
       have HG : Hid _ := ones_bit F i2 hF hi2
       have hdv : X / 2 ^ (n + i2) = F / 2 ^ i2 := by rw [Nat.pow_add,← Nat.div_div_eq_div_mul,HK.out.2]
       rw [hdv] at hbit
       have hs : (4294967295 - F) / 2 ^ (i2 + 1) * 2 + 1 < 4294967296 := by
        rw [Nat.pow_succ,← Nat.div_div_eq_div_mul]
        have := Nat.div_le_self (4294967295 - F) (2 ^ i2)
        omega
       have HR : Hid (∀ v : Value,v = .int .u32 (((4294967295 - F) / 2 ^ i2 : Nat) : Int) → ((Value.int .i64 ((i2 : Int) - 1) = .int .i64 (-1) ∧ v = .int .u32 ((4294967295 - F : Nat) : Int)) ∨ ∃ i : Nat,i < 32 ∧ Value.int .i64 ((i2 : Int) - 1) = .int .i64 i ∧ v = .int .u32 (((4294967295 - F) / 2 ^ (i + 1) : Nat) : Int))) := by
        intro v hv
        rw [hv]
        cases i2 with
        | zero => left; exact ⟨rfl,by simp⟩
        | succ k => right; exact ⟨k,by omega,by congr 1; omega,rfl⟩
       cases b
       ·have HG2 : Hid ((4294967295 - F) / 2 ^ i2 = (4294967295 - F) / 2 ^ (i2 + 1) * 2 + 1) := by
         have := HG.out
         rw [if_neg (fun c => by have := hbit.1 c; cases this)] at this
         exact this
        clear HG hbit hdv
        generalize (4294967295 - F) / 2 ^ i2 = s1 at *
        generalize (4294967295 - F) / 2 ^ (i2 + 1) = s2 at *
        go_wp2
        exact ⟨⟨HR.out _ (by rw [HG2.out]; congr 1),trivial⟩,by simp only [intOf]; omega⟩
       ·have HG2 : Hid ((4294967295 - F) / 2 ^ i2 = (4294967295 - F) / 2 ^ (i2 + 1) * 2) := by
         have := HG.out
         rw [if_pos (hbit.2 rfl),Nat.add_zero] at this
         exact this
        clear HG hbit hdv
        generalize (4294967295 - F) / 2 ^ i2 = s1 at *
        generalize (4294967295 - F) / 2 ^ (i2 + 1) = s2 at *
        go_wp2
        exact ⟨⟨HR.out _ (by rw [HG2.out]; congr 1),trivial⟩,by simp only [intOf]; omega⟩
end Go.Proofs.YtgifeckbflkkpaaGreatDoor
namespace Go.Proofs.YtgifeckbflkkpaaGreatDoor
open Go.RowKit
set_option linter.unusedVariables false
set_option maxHeartbeats 2000000
set_option maxRecDepth 100000
def le4 (s : Nat) : List Nat := [s % 256,s / 256 % 256,s / 65536 % 256,s / 16777216 % 256]
theorem le4_byte (s : Nat) : ∀ x ∈ le4 s,x < 256 := by
 intro x hx
 simp only [le4,List.mem_cons,List.not_mem_nil,or_false] at hx
 rcases hx with rfl | rfl | rfl | rfl <;> omega
theorem bnum_le4 (s : Nat) (h : s < 4294967296) : bnum (le4 s) = s := by simp only [le4,bnum]; omega
theorem le4_at (s k : Nat) (hk : k < 4) : (le4 s)[k]? = some (s / 2 ^ (8 * k) % 256) := by
 match k,hk with
 | 0,_ => simp [le4]
 | 1,_ => rfl
 | 2,_ => rfl
 | 3,_ => rfl
 | n + 4,h => exact absurd h (by omega)
theorem seal_long (w : World) (ao : Option Addr) (cap len : Nat) (h : 4096 < len) (hmax : len ≤ maxLen) :
  Calls Tryz.prog 87 #[.slice ao len cap] w fun e w' => e = .returned (.tuple #[.slice none 0 0,.int .i64 3]) ∧ w' = w := by
 unfold maxLen at hmax
 go_enter Tryz.func87,Tryz.ntmps87
 go_wp2
 go_ret2
 exact ⟨rfl,rfl⟩
theorem make_room (n : Nat) (hn : n ≤ 100000) (u : World) : (Instr.makeSlice 22 (.int .i64 0) (.int .i64 (n : Int))).run Tryz.prog u =
   .ok (.slice (some ⟨u.heap.size,0,none⟩) 0 n) (u.alloc (.cells (madeCells #[.int .u8 0] n) 5)) := by
 obtain ⟨i0,hi,hz0,hz1,hz2⟩ := info_parts Tryz.infoB
 have h := run_make (P := Tryz.prog) u 22 5 i0 (.int .u8 0) Tryz.underlying22 hi hz0 .i64 .i64 (0 : Int) (n : Int) (by omega) (by omega) (by rw [hz2]; omega) (by omega)
 simpa [hz1,Value.cells] using h
theorem copy_room {w : World} {ops : Array Oper} {rest : List Oper} {o : Oper} {a : Act} {Q : Exit → Act → World → Prop} (hgd : o.guard = none) (s x : Operand)
  (ho : o.op = .call { callee := .builtin .append,args := #[s,x],argTypes := #[22,22] }) (ao : Option Addr) (m cap n : Nat) (P : List Nat) (h : Src w (.slice ao m cap) P.length (vrow P)) (hm : P.length = m) (hL : n ≤ 100000) (hmn : m ≤ n)
  (hs : a.eval s = .slice (some ⟨w.heap.size,0,none⟩) 0 n) (hx : a.eval x = .slice ao m cap)
  (hK : ∀ v' w',w'.ownsRow w.heap.size 5 1 v' m (vrow P) → Fr Nobody w w' → wpList Tryz.prog ops Q rest (a.put o.dst v') w') :
  wpList Tryz.prog ops Q (o :: rest) a (w.alloc (.cells (madeCells #[.int .u8 0] n) 5)) := by
 obtain ⟨i0,hi,hz0,hz1,hz2⟩ := info_parts Tryz.infoB
 have hown := World.ownsRow_made (e := 5) (size := 1) (base := w.heap.size) w (madeCells #[.int .u8 0] n) n (Nat.le_refl _) (by unfold maxLen; omega) (by rw [size_madeCells,Nat.mul_one])
 have hfr : Fr Nobody w (w.alloc (.cells (madeCells #[.int .u8 0] n) 5)) := (Fr.refl _ w).alloc _
 rcases h with ⟨hv,h0,h00⟩ | ⟨a',cap',hv,hl,hc⟩
 ·have hP0 : P = [] := List.eq_nil_of_length_eq_zero h0
  subst hP0
  subst hm
  rw [hv] at hx
  refine wpList_plain hgd fun K hK' => ?_
  have hr := run_append_owned_none (P := Tryz.prog) (w.alloc (.cells (madeCells #[.int .u8 0] n) 5)) w.heap.size 22 o.type 5 i0 1 Tryz.underlying22 hi _ 0 [] hown
  unfold Oper.wp
  simp [execOp,ho,resolve,invoke,builtin,hs,hx,hr,Result.andThen]
  exact hK' _ _ (hK _ _ hown hfr)
 ·simp only [Value.slice.injEq] at hv
  obtain ⟨rfl,_,rfl⟩ := hv
  refine wpList_append_own (w.alloc (.cells (madeCells #[.int .u8 0] n) 5)) hgd s x 22 ho w.heap.size 5 i0 (.int .u8 0) 1 1 Tryz.underlying22 hi hz0 hz1 hz2 rfl (by decide) _ 0 [] hs hown a' m cap (vrow P) hx (by rw [length_vrow]; omega) (fun j u hu => Lib.cell?_alloc_some _ (hc j u hu)) (one_vrow P) (by unfold maxLen; omega) (by omega) (by simp) ?_
  intro v' w' ho' hg' _
  exact hK v' w' (by simpa using ho') (hfr.grown hg' (by intro k hk; simp [Value.ownBlock] at hk; omega))
def frm (P : List Nat) : List Nat := P ++ le4 (crc P)
theorem length_frm (P : List Nat) : (frm P).length = P.length + 4 := by simp [frm,le4]
theorem frm_byte (P : List Nat) (h : ∀ x ∈ P,x < 256) : ∀ x ∈ frm P,x < 256 := by
 intro x hx
 rcases List.mem_append.1 hx with hx | hx
 ·exact h x hx
 ·exact le4_byte _ x hx
theorem seal_ok (w : World) (ao : Option Addr) (cap len : Nat) (P : List Nat) (h : In w ao len cap P) (hL : len ≤ 4096) (ht : Tabf w) :
  Calls Tryz.prog 87 #[.slice ao len cap] w fun e w' => ∃ g cp,e = .returned (.tuple #[.slice (some ⟨g,0,none⟩) (len + 4) cp,.int .i64 0]) ∧ w'.ownsRow w.heap.size 5 1 (.slice (some ⟨g,0,none⟩) (len + 4) cp) (len + 4) (vrow (frm P)) ∧ Fr Nobody w w' := by
 obtain ⟨i0,hi,hz0,hz1,hz2⟩ := info_parts Tryz.infoB
 have hmk := make_room (len + 4) (by omega)
 have hcast : ((len + 4 : Nat) : Int) = (len : Int) + 4 := by omega
 rw [hcast] at hmk
 have HI : Hid (In w ao len cap P) := h
 have HT : Hid (Tabf w) := ht
 clear h ht hcast
 go_enter Tryz.func87,Tryz.ntmps87
 go_wp2_with (at_builtin; refine copy_room rfl _ _ rfl ao len cap (len + 4) P HI.out.src HI.out.eqn (by omega) (by omega) rfl rfl ?_)
 clear hmk
 intro v1 w1 ho1 hf1
 have H1 : Hid (w1.ownsRow w.heap.size 5 1 v1 len (vrow P) ∧ Fr Nobody w w1) := ⟨ho1,hf1⟩
 clear ho1 hf1
 go_wp2_with fail
 refine (sum_in _ _ _ _ _ (HI.out.quiet H1.out.2) (by omega) (HT.out.quiet H1.out.2)).mono ?_
 rintro e w2 ⟨rfl,rfl⟩
 have hc := crc_lt P
 have HC : Hid (frm P = P ++ le4 (crc P)) := rfl
 generalize crc P = c at *
 go_wp2
 go_loopw [4,18] (fun u cc wr => ∃ k : Nat,k ≤ 4 ∧ cc = .int .i64 k ∧ wr.ownsRow w.heap.size 5 1 u (len + k) (vrow (P ++ (le4 c).take k)) ∧ Fr Nobody w wr) (fun _ cc _ => 4 - (intOf cc).toNat)
 case atStart => exact ⟨0,by omega,rfl,by simpa using H1.out.1,H1.out.2⟩
 case round =>
  obtain ⟨k,hk,rfl,ho,hf⟩ := hrel
  have HO : Hid (wr.ownsRow w.heap.size 5 1 u4 (len + k) (vrow (P ++ (le4 c).take k)) ∧ Fr Nobody w wr) := ⟨ho,hf⟩
  clear ho hf
  by_cases hlt : k < 4
  ·have HV : Hid (vrow (P ++ (le4 c).take k) ++ [.int .u8 ((c : Int) / 2 ^ (8 * k) % 256)] = vrow (P ++ (le4 c).take (k + 1))) := by
    show _ = _
    rw [List.take_add_one,le4_at c k hlt]
    simp [vrow]
   have hsz := HO.out.2.size
   go_wp2_with (at_builtin; refine wpList_append_own _ rfl _ _ 22 rfl w.heap.size 5 i0 (.int .u8 0) 1 1 Tryz.underlying22 hi hz0 hz1 hz2 rfl (by decide) _ _ _ rfl (HO.out.1.alloc _) ⟨wr.heap.size,0,none⟩ 1 1 [.int .u8 ((c : Int) / 2 ^ (8 * k) % 256)] rfl rfl (cell_one_new _ _ _) (one_int _ _) (by unfold maxLen; omega) (by omega) (by simp; omega) ?_)
   intro v2 w3 ho2 hg2 _
   have H3 : Hid (w3.ownsRow w.heap.size 5 1 v2 (len + (k + 1)) (vrow (P ++ (le4 c).take (k + 1))) ∧ Fr Nobody w w3) := by
    refine ⟨?_,(HO.out.2.alloc _).grown hg2 (fun q hq => .inr (HO.out.1.lt q hq).1)⟩
    rw [← HV.out]
    exact ho2
   clear ho2 hg2
   go_wp2
   exact ⟨⟨k + 1,by omega,by go_num,H3.out.1,H3.out.2⟩,by simp [intOf]; omega⟩
  ·have e : k = 4 := by omega
   subst e
   obtain ⟨g,cp,hv,hg⟩ := row_shape HO.out.1 (by omega)
   subst hv
   go_wp2
   go_ret2
   refine ⟨g,cp,rfl,?_,HO.out.2⟩
   have h2 := HO.out.1
   rw [HC.out]
   exact h2
structure Sp (w : World) (B g n cp : Nat) (P : List Nat) : Prop where
 row : w.ownsRow B 5 1 (.slice (some ⟨g,0,none⟩) (n + 1) cp) (n + 1) (vrow (P ++ [165]))
 eqn : P.length = n
 byt : ∀ x ∈ P,x < 256
theorem Sp.quiet {w w' : World} {B g n cp : Nat} {P : List Nat} (h : Sp w B g n cp P) (hf : Fr Nobody w w') : Sp w' B g n cp P :=
 ⟨hf.row h.row (fun _ _ => id),h.eqn,h.byt⟩
theorem Sp.last {w : World} {B g n cp : Nat} {P : List Nat} (h : Sp w B g n cp P) : w.cell? ⟨g,n,none⟩ = some (.int .u8 165) ∧ n + 1 ≤ cp := by
 refine ⟨?_,(row_cap h.row).2.1⟩
 rw [h.row.cellAt n (by omega),getElem?_vrow,List.getElem?_append_right (by rw [h.eqn]; exact Nat.le_refl _),h.eqn,Nat.sub_self]; rfl
theorem cell_le4 (w : World) (t : TypeId) (b0 b1 b2 b3 : Nat) : ∀ j u,(vrow [b0,b1,b2,b3])[j]? = some u → (w.alloc (.cells #[.int .u8 (b0 : Int),.int .u8 (b1 : Int),.int .u8 (b2 : Int),.int .u8 (b3 : Int)] t)).cell? ((⟨w.heap.size,0,none⟩ : Addr).add j) = some u := by
 intro j u hu
 rw [addr_add,Nat.zero_add,cell_of_row _ _ _ _ _ _ (heap_alloc_new w _)]
 have e : (#[Value.int .u8 (b0 : Int),.int .u8 (b1 : Int),.int .u8 (b2 : Int),.int .u8 (b3 : Int)] : Array Value) = (vrow [b0,b1,b2,b3]).toArray := rfl
 rw [e,List.getElem?_toArray,hu]
set_option maxRecDepth 100000 in
theorem rseal_ok (w : World) (ao : Option Addr) (cap len : Nat) (P : List Nat) (h : In w ao len cap P) (hL : len ≤ 4096) :
  Calls Tryz.prog 18 #[.slice ao len cap] w fun e w' => ∃ g cp,e = .returned (.tuple #[.slice (some ⟨g,0,none⟩) (len + 4) cp,.int .i64 0]) ∧ w'.ownsRow w.heap.size 5 1 (.slice (some ⟨g,0,none⟩) (len + 4) cp) (len + 4) (vrow (frm P)) ∧ Fr Nobody w w' := by
 obtain ⟨i0,hi,hz0,hz1,hz2⟩ := info_parts Tryz.infoB
 have HI : Hid (In w ao len cap P) := h
 clear h
 go_enter Tryz.func18,Tryz.ntmps18
 go_wp2_with fail
 refine (rsum_any w ao cap len (8 * len) P HI.out (by omega) rfl).mono ?_
 rintro e w1 ⟨rfl,hf1⟩
 have HF : Hid _ := hf1
 have hc := crc_lt P
 have HC : Hid (frm P = P ++ le4 (crc P)) := rfl
 clear hf1
 generalize crc P = c at *
 obtain ⟨b0,e0⟩ : ∃ b : Nat,(c : Int) % 256 = (b : Int) := ⟨c % 256,by omega⟩
 obtain ⟨b1,e1⟩ : ∃ b : Nat,(c : Int) / 256 % 256 = (b : Int) := ⟨c / 256 % 256,by omega⟩
 obtain ⟨b2,e2⟩ : ∃ b : Nat,(c : Int) / 65536 % 256 = (b : Int) := ⟨c / 65536 % 256,by omega⟩
 obtain ⟨b3,e3⟩ : ∃ b : Nat,(c : Int) / 16777216 = (b : Int) := ⟨c / 16777216,by omega⟩
 have HB : Hid (le4 c = [b0,b1,b2,b3]) := by
  show _ = _
  unfold le4
  rw [show c % 256 = b0 by omega,show c / 256 % 256 = b1 by omega,show c / 65536 % 256 = b2 by omega,show c / 16777216 % 256 = b3 by omega]
 have H1 : Hid (In w1 ao len cap P) := HI.out.quiet HF.out
 go_wp2_with (at_builtin; refine copy_bytes rfl _ _ rfl ao len cap P H1.out.src H1.out.eqn (by omega) rfl rfl ?_)
 intro v2 w2 ho2 hf2
 have H2 : Hid (w2.ownsRow w.heap.size 5 1 v2 len (vrow P) ∧ Fr Nobody w w2) := ⟨row_low ho2 HF.out.size,HF.out.trans hf2⟩
 have hs2 := H2.out.2.size
 clear ho2 hf2
 go_wp2_with (at_builtin; refine wpList_append_own _ rfl _ _ 22 rfl w.heap.size 5 i0 (.int .u8 0) 1 1 Tryz.underlying22 hi hz0 hz1 hz2 rfl (by decide) _ _ _ rfl (H2.out.1.alloc _) ⟨w2.heap.size,0,none⟩ 4 4 (vrow [b0,b1,b2,b3]) rfl rfl (cell_le4 _ _ _ _ _ _) (one_vrow _) (by unfold maxLen; omega) (by omega) (by simp; omega) ?_)
 intro v3 w3 ho3 hg3 _
 obtain ⟨g,cp,hv3,hg⟩ := row_shape ho3 (by omega)
 subst hv3
 have H3 : Hid (w3.ownsRow w.heap.size 5 1 (.slice (some ⟨g,0,none⟩) (len + 4) cp) (len + 4) (vrow (frm P)) ∧ Fr Nobody w w3) := by
  refine ⟨?_,(H2.out.2.alloc _).grown hg3 (fun q hq => .inr (H2.out.1.lt q hq).1)⟩
  rw [HC.out,HB.out,vrow_append]; exact ho3
 clear ho3 hg3
 go_wp2
 go_ret2
 exact ⟨g,cp,rfl,H3.out⟩
theorem frm_opens (R : List Nat) (m : Nat) (h : R.length = m) : bnum ((frm R).drop m) = crc ((frm R).take m) ∧ (frm R).take m = R := by
 unfold frm
 subst h
 rw [List.drop_left,List.take_left]
 exact ⟨bnum_le4 _ (crc_lt R),rfl⟩
theorem bnum_inj (l m : List Nat) (hl : ∀ x ∈ l,x < 256) (hm : ∀ x ∈ m,x < 256) (hlen : l.length = m.length) (h : bnum l = bnum m) : l = m := by
 induction l generalizing m with
 | nil => exact (List.eq_nil_of_length_eq_zero hlen.symm).symm
 | cons a l ih =>
  cases m with
  | nil => simp at hlen
  | cons b m =>
   have ha := hl a (by simp)
   have hb := hm b (by simp)
   simp only [bnum] at h
   have h1 : a = b := by omega
   have h2 := ih m (fun x hx => hl x (by simp [hx])) (fun x hx => hm x (by simp [hx])) (by simpa using hlen) (by omega)
   rw [h1,h2]
theorem frm_iff (P : List Nat) (d : Nat) (hlen : P.length = d + 4) (hb : ∀ x ∈ P,x < 256) : frm (P.take d) = P ↔ bnum (P.drop d) = crc (P.take d) := by
 have hl : (P.take d).length = d := by rw [List.length_take]; omega
 constructor
 ·intro h
  have h2 : P.drop d = le4 (crc (P.take d)) := by
   have h3 := congrArg (List.drop d) h
   unfold frm at h3
   rw [List.drop_left' hl] at h3
   exact h3.symm
  rw [h2]
  exact bnum_le4 _ (crc_lt _)
 ·intro h
  have h2 : le4 (crc (P.take d)) = P.drop d := by
   refine bnum_inj _ _ (le4_byte _) (fun x hx => hb x (List.mem_of_mem_drop hx)) ?_ (by rw [bnum_le4 _ (crc_lt _),h])
   rw [List.length_drop,hlen]; simp [le4]
  unfold frm
  rw [h2,List.take_append_drop]
set_option maxRecDepth 100000 in
theorem ropen_ok (w : World) (ao : Option Addr) (cap d : Nat) (P : List Nat) (h : In w ao (d + 4) cap P) (hL : d ≤ 4096) (heq : bnum (P.drop d) = crc (P.take d)) :
  Calls Tryz.prog 35 #[.slice ao (d + 4) cap] w fun e w' => ∃ v',e = .returned (.tuple #[v',.int .i64 0]) ∧ w'.ownsRow w.heap.size 5 1 v' d (vrow (P.take d)) ∧ Fr Nobody w w' := by
 obtain ⟨g,o,rfl⟩ := h.some' (by omega)
 have HI : Hid (In w (some ⟨g,o,none⟩) (d + 4) cap P) := h
 have HN : Hid (frm (P.take d) = P) := (frm_iff P d h.eqn h.byt).2 heq
 have HR : Hid (In w (some ⟨g,o,none⟩) d cap (P.take d)) := h.cut d (by omega)
 have hle := h.le
 clear h heq
 go_enter Tryz.func35,Tryz.ntmps35
 go_wp2_with fail
 refine (rseal_ok w _ cap d (P.take d) HR.out hL).mono ?_
 rintro e w1 ⟨g1,cp1,rfl,ho1,hf1⟩
 have H1 : Hid (In w1 (some ⟨g1,0,none⟩) (d + 4) cp1 P ∧ Fr Nobody w w1) := by
  refine ⟨?_,hf1⟩
  have := In.of_row ho1 (by rw [length_frm,HR.out.eqn]) (frm_byte _ HR.out.byt)
  rw [HN.out] at this
  exact this
 clear ho1 hf1
 go_wp2_with fail
 refine (same_any w1 _ _ P H1.out.1.src (HI.out.quiet H1.out.2).src).mono ?_
 rintro e w2 ⟨rfl,rfl⟩
 have HR2 : Hid (In w2 (some ⟨g,o,none⟩) d cap (P.take d)) := HR.out.quiet H1.out.2
 go_wp2_with (at_builtin; refine copy_bytes rfl _ _ rfl _ d cap (P.take d) HR2.out.src HR2.out.eqn (by omega) rfl rfl ?_)
 intro v3 w3 ho3 hf3
 have H3 : Hid (w3.ownsRow w.heap.size 5 1 v3 d (vrow (P.take d)) ∧ Fr Nobody w w3) := ⟨row_low ho3 H1.out.2.size,H1.out.2.trans hf3⟩
 clear ho3 hf3
 go_wp2
 go_ret2
 exact ⟨v3,rfl,H3.out⟩
end Go.Proofs.YtgifeckbflkkpaaGreatDoor
