/- Slots whose generations are used up, as plain lists. -/
import Derived.Test.YtogmdoiecpihdaaGreatDoorQs28
namespace Go.Proofs.YtogmdoiecpihdaaGreatDoor
open Go.RowKit
set_option linter.unusedVariables false
set_option maxHeartbeats 1000000
theorem St.take_new {S:St} (h:S.freed=[]) (hl:S.last.length < S.n):S.take=(S.first*1024+S.last.length,0,S.more):=by
 unfold St.take;rw [h];simp [hl]
theorem St.take_full {S:St} (h:S.freed=[]) (hl:¬ S.last.length < S.n):S.take=(0,8,S):=by
 unfold St.take;rw [h];simp [hl]
theorem St.take_again {S:St} {f x:Nat} (h:S.freed.getLast? = some f) (hx:S.last[f]? = some x):S.take=(x+1024,0,S.again f):=by
 unfold St.take;rw [h];simp [List.getD_eq_getElem?_getD,hx]
structure Worn (S:St) (k m F j:Nat):Prop where
 ok:S.Ok
 n:S.n=k
 first:S.first=F
 live:S.live=0
 at':∃ q r,j=q*m+r∧r < m∧(r=0→S.freed=[]∧S.last.length=q)∧(0 < r→S.freed=[q]∧S.last.length=q+1∧S.last[q]? = some ((F+r - 1)*1024+q))
theorem less_of (S:St) (id q:Nat) (h:id % 1024=q):S.less id={ S with used:=S.used.set q false,live:=S.live - 1,freed:=if id / 1024 < 4194303 then S.freed++[q] else S.freed }:=by unfold St.less;rw [h]
theorem Worn.step {S:St} {k m F j:Nat} (h:Worn S k m F j) (hm:1≤m) (hF:F+m=4194304) (hj:j < k*m) (hk:k≤6) :
  ∃ id S1 S2,S.take=(id,0,S1)∧S1.Ok∧id < 4294967296∧S1.free id=(0,S2)∧Worn S2 k m F (j+1):=by
 obtain ⟨q,r,hq,hr,h0,h1⟩:=h.at'
 have hqk:q < k:=by
  have:q*m < k*m:=by omega
  exact Nat.lt_of_mul_lt_mul_right this
 have hn:=h.n
 have hf:=h.first
 have hlv:=h.live
 have hul:=h.ok.ul
 have hsm:(q+1)*m=q*m+m:=Nat.succ_mul q m
 rcases Nat.eq_zero_or_pos r with hz | hz
 ·obtain ⟨hfr,hll⟩:=h0 hz
  have ht:=S.take_new hfr (by omega)
  have hok1:S.more.Ok:=St.more_ok h.ok hfr (by omega)
  have hid:(S.first*1024+S.last.length) % 1024=q:=by omega
  have hgn:(S.first*1024+S.last.length) / 1024=F:=by omega
  have hlast:S.more.last[q]? = some (S.first*1024+S.last.length):=by
   simp only [St.more];rw [← hll,List.getElem?_append_right (Nat.le_refl _)];simp
  have hlive:S.more.isLive (S.first*1024+S.last.length)=true:=by
   rw [St.isLive_iff hok1,hid]
   refine ⟨?_,hlast⟩
   simp only [St.more];rw [← hll,← hul,List.getElem?_append_right (Nat.le_refl _)];simp
  refine ⟨_,_,S.more.less (S.first*1024+S.last.length),ht,hok1,by omega,by unfold St.free;rw [if_pos hlive],⟨St.less_ok hok1 hlive,hn,hf,by simp [St.less,St.more,hlv],?_⟩⟩
  rw [less_of _ _ q hid,hgn]
  by_cases hm1:m=1
  ·refine ⟨q+1,0,by rw [hsm];omega,by omega,fun _=>⟨?_,?_⟩,fun h=>by omega⟩
   ·rw [if_neg (by omega)];exact hfr
   ·show (S.last++[_]).length=_;rw [List.length_append,List.length_singleton];omega
  ·refine ⟨q,1,by omega,by omega,fun h=>by omega,fun _=>⟨?_,?_,?_⟩⟩
   ·rw [if_pos (by omega)];show S.freed++[q]=_;rw [hfr];rfl
   ·show (S.last++[_]).length=_;rw [List.length_append,List.length_singleton];omega
   ·show S.more.last[q]? = _;rw [hlast,hf,hll];simp
 ·obtain ⟨hfr,hll,hlq⟩:=h1 hz
  have hgl:S.freed.getLast? = some q:=by rw [hfr];rfl
  have ht:=S.take_again hgl hlq
  have hok1:(S.again q).Ok:=St.again_ok h.ok hgl
  have hid:((F+r - 1)*1024+q+1024) % 1024=q:=by omega
  have hgn:((F+r - 1)*1024+q+1024) / 1024=F+r:=by omega
  have hlast:(S.again q).last[q]? = some ((F+r - 1)*1024+q+1024):=by
   simp only [St.again];rw [List.getElem?_set_self (by omega),List.getD_eq_getElem?_getD,hlq];rfl
  have hlive:(S.again q).isLive ((F+r - 1)*1024+q+1024)=true:=by
   rw [St.isLive_iff hok1,hid]
   exact ⟨by simp only [St.again];rw [List.getElem?_set_self (by omega)],hlast⟩
  refine ⟨_,_,(S.again q).less ((F+r - 1)*1024+q+1024),ht,hok1,by omega,by unfold St.free;rw [if_pos hlive],⟨St.less_ok hok1 hlive,hn,hf,by simp [St.less,St.again,hlv],?_⟩⟩
  rw [less_of _ _ q hid,hgn]
  by_cases hm1:r+1=m
  ·refine ⟨q+1,0,by rw [hsm];omega,by omega,fun _=>⟨?_,?_⟩,fun h=>by omega⟩
   ·rw [if_neg (by omega)];show S.freed.dropLast=_;rw [hfr];rfl
   ·show (S.last.set _ _).length=_;rw [List.length_set];omega
  ·refine ⟨q,r+1,by omega,by omega,fun h=>by omega,fun _=>⟨?_,?_,?_⟩⟩
   ·rw [if_pos (by omega)];show S.freed.dropLast++[q]=_;rw [hfr];rfl
   ·show (S.last.set _ _).length=_;rw [List.length_set];omega
   ·show (S.again q).last[q]? = _;rw [hlast,show (F+r - 1)*1024+q+1024=(F+(r+1) - 1)*1024+q by omega]
theorem Worn.start (k m F:Nat) (hm:1≤m) (hF:F+m=4194304) (hF1:1≤F) (hk:1≤k) (hk6:k≤6):Worn (St.new k F) k m F 0 :=
 ⟨St.new_ok k F hk (by omega) hF1 (by omega),rfl,rfl,rfl,0,0,by omega,by omega,fun _=>⟨rfl,rfl⟩,fun h=>by omega⟩
theorem Worn.done {S:St} {k m F:Nat} (h:Worn S k m F (k*m)) (hm:1≤m):S.take=(0,8,S)∧S.room=0∧S.live=0:=by
 obtain ⟨q,r,hq,hr,h0,h1⟩:=h.at'
 have hqk:q=k:=by
  rcases Nat.lt_trichotomy q k with c | c | c
  ·have:(q+1)*m≤k*m:=Nat.mul_le_mul_right _ c
   rw [Nat.succ_mul] at this;omega
  ·exact c
  ·have:(k+1)*m≤q*m:=Nat.mul_le_mul_right _ c
   rw [Nat.succ_mul] at this;omega
 subst hqk
 obtain ⟨hfr,hll⟩:=h0 (by omega)
 have hn:=h.n
 exact ⟨S.take_full hfr (by omega),by unfold St.room;rw [hfr];simp;omega,h.live⟩
def flat (s n:Nat) (g:Nat→Nat→Value):List Value:=(List.range (n*s)).map (fun k=>g (k / s) (k % s))
theorem length_flat (s n:Nat) (g:Nat→Nat→Value):(flat s n g).length=n*s:=by simp [flat]
theorem getElem?_flat (s n:Nat) (g:Nat→Nat→Value) (k:Nat):(flat s n g)[k]? = if k < n*s then some (g (k / s) (k % s)) else none:=by
 unfold flat
 by_cases h:k < n*s
 ·rw [if_pos h,List.getElem?_map,List.getElem?_range h];rfl
 ·rw [if_neg h,List.getElem?_eq_none (by simp;omega)]
theorem flat_lt {s n i r:Nat} (hi:i < n) (hr:r < s):i*s+r < n*s:=by
 have:(i+1)*s≤n*s:=Nat.mul_le_mul_right _ hi
 rw [Nat.succ_mul] at this;omega
theorem flat_at (s n:Nat) (g:Nat→Nat→Value) (i r:Nat) (hi:i < n) (hr:r < s):(flat s n g)[i*s+r]? = some (g i r):=by
 rw [getElem?_flat,if_pos (flat_lt hi hr)]
 have h1:(i*s+r) / s=i:=by rw [Nat.mul_comm,Nat.mul_add_div (by omega),Nat.div_eq_of_lt hr];rfl
 have h2:(i*s+r) % s=r:=by rw [Nat.mul_comm,Nat.mul_add_mod,Nat.mod_eq_of_lt hr]
 rw [h1,h2]
theorem Own.fcell {w0 w:World} {l:List Thing} {e:TypeId} {s n g cap:Nat} {gg:Nat→Nat→Value} (h:Own w0 w (Row e s (.slice (some ⟨g,0,none⟩) n cap) n (flat s n gg)::l)) (i r:Nat) (hi:i < n) (hr:r < s) (o:Nat) (ho:o=i*s+r):w.cell? ⟨g,o,none⟩=some (gg i r):=by
 subst ho
 rw [h.row.cellAt _ (flat_lt hi hr)];exact flat_at s n gg i r hi hr
theorem Own.ffroz {w0 w:World} {l:List Thing} {e:TypeId} {s n g cap:Nat} {xs:List Value} (h:Own w0 w (Row e s (.slice (some ⟨g,0,none⟩) n cap) n xs::l)) (o:Nat):w.frozen? ⟨g,o,none⟩=false:=h.row.frozenAt o
theorem flat_set (s n:Nat) (g g':Nat→Nat→Value) (i r:Nat) (hs:0 < s) (hr:r < s) (h:∀ a b,a < n→b < s→¬ (a=i∧b=r)→g' a b=g a b):flat s n g'=(flat s n g).set (i*s+r) (g' i r):=by
 apply List.ext_getElem?
 intro k
 rw [getElem?_flat,List.getElem?_set,getElem?_flat,length_flat]
 by_cases hk:k < n*s
 ·by_cases e:i*s+r=k
  ·subst e
   rw [if_pos hk,if_pos rfl,if_pos hk]
   have h1:(i*s+r) / s=i:=by rw [Nat.mul_comm,Nat.mul_add_div hs,Nat.div_eq_of_lt hr];rfl
   have h2:(i*s+r) % s=r:=by rw [Nat.mul_comm,Nat.mul_add_mod,Nat.mod_eq_of_lt hr]
   rw [h1,h2]
  ·rw [if_pos hk,if_neg e,if_pos hk]
   rw [h _ _ ((Nat.div_lt_iff_lt_mul hs).2 hk) (Nat.mod_lt _ hs)]
   rintro ⟨rfl,rfl⟩
   apply e
   rw [Nat.mul_comm];exact Nat.div_add_mod k s
 ·rw [if_neg hk]
  split
  ·rename_i e;rw [if_neg (by omega)]
  ·rfl
theorem Own.madeRow {P:Program} {w0 w:World} {l:List Thing} (h:Own w0 w l) (t e:TypeId) (i:TypeInfo) (z:Value) (size:Nat) (ht:P.underlying t=some (.slice e)) (hi:P.info? e=some i) (hz:i.zero=some z) (hsize:i.size=size)
  (n:Nat) (hbytes:i.bytes*n≤281474976710656) (h63:n≤maxLen) :
  ∃ w',(Instr.makeSlice t (.int .i64 (n:Int)) (.int .i64 (n:Int))).run P w=.ok (.slice (some ⟨w.heap.size,0,none⟩) n n) w'∧Own w0 w' (Row e size (.slice (some ⟨w.heap.size,0,none⟩) n n) n (madeCells z.cells (n*size)).toList::l)∧Fr Nobody w w'∧w.heap.size < w'.heap.size:=by
 obtain ⟨w',h1,h2,h3⟩:=run_make_full (P:=P) w 0 t e i z size ht hi hz hsize .i64 .i64 n hbytes h63 (Nat.zero_le _)
 have hf:Fr Nobody w w':=(Fr.refl _ _).grown h3 (by simp)
 exact ⟨w',h1,h.new (Row e size (.slice (some ⟨w.heap.size,0,none⟩) n n) n _) (fun k=>k=w.heap.size) ⟨h2,fun k=>by simp [Value.ownBlock];exact eq_comm⟩ hf (fun k hk=>by omega),hf,(h2.lt _ rfl).2⟩
def one (S:St) (f:Nat→Nat) (i r:Nat):Value:=if r=0 then .int .i64 ((S.last.getD i 0 / 1024:Nat):Int) else if r=1 then .bool (S.used.getD i false) else .int .i64 (f i:Int)
def RSlots (c:Nat) (S:St) (f:Nat→Nat) (clock:Nat):Thing:=Ex (fun v:Nat × Nat =>
 [Cells c #[.int .i64 (S.first:Int),.slice (some ⟨v.1,0,none⟩) S.n v.2,.int .i64 (clock:Int)] 239,Row 255 3 (.slice (some ⟨v.1,0,none⟩) S.n v.2) S.n (flat 3 S.n (one S f))])
def frb (u:Bool) (x:Nat):Bool:=!u && decide (x / 1024 < 4194303)
def free1 (S:St) (i:Nat):Bool:=frb (S.used.getD i false) (S.last.getD i 0)
structure Stamp (S:St) (f:Nat→Nat) (clock:Nat):Prop where
 pos:∀ i,0 < f i ↔ i∈S.freed
 le:∀ i,f i≤clock
 inc:S.freed.Pairwise (fun a b=>f a < f b)
 room:(List.range S.n).countP (free1 S)=S.room
def updn (f:Nat→Nat) (j x:Nat) (i:Nat):Nat:=if i=j then x else f i
theorem updn_same (f:Nat→Nat) (j x:Nat):updn f j x j=x:=by simp [updn]
theorem updn_other (f:Nat→Nat) (j x i:Nat) (h:i≠j):updn f j x i=f i:=by simp [updn,h]
theorem countP_upd (p q:Nat→Bool) (n j:Nat) (hj:j < n) (h:∀ i,i≠j→q i=p i):(List.range n).countP q+(p j).toNat=(List.range n).countP p+(q j).toNat:=by
 induction n with
 | zero=>omega
 | succ n ih =>
  rw [List.range_succ,List.countP_append,List.countP_append]
  simp only [List.countP_singleton]
  by_cases e:j=n
  ·subst e
   have:(List.range j).countP q=(List.range j).countP p:=by
    apply List.countP_congr
    intro x hx
    have hx':x < j:=by simpa using hx
    rw [h x (by omega)]
   rw [this]
   cases p j <;> cases q j <;> simp
  ·have:=ih (by omega)
   rw [h n (fun q=>e q.symm)]
   omega
theorem getD_set_same {α:Type} (l:List α) (i:Nat) (x d:α) (h:i < l.length):(l.set i x).getD i d=x:=by rw [List.getD_eq_getElem?_getD,List.getElem?_set_self h];rfl
theorem getD_set_other {α:Type} (l:List α) (i k:Nat) (x d:α) (h:k≠i):(l.set i x).getD k d=l.getD k d:=by rw [List.getD_eq_getElem?_getD,List.getElem?_set_ne (fun q=>h q.symm),List.getD_eq_getElem?_getD]
theorem getD_snoc_same {α:Type} (l:List α) (x d:α):(l++[x]).getD l.length d=x:=by rw [List.getD_eq_getElem?_getD,List.getElem?_append_right (Nat.le_refl _)];simp
theorem getD_snoc_other {α:Type} (l:List α) (x d:α) (k:Nat) (h:k≠l.length):(l++[x]).getD k d=l.getD k d:=by
 rw [List.getD_eq_getElem?_getD,List.getD_eq_getElem?_getD]
 rcases Nat.lt_or_gt_of_ne h with c | c
 ·rw [List.getElem?_append_left c]
 ·rw [List.getElem?_eq_none (by simp;omega),List.getElem?_eq_none (by omega)]
theorem getD_some {α:Type} {l:List α} {i:Nat} {d x:α} (h:l[i]? = some x):l.getD i d=x:=by rw [List.getD_eq_getElem?_getD,h];rfl
theorem getD_none {α:Type} {l:List α} {i:Nat} {d:α} (h:l.length≤i):l.getD i d=d:=by rw [List.getD_eq_getElem?_getD,List.getElem?_eq_none h];rfl
theorem Stamp.new (n F:Nat) (h:1≤n):Stamp (St.new n F) (fun _=>0) 0:=by
 refine ⟨fun i=>by simp [St.new],fun i=>Nat.le_refl _,by simp [St.new],?_⟩
 have:(List.range n).countP (free1 (St.new n F))=n:=by
  have h2:(List.range n).countP (free1 (St.new n F))=(List.range n).length:=List.countP_eq_length.2 (fun a _=>by simp [free1,frb,St.new])
  rw [h2,List.length_range]
 show (List.range n).countP _=_
 rw [this];simp [St.room,St.new]
theorem Stamp.last {S:St} {f:Nat→Nat} {ck j:Nat} (h:Stamp S f ck) (hS:S.Ok) (hj:S.freed.getLast? = some j):0 < f j∧(∀ i,f i≤f j)∧(∀ i,f i=f j→i=j):=by
 have e:=dropLast_of _ _ hj
 have hjm:j∈S.freed:=by rw [e];simp
 have hp:=(h.pos j).2 hjm
 have hinc:=h.inc
 rw [e,List.pairwise_append] at hinc
 have hlt:∀ i,i∈S.freed.dropLast→f i < f j:=fun i hi=>hinc.2.2 i hi j (by simp)
 have hcase:∀ i,i=j∨f i=0∨i∈S.freed.dropLast:=by
  intro i
  by_cases hi:i∈S.freed
  ·rw [e] at hi
   rcases List.mem_append.1 hi with hi | hi
   ·exact .inr (.inr hi)
   ·left;simpa using hi
  ·right;left
   have:=h.pos i
   rcases Nat.eq_zero_or_pos (f i) with z | z
   ·exact z
   ·exact absurd (this.1 z) hi
 refine ⟨hp,fun i=>?_,fun i hi=>?_⟩
 ·rcases hcase i with rfl | c | c
  ·exact Nat.le_refl _
  ·omega
  ·have:=hlt i c;omega
 ·rcases hcase i with rfl | c | c
  ·rfl
  ·omega
  ·have:=hlt i c;omega
theorem Stamp.none {S:St} {f:Nat→Nat} {ck:Nat} (h:Stamp S f ck) (hj:S.freed=[]) (i:Nat):f i=0:=by
 have:=h.pos i
 rw [hj] at this
 rcases Nat.eq_zero_or_pos (f i) with z | z
 ·exact z
 ·exact absurd (this.1 z) (by simp)
theorem Stamp.again {S:St} {f:Nat→Nat} {ck j:Nat} (h:Stamp S f ck) (hS:S.Ok) (hj:S.freed.getLast? = some j):Stamp (S.again j) (updn f j 0) ck:=by
 have e:=dropLast_of _ _ hj
 have hm:j∈S.freed:=by rw [e];simp
 have hn:=hS.nodup
 rw [e,List.nodup_append] at hn
 have hnj:j ∉ S.freed.dropLast:=fun hc=>hn.2.2 j hc j (by simp) rfl
 have hinc:=h.inc
 rw [e,List.pairwise_append] at hinc
 obtain ⟨hu,x,hx,hg⟩:=hS.fr j hm
 have hlt:=hS.lt hm
 have hle:=hS.le
 have hlen:S.freed.length=S.freed.dropLast.length+1:=by
  have:=congrArg List.length e
  rw [List.length_append,List.length_singleton] at this;exact this
 refine ⟨fun i=>?_,fun i=>?_,?_,?_⟩
 ·show 0 < updn f j 0 i ↔ i∈S.freed.dropLast
  by_cases c:i=j
  ·subst c;rw [updn_same];exact ⟨fun h=>by omega,fun h=>absurd h hnj⟩
  ·rw [updn_other _ _ _ _ c,h.pos i]
   conv=>lhs;rw [e]
   simp [c]
 ·by_cases c:i=j
  ·subst c;rw [updn_same];exact Nat.zero_le _
  ·rw [updn_other _ _ _ _ c];exact h.le i
 ·show S.freed.dropLast.Pairwise _
  refine List.Pairwise.imp_of_mem ?_ hinc.1
  intro a b ha hb hab
  rw [updn_other _ _ _ _ (fun q=>hnj (by rw [← q];exact ha)),updn_other _ _ _ _ (fun q=>hnj (by rw [← q];exact hb))]
  exact hab
 ·have hc:=countP_upd (free1 S) (free1 (S.again j)) S.n j (by omega) (fun i hi=>by
   simp only [free1,St.again];rw [getD_set_other _ _ _ _ _ hi,getD_set_other _ _ _ _ _ hi])
  have h1:free1 S j=true:=by simp only [free1];rw [getD_some hu,getD_some hx];simp [frb,hg]
  have h2:free1 (S.again j) j=false:=by simp only [free1,St.again];rw [getD_set_same _ _ _ _ (by rw [hS.ul];exact hlt)];simp [frb]
  rw [h1,h2,h.room] at hc
  show (List.range S.n).countP _=_
  simp [St.room,St.again] at hc ⊢
  omega
theorem Stamp.more {S:St} {f:Nat→Nat} {ck:Nat} (h:Stamp S f ck) (hS:S.Ok) (hl:S.last.length < S.n):Stamp S.more f ck:=by
 refine ⟨h.pos,h.le,h.inc,?_⟩
 have hc:=countP_upd (free1 S) (free1 S.more) S.n S.last.length hl (fun i hi=>by
   simp only [free1,St.more];rw [getD_snoc_other _ _ _ _ hi,getD_snoc_other _ _ _ _ (by rw [hS.ul];exact hi)])
 have h1:free1 S S.last.length=true:=by simp only [free1];rw [getD_none (Nat.le_refl _),getD_none (by rw [hS.ul];exact Nat.le_refl _)];simp [frb]
 have h2:free1 S.more S.last.length=false:=by
  simp only [free1,St.more]
  have:(S.used++[true]).getD S.last.length false=true:=by rw [← hS.ul];exact getD_snoc_same _ _ _
  rw [this];simp [frb]
 rw [h1,h2,h.room] at hc
 show (List.range S.n).countP _=_
 simp [St.room,St.more] at hc ⊢
 omega
theorem Stamp.less {S:St} {f:Nat→Nat} {ck id:Nat} (h:Stamp S f ck) (hS:S.Ok) (hl:S.isLive id=true) :
  (id / 1024 < 4194303→Stamp (S.less id) (updn f (id % 1024) (ck+1)) (ck+1))∧(¬ id / 1024 < 4194303→Stamp (S.less id) f ck):=by
 obtain ⟨hu,hx⟩:=(S.isLive_iff hS id).1 hl
 have hlu:id % 1024 < S.used.length:=(List.getElem?_eq_some_iff.1 hu).1
 have hul:=hS.ul
 have hle:=hS.le
 have hnf:id % 1024 ∉ S.freed:=by
  intro hm
  have:=(hS.fr _ hm).1
  rw [hu] at this;cases this
 have hc:=countP_upd (free1 S) (free1 (S.less id)) S.n (id % 1024) (by omega) (fun i hi=>by
   simp only [free1,St.less];rw [getD_set_other _ _ _ _ _ hi])
 have h1:free1 S (id % 1024)=false:=by simp only [free1];rw [getD_some hu];simp [frb]
 have h2:free1 (S.less id) (id % 1024)=decide (id / 1024 < 4194303):=by
  simp only [free1,St.less];rw [getD_set_same _ _ _ _ hlu,getD_some hx];simp [frb]
 have hcnt:=hS.cnt
 rw [h1,h2,h.room] at hc
 constructor
 ·intro hg
  have hfr:(S.less id).freed=S.freed++[id % 1024]:=by simp only [St.less];rw [if_pos hg]
  refine ⟨fun i=>?_,fun i=>?_,?_,?_⟩
  ·rw [hfr]
   by_cases c:i=id % 1024
   ·subst c;rw [updn_same];simp
   ·rw [updn_other _ _ _ _ c,h.pos i];simp [c]
  ·by_cases c:i=id % 1024
   ·subst c;rw [updn_same];exact Nat.le_refl _
   ·rw [updn_other _ _ _ _ c];exact Nat.le_succ_of_le (h.le i)
  ·rw [hfr,List.pairwise_append]
   refine ⟨?_,by simp,?_⟩
   ·refine List.Pairwise.imp_of_mem ?_ h.inc
    intro a b ha hb hab
    rw [updn_other _ _ _ _ (fun q=>hnf (by rw [← q];exact ha)),updn_other _ _ _ _ (fun q=>hnf (by rw [← q];exact hb))]
    exact hab
   ·intro a ha b hb
    simp at hb
    subst hb
    rw [updn_same,updn_other _ _ _ _ (fun q=>hnf (by rw [← q];exact ha))]
    exact Nat.lt_succ_of_le (h.le a)
  ·show (List.range S.n).countP _=_
   unfold St.room at hc ⊢
   rw [hfr]
   simp [hg] at hc
   show _=(S.freed++[id % 1024]).length+S.n - S.last.length
   rw [List.length_append,List.length_singleton]
   omega
 ·intro hg
  have hfr:(S.less id).freed=S.freed:=by simp only [St.less];rw [if_neg hg]
  refine ⟨fun i=>by rw [hfr];exact h.pos i,h.le,by rw [hfr];exact h.inc,?_⟩
  show (List.range S.n).countP _=_
  unfold St.room at hc ⊢
  rw [hfr]
  simp [hg] at hc
  show _=S.freed.length+S.n - S.last.length
  omega
theorem Tryz.infoOne:(Tryz.prog.info? 255).map (fun i=>(i.zero,i.size,i.bytes))=some (some (.agg #[.int .i64 0,.bool false,.int .i64 0]),3,24):=by kernel_rfl
theorem made_one (n F:Nat):(madeCells #[.int .i64 0,.bool false,.int .i64 0] (n*3)).toList=flat 3 n (one (St.new n F) (fun _=>0)):=by
 apply List.ext_getElem?
 intro k
 rw [getElem?_flat]
 by_cases hk:k < n*3
 ·rw [if_pos hk]
  have c:k % 3=0∨k % 3=1∨k % 3=2:=by omega
  rcases c with c | c | c <;> simp [madeCells,hk,one,St.new,c]
 ·rw [if_neg hk];simp [madeCells];omega
set_option maxRecDepth 100000 in
theorem rnew_ok (w0 w:World) (l:List Thing) (n F:Nat) (h:Own w0 w l) (h1:1≤n) (h2:n≤1024) (h3:1≤F) (h4:(F:Int)≤4194303) :
  Calls Tryz.prog 89 #[.int .i64 (n:Int),.int .i64 (F:Int)] w fun e w'=>∃ c,e=.returned (.tuple #[.pointer (some ⟨c,0,none⟩),.int .i64 0])∧Own w0 w' (RSlots c (St.new n F) (fun _=>0) 0::l):=by
 obtain ⟨i0,hi,hz0,hz1,hz2⟩:=info_parts Tryz.infoOne
 obtain ⟨w1,hmk,hO,hf,hlt⟩:=h.madeRow (P:=Tryz.prog) 237 255 i0 (.agg #[.int .i64 0,.bool false,.int .i64 0]) 3 Tryz.underlying237 hi hz0 hz1 n (by rw [hz2];omega) (by unfold maxLen;omega)
 have H:Hid (Own w0 w1 _):=hO
 clear hO hf h
 go_enter Tryz.func89,Tryz.ntmps89
 go_wp2
 go_ret2
 refine ⟨_,rfl,Own.ex_iff.2 ⟨(w.heap.size,n),?_⟩⟩
 have k:=H.out.allocC #[.int .i64 (F:Int),.slice (some ⟨w.heap.size,0,none⟩) n n,.int .i64 0] 239
 have e1:=made_one n F
 have e2:Value.cells (.agg #[.int .i64 0,.bool false,.int .i64 0])=#[.int .i64 0,.bool false,.int .i64 0]:=by rfl
 rw [e2,e1] at k
 exact k
def tst (S:St) (id k:Nat):Bool:=S.used.getD k false && (decide (k=id % 1024) && decide (S.last.getD k 0 / 1024=id / 1024))
theorem tst_live {S:St} (hS:S.Ok) (id k:Nat) (h:tst S id k=true):S.isLive id=true:=by
 unfold tst at h
 simp only [Bool.and_eq_true,decide_eq_true_eq] at h
 obtain ⟨hu,rfl,hg⟩:=h
 have hlt:id % 1024 < S.used.length:=by
  rcases Nat.lt_or_ge (id % 1024) S.used.length with c | c
  ·exact c
  ·rw [getD_none c] at hu;cases hu
 obtain ⟨x,hx⟩:∃ x,S.last[id % 1024]? = some x:=⟨_,List.getElem?_eq_getElem (by rw [← hS.ul];exact hlt)⟩
 obtain ⟨u,hu'⟩:∃ u,S.used[id % 1024]? = some u:=⟨_,List.getElem?_eq_getElem hlt⟩
 rw [getD_some hu'] at hu
 rw [getD_some hx] at hg
 have:=hS.id _ _ hx
 rw [St.isLive_iff hS]
 exact ⟨by rw [hu',hu],by rw [hx];congr 1;omega⟩
theorem live_tst {S:St} (hS:S.Ok) (id:Nat) (h:S.isLive id=true):tst S id (id % 1024)=true∧id % 1024 < S.n:=by
 obtain ⟨a,b⟩:=(S.isLive_iff hS id).1 h
 refine ⟨?_,?_⟩
 ·unfold tst;rw [getD_some a,getD_some b];simp
 ·have:=(List.getElem?_eq_some_iff.1 b).1;have:=hS.le;omega
set_option maxRecDepth 100000 in
theorem rlive_ok (w0 w:World) (l:List Thing) (c:Nat) (S:St) (f:Nat→Nat) (ck id:Nat) (h:Own w0 w (RSlots c S f ck::l)) (hS:S.Ok) (hid:id < 4294967296) :
  Calls Tryz.prog 216 #[.pointer (some ⟨c,0,none⟩),.int .u32 (id:Int)] w fun e w'=>e=.returned (.bool (S.isLive id))∧Own w0 w' (RSlots c S f ck::l):=by
 obtain ⟨⟨g,cp⟩,h⟩:=Own.ex_iff.1 h
 have q1:=h.cell 1
 have hn:=hS.n2
 simp at q1
 have H:Hid (Own w0 w (Cells c #[.int .i64 (S.first:Int),.slice (some ⟨g,0,none⟩) S.n cp,.int .i64 (ck:Int)] 239::Row 255 3 (.slice (some ⟨g,0,none⟩) S.n cp) S.n (flat 3 S.n (one S f))::l)):=h
 have HS:Hid S.Ok:=hS
 clear h hS
 go_enter Tryz.func216,Tryz.ntmps216
 go_wp2
 go_loopw [14] (fun cc wr=>∃ k:Nat,k≤S.n∧cc=.int .i64 k∧(∀ i,i < k→tst S id i=false)∧Own w0 wr (Cells c #[.int .i64 (S.first:Int),.slice (some ⟨g,0,none⟩) S.n cp,.int .i64 (ck:Int)] 239::Row 255 3 (.slice (some ⟨g,0,none⟩) S.n cp) S.n (flat 3 S.n (one S f))::l)) (fun cc _=>S.n - (intOf cc).toNat)
 case atStart=>exact ⟨0,Nat.zero_le _,rfl,fun i hi=>by omega,H.out⟩
 case round =>
  obtain ⟨k,hk,rfl,hno,hO⟩:=hrel
  have HN:Hid (∀ i,i < k→tst S id i=false):=hno
  clear hno H q1
  by_cases hlt:k < S.n
  ·have c0:wr.cell? ⟨g,k*3,none⟩=some (.int .i64 ((S.last.getD k 0 / 1024:Nat):Int)):=hO.two.fcell k 0 hlt (by decide) _ (by omega)
   have c1:wr.cell? ⟨g,k*3+1,none⟩=some (.bool (S.used.getD k false)):=hO.two.fcell k 1 hlt (by decide) _ (by omega)
   have c2:wr.cell? ⟨g,k*3+2,none⟩=some (.int .i64 (f k:Int)):=hO.two.fcell k 2 hlt (by decide) _ (by omega)
   have HO:Hid (Own w0 wr _):=hO
   have HT:Hid (tst S id k=(S.used.getD k false && (decide (k=id % 1024) && decide (S.last.getD k 0 / 1024=id / 1024)))):=rfl
   have HR:Hid (tst S id k=false→∀ i,i < k+1→tst S id i=false):=by
    intro ht i hi
    by_cases e:i=k
    ·rw [e];exact ht
    ·exact HN.out i (by omega)
   clear hO HN
   have HSl:Hid (∀ w',Calls Tryz.prog 117 #[.int .u32 (id:Int)] w' fun e w''=>e=.returned (.int .i64 ((id % 1024:Nat):Int))∧w''=w'):=fun w'=>rslot_any id w' hid
   have HGn:Hid (∀ w',Calls Tryz.prog 246 #[.int .u32 (id:Int)] w' fun e w''=>e=.returned (.int .i64 ((id / 1024:Nat):Int))∧w''=w'):=fun w'=>rgen_any id w' hid
   have HL:Hid (tst S id k=true→S.isLive id=true):=fun h=>tst_live HS.out id k h
   generalize S.used.getD k false=u at *
   generalize S.last.getD k 0 / 1024=gn at *
   generalize id % 1024=m at *
   generalize id / 1024=gi at *
   cases u
   ·go_wp2
    go_quiet (fail)
    go_wp2
    go_roundw
    case rel=>exact ⟨k+1,by omega,by go_num,HR.out (by rw [HT.out];rfl),(HO.out.alloc _).drewN _⟩
    case measure=>simp [intOf];omega
   ·by_cases hm:k=m
    ·subst hm
     by_cases hg:gn=gi
     ·subst hg
      have HE:Hid (S.isLive id=true):=HL.out (by rw [HT.out];simp)
      go_wp2
      go_quiet ((first | (go_at_call 117;exact Calls.quiet_of_same (HSl.out _)) | (go_at_call 246;exact Calls.quiet_of_same (HGn.out _))))
      go_wp2
      go_ret
      exact ⟨by rw [HE.out];rfl,Own.ex_iff.2 ⟨(g,cp),(HO.out.alloc _).drewN _⟩⟩
     ·have hgb:((gn:Int) == (gi:Int))=false:=by simp;omega
      go_wp2
      go_quiet ((first | (go_at_call 117;exact Calls.quiet_of_same (HSl.out _)) | (go_at_call 246;exact Calls.quiet_of_same (HGn.out _))))
      go_wp2
      go_roundw
      case rel=>exact ⟨k+1,by omega,by go_num,HR.out (by rw [HT.out];simp [hg]),(HO.out.alloc _).drewN _⟩
      case measure=>simp [intOf];omega
    ·have hmb:((k:Int) == (m:Int))=false:=by simp;omega
     go_wp2
     go_quiet ((first | (go_at_call 117;exact Calls.quiet_of_same (HSl.out _)) | (go_at_call 246;exact Calls.quiet_of_same (HGn.out _))))
     go_wp2
     go_roundw
     case rel=>exact ⟨k+1,by omega,by go_num,HR.out (by rw [HT.out];simp [hm]),(HO.out.alloc _).drewN _⟩
     case measure=>simp [intOf];omega
  ·have ek:k=S.n:=by omega
   have HE:Hid (S.isLive id=false):=by
    show _=_
    cases hc:S.isLive id with
    | false=>rfl
    | true =>
     obtain ⟨a,b⟩:=live_tst HS.out id hc
     rw [HN.out _ (by omega)] at a;cases a
   have HO:Hid (Own w0 wr _):=hO
   clear hO ek
   go_wp2
   go_ret
   exact ⟨by rw [HE.out];rfl,Own.ex_iff.2 ⟨(g,cp),HO.out⟩⟩
end Go.Proofs.YtogmdoiecpihdaaGreatDoor
