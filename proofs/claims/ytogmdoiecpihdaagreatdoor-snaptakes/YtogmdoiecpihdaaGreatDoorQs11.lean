/- The place of a kind; of components that may be one entity's there are as many as kinds. -/
import Derived.Test.YtogmdoiecpihdaaGreatDoorQs10
import Derived.Maps.OwnSet
import Derived.Test.YtogmdoiecpihdaaGreatDoorQs07
namespace Go.Proofs.YtogmdoiecpihdaaGreatDoor
open Go.RowKit Go.ChangeShapes Go.WideShapes
set_option linter.unusedVariables false
set_option maxHeartbeats 2000000
set_option maxRecDepth 100000
theorem lst_ok {p:Int} {L:List Cp} (h:lst p L=0):L.Pairwise (fun x y=>x.k < y.k)∧∀ q∈L,p < (q.k:Int)∧q.chk=0:=by
 induction L generalizing p with
 | nil=>exact ⟨List.Pairwise.nil,fun q hq=>by simp at hq⟩
 | cons q t ih =>
  rw [lst] at h
  by_cases h1:q.chk≠0
  ·rw [if_pos h1] at h;exact absurd h h1
  ·rw [if_neg h1] at h
   by_cases h2:(q.k:Int)≤p
   ·rw [if_pos h2] at h;cases h
   ·rw [if_neg h2] at h
    obtain ⟨i1,i2⟩:=ih h
    refine ⟨List.Pairwise.cons (fun x hx=>?_) i1,fun x hx=>?_⟩
    ·have:=(i2 x hx).1;omega
    ·rcases List.mem_cons.1 hx with rfl | hx
     ·exact ⟨by omega,by omega⟩
     ·have:=i2 x hx;exact ⟨by omega,this.2⟩
theorem chk_k {q:Cp} (h:q.chk=0):q.k < 6:=by
 unfold Cp.chk chk at h
 by_cases c:6≤q.k
 ·rw [if_pos c] at h;cases h
 ·omega
theorem hasK_cons (q:Cp) (L:List Cp) (k:Nat):hasK (q::L) k=(decide (q.k=k) || hasK L k):=by simp [hasK]
theorem hasK_false {L:List Cp} {k:Nat} (h:∀ q∈L,q.k≠k):hasK L k=false:=by
 unfold hasK;rw [List.any_eq_false];intro q hq;simpa using h q hq
theorem hasK_true {L:List Cp} {q:Cp} (h:q∈L):hasK L q.k=true:=by
 unfold hasK;rw [List.any_eq_true];exact ⟨q,h,by simp⟩
theorem mskN_bit (L:List Cp) (n k:Nat) (h:k < n):mskN L n / 2 ^ k % 2=(hasK L k).toNat:=by
 induction n with
 | zero=>omega
 | succ n ih =>
  rw [mskN]
  by_cases hk:k=n
  ·subst hk
   have:=mskN_lt L k
   cases hasK L k
   ·simp [Nat.div_eq_of_lt this]
   ·simp only [if_pos];rw [Nat.add_div_right _ (Nat.two_pow_pos k),Nat.div_eq_of_lt this];rfl
  ·have ih:=ih (by omega)
   cases hasK L n
   ·simpa using ih
   ·simp only [if_pos]
    have e:2 ^ n=2 ^ k*(2*2 ^ (n - k - 1)):=by
     rw [show 2*2 ^ (n - k - 1)=2 ^ (n - k) by rw [← Nat.pow_succ'];congr 1;omega,← Nat.pow_add];congr 1;omega
    rw [e,Nat.add_mul_div_left _ _ (Nat.two_pow_pos k),Nat.add_mul_mod_self_left]
    exact ih
theorem find_any (w:World) (ao:Option Addr) (len cap:Nat) (L:List Cp) (hl:L.length=len) (hs:Cs w ao L) (hk:∀ q∈L,q.k < 256) (hm:len≤1000000) (k:Nat) (hkk:k < 256) :
  Calls Tryz.prog 30 #[.slice ao len cap,.int .u8 (k:Int)] w fun e w'=>∃ r:Int,e=.returned (.int .i64 r)∧Fr Nobody w w'∧((r = -1∧hasK L k=false)∨∃ i:Nat,r=i∧∃ q:Cp,L[i]? = some q∧q.k=k∧hasK L k=true):=by
 have HL:Hid (L.length=len∧Cs w ao L∧∀ q∈L,q.k < 256):=⟨hl,hs,hk⟩
 clear hl hs hk
 go_enter Tryz.func30,Tryz.ntmps30
 go_wp2
 go_loopw [9] (fun c wr=>∃ j:Nat,j≤len∧c=.int .i64 j∧Fr Nobody w wr∧hasK (L.take j) k=false) (fun c _=>len - (intOf c).toNat)
 case atStart=>exact ⟨0,Nat.zero_le _,rfl,Fr.refl _ _,by simp [hasK]⟩
 case round =>
  obtain ⟨j,hj,rfl,hf,hno⟩:=hrel
  have HF:Hid (Fr Nobody w wr):=hf
  have HN:Hid (hasK (L.take j) k=false):=hno
  clear hf hno
  by_cases hlt:j < len
  ·obtain ⟨q,hq⟩:∃ q,L[j]? = some q:=⟨_,List.getElem?_eq_getElem (by rw [HL.out.1];exact hlt)⟩
   obtain ⟨g,o,hao,hall,hat⟩:=(HL.out.2.1.quiet HF.out).at j q hq
   subst hao
   have hk2:=HL.out.2.2 q (List.mem_of_getElem? hq)
   obtain ⟨c0,c1,c2,c3⟩:=hat
   have hlt':(j:Int) < (len:Int):=by omega
   have HQ:Hid (L[j]? = some q):=hq
   clear hq hall
   by_cases he:q.k=k
   ·have HH:Hid (hasK L k=true):=by rw [← he];exact hasK_true (List.mem_of_getElem? HQ.out)
    have HE:Hid (q.k=k):=he
    have he':((q.k:Int) == (k:Int))=true:=by rw [he];simp
    clear he
    obtain ⟨qk,qa,qb,qc⟩:=q
    simp only at c0 c1 c2 c3 hk2 he'
    go_wp2
    go_ret
    exact ⟨(j:Int),rfl,HF.out.alloc _,.inr ⟨j,rfl,⟨qk,qa,qb,qc⟩,HQ.out,HE.out,HH.out⟩⟩
   ·have HH:Hid (hasK (L.take (j+1)) k=false):=by show _=_;rw [hasK_take_succ HQ.out,HN.out,decide_eq_false he];rfl
    have he':((q.k:Int) == (k:Int))=false:=by rw [beq_eq_false_iff_ne];omega
    clear he
    obtain ⟨qk,qa,qb,qc⟩:=q
    simp only at c0 c1 c2 c3 hk2 he'
    go_wp2
    go_roundw
    case rel=>exact ⟨j+1,by omega,by go_num,HF.out.alloc _,HH.out⟩
    case measure=>simp [intOf];omega
  ·have hlt':¬ (j:Int) < (len:Int):=by omega
   have HH:Hid (hasK L k=false):=by
    have:=HN.out
    rw [List.take_of_length_le (by rw [HL.out.1];omega)] at this
    exact this
   go_wp2
   go_ret
   exact ⟨-1,rfl,HF.out,.inl ⟨rfl,HH.out⟩⟩
end Go.Proofs.YtogmdoiecpihdaaGreatDoor
namespace Go.Proofs.YtogmdoiecpihdaaGreatDoor
open Go.RowKit Go.Maps
set_option linter.unusedVariables false
set_option maxHeartbeats 2000000
abbrev Fs:=Int × Int × Int
abbrev Ent:=Nat × List Cp
def Cp.f (q:Cp):Fs:=(q.a,q.b,q.c)
def fc (x:Fs):List Value:=[.int .i32 x.1,.int .i32 x.2.1,.int .i32 x.2.2]
theorem fc_len (x:Fs):(fc x).length=3:=rfl
def bt (m k:Nat):Bool:=decide (m / 2 ^ k % 2=1)
def fv (C:List Cp) (k:Nat):Fs:=((C.find? (fun q=>decide (q.k=k))).map Cp.f).getD (0,0,0)
def clm (m:Nat) (L:List Ent) (k:Nat):List Fs:=if bt m k then L.map (fun e=>fv e.2 k) else []
def ids (L:List Ent):List Nat:=L.map (·.1)
theorem length_ids (L:List Ent):(ids L).length=L.length:=by simp [ids]
def plc (L:List Ent) (x:Nat):Option Nat:=L.findIdx? (fun e=>decide (e.1=x))
def Apart (L:List Ent):Prop:=∀ (i j:Nat) (e d:Ent),L[i]? = some e→L[j]? = some d→e.1=d.1→i=j
structure TOk (m:Nat) (L:List Ent):Prop where
 m64:m < 64
 id:∀ e∈L,e.1 < 4294967296
 ap:Apart L
 ok:∀ e∈L,lst (-1) e.2=0∧msk e.2=m
theorem plc_none (L:List Ent) (x:Nat):plc L x=none ↔ ∀ e∈L,e.1≠x:=by
 unfold plc;rw [List.findIdx?_eq_none_iff];simp
theorem plc_some {L:List Ent} (h:Apart L) (x i:Nat):plc L x=some i ↔ ∃ e,L[i]? = some e∧e.1=x:=by
 unfold plc;rw [List.findIdx?_eq_some_iff_getElem]
 constructor
 ·rintro ⟨hi,hp,_⟩
  exact ⟨_,List.getElem?_eq_getElem hi,by simpa using hp⟩
 ·rintro ⟨e,he,hx⟩
  obtain ⟨hi,hq⟩:=List.getElem?_eq_some_iff.1 he
  refine ⟨hi,by rw [hq];simpa using hx,fun j hj hc=>?_⟩
  have hj2:j < L.length:=by omega
  have:=h j i L[j] e (List.getElem?_eq_getElem hj2) he (by rw [hx];simpa using hc)
  omega
theorem plc_lt {L:List Ent} {x i:Nat} (h:plc L x=some i):i < L.length:=by
 unfold plc at h;rw [List.findIdx?_eq_some_iff_getElem] at h;exact h.1
theorem Apart.nil:Apart []:=by intro i j e d h;simp at h
theorem Apart.snoc {L:List Ent} (h:Apart L) (e:Ent) (hn:plc L e.1=none):Apart (L++[e]):=by
 intro i j a d hi hj hx
 rw [plc_none] at hn
 rw [List.getElem?_append] at hi hj
 split at hi <;> split at hj
 ·exact h i j a d hi hj hx
 ·rename_i c1 c2
  have hd:d=e:=by
   have:=List.mem_of_getElem? hj;simpa using this
  subst hd
  exact absurd hx (hn a (List.mem_of_getElem? hi))
 ·rename_i c1 c2
  have hd:a=e:=by
   have:=List.mem_of_getElem? hi;simpa using this
  subst hd
  exact absurd hx.symm (hn d (List.mem_of_getElem? hj))
 ·rename_i c1 c2
  have h1:=(List.getElem?_eq_some_iff.1 hi).1
  have h2:=(List.getElem?_eq_some_iff.1 hj).1
  simp at h1 h2
  omega
theorem plc_snoc (L:List Ent) (e:Ent) (hn:plc L e.1=none) (x:Nat):plc (L++[e]) x=if x=e.1 then some L.length else plc L x:=by
 by_cases hx:x=e.1
 ·subst hx
  rw [if_pos rfl]
  unfold plc at hn ⊢
  rw [List.findIdx?_append,hn]
  simp [List.findIdx?_cons]
 ·rw [if_neg hx]
  have:¬ e.1=x:=fun q=>hx q.symm
  unfold plc
  rw [List.findIdx?_append]
  cases List.findIdx? (fun e=>decide (e.1=x)) L <;> simp [List.findIdx?_cons,this]
def outr {α:Type} (L:List α) (r:Nat):List α:=match L.getLast? with
 | none=>[]
 | some e=>(L.set r e).dropLast
theorem outr_at {α:Type} (L:List α) (r i:Nat) (hr:r < L.length):(outr L r)[i]? = if i < L.length - 1 then (if i=r then L[L.length - 1]? else L[i]?) else none:=by
 unfold outr
 have hl:L.getLast? = L[L.length - 1]?:=List.getLast?_eq_getElem?
 have hs:L[L.length - 1]? = some L[L.length - 1]:=List.getElem?_eq_getElem (by omega)
 rw [hl,hs]
 simp only
 rw [List.getElem?_dropLast,List.length_set]
 split
 ·rw [List.getElem?_set]
  by_cases c:i=r
  ·subst c;simp [hr]
  ·rw [if_neg (fun q=>c q.symm),if_neg c]
 ·rfl
theorem length_outr {α:Type} (L:List α) (r:Nat) (hr:r < L.length):(outr L r).length=L.length - 1:=by
 unfold outr
 have hl:L.getLast? = L[L.length - 1]?:=List.getLast?_eq_getElem?
 have hs:L[L.length - 1]? = some L[L.length - 1]:=List.getElem?_eq_getElem (by omega)
 rw [hl,hs];simp
theorem map_outr {α β:Type} (f:α→β) (L:List α) (r:Nat) (hr:r < L.length):(outr L r).map f=outr (L.map f) r:=by
 apply List.ext_getElem?
 intro i
 rw [List.getElem?_map,outr_at L r i hr,outr_at (L.map f) r i (by simpa using hr)]
 simp only [List.length_map,List.getElem?_map]
 split
 ·split <;> rfl
 ·rfl
theorem mem_outr {α:Type} {L:List α} {r:Nat} (hr:r < L.length) {e:α} (h:e∈outr L r):e∈L:=by
 obtain ⟨i,hi⟩:=List.getElem?_of_mem h
 rw [outr_at L r i hr] at hi
 split at hi
 ·split at hi
  ·exact List.mem_of_getElem? hi
  ·exact List.mem_of_getElem? hi
 ·cases hi
theorem Apart.outr {L:List Ent} (h:Apart L) (r:Nat) (hr:r < L.length):Apart (outr L r):=by
 intro i j e d hi hj hx
 rw [outr_at L r _ hr] at hi hj
 split at hi <;> split at hj <;> (try cases hi) <;> (try cases hj)
 split at hi <;> split at hj
 ·omega
 ·have:=h _ _ _ _ hi hj hx;omega
 ·have:=h _ _ _ _ hi hj hx;omega
 ·exact h _ _ _ _ hi hj hx
theorem plc_outr {L:List Ent} (h:Apart L) {r:Nat} {id:Nat} (hr:plc L id=some r) {last:Ent} (hl:L[L.length - 1]? = some last) (x:Nat) :
  plc (outr L r) x=if x=id then none else if x=last.1 then some r else plc L x:=by
 have hlt:=plc_lt hr
 obtain ⟨e0,he0,hid⟩:=(plc_some h id r).1 hr
 apply Option.ext
 intro i
 rw [plc_some (h.outr r hlt)]
 simp only [outr_at L r _ hlt]
 by_cases c1:x=id
 ·rw [if_pos c1]
  constructor
  ·rintro ⟨e,he,hx⟩
   split at he
   ·split at he
    ·have:=h _ _ _ _ he he0 (by rw [hx,hid,c1]);omega
    ·have:=h _ _ _ _ he he0 (by rw [hx,hid,c1]);omega
   ·cases he
  ·intro q;cases q
 ·rw [if_neg c1]
  by_cases c2:x=last.1
  ·rw [if_pos c2]
   have hrl:r≠L.length - 1:=by
    intro q
    rw [← q,he0] at hl
    cases hl
    exact c1 (by rw [c2,hid])
   constructor
   ·rintro ⟨e,he,hx⟩
    split at he
    ·split at he
     ·rename_i q;rw [q]
     ·have:=h _ _ _ _ he hl (by rw [hx,c2]);omega
    ·cases he
   ·intro q
    cases q
    exact ⟨last,by rw [if_pos (by omega),if_pos rfl];exact hl,c2.symm⟩
  ·rw [if_neg c2,plc_some h]
   constructor
   ·rintro ⟨e,he,hx⟩
    split at he
    ·split at he
     ·rw [hl] at he;cases he;exact absurd hx.symm c2
     ·exact ⟨e,he,hx⟩
    ·cases he
   ·rintro ⟨e,he,hx⟩
    have hi:=(List.getElem?_eq_some_iff.1 he).1
    have hir:i≠r:=by
     intro q;rw [q,he0] at he;cases he;exact c1 (by rw [← hx,hid])
    have hil:i≠L.length - 1:=by
     intro q;rw [q,hl] at he;cases he;exact c2 hx.symm
    exact ⟨e,by rw [if_pos (by omega),if_neg hir];exact he,hx⟩
theorem TOk.nil {m:Nat} (h:m < 64):TOk m []:=⟨h,by simp,Apart.nil,by simp⟩
theorem TOk.snoc {m:Nat} {L:List Ent} (h:TOk m L) (e:Ent) (hi:e.1 < 4294967296) (hn:plc L e.1=none) (h1:lst (-1) e.2=0) (h2:msk e.2=m):TOk m (L++[e]):=by
 refine ⟨h.m64,?_,h.ap.snoc e hn,?_⟩
 ·intro x hx
  rcases List.mem_append.1 hx with q | q
  ·exact h.id x q
  ·simp at q;subst q;exact hi
 ·intro x hx
  rcases List.mem_append.1 hx with q | q
  ·exact h.ok x q
  ·simp at q;subst q;exact ⟨h1,h2⟩
theorem TOk.outr {m:Nat} {L:List Ent} (h:TOk m L) (r:Nat) (hr:r < L.length):TOk m (outr L r) :=
 ⟨h.m64,fun e he=>h.id e (mem_outr hr he),h.ap.outr r hr,fun e he=>h.ok e (mem_outr hr he)⟩
theorem rising_ext:∀ (A B:List Nat),A.Pairwise (· < ·)→B.Pairwise (· < ·)→(∀ x,x∈A ↔ x∈B)→A=B
 | [],[],_,_,_=>rfl
 | [],b::B,_,_,h=>absurd ((h b).2 List.mem_cons_self) (by simp)
 | a::A,[],_,_,h=>absurd ((h a).1 List.mem_cons_self) (by simp)
 | a::A,b::B,hA,hB,h=>by
  obtain ⟨a1,a2⟩:=List.pairwise_cons.1 hA
  obtain ⟨b1,b2⟩:=List.pairwise_cons.1 hB
  have hab:a=b:=by
   rcases List.mem_cons.1 ((h a).1 List.mem_cons_self) with q | q
   ·exact q
   ·rcases List.mem_cons.1 ((h b).2 List.mem_cons_self) with p | p
    ·exact p.symm
    ·have:=b1 a q;have:=a1 b p;omega
  subst hab
  rw [rising_ext A B a2 b2 (fun x=>?_)]
  constructor
  ·intro hx
   rcases List.mem_cons.1 ((h x).1 (List.mem_cons_of_mem _ hx)) with q | q
   ·have:=a1 x hx;omega
   ·exact q
  ·intro hx
   rcases List.mem_cons.1 ((h x).2 (List.mem_cons_of_mem _ hx)) with q | q
   ·have:=b1 x hx;omega
   ·exact q
def kds (m:Nat):List Nat:=(List.range 6).filter (bt m)
theorem bt_msk (C:List Cp) (k:Nat) (hk:k < 6):bt (msk C) k=hasK C k:=by
 unfold bt msk
 rw [mskN_bit C 6 k hk]
 cases hasK C k <;> rfl
theorem hasK_iff (C:List Cp) (k:Nat):hasK C k=true ↔ ∃ q∈C,q.k=k:=by
 unfold hasK;rw [List.any_eq_true];simp
theorem kinds_of {C:List Cp} {m:Nat} (h:lst (-1) C=0) (hm:msk C=m):C.map Cp.k=kds m:=by
 obtain ⟨h1,h2⟩:=lst_ok h
 refine rising_ext _ _ (List.pairwise_map.2 h1) (List.Pairwise.filter _ List.pairwise_lt_range) (fun x=>?_)
 subst hm
 unfold kds
 rw [List.mem_map,List.mem_filter,List.mem_range]
 constructor
 ·rintro ⟨q,hq,rfl⟩
  have h6:=chk_k (h2 q hq).2
  exact ⟨h6,by rw [bt_msk C _ h6,hasK_iff];exact ⟨q,hq,rfl⟩⟩
 ·rintro ⟨h6,hb⟩
  rw [bt_msk C _ h6,hasK_iff] at hb
  exact hb
theorem fv_of {C:List Cp} (h:lst (-1) C=0) {q:Cp} (hq:q∈C):fv C q.k=q.f:=by
 have h1:=(lst_ok h).1
 unfold fv
 have:C.find? (fun x=>decide (x.k=q.k))=some q:=by
  clear h
  induction C with
  | nil=>simp at hq
  | cons a C ih =>
   obtain ⟨a1,a2⟩:=List.pairwise_cons.1 h1
   rw [List.find?_cons]
   rcases List.mem_cons.1 hq with rfl | hq
   ·simp
   ·have hne:¬ a.k=q.k:=by have:=a1 q hq;omega
    rw [decide_eq_false hne]
    exact ih hq a2
 rw [this];rfl
def mkc (k:Nat) (x:Fs):Cp:=⟨k,x.1,x.2.1,x.2.2⟩
theorem comps_of {C:List Cp} {m:Nat} (h:lst (-1) C=0) (hm:msk C=m):(kds m).map (fun k=>mkc k (fv C k))=C:=by
 rw [← kinds_of h hm,List.map_map]
 conv=>rhs;rw [← List.map_id C]
 apply List.map_congr_left
 intro q hq
 show mkc q.k (fv C q.k)=q
 rw [fv_of h hq];rfl
theorem clm_snoc (m:Nat) (L:List Ent) (e:Ent) (k:Nat):clm m (L++[e]) k=if bt m k then clm m L k++[fv e.2 k] else clm m L k:=by
 unfold clm;split <;> simp
theorem clm_outr (m:Nat) (L:List Ent) (r k:Nat) (hr:r < L.length):clm m (outr L r) k=if bt m k then outr (clm m L k) r else clm m L k:=by
 unfold clm
 split
 ·rw [map_outr _ _ _ hr]
 ·rfl
theorem length_clm (m:Nat) (L:List Ent) (k:Nat):(clm m L k).length=if bt m k then L.length else 0:=by
 unfold clm;split <;> simp
def cols (f:Nat→Thing):List Thing:=[f 0,f 1,f 2,f 3,f 4,f 5]
def but (k:Nat) (f:Nat→Thing):List Thing:=((List.range 6).filter (fun j=>decide (j≠k))).map f
theorem cols_perm (f:Nat→Thing) (k:Nat) (hk:k < 6):(cols f).Perm (f k::but k f):=by
 have h:k=0∨k=1∨k=2∨k=3∨k=4∨k=5:=by omega
 rcases h with rfl | rfl | rfl | rfl | rfl | rfl
 ·exact List.perm_middle (l₁:=[])
 ·exact List.perm_middle (l₁:=[f 0])
 ·exact List.perm_middle (l₁:=[f 0,f 1])
 ·exact List.perm_middle (l₁:=[f 0,f 1,f 2])
 ·exact List.perm_middle (l₁:=[f 0,f 1,f 2,f 3])
 ·exact List.perm_middle (l₁:=[f 0,f 1,f 2,f 3,f 4])
theorem but_congr {k:Nat} {f g:Nat→Thing} (h:∀ j,j≠k→f j=g j):but k f=but k g:=by
 unfold but
 apply List.map_congr_left
 intro j hj
 rw [List.mem_filter] at hj
 exact h j (by simpa using hj.2)
theorem Own.col {w0 w:World} {P Q R:Thing} {f:Nat→Thing} {l:List Thing} (k:Nat) (hk:k < 6) (h:Own w0 w (P::Q::R::(cols f++l))):Own w0 w (P::f k::Q::R::(but k f++l)):=by
 refine h.perm (List.Perm.cons P ?_)
 have:=((cols_perm f k hk).append_right l).cons R |>.cons Q
 refine this.trans ?_
 exact (List.perm_middle (l₁:=[Q,R]) (a:=f k) (l₂:=but k f++l))
theorem Own.uncol {w0 w:World} {P Q R:Thing} {f g:Nat→Thing} {l:List Thing} (k:Nat) (hk:k < 6) (h:Own w0 w (P::g k::Q::R::(but k f++l))) (hg:∀ j,j≠k→f j=g j):Own w0 w (P::Q::R::(cols g++l)):=by
 rw [but_congr hg] at h
 refine h.perm (List.Perm.cons P ?_)
 refine (List.perm_middle (l₁:=[Q,R]) (a:=g k) (l₂:=but k g++l)).symm.trans ?_
 exact ((cols_perm g k hk).append_right l).symm.cons R |>.cons Q
theorem keyID2:Keyed Tryz.prog 38:=int_keyed Tryz.underlying38
theorem zeroInt2 (w:World):(zeroValue 3).run Tryz.prog w=.ok (.int .i64 0) w:=by kernel_rfl
theorem wf_u32' {n:Nat} (h:n < 4294967296):(Lit.int .u32 (n:Int)).wf=true:=by
 simp [Lit.wf,IntKind.min,IntKind.max,IntKind.signed,IntKind.bits];omega
theorem wf_i64' {n:Nat} (h:n≤1000000):(Lit.int .i64 (n:Int)).wf=true:=by
 simp [Lit.wf,IntKind.min,IntKind.max,IntKind.signed,IntKind.bits];omega
def rd (p:Option Nat) (z:DataW Unit):DataW Unit:=match p with
 | none=>z
 | some r=>.lit (.int .i64 (r:Int))
def RowMap (b n:Nat) (p:Nat→Option Nat):Thing where
 is:=fun w A=>(∃ D:DataW Unit,w.ownsMap Tryz.prog 38 (plainElem Tryz.prog 3) b n D∧∀ k:Nat,k < 4294967296→∀ z,D.atKey (.int .u32 (k:Int)) z=rd (p k) z)∧∀ k,A k ↔ k=b
 lt:=by
  rintro w A k ⟨⟨D,h,_⟩,hA⟩ a
  rw [(hA k).1 a];exact h.lt
 keep:=by
  rintro w w' A B ⟨⟨D,h,hk⟩,hA⟩ hf hn
  refine ⟨⟨D,?_,hk⟩,hA⟩
  have hlt:=h.lt
  obtain ⟨es,clock,hb,F,hs,hD⟩:=h
  exact ⟨es,clock,(hf.block b hlt (hn b ((hA b).2 rfl))).trans hb,F,hs,hD⟩
def lk (p:Option Nat):Value:=match p with
 | none=>.tuple #[.int .i64 0,.bool false]
 | some r=>.tuple #[.int .i64 (r:Int),.bool true]
section
variable {w0 w:World} {l:List Thing} {b n:Nat} {p q:Nat→Option Nat}
theorem Own.mapLook (h:Own w0 w (RowMap b n p::l)) (id:Nat) (hid:id < 4294967296) :
  (Instr.lookup 309 (.map (some b)) (.int .u32 (id:Int)) true).run Tryz.prog w=.ok (lk (p id)) w:=by
 obtain ⟨A,⟨B,C,⟨⟨D,hm,hk⟩,_⟩,_⟩,_⟩:=h
 obtain ⟨v,ps,hrun,hv⟩:=hm.look_ok keyID2 Tryz.underlying309 (zeroInt2 w) (plainElem_int Tryz.underlying3 (wf_i64' (Nat.zero_le _))) (keyOf_int_mk Tryz.underlying38 (wf_u32' hid))
 have hk:=hk id hid
 obtain ⟨x,rfl,hx,_⟩:=plainElem_int_inv Tryz.underlying3 hv
 have hx:=(Prod.mk.inj hx).1
 rw [hk] at hx
 cases hp:p id with
 | none =>
  rw [hp] at hk hx
  rw [has_false_of_atKey hk] at hrun
  have:x=0:=by simpa [rd] using hx.symm
  subst this
  exact hrun
 | some r =>
  rw [hp] at hk hx
  rw [has_true_of_atKey hk] at hrun
  have:x=(r:Int):=by simpa [rd] using hx.symm
  subst this
  exact hrun
theorem Own.mapPut (h:Own w0 w (RowMap b n p::l)) (id r:Nat) (hid:id < 4294967296) (hr:r≤1000000) (hn:n < maxLen) :
  ∃ w',(Instr.mapUpdate 309 (.map (some b)) (.int .u32 (id:Int)) (.int .i64 (r:Int))).run Tryz.prog w=.ok () w'∧Own w0 w' (RowMap b (n+1) (fun x=>if x=id then some r else p x)::l):=by
 obtain ⟨A,⟨⟨D,hm,hk⟩,hA⟩,hlo,act⟩:=h.act
 obtain ⟨w',hrun,hm',hg⟩:=hm.update keyID2 Tryz.underlying309 hn (keyOf_int_mk Tryz.underlying38 (wf_u32' hid)) (plainElem_int Tryz.underlying3 (wf_i64' hr))
 refine ⟨w',hrun,act w' (RowMap b (n+1) _) A ⟨⟨_,hm',?_⟩,hA⟩ ((Fr.refl _ _).grown hg (fun k hk=>.inl ((hA k).2 (by cases hk;rfl)))) (fun _ a=>.inl a)⟩
 intro k hk2 z
 by_cases e:k=id
 ·subst e
  rw [atKey_put_same hm.isMap (k:=.int .u32 (k:Int)) trivial];simp [rd]
 ·rw [atKey_put_other (by intro q;apply e;have:=(Lit.int.inj q).2;omega),hk k hk2];simp [e]
theorem Own.mapDrop (h:Own w0 w (RowMap b n p::l)) (id:Nat) (hid:id < 4294967296) (ty:TypeId) :
  ∃ w',(Builtin.delete_ #[309,38] ty #[.map (some b),.int .u32 (id:Int)]).run Tryz.prog w=.ok (.tuple #[]) w'∧Own w0 w' (RowMap b n (fun x=>if x=id then none else p x)::l):=by
 obtain ⟨A,⟨⟨D,hm,hk⟩,hA⟩,hlo,act⟩:=h.act
 obtain ⟨w',hrun,hm',hg⟩:=hm.drop keyID2 Tryz.underlying309 (keyOf_int_mk Tryz.underlying38 (wf_u32' hid)) ty
 refine ⟨w',hrun,act w' (RowMap b n _) A ⟨⟨_,hm',?_⟩,hA⟩ ((Fr.refl _ _).grown hg.grown (fun k hk=>.inl ((hA k).2 (by cases hk;rfl)))) (fun _ a=>.inl a)⟩
 intro k hk2 z
 by_cases e:k=id
 ·subst e
  rw [atKey_del_same];simp [rd]
 ·rw [atKey_del_other (by intro q;apply e;have:=(Lit.int.inj q).2;omega),hk k hk2];simp [e]
theorem Own.mapNew (h:Own w0 w l):Own w0 (w.alloc (.map #[] 0)) (RowMap w.heap.size 0 (fun _=>none)::l) :=
 h.new (RowMap w.heap.size 0 (fun _=>none)) (fun k=>k=w.heap.size) ⟨⟨.map [],World.ownsMap_made _ _ _ _,fun k _ z=>by simp [DataW.atKey,rd]⟩,fun _=>Iff.rfl⟩ ((Fr.refl _ _).alloc _) (fun k hk=>by omega)
theorem Own.mapIs (h:Own w0 w (RowMap b n p::l)) (m:Nat) (hm:n≤m) (hq:∀ x,x < 4294967296→p x=q x):Own w0 w (RowMap b m q::l):=by
 obtain ⟨A,⟨B,C,⟨⟨D,hd,hk⟩,hB⟩,r⟩,s⟩:=h
 exact ⟨A,⟨B,C,⟨⟨D,hd.mono hm,fun k h2 z=>by rw [← hq k h2];exact hk k h2 z⟩,hB⟩,r⟩,s⟩
end
def tcells (m:Nat) (vi:Value) (v:Nat→Value) (mb:Nat):Array Value:=#[.int .u8 (m:Int),vi,v 0,v 1,v 2,v 3,v 4,v 5,.map (some mb)]
def colT (v:Nat→Value) (g:Nat→List Fs) (k:Nat):Thing:=Row 44 3 (v k) (g k).length (cat fc (g k))
def TabG (b m:Nat) (I:List Nat) (g:Nat→List Fs) (p:Nat→Option Nat) (c:Nat):Thing :=
 Ex (fun x:Value × (Nat→Value) × Nat=>Cells b (tcells m x.1 x.2.1 x.2.2) 311::Row 38 1 x.1 I.length (irow .u32 I)::RowMap x.2.2 c p::cols (colT x.2.1 g))
def TabX (b m:Nat) (I:List Nat) (g:Nat→List Fs) (p:Nat→Option Nat) (c:Nat) (x:Value × (Nat→Value) × Nat):Thing :=
 Ex (fun _:Unit=>Cells b (tcells m x.1 x.2.1 x.2.2) 311::Row 38 1 x.1 I.length (irow .u32 I)::RowMap x.2.2 c p::cols (colT x.2.1 g))
theorem TabX.tab {w0 w:World} {l:List Thing} {b m:Nat} {I:List Nat} {g:Nat→List Fs} {p:Nat→Option Nat} {c:Nat} {x:Value × (Nat→Value) × Nat} (h:Own w0 w (TabX b m I g p c x::l)):Own w0 w (TabG b m I g p c::l):=by
 obtain ⟨_,h⟩:=Own.ex_iff.1 h
 exact Own.ex_iff.2 ⟨x,h⟩
theorem TabX.open {w0 w:World} {l:List Thing} {b m:Nat} {I:List Nat} {g:Nat→List Fs} {p:Nat→Option Nat} {c:Nat} {vi:Value} {v:Nat→Value} {mb:Nat} (h:Own w0 w (TabX b m I g p c (vi,v,mb)::l)):Own w0 w (Cells b (tcells m vi v mb) 311::Row 38 1 vi I.length (irow .u32 I)::RowMap mb c p::(cols (colT v g)++l)):=by
 obtain ⟨_,h⟩:=Own.ex_iff.1 h
 exact h
theorem TabX.shut {w0 w:World} {l:List Thing} {b m:Nat} {I:List Nat} {g:Nat→List Fs} {p:Nat→Option Nat} {c:Nat} {vi:Value} {v:Nat→Value} {mb:Nat} (h:Own w0 w (Cells b (tcells m vi v mb) 311::Row 38 1 vi I.length (irow .u32 I)::RowMap mb c p::(cols (colT v g)++l))):Own w0 w (TabX b m I g p c (vi,v,mb)::l):=Own.ex_iff.2 ⟨(),h⟩
theorem TabX.of {w0 w:World} {l:List Thing} {b m:Nat} {I:List Nat} {g:Nat→List Fs} {p:Nat→Option Nat} {c:Nat} (h:Own w0 w (TabG b m I g p c::l)):∃ x,Own w0 w (TabX b m I g p c x::l):=by
 obtain ⟨x,h⟩:=Own.ex_iff.1 h
 exact ⟨x,Own.ex_iff.2 ⟨(),h⟩⟩
def Table (b m:Nat) (L:List Ent) (c:Nat):Thing:=TabG b m (ids L) (clm m L) (plc L) c
theorem tcells_col (m:Nat) (vi:Value) (v:Nat→Value) (mb k:Nat) (hk:k < 6):(tcells m vi v mb)[2+k]? = some (v k):=by
 have h:k=0∨k=1∨k=2∨k=3∨k=4∨k=5:=by omega
 rcases h with rfl | rfl | rfl | rfl | rfl | rfl <;> rfl
def upd {α:Type} (f:Nat→α) (k:Nat) (y:α):Nat→α:=fun j=>if j=k then y else f j
theorem upd_same {α:Type} (f:Nat→α) (k:Nat) (y:α):upd f k y k=y:=by simp [upd]
theorem upd_other {α:Type} (f:Nat→α) (k:Nat) (y:α) {j:Nat} (h:j≠k):upd f k y j=f j:=by simp [upd,h]
theorem tcells_set (m:Nat) (vi:Value) (v:Nat→Value) (mb k:Nat) (hk:k < 6) (u:Value):(tcells m vi v mb).setIfInBounds (2+k) u=tcells m vi (upd v k u) mb:=by
 have h:k=0∨k=1∨k=2∨k=3∨k=4∨k=5:=by omega
 rcases h with rfl | rfl | rfl | rfl | rfl | rfl <;> rfl
theorem Own.imp {w0 w:World} {P Q:Thing} {l:List Thing} (h:Own w0 w (P::l)) (hq:∀ w A,P.is w A→Q.is w A):Own w0 w (Q::l):=by
 obtain ⟨A,⟨B,C,hB,r⟩,s⟩:=h
 exact ⟨A,⟨B,C,hq _ _ hB,r⟩,s⟩
theorem Sep.imp {α:Type} {f g:α→Thing} (hq:∀ a w A,(f a).is w A→(g a).is w A) (is:List α):∀ w A,(Sep (is.map f)).is w A→(Sep (is.map g)).is w A:=by
 induction is with
 | nil=>exact fun w A h=>h
 | cons a is ih =>
  rintro w A ⟨B,C,hB,hC,r⟩
  exact ⟨B,C,hq a w B hB,ih w C hC,r⟩
def pp (p:Option Nat):Option Addr:=p.map fun b=>⟨b,0,none⟩
def TbS (p:Option Nat) (m:Nat) (L:List Ent) (K:Nat):Thing:=match p with
 | none=>Ex (fun _:PLift (L=[])=>[])
 | some b=>Ex (fun c:{c:Nat // c≤K∧L≠[]∧L.length≤K}=>[Table b m L c.1])
def TabsOn (is:List Nat) (p:Nat→Option Nat) (T:Nat→List Ent) (K:Nat):Thing:=Ex (fun _:Unit=>is.map (fun m=>TbS (p m) m (T m) K))
def Tabs (p:Nat→Option Nat) (T:Nat→List Ent) (K:Nat):Thing:=TabsOn (List.range 64) p T K
def TabsBut (k:Nat) (p:Nat→Option Nat) (T:Nat→List Ent) (K:Nat):Thing:=TabsOn ((List.range 64).erase k) p T K
section
variable {w0 w:World} {l:List Thing} {is:List Nat} {p p':Nat→Option Nat} {T T':Nat→List Ent} {K K' k:Nat}
theorem TabsOn.pull (hk:k∈is):Own w0 w (TabsOn is p T K::l) ↔ Own w0 w (TbS (p k) k (T k) K::TabsOn (is.erase k) p T K::l):=by
 have hp:(is.map (fun m=>TbS (p m) m (T m) K)).Perm (TbS (p k) k (T k) K::(is.erase k).map (fun m=>TbS (p m) m (T m) K)):=(List.perm_cons_erase hk).map (fun m=>TbS (p m) m (T m) K)
 constructor
 ·intro h
  obtain ⟨_,h⟩:=Own.ex_iff.1 h
  exact Own.ex2.2 ⟨(),h.perm (hp.append_right l)⟩
 ·intro h
  obtain ⟨_,h⟩:=Own.ex2.1 h
  exact Own.ex_iff.2 ⟨(),h.perm (hp.append_right l).symm⟩
theorem TabsOn.congr (h:∀ m∈is,p m=p' m∧T m=T' m):TabsOn is p T K=TabsOn is p' T' K:=by
 unfold TabsOn
 have:is.map (fun m=>TbS (p m) m (T m) K)=is.map (fun m=>TbS (p' m) m (T' m) K):=List.map_congr_left (fun m hm=>by rw [(h m hm).1,(h m hm).2])
 rw [this]
theorem TbS.mono {q:Option Nat} {L:List Ent} (hK:K≤K'):∀ w A,(TbS q k L K).is w A→(TbS q k L K').is w A:=by
 intro w A h
 cases q with
 | none=>exact h
 | some b =>
  obtain ⟨⟨c,h1,h2,h3⟩,h⟩:=h
  exact ⟨⟨c,by omega,h2,by omega⟩,h⟩
theorem TabsOn.mono (hK:K≤K') (h:Own w0 w (TabsOn is p T K::l)):Own w0 w (TabsOn is p T K'::l) :=
 h.imp (fun w A=>fun ⟨u,h⟩=>⟨u,Sep.imp (fun m=>TbS.mono hK) is w A h⟩)
theorem Own.tabOut (h:Own w0 w (Tabs p T K::l)) (k:Nat) (hk:k < 64):Own w0 w (TbS (p k) k (T k) K::TabsBut k p T K::l):=(TabsOn.pull (by simpa using hk)).1 h
theorem but_mem {m k:Nat} (h:m∈(List.range 64).erase k):m≠k:=fun e=>by subst e;exact absurd h (List.Nodup.not_mem_erase List.nodup_range)
theorem Own.tabIn {q:Option Nat} {L:List Ent} (hk:k < 64) (hK:K≤K') (h:Own w0 w (TbS q k L K'::TabsBut k p T K::l)):Own w0 w (Tabs (upd p k q) (upd T k L) K'::l):=by
 refine (TabsOn.pull (k:=k) (by simpa using hk)).2 ?_
 rw [upd_same,upd_same]
 have h2:=(TabsOn.mono hK h.two).two
 rw [TabsOn.congr (p':=upd p k q) (T':=upd T k L) (fun m hm=>⟨(upd_other _ _ _ (but_mem hm)).symm,(upd_other _ _ _ (but_mem hm)).symm⟩)] at h2
 exact h2
theorem Own.tabNone (h:Own w0 w (TbS none k (T k) K::l)):T k=[]:=by
 obtain ⟨⟨e⟩,_⟩:=Own.ex_iff.1 h
 exact e
theorem Own.tabsNew (h:Own w0 w l) (K:Nat):Own w0 w (Tabs (fun _=>none) (fun _=>[]) K::l):=by
 refine Own.ex_iff.2 ⟨(),?_⟩
 suffices H:∀ is:List Nat,Own w0 w (is.map (fun m=>TbS ((fun _=>none:Nat→Option Nat) m) m ((fun _=>[]:Nat→List Ent) m) K)++l) from H _
 intro is
 induction is with
 | nil=>exact h
 | cons a is ih=>exact Own.ex_iff.2 ⟨⟨rfl⟩,ih⟩
end
def ptrs (p:Nat→Option Nat):List Value:=(List.range 64).map (fun m=>Value.pointer (pp (p m)))
def scells (bs:Nat) (v:Value) (p:Nat→Option Nat):Array Value:=(Value.pointer (some ⟨bs,0,none⟩)::v::ptrs p).toArray
theorem scells_ids (bs:Nat) (v:Value) (p:Nat→Option Nat):(scells bs v p)[0]? = some (.pointer (some ⟨bs,0,none⟩)):=by simp [scells]
theorem scells_mk (bs:Nat) (v:Value) (p:Nat→Option Nat):(scells bs v p)[1]? = some v:=by simp [scells]
theorem scells_tab (bs:Nat) (v:Value) (p:Nat→Option Nat) (k:Nat) (hk:k < 64):(scells bs v p)[2+k]? = some (.pointer (pp (p k))):=by
 have:2+k=k+1+1:=by omega
 rw [this]
 simp [scells,ptrs,hk]
theorem scells_set (bs:Nat) (v:Value) (p:Nat→Option Nat) (k:Nat) (hk:k < 64) (q:Option Nat):(scells bs v p).setIfInBounds (2+k) (.pointer (pp q))=scells bs v (upd p k q):=by
 have:2+k=k+1+1:=by omega
 rw [this]
 unfold scells
 rw [List.setIfInBounds_toArray,List.set_cons_succ,List.set_cons_succ]
 have:(ptrs p).set k (.pointer (pp q))=ptrs (upd p k q):=by
  apply List.ext_getElem?
  intro i
  rw [List.getElem?_set]
  simp only [ptrs,List.length_map,List.length_range,List.getElem?_map]
  by_cases c:k=i
  ·subst c;simp [hk,upd]
  ·rw [if_neg c]
   by_cases d:i < 64
   ·have e:¬ i=k:=fun h=>c h.symm
    simp [d,upd,e]
   ·simp [d]
 rw [this]
structure Sto where
 S:St
 mks:List Nat
 T:Nat→List Ent
def StoX (b:Nat) (σ:Sto) (K:Nat) (x:Nat × Value × (Nat→Option Nat)):Thing :=
 Ex (fun _:Unit=>[Cells b (scells x.1 x.2.1 x.2.2) 176,Slots x.1 σ.S,Row 5 1 x.2.1 σ.mks.length (irow .u8 σ.mks),Tabs x.2.2 σ.T K])
def Store (b:Nat) (σ:Sto) (K:Nat):Thing:=Ex (fun x:Nat × Value × (Nat→Option Nat)=>[StoX b σ K x])
section
variable {w0 w:World} {l:List Thing} {b bs:Nat} {v:Value} {p:Nat→Option Nat} {σ:Sto} {K:Nat}
theorem Own.stoX (h:Own w0 w (Store b σ K::l)):∃ bs v p,Own w0 w (StoX b σ K (bs,v,p)::l):=by
 obtain ⟨⟨bs,v,p⟩,h⟩:=Own.ex_iff.1 h
 exact ⟨bs,v,p,h⟩
theorem Own.xSto {x:Nat × Value × (Nat→Option Nat)} (h:Own w0 w (StoX b σ K x::l)):Own w0 w (Store b σ K::l):=Own.ex_iff.2 ⟨x,h⟩
theorem Own.stoO (h:Own w0 w (StoX b σ K (bs,v,p)::l)):Own w0 w (Cells b (scells bs v p) 176::Slots bs σ.S::Row 5 1 v σ.mks.length (irow .u8 σ.mks)::Tabs p σ.T K::l):=by
 obtain ⟨_,h⟩:=Own.ex_iff.1 h
 exact h
theorem Own.stoS (h:Own w0 w (Cells b (scells bs v p) 176::Slots bs σ.S::Row 5 1 v σ.mks.length (irow .u8 σ.mks)::Tabs p σ.T K::l)):Own w0 w (StoX b σ K (bs,v,p)::l):=Own.ex_iff.2 ⟨(),h⟩
end
end Go.Proofs.YtogmdoiecpihdaaGreatDoor
