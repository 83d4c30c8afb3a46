/- The document's List of slots, and Same. -/
import Derived.Test.YtogmdoiecpihdaaGreatDoorQs29
import Derived.Test.YtogmdoiecpihdaaGreatDoorQs01
import Derived.Test.YtogmdoiecpihdaaGreatDoorQs03
namespace Go.Proofs.YtogmdoiecpihdaaGreatDoor
open Go.RowKit
set_option linter.unusedVariables false
set_option maxHeartbeats 4000000
def rl (S:St) (k:Nat):List Nat:=pick (S.last.take k) (S.used.take k)
theorem rl_all {S:St} (hS:S.Ok):rl S S.n=S.list:=by
 have h1:=hS.le
 have h2:=hS.ul
 unfold rl St.list;rw [List.take_of_length_le h1,List.take_of_length_le (by omega)]
theorem rl_le (S:St) (k:Nat):(rl S k).length≤k:=by
 have:=pick_le (S.last.take k) (S.used.take k)
 rw [List.length_take] at this
 unfold rl;omega
theorem rl_yes {S:St} (hS:S.Ok) (k:Nat) (h:S.used.getD k false=true):rl S (k+1)=rl S k++[S.last.getD k 0]∧S.last.getD k 0 / 1024*1024+k=S.last.getD k 0∧1≤S.last.getD k 0 / 1024∧S.last.getD k 0 < 4294967296:=by
 have hlt:k < S.used.length:=by
  rcases Nat.lt_or_ge k S.used.length with c | c
  ·exact c
  ·rw [getD_none c] at h;cases h
 obtain ⟨x,hx⟩:∃ x,S.last[k]? = some x:=⟨_,List.getElem?_eq_getElem (by rw [← hS.ul];exact hlt)⟩
 obtain ⟨u,hu⟩:∃ u,S.used[k]? = some u:=⟨_,List.getElem?_eq_getElem hlt⟩
 rw [getD_some hu] at h
 subst h
 have:=hS.id k x hx
 rw [getD_some hx]
 refine ⟨?_,by omega,by omega,by omega⟩
 unfold rl;rw [pick_step S hS k x true hx hu];rfl
theorem rl_no {S:St} (hS:S.Ok) (k:Nat) (h:S.used.getD k false=false):rl S (k+1)=rl S k:=by
 unfold rl
 rcases Nat.lt_or_ge k S.used.length with c | c
 ·obtain ⟨x,hx⟩:∃ x,S.last[k]? = some x:=⟨_,List.getElem?_eq_getElem (by rw [← hS.ul];exact c)⟩
  obtain ⟨u,hu⟩:∃ u,S.used[k]? = some u:=⟨_,List.getElem?_eq_getElem c⟩
  rw [getD_some hu] at h
  subst h
  rw [pick_step S hS k x false hx hu];simp
 ·have:=hS.ul
  rw [List.take_of_length_le (by omega),List.take_of_length_le (by omega),List.take_of_length_le (by omega),List.take_of_length_le c]
def rr (S:St) (k:Nat):Nat:=(List.range k).countP (free1 S)
theorem rr_succ (S:St) (k:Nat):rr S (k+1)=rr S k+(free1 S k).toNat:=by
 unfold rr;rw [List.range_succ,List.countP_append];simp only [List.countP_singleton];cases free1 S k <;> rfl
theorem rr_le (S:St) (k:Nat):rr S k≤k:=by
 unfold rr
 have:(List.range k).countP (free1 S)≤(List.range k).length:=List.countP_le_length
 rw [List.length_range] at this;exact this
theorem free1_t (S:St) (k:Nat) (hu:S.used.getD k false=false) (hg:S.last.getD k 0 / 1024 < 4194303):free1 S k=true:=by unfold free1;rw [hu];unfold frb;rw [decide_eq_true hg];rfl
theorem free1_f (S:St) (k:Nat) (hu:S.used.getD k false=false) (hg:¬ S.last.getD k 0 / 1024 < 4194303):free1 S k=false:=by unfold free1;rw [hu];unfold frb;rw [decide_eq_false hg];rfl
theorem free1_u (S:St) (k:Nat) (hu:S.used.getD k false=true):free1 S k=false:=by unfold free1;rw [hu];rfl
set_option maxRecDepth 100000 in
theorem rlist_ok (w0 w:World) (l:List Thing) (c:Nat) (S:St) (f:Nat→Nat) (ck:Nat) (h:Own w0 w (RSlots c S f ck::l)) (hS:S.Ok) :
  Calls Tryz.prog 107 #[.pointer (some ⟨c,0,none⟩)] w fun e w'=>∃ v,e=.returned (.tuple #[v,.int .i64 (rr S S.n:Int)])∧Own w0 w' (Row 38 1 v S.list.length (irow .u32 S.list)::RSlots c S f ck::l):=by
 obtain ⟨⟨g,cp⟩,h⟩:=Own.ex_iff.1 h
 have q1:=h.cell 1
 have hn:=hS.n2
 simp at q1
 obtain ⟨i0,hi,hz0,hz1,hz2⟩:=info_parts Tryz.infoID
 have H:Hid (Own w0 w (Row 38 1 (.slice none 0 0) 0 []::Cells c #[.int .i64 (S.first:Int),.slice (some ⟨g,0,none⟩) S.n cp,.int .i64 (ck:Int)] 239::Row 255 3 (.slice (some ⟨g,0,none⟩) S.n cp) S.n (flat 3 S.n (one S f))::l)):=h.nilRow _ _
 have HS:Hid S.Ok:=hS
 clear h hS
 go_enter Tryz.func107,Tryz.ntmps107
 go_wp2
 go_loopw [4,5,17] (fun lv rm cc wr=>∃ k:Nat,k≤S.n∧cc=.int .i64 k∧rm=.int .i64 (rr S k:Int)∧∃ ao cap,lv=.slice ao (rl S k).length cap∧Own w0 wr (Row 38 1 (.slice ao (rl S k).length cap) (rl S k).length (irow .u32 (rl S k))::Cells c #[.int .i64 (S.first:Int),.slice (some ⟨g,0,none⟩) S.n cp,.int .i64 (ck:Int)] 239::Row 255 3 (.slice (some ⟨g,0,none⟩) S.n cp) S.n (flat 3 S.n (one S f))::l)) (fun _ _ cc _=>S.n - (intOf cc).toNat)
 case atStart=>exact ⟨0,Nat.zero_le _,rfl,rfl,none,0,rfl,H.out⟩
 case round =>
  obtain ⟨k,hk,rfl,rfl,ao,cap,rfl,hO⟩:=hrel
  have hrr:=rr_le S k
  have hrl:=rl_le S k
  clear H q1
  by_cases hlt:k < S.n
  ·have c0:wr.cell? ⟨g,k*3,none⟩=some (.int .i64 ((S.last.getD k 0 / 1024:Nat):Int)):=hO.three.fcell k 0 hlt (by decide) _ (by omega)
   have c1:wr.cell? ⟨g,k*3+1,none⟩=some (.bool (S.used.getD k false)):=hO.three.fcell k 1 hlt (by decide) _ (by omega)
   have c2:wr.cell? ⟨g,k*3+2,none⟩=some (.int .i64 (f k:Int)):=hO.three.fcell k 2 hlt (by decide) _ (by omega)
   have HO:Hid (Own w0 wr _):=hO
   clear hO
   cases hu:S.used.getD k false with
   | false =>
    have HL:Hid (rl S (k+1)=rl S k):=rl_no HS.out k hu
    rw [hu] at c1
    by_cases hg:S.last.getD k 0 / 1024 < 4194303
    ·have HR:Hid (rr S (k+1)=rr S k+1):=by rw [rr_succ,free1_t S k hu hg];rfl
     obtain ⟨gn,hgn⟩:∃ gn:Int,gn=((S.last.getD k 0 / 1024:Nat):Int):=⟨_,rfl⟩
     have hg':gn < 4194303:=by omega
     rw [← hgn] at c0
     clear hg hgn hu
     generalize rr S k=rk at *
     generalize rl S k=lk at *
     go_wp2
     go_roundw
     case rel=>exact ⟨k+1,by omega,by go_num,by rw [HR.out];go_num,ao,cap,by rw [HL.out],by rw [HL.out];exact HO.out.alloc _⟩
     case measure=>simp [intOf];omega
    ·have HR:Hid (rr S (k+1)=rr S k):=by rw [rr_succ,free1_f S k hu hg];rfl
     obtain ⟨gn,hgn⟩:∃ gn:Int,gn=((S.last.getD k 0 / 1024:Nat):Int):=⟨_,rfl⟩
     have hg':¬ gn < 4194303:=by omega
     rw [← hgn] at c0
     clear hg hgn hu
     generalize rr S k=rk at *
     generalize rl S k=lk at *
     go_wp2
     go_roundw
     case rel=>exact ⟨k+1,by omega,by go_num,by rw [HR.out],ao,cap,by rw [HL.out],by rw [HL.out];exact HO.out.alloc _⟩
     case measure=>simp [intOf];omega
   | true =>
    obtain ⟨e1,e2,e3,e4⟩:=rl_yes HS.out k hu
    have HL:Hid (rl S (k+1)=rl S k++[S.last.getD k 0]):=e1
    have HR:Hid (rr S (k+1)=rr S k):=by rw [rr_succ,free1_u S k hu];rfl
    rw [hu] at c1
    have HM:Hid (∀ w',Calls Tryz.prog 162 #[.int .i64 (k:Int),.int .i64 ((S.last.getD k 0 / 1024:Nat):Int)] w' fun e w''=>e=.returned (.tuple #[.int .u32 (S.last.getD k 0:Int),.int .i64 0])∧w''=w'):=by
     intro w'
     have:=rmake_yes k (S.last.getD k 0 / 1024) w' (by omega) e3 (by omega)
     rw [e2] at this;exact this
    clear e1 e2 e3 e4 hu
    generalize rr S k=rk at *
    generalize rl S k=lk at *
    generalize S.last.getD k 0 / 1024=gn at *
    generalize S.last.getD k 0=x at *
    go_wp2_with (first | (go_at_call 162;refine (HM.out _).mono ?_;rintro e w' ⟨rfl,hw⟩;subst hw) | (at_builtin;refine append1_own rfl _ _ 55 rfl 38 i0 (.int .u32 0) 1 4 Tryz.underlying55 hi hz0 hz1 hz2 rfl (by decide) _ _ _ rfl (HO.out.alloc _) _ _ (by simp) rfl rfl (one_int _ _) (by unfold maxLen;omega) (by omega) ?_))
    intro g' cap' w2 hO2 hsz
    have H2:Hid (Own w0 w2 _):=hO2
    clear hO2 HO
    go_wp2
    go_roundw
    case rel=>exact ⟨k+1,by omega,by go_num,by rw [HR.out],_,cap',by rw [HL.out];simp;rfl,by rw [HL.out];simpa [irow] using H2.out⟩
    case measure=>simp [intOf];omega
  ·have ek:k=S.n:=by omega
   subst ek
   have HL:Hid (rl S S.n=S.list):=rl_all HS.out
   have HO:Hid (Own w0 wr _):=hO
   clear hO
   go_wp2
   go_ret2
   refine ⟨_,rfl,?_⟩
   have:=HO.out
   rw [HL.out] at this ⊢
   exact Own.ex2.2 ⟨(g,cp),this⟩
def Nums (k:IntKind) (w:World) (v:Value) (X:List Nat):Prop:=∃ ao cap,v=.slice ao X.length cap∧(X=[]∨∃ g o,ao=some ⟨g,o,none⟩∧∀ (j x:Nat),X[j]? = some x→w.cell? ⟨g,o+j,none⟩=some (.int k (x:Int)))
theorem Own.nums {w0 w:World} {l:List Thing} {e:TypeId} {k:IntKind} {v:Value} {X:List Nat} (h:Own w0 w (Row e 1 v X.length (irow k X)::l)):Nums k w v X:=by
 have r:=h.row
 obtain ⟨ao,cap,rfl⟩:=row_any r
 refine ⟨ao,cap,rfl,?_⟩
 by_cases h0:X.length=0
 ·exact .inl (List.eq_nil_of_length_eq_zero h0)
 ·right
  obtain ⟨g,c,he,_⟩:=row_shape r (by omega)
  cases he
  refine ⟨g,0,rfl,fun j x hx=>?_⟩
  have hj:=(List.getElem?_eq_some_iff.1 hx).1
  rw [Nat.zero_add,r.cellAt _ (by omega),getElem?_irow,hx];rfl
theorem Nums.quiet {k:IntKind} {w w':World} {v:Value} {X:List Nat} (h:Nums k w v X) (hf:Fr Nobody w w'):Nums k w' v X:=by
 obtain ⟨ao,cap,rfl,h⟩:=h
 refine ⟨ao,cap,rfl,?_⟩
 rcases h with h | ⟨g,o,ha,hc⟩
 ·exact .inl h
 ·refine .inr ⟨g,o,ha,fun j x hx=>?_⟩
  have h1:=hc j x hx
  exact (hf.cell (p:=⟨g,o+j,none⟩) (World.block_lt_of_cell? w _ h1) id).trans h1
theorem flat_set3 (n:Nat) (g g':Nat→Nat→Value) (j:Nat) (h:∀ a b,a≠j→g' a b=g a b):flat 3 n g'=(((flat 3 n g).set (j*3) (g' j 0)).set (j*3+1) (g' j 1)).set (j*3+2) (g' j 2):=by
 have e1:=flat_set 3 n g (fun a b=>if a=j∧b=0 then g' j 0 else g a b) j 0 (by decide) (by decide) (fun a b _ _ hn=>by simp only [if_neg hn])
 have e2:=flat_set 3 n (fun a b=>if a=j∧b=0 then g' j 0 else g a b) (fun a b=>if a=j∧b≤1 then g' j b else g a b) j 1 (by decide) (by decide) (fun a b _ _ hn=>by
  by_cases c:a=j
  ·subst c
   by_cases c0:b=0
   ·subst c0;simp
   ·simp only [true_and] at hn ⊢;rw [if_neg (by omega),if_neg c0]
  ·simp [c])
 have e3:=flat_set 3 n (fun a b=>if a=j∧b≤1 then g' j b else g a b) g' j 2 (by decide) (by decide) (fun a b _ hb hn=>by
  by_cases c:a=j
  ·subst c
   simp only [true_and] at hn ⊢;rw [if_pos (by omega)]
  ·simp [c,h a b c])
 rw [e3,e2,e1]
 simp
theorem one_less (S:St) (f:Nat→Nat) (id m:Nat) (hm:m=id % 1024) (hus:m < S.used.length):flat 3 S.n (one (S.less id) f)=(flat 3 S.n (one S f)).set (m*3+1) (.bool false):=by
 have e1:one (S.less id) f m 1=.bool false:=by simp only [one,St.less];rw [← hm,getD_set_same _ _ _ _ hus];rfl
 rw [← e1]
 refine flat_set 3 S.n (one S f) (one (S.less id) f) m 1 (by decide) (by decide) ?_
 intro a b _ _ hn
 unfold one
 by_cases c0:b=0
 ·subst c0;rfl
 ·by_cases c1:b=1
  ·subst c1;simp only [St.less];rw [getD_set_other _ _ _ _ _ (by rw [← hm];exact fun q=>hn ⟨q,rfl⟩)]
  ·rw [if_neg c0,if_neg c1,if_neg c0,if_neg c1]
theorem one_upd (S:St) (n:Nat) (f:Nat→Nat) (m x:Nat):flat 3 n (one S (updn f m x))=(flat 3 n (one S f)).set (m*3+2) (.int .i64 (x:Int)):=by
 have e1:one S (updn f m x) m 2=.int .i64 (x:Int):=by unfold one;rw [if_neg (by decide),if_neg (by decide),updn_same]
 rw [← e1]
 refine flat_set 3 n (one S f) (one S (updn f m x)) m 2 (by decide) (by decide) ?_
 intro a b _ hb hn
 unfold one
 by_cases c0:b=0
 ·rw [if_pos c0,if_pos c0]
 ·by_cases c1:b=1
  ·rw [if_neg c0,if_pos c1,if_neg c0,if_pos c1]
  ·rw [if_neg c0,if_neg c1,if_neg c0,if_neg c1,updn_other _ _ _ _ (fun q=>hn ⟨q,by omega⟩)]
set_option maxRecDepth 100000 in
theorem rfree_ok (w0 w:World) (l:List Thing) (c:Nat) (S:St) (f:Nat→Nat) (ck id:Nat) (h:Own w0 w (RSlots c S f ck::l)) (hS:S.Ok) (hT:Stamp S f ck) (hid:id < 4294967296) (hck:ck≤1000000) :
  Calls Tryz.prog 170 #[.pointer (some ⟨c,0,none⟩),.int .u32 (id:Int)] w fun e w'=>e=.returned (.int .i64 (S.free id).1)∧∃ f' ck',ck'≤ck+1∧Stamp (S.free id).2 f' ck'∧Own w0 w' (RSlots c (S.free id).2 f' ck'::l):=by
 have HL:=rlive_ok w0 w l c S f ck id h hS hid
 have hn:=hS.n2
 unfold St.free
 by_cases hlive:S.isLive id=true
 ·rw [if_pos hlive]
  rw [hlive] at HL
  have hle:=hT.less hS hlive
  obtain ⟨hu,hx⟩:=(S.isLive_iff hS id).1 hlive
  have hlu:id % 1024 < S.n:=by have:=(List.getElem?_eq_some_iff.1 hx).1;have:=hS.le;omega
  have hus:id % 1024 < S.used.length:=(List.getElem?_eq_some_iff.1 hu).1
  obtain ⟨m,hm⟩:∃ m,m=id % 1024:=⟨_,rfl⟩
  obtain ⟨gg,hgg⟩:∃ gg:Int,gg=((id / 1024:Nat):Int):=⟨_,rfl⟩
  rw [← hm] at hlu hus hle
  have HLV:Hid (Calls _ _ _ _ _):=HL
  have HX:Hid (S.last.getD m 0=id):=by rw [hm];exact getD_some hx
  have HU:Hid (S.used.getD m false=true):=by rw [hm];exact getD_some hu
  have H1:Hid (flat 3 S.n (one (S.less id) f)=(flat 3 S.n (one S f)).set (m*3+1) (.bool false)):=one_less S f id m hm hus
  have HSl:Hid (∀ w',Calls Tryz.prog 117 #[.int .u32 (id:Int)] w' fun e w''=>e=.returned (.int .i64 (m:Int))∧w''=w'):=by intro w';have:=rslot_any id w' hid;rw [← hm] at this;exact this
  have hlu':(m:Int) < (S.n:Int):=by omega
  by_cases hg:id / 1024 < 4194303
  ·have hg':gg < 4194303:=by omega
   have HST:Hid (Stamp (S.less id) (updn f m (ck+1)) (ck+1)):=hle.1 hg
   have HGG:Hid (gg=((id / 1024:Nat):Int)):=hgg
   clear HL hle hlive hT h hu hx hS hg hgg hm hus
   go_enter Tryz.func170,Tryz.ntmps170
   go_wp2_with fail
   refine HLV.out.mono ?_
   rintro e w1 ⟨rfl,hO⟩
   obtain ⟨⟨g,cp⟩,hO⟩:=Own.ex_iff.1 hO
   have q1:=hO.cell 1
   have q2:=hO.cell 2
   have z2:=hO.froz 2
   have d:=hO.ne
   have hgc:g≠c:=fun q=>d (by rw [q];rfl)
   have p0:w1.cell? ⟨g,m*3,none⟩=some (.int .i64 gg):=by
    have:=hO.two.fcell m 0 hlu (by decide) (m*3) (by omega)
    rw [this,HGG.out];unfold one;rw [if_pos rfl,HX.out]
   have p1:w1.cell? ⟨g,m*3+1,none⟩=some (.bool (S.used.getD m false)):=hO.two.fcell m 1 hlu (by decide) (m*3+1) (by omega)
   have p2:w1.cell? ⟨g,m*3+2,none⟩=some (.int .i64 (f m:Int)):=hO.two.fcell m 2 hlu (by decide) (m*3+2) (by omega)
   have y1:w1.frozen? ⟨g,m*3+1,none⟩=false:=hO.two.ffroz _
   have y2:w1.frozen? ⟨g,m*3+2,none⟩=false:=hO.two.ffroz _
   simp at q1 q2
   rw [HU.out] at p1
   have HO:Hid (Own w0 w1 _):=hO
   clear hO d HLV
   go_wp2_with (first | (go_at_call 117;refine (HSl.out _).mono ?_;rintro e w' ⟨rfl,hw⟩;subst hw))
   go_region
   go_wp2
   go_ret
   refine ⟨rfl,updn f m (ck+1),ck+1,Nat.le_refl _,HST.out,Own.ex_iff.2 ⟨(g,cp),?_⟩⟩
   have k:=((((HO.out.two.setR (m*3+1) (.bool false)).two.setC 2 (.int .i64 ((ck:Int)+1))).two.setR (m*3+2) (.int .i64 ((ck:Int)+1))).two)
   have e2:=one_upd (S.less id) S.n f m (ck+1)
   rw [H1.out] at e2
   show Own w0 _ (Cells c #[.int .i64 (S.first:Int),.slice (some ⟨g,0,none⟩) S.n cp,.int .i64 ((ck+1:Nat):Int)] 239::Row 255 3 (.slice (some ⟨g,0,none⟩) S.n cp) S.n (flat 3 S.n (one (S.less id) (updn f m (ck+1))))::l)
   rw [e2]
   first | exact k.drew | exact k
  ·have hg':¬ gg < 4194303:=by omega
   have HST:Hid (Stamp (S.less id) f ck):=hle.2 hg
   have HGG:Hid (gg=((id / 1024:Nat):Int)):=hgg
   clear HL hle hlive hT h hu hx hS hg hgg hm hus
   go_enter Tryz.func170,Tryz.ntmps170
   go_wp2_with fail
   refine HLV.out.mono ?_
   rintro e w1 ⟨rfl,hO⟩
   obtain ⟨⟨g,cp⟩,hO⟩:=Own.ex_iff.1 hO
   have q1:=hO.cell 1
   have d:=hO.ne
   have hgc:g≠c:=fun q=>d (by rw [q];rfl)
   have p0:w1.cell? ⟨g,m*3,none⟩=some (.int .i64 gg):=by
    have:=hO.two.fcell m 0 hlu (by decide) (m*3) (by omega)
    rw [this,HGG.out];unfold one;rw [if_pos rfl,HX.out]
   have p1:w1.cell? ⟨g,m*3+1,none⟩=some (.bool (S.used.getD m false)):=hO.two.fcell m 1 hlu (by decide) (m*3+1) (by omega)
   have y1:w1.frozen? ⟨g,m*3+1,none⟩=false:=hO.two.ffroz _
   simp at q1
   rw [HU.out] at p1
   have HO:Hid (Own w0 w1 _):=hO
   clear hO d HLV
   go_wp2_with (first | (go_at_call 117;refine (HSl.out _).mono ?_;rintro e w' ⟨rfl,hw⟩;subst hw))
   go_ret
   refine ⟨rfl,f,ck,Nat.le_succ _,HST.out,Own.ex_iff.2 ⟨(g,cp),?_⟩⟩
   have k:=(HO.out.two.setR (m*3+1) (.bool false)).two
   show Own w0 _ (Cells c #[.int .i64 (S.first:Int),.slice (some ⟨g,0,none⟩) S.n cp,.int .i64 (ck:Int)] 239::Row 255 3 (.slice (some ⟨g,0,none⟩) S.n cp) S.n (flat 3 S.n (one (S.less id) f))::l)
   rw [H1.out]
   exact k
 ·rw [if_neg hlive]
  have hlive':S.isLive id=false:=by simpa using hlive
  rw [hlive'] at HL
  have HLV:Hid (Calls _ _ _ _ _):=HL
  have HT:Hid (Stamp S f ck):=hT
  clear HL hlive hlive' h hT hS
  go_enter Tryz.func170,Tryz.ntmps170
  go_wp2_with fail
  refine HLV.out.mono ?_
  rintro e w1 ⟨rfl,hO⟩
  have HO:Hid (Own w0 w1 _):=hO
  clear hO HLV
  go_wp2
  go_ret
  exact ⟨rfl,f,ck,Nat.le_succ _,HT.out,HO.out⟩
theorem one_again (S:St) (f:Nat→Nat) (j x:Nat) (hx:S.last[j]? = some x) (hu:j < S.used.length):flat 3 S.n (one (S.again j) (updn f j 0))=(((flat 3 S.n (one S f)).set (j*3) (.int .i64 ((x / 1024+1:Nat):Int))).set (j*3+1) (.bool true)).set (j*3+2) (.int .i64 0):=by
 have hl:=(List.getElem?_eq_some_iff.1 hx).1
 rw [flat_set3 S.n (one S f) (one (S.again j) (updn f j 0)) j ?_]
 ·have e0:one (S.again j) (updn f j 0) j 0=.int .i64 ((x / 1024+1:Nat):Int):=by
   simp only [one,St.again];rw [getD_set_same _ _ _ _ hl,getD_some hx,if_pos trivial]
   rw [Nat.add_div_right x (by decide)]
  have e1:one (S.again j) (updn f j 0) j 1=.bool true:=by simp only [one,St.again];rw [getD_set_same _ _ _ _ hu];rfl
  have e2:one (S.again j) (updn f j 0) j 2=.int .i64 0:=by unfold one;rw [if_neg (by decide),if_neg (by decide),updn_same];rfl
  rw [e0,e1,e2]
 ·intro a b hab
  simp only [one,St.again]
  rw [getD_set_other _ _ _ _ _ hab,getD_set_other _ _ _ _ _ hab,updn_other _ _ _ _ hab]
theorem one_more (S:St) (f:Nat→Nat) (hul:S.used.length=S.last.length) (hf1:S.last.length < 1024) (hf:f S.last.length=0):flat 3 S.n (one S.more f)=(((flat 3 S.n (one S f)).set (S.last.length*3) (.int .i64 (S.first:Int))).set (S.last.length*3+1) (.bool true)).set (S.last.length*3+2) (.int .i64 0):=by
 rw [flat_set3 S.n (one S f) (one S.more f) S.last.length ?_]
 ·have e0:one S.more f S.last.length 0=.int .i64 (S.first:Int):=by
   simp only [one,St.more];rw [getD_snoc_same,if_pos trivial]
   rw [show (S.first*1024+S.last.length) / 1024=S.first by omega]
  have e1:one S.more f S.last.length 1=.bool true:=by
   simp only [one,St.more]
   have:(S.used++[true]).getD S.last.length false=true:=by rw [← hul];exact getD_snoc_same _ _ _
   rw [this];rfl
  have e2:one S.more f S.last.length 2=.int .i64 0:=by unfold one;rw [if_neg (by decide),if_neg (by decide),hf];rfl
  rw [e0,e1,e2]
 ·intro a b hab
  simp only [one,St.more]
  rw [getD_snoc_other _ _ _ _ hab,getD_snoc_other _ _ _ _ (by rw [hul];exact hab)]
def Best (f:Nat→Nat) (k:Nat) (b:Int):Prop:=(b = -1∧∀ i,i < k→f i=0)∨∃ j:Nat,j < k∧b=(j:Int)∧0 < f j∧∀ i,i < k→f i≤f j
set_option maxRecDepth 100000 in
theorem rtake_ok (w0 w:World) (l:List Thing) (c:Nat) (S:St) (f:Nat→Nat) (ck:Nat) (h:Own w0 w (RSlots c S f ck::l)) (hS:S.Ok) (hT:Stamp S f ck) (hck:ck≤1000000) :
  Calls Tryz.prog 171 #[.pointer (some ⟨c,0,none⟩)] w fun e w'=>e=.returned (.tuple #[.int .u32 (S.take.1:Int),.int .i64 S.take.2.1])∧∃ f',Stamp S.take.2.2 f' ck∧Own w0 w' (RSlots c S.take.2.2 f' ck::l):=by
 obtain ⟨⟨g,cp⟩,h⟩:=Own.ex_iff.1 h
 have q1:=h.cell 1
 have hn:=hS.n2
 have hd:=h.ne
 have hgc:g≠c:=fun q=>hd (by rw [q];rfl)
 simp at q1
 have H:Hid (Own w0 w (Cells c #[.int .i64 (S.first:Int),.slice (some ⟨g,0,none⟩) S.n cp,.int .i64 (ck:Int)] 239::Row 255 3 (.slice (some ⟨g,0,none⟩) S.n cp) S.n (flat 3 S.n (one S f))::l)):=h
 have HS:Hid (S.Ok∧Stamp S f ck):=⟨hS,hT⟩
 have HLE:Hid (∀ i,(f i:Int)≤1000000):=fun i=>by have:=hT.le i;omega
 clear h hS hT hd
 go_enter Tryz.func171,Tryz.ntmps171
 go_wp2
 go_loopw [4,16] (fun bv cc wr=>∃ (k:Nat) (b:Int),k≤S.n∧cc=.int .i64 k∧bv=.int .i64 b∧Best f k b∧Own w0 wr (Cells c #[.int .i64 (S.first:Int),.slice (some ⟨g,0,none⟩) S.n cp,.int .i64 (ck:Int)] 239::Row 255 3 (.slice (some ⟨g,0,none⟩) S.n cp) S.n (flat 3 S.n (one S f))::l)) (fun _ cc _=>S.n - (intOf cc).toNat)
 case atStart=>exact ⟨0,-1,Nat.zero_le _,rfl,rfl,.inl ⟨rfl,fun i hi=>by omega⟩,H.out⟩
 case round =>
  obtain ⟨k,b,hk,rfl,rfl,hB,hO⟩:=hrel
  clear H q1
  by_cases hlt:k < S.n
  ·have q1:=hO.cell 1
   simp at q1
   have c0:wr.cell? ⟨g,k*3,none⟩=some (.int .i64 ((S.last.getD k 0 / 1024:Nat):Int)):=hO.two.fcell k 0 hlt (by decide) _ (by omega)
   have c1:wr.cell? ⟨g,k*3+1,none⟩=some (.bool (S.used.getD k false)):=hO.two.fcell k 1 hlt (by decide) _ (by omega)
   have c2:wr.cell? ⟨g,k*3+2,none⟩=some (.int .i64 (f k:Int)):=hO.two.fcell k 2 hlt (by decide) _ (by omega)
   have hcl:=hO.lt
   have hgl:=World.block_lt_of_cell? wr _ c0
   have HO:Hid (Own w0 wr _):=hO
   rcases hB with ⟨rfl,hz⟩ | ⟨j,hj,rfl,hp,hm⟩
   ·by_cases hfk:f k=0
    ·have HB:Hid (Best f (k+1) (-1)):=.inl ⟨rfl,fun i hi=>by by_cases e:i=k;rw [e];exact hfk;exact hz i (by omega)⟩
     rw [hfk] at c2
     clear hO hz hfk
     generalize S.used.getD k false=u at *
     generalize S.last.getD k 0 / 1024=gn at *
     go_wp2
     go_quiet (fail)
     go_wp2
     go_roundw
     case rel=>exact ⟨k+1,-1,by omega,by go_num,rfl,HB.out,(HO.out.alloc _).drewN _⟩
     case measure=>simp [intOf];omega
    ·have HB:Hid (Best f (k+1) (k:Int)):=.inr ⟨k,by omega,rfl,by omega,fun i hi=>by by_cases e:i=k;rw [e];exact Nat.le_refl _;rw [hz i (by omega)];omega⟩
     have hfk':(0:Int) < (f k:Int):=by omega
     have hdd:0 < f k:=by omega
     clear hO hz hfk
     generalize f k=fk at *
     generalize S.used.getD k false=u at *
     generalize S.last.getD k 0 / 1024=gn at *
     go_wp2
     go_quiet (fail)
     go_wp2
     go_roundw
     case rel=>exact ⟨k+1,k,by omega,by go_num,rfl,HB.out,(HO.out.alloc _).drewN _⟩
     case measure=>simp [intOf];omega
   ·have d2:wr.cell? ⟨g,j*3+2,none⟩=some (.int .i64 (f j:Int)):=hO.two.fcell j 2 (by omega) (by decide) _ (by omega)
    by_cases hfk:f k=0
    ·have HB:Hid (Best f (k+1) (j:Int)):=.inr ⟨j,by omega,rfl,hp,fun i hi=>by by_cases e:i=k;rw [e,hfk];exact Nat.zero_le _;exact hm i (by omega)⟩
     rw [hfk] at c2
     clear hO hm hfk
     generalize S.used.getD k false=u at *
     generalize S.last.getD k 0 / 1024=gn at *
     go_wp2
     go_quiet (fail)
     go_wp2
     go_roundw
     case rel=>exact ⟨k+1,j,by omega,by go_num,rfl,HB.out,(HO.out.alloc _).drewN _⟩
     case measure=>simp [intOf];omega
    ·have hfk':(0:Int) < (f k:Int):=by omega
     have hdd:0 < f k:=by omega
     by_cases hgt:f j < f k
     ·have HB:Hid (Best f (k+1) (k:Int)):=.inr ⟨k,by omega,rfl,by omega,fun i hi=>by by_cases e:i=k;rw [e];exact Nat.le_refl _;have:=hm i (by omega);omega⟩
      have hgt':(f j:Int) < (f k:Int):=by omega
      have hjn:(j:Int) < (S.n:Int):=by omega
      clear hO hm hfk hp
      generalize f k=fk at *
      generalize f j=fj at *
      generalize S.used.getD k false=u at *
      generalize S.last.getD k 0 / 1024=gn at *
      go_wp2
      go_quiet (fail)
      go_wp2
      go_roundw
      case rel=>exact ⟨k+1,k,by omega,by go_num,rfl,HB.out,(HO.out.alloc _).drewN _⟩
      case measure=>simp [intOf];omega
     ·have HB:Hid (Best f (k+1) (j:Int)):=.inr ⟨j,by omega,rfl,hp,fun i hi=>by by_cases e:i=k;rw [e];omega;exact hm i (by omega)⟩
      have hgt':decide ((f j:Int) < (f k:Int))=false:=by simp;omega
      have hjn:(j:Int) < (S.n:Int):=by omega
      clear hO hm hfk hp
      generalize f k=fk at *
      generalize f j=fj at *
      generalize S.used.getD k false=u at *
      generalize S.last.getD k 0 / 1024=gn at *
      go_wp2
      go_quiet (fail)
      go_wp2
      go_roundw
      case rel=>exact ⟨k+1,j,by omega,by go_num,rfl,HB.out,(HO.out.alloc _).drewN _⟩
      case measure=>simp [intOf];omega
  ·have ek:k=S.n:=by omega
   subst ek
   have q0:=hO.cell 0
   have q1:=hO.cell 1
   simp at q0 q1
   have hcl:=hO.lt
   have HO:Hid (Own w0 wr _):=hO
   clear hO
   cases hf:S.freed.getLast? with
   | some j =>
    obtain ⟨hp,hmx,hinj⟩:=HS.out.2.last HS.out.1 hf
    have e:=dropLast_of _ _ hf
    have hjm:j∈S.freed:=by rw [e];simp
    obtain ⟨hu,x,hx,hgx⟩:=HS.out.1.fr j hjm
    have HTK:Hid (S.take=(x+1024,0,S.again j)):=S.take_again hf hx
    have hid:=HS.out.1.id j x hx
    have hjn:j < S.n:=by have:=HS.out.1.lt hjm;have:=HS.out.1.le;omega
    have hb:b=(j:Int):=by
     rcases hB with ⟨_,hz⟩ | ⟨i,hi,hb,_,hm⟩
     ·have:=hz j hjn;omega
     ·have h1:=hm j hjn
      have h2:=hmx i
      rw [hb,hinj i (by omega)]
    subst hb
    have HST:Hid (Stamp (S.again j) (updn f j 0) ck):=HS.out.2.again HS.out.1 hf
    have HON:Hid (flat 3 S.n (one (S.again j) (updn f j 0))=(((flat 3 S.n (one S f)).set (j*3) (.int .i64 ((x / 1024+1:Nat):Int))).set (j*3+1) (.bool true)).set (j*3+2) (.int .i64 0)):=one_again S f j x hx (by rw [HS.out.1.ul];exact HS.out.1.lt hjm)
    have HX:Hid (S.last.getD j 0=x):=getD_some hx
    have c0:wr.cell? ⟨g,j*3,none⟩=some (.int .i64 ((x / 1024:Nat):Int)):=by
     have:=HO.out.two.fcell j 0 hjn (by decide) (j*3) (by omega)
     rw [this];unfold one;rw [if_pos rfl,HX.out]
    have c1:wr.cell? ⟨g,j*3+1,none⟩=some (.bool (S.used.getD j false)):=HO.out.two.fcell j 1 hjn (by decide) _ (by omega)
    have c2:wr.cell? ⟨g,j*3+2,none⟩=some (.int .i64 (f j:Int)):=HO.out.two.fcell j 2 hjn (by decide) _ (by omega)
    have y0:wr.frozen? ⟨g,j*3,none⟩=false:=HO.out.two.ffroz _
    have y1:wr.frozen? ⟨g,j*3+1,none⟩=false:=HO.out.two.ffroz _
    have y2:wr.frozen? ⟨g,j*3+2,none⟩=false:=HO.out.two.ffroz _
    have hjn':(j:Int) < (S.n:Int):=by omega
    obtain ⟨gn,hgn⟩:∃ gn,gn=x / 1024:=⟨_,rfl⟩
    have hg1:1≤gn:=by omega
    have HM:Hid (∀ w',Calls Tryz.prog 162 #[.int .i64 (j:Int),.int .i64 ((gn+1:Nat):Int)] w' fun e w''=>e=.returned (.tuple #[.int .u32 ((x+1024:Nat):Int),.int .i64 0])∧w''=w'):=by
     intro w'
     have:=rmake_yes j (gn+1) w' (by omega) (by omega) (by omega)
     rw [show (gn+1)*1024+j=x+1024 by omega] at this;exact this
    have hne1:(((gn:Int)+1) == 1)=false:=by simp;omega
    have hgm:(gn:Int) < 4194303:=by omega
    rw [← hgn] at c0 HON
    clear hp hmx hinj e hjm hu hx hgx hid hB hf hgn hg1
    go_wp2
    go_loopw [4,7] (fun bv iv wr2=>bv=.int .i64 (j:Int)∧iv=.int .i64 0∧wr2=wr) (fun _ _ _=>0)
    case atStart=>exact ⟨rfl,rfl,rfl⟩
    case round =>
     obtain ⟨rfl,rfl,hw⟩:=hrel
     subst hw
     have hjb:decide ((j:Int) < 0)=false:=by simp
     go_wp2_with (first | (go_at_call 162;refine (HM.out _).mono ?_;rintro e w' ⟨rfl,hw⟩;subst hw))
     go_ret2
     rw [HTK.out]
     refine ⟨rfl,updn f j 0,HST.out,Own.ex_iff.2 ⟨(g,cp),?_⟩⟩
     have k:=((((HO.out.two.setR (j*3) (.int .i64 ((gn:Int)+1))).setR (j*3+1) (.bool true)).setR (j*3+2) (.int .i64 0)).two)
     show Own w0 _ (Cells c #[.int .i64 (S.first:Int),.slice (some ⟨g,0,none⟩) S.n cp,.int .i64 (ck:Int)] 239::Row 255 3 (.slice (some ⟨g,0,none⟩) S.n cp) S.n (flat 3 S.n (one (S.again j) (updn f j 0)))::l)
     rw [HON.out]
     exact k
   | none =>
    have hf':S.freed=[]:=List.getLast?_eq_none_iff.1 hf
    have hz0:=HS.out.2.none hf'
    have hb:b = -1:=by
     rcases hB with ⟨hb,_⟩ | ⟨i,hi,hb,hp,_⟩
     ·exact hb
     ·have:=hz0 i;omega
    subst hb
    have hle:=HS.out.1.le
    obtain ⟨ll,hll⟩:∃ ll,ll=S.last.length:=⟨_,rfl⟩
    have HLL:Hid (ll=S.last.length):=hll
    rw [← hll] at hle
    have HF:Hid (S.freed=[]∧∀ i,f i=0):=⟨hf',hz0⟩
    clear hB hf hf' hz0 hll
    go_wp2
    go_loopw [4,7] (fun bv iv wr2=>wr2=wr∧∃ i:Nat,iv=.int .i64 i∧i≤S.n∧((bv=.int .i64 (-1)∧i≤ll)∨(bv=.int .i64 ll∧i=ll+1))) (fun _ iv _=>S.n - (intOf iv).toNat)
    case atStart=>exact ⟨rfl,0,rfl,Nat.zero_le _,.inl ⟨rfl,Nat.zero_le _⟩⟩
    case round =>
     obtain ⟨hw,i,rfl,hin,hcase⟩:=hrel
     subst hw
     rcases hcase with ⟨rfl,hil⟩ | ⟨rfl,rfl⟩
     ·by_cases hlt:i < S.n
      ·have c0:World.cell? _ ⟨g,i*3,none⟩=some (.int .i64 ((S.last.getD i 0 / 1024:Nat):Int)):=HO.out.two.fcell i 0 hlt (by decide) _ (by omega)
       have hlt':(i:Int) < (S.n:Int):=by omega
       by_cases hi2:i < ll
       ·obtain ⟨x,hx⟩:∃ x,S.last[i]? = some x:=⟨_,List.getElem?_eq_getElem (by rw [← HLL.out];exact hi2)⟩
        have hid:=HS.out.1.id i x hx
        rw [getD_some hx] at c0
        obtain ⟨gn,hgn⟩:∃ gn,gn=x / 1024:=⟨_,rfl⟩
        rw [← hgn] at c0
        have hgz:((gn:Int) == 0)=false:=by simp;omega
        have hgz2:¬ gn=0:=by omega
        clear hx hid hgn
        go_wp2
        go_roundw
        case rel=>exact ⟨by first | rfl | trivial,i+1,by go_num,by omega,.inl ⟨rfl,by omega⟩⟩
        case measure=>simp [intOf];omega
       ·have EI:Hid (i=ll):=by show i=ll;omega
        rw [getD_none (by rw [← HLL.out];omega),Nat.zero_div,Int.natCast_zero] at c0
        go_wp2
        go_roundw
        case rel=>exact ⟨by first | rfl | trivial,i+1,by go_num,by omega,.inr ⟨by rw [EI.out],by rw [EI.out]⟩⟩
        case measure=>simp [intOf];omega
      ·have HTK:Hid (S.take=(0,8,S)):=S.take_full HF.out.1 (by rw [← HLL.out];omega)
       have hd:decide ((i:Int) < (S.n:Int))=false:=by simp;omega
       go_wp2
       go_ret2
       rw [HTK.out]
       exact ⟨rfl,f,HS.out.2,Own.ex_iff.2 ⟨(g,cp),HO.out⟩⟩
     ·have hl:S.last.length < S.n:=by rw [← HLL.out];omega
      have hll:ll < S.n:=by omega
      have HTK:Hid (S.take=(S.first*1024+ll,0,S.more)):=by rw [HLL.out];exact S.take_new HF.out.1 hl
      have HST:Hid (Stamp S.more f ck):=HS.out.2.more HS.out.1 hl
      have hf1:=HS.out.1.f1
      have hf2:(S.first:Int)≤4194303:=by have:=HS.out.1.f2;omega
      have HON:Hid (flat 3 S.n (one S.more f)=(((flat 3 S.n (one S f)).set (ll*3) (.int .i64 (S.first:Int))).set (ll*3+1) (.bool true)).set (ll*3+2) (.int .i64 0)):=by
       rw [HLL.out];exact one_more S f HS.out.1.ul (by omega) (HF.out.2 _)
      have c0:World.cell? _ ⟨g,ll*3,none⟩=some (.int .i64 ((S.last.getD ll 0 / 1024:Nat):Int)):=HO.out.two.fcell ll 0 hll (by decide) _ (by omega)
      rw [getD_none (by rw [← HLL.out];omega),Nat.zero_div,Int.natCast_zero] at c0
      have c1:World.cell? _ ⟨g,ll*3+1,none⟩=some (.bool (S.used.getD ll false)):=HO.out.two.fcell ll 1 hll (by decide) _ (by omega)
      have c2:World.cell? _ ⟨g,ll*3+2,none⟩=some (.int .i64 (f ll:Int)):=HO.out.two.fcell ll 2 hll (by decide) _ (by omega)
      have y0:=HO.out.two.ffroz (ll*3)
      have y1:=HO.out.two.ffroz (ll*3+1)
      have y2:=HO.out.two.ffroz (ll*3+2)
      have hll':(ll:Int) < (S.n:Int):=by omega
      have hlb:decide ((ll:Int) < 0)=false:=by simp
      have HM:Hid (∀ w',Calls Tryz.prog 162 #[.int .i64 (ll:Int),.int .i64 (S.first:Int)] w' fun e w''=>e=.returned (.tuple #[.int .u32 ((S.first*1024+ll:Nat):Int),.int .i64 0])∧w''=w'):=fun w'=>rmake_yes ll S.first w' (by omega) hf1 hf2
      go_wp2_with (first | (go_at_call 162;refine (HM.out _).mono ?_;rintro e w' ⟨rfl,hw⟩;subst hw))
      go_ret2
      rw [HTK.out]
      refine ⟨rfl,f,HST.out,Own.ex_iff.2 ⟨(g,cp),?_⟩⟩
      have k:=((((HO.out.two.setR (ll*3) (.int .i64 (S.first:Int))).setR (ll*3+1) (.bool true)).setR (ll*3+2) (.int .i64 0)).two)
      show Own w0 _ (Cells c #[.int .i64 (S.first:Int),.slice (some ⟨g,0,none⟩) S.n cp,.int .i64 (ck:Int)] 239::Row 255 3 (.slice (some ⟨g,0,none⟩) S.n cp) S.n (flat 3 S.n (one S.more f))::l)
      rw [HON.out]
      exact k
end Go.Proofs.YtogmdoiecpihdaaGreatDoor
