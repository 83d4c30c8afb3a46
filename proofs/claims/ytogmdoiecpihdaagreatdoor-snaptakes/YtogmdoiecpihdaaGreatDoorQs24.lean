/- Age: the loop. -/
import Derived.Test.YtogmdoiecpihdaaGreatDoorQs23
import Derived.Test.YtogmdoiecpihdaaGreatDoorQs11
import Derived.Test.YtogmdoiecpihdaaGreatDoorQs13
namespace Go.Proofs.YtogmdoiecpihdaaGreatDoor
open Go.RowKit Go.Maps
set_option linter.unusedVariables false
set_option maxHeartbeats 4000000
set_option maxRecDepth 100000
theorem life_in {q:Cp} (hk:q.k=2) (h:q.chk=0):0≤q.a∧q.a≤4095:=by
 unfold Cp.chk chk at h
 rw [if_neg (by omega)] at h
 split at h
 ·cases h
 ·split at h
  ·cases h
  ·rename_i ho
   have ho':outside q.k (f3 q.a q.b q.c)=false:=by simpa using ho
   unfold outside at ho'
   rw [List.any_eq_false] at ho'
   have:=ho' 0 (by rw [hk];decide)
   simp only [Bool.or_eq_true,decide_eq_true_iff,not_or,Int.not_lt] at this
   rw [hk] at this
   exact this
theorem age_ok (w0 w:World) (l:List Thing) (b:Nat) (σ:Sto) (K:Nat) (ht:Tab w0) (h:Own w0 w (Store b σ K::l)) (hσ:σ.Ok) (hK:K≤900000) :
  Calls Tryz.prog 49 #[.pointer (some ⟨b,0,none⟩)] w fun e w'=>∃ ao cap,e=.returned (.slice ao (σ.ags (σ.find 4 0)).2.length cap)∧Own w0 w' (Row 38 1 (.slice ao (σ.ags (σ.find 4 0)).2.length cap) (σ.ags (σ.find 4 0)).2.length (irow .u32 (σ.ags (σ.find 4 0)).2)::Store b (σ.ags (σ.find 4 0)).1 (K+(σ.ags (σ.find 4 0)).2.length)::l):=by
 obtain ⟨i0,hi,hz0,hz1,hz2⟩:=info_parts Tryz.infoID2
 have hLV:∀ id∈σ.S.list,σ.S.isLive id=true∧id < 4294967296:=fun id hid=>St.list_iv1 hσ.s hid
 have HW:Hid (Calls _ _ _ _ _):=with_g w0 w l (some ⟨b,0,none⟩) (Store b σ K) _ h 4 0 (iter_store w0 b σ K hσ (by omega) hLV 4 0 (by decide) (by decide) ht) (Sto.find_len hσ.s 4 0)
 have hlen:=Sto.find_len hσ.s 4 0
 have HIN:Hid (∀ id∈σ.find 4 0,σ.S.isLive id=true∧id < 4294967296∧hasK (σ.cps id) 2=true):=by
  intro id hid
  obtain ⟨h1,h2,h3⟩:=mem_find hσ hid
  exact ⟨h1,h2,h3 2 (by decide)⟩
 have HT:Hid (Tab w0):=ht
 have hnd:=find_nodup hσ 4 0
 obtain ⟨X,hX⟩:∃ X,σ.find 4 0=X:=⟨_,rfl⟩
 rw [hX] at HW hlen HIN hnd ⊢
 obtain ⟨M,hM⟩:∃ M:Nat→Sto × List Nat,M=fun j=>σ.ags (X.take j):=⟨_,rfl⟩
 have HM0:Hid (M 0=(σ,[])):=by show _=_;rw [hM];simp [Sto.ags]
 have HMS:Hid (∀ (j id:Nat),X[j]? = some id→M (j+1)=(((M j).1.ag id).2,if ((M j).1.ag id).1 then (M j).2++[id] else (M j).2)):=by
  intro j id hd
  rw [hM]
  simp only
  rw [List.take_add_one,hd]
  exact Sto.ags_snoc σ (X.take j) id
 have HME:Hid (M X.length=σ.ags X):=by show _=_;rw [hM];simp
 have HMI:Hid (∀ (j id:Nat),X[j]? = some id→(M j).1.Ok∧(M j).1.S.isLive id=true∧hasK ((M j).1.cps id) 2=true∧(M j).2.length≤j):=by
  intro j id hd
  obtain ⟨i1,i3,i4⟩:=Sto.ags_inv hσ (X.take j) (hnd.sublist (List.take_sublist _ _)) (fun x hx=>(HIN.out x (List.mem_of_mem_take hx)).1)
  obtain ⟨q1,q2,q3⟩:=HIN.out id (List.mem_of_getElem? hd)
  have hni:id ∉ X.take j:=by
   intro hm
   obtain ⟨i,hi'⟩:=List.mem_iff_getElem?.1 hm
   rw [List.getElem?_take] at hi'
   split at hi'
   ·rename_i hij
    unfold List.Nodup at hnd
    rw [List.pairwise_iff_getElem] at hnd
    obtain ⟨p1,p2⟩:=List.getElem?_eq_some_iff.1 hi'
    obtain ⟨p3,p4⟩:=List.getElem?_eq_some_iff.1 hd
    exact hnd i j p1 p3 hij (by rw [p2,p4])
   ·cases hi'
  obtain ⟨l1,l2⟩:=i3 id q1 hni
  rw [hM]
  exact ⟨i1,l1,by rw [l2];exact q3,Nat.le_trans i4 (by rw [List.length_take];omega)⟩
 rw [← HME.out]
 clear h hX hLV hσ ht hM HME hnd
 generalize hxl:X.length=xl at *
 have HXL:Hid (X.length=xl):=hxl
 clear hxl
 go_enter Tryz.func49,Tryz.ntmps49
 go_wp2_with fail
 refine HW.out.mono ?_
 rintro e w1 ⟨la,lc,rfl,hO1⟩
 have H1:Hid (Own w0 w1 _):=hO1.nilRow 38 1
 clear hO1 HW
 go_wp2
 go_loopw [3,11] (fun v3 v9 wr=>∃ j:Nat,j≤xl∧v9=.int .i64 j∧∃ a1 c1,v3=.slice a1 (M j).2.length c1∧Own w0 wr (Row 38 1 (.slice a1 (M j).2.length c1) (M j).2.length (irow .u32 (M j).2)::Row 38 1 (.slice la xl lc) xl (irow .u32 X)::Store b (M j).1 (K+(M j).2.length)::l)) (fun _ v9 _=>xl - (intOf v9).toNat)
 case atStart=>exact ⟨0,Nat.zero_le _,rfl,none,0,by rw [HM0.out];rfl,by rw [HM0.out];exact H1.out⟩
 case round =>
  obtain ⟨j,hj,rfl,a1,c1,rfl,hO⟩:=hrel
  have HO:Hid (Own w0 wr _):=hO
  clear H1 HM0
  by_cases hlt:j < xl
  ·have hlt':(j:Int) < (xl:Int):=by omega
   obtain ⟨id,hid⟩:∃ id,X[j]? = some id:=⟨_,List.getElem?_eq_getElem (by rw [HXL.out];exact hlt)⟩
   obtain ⟨g,cp,hv,_⟩:=row_shape hO.two.row (by omega)
   have hla:=(Value.slice.inj hv).1
   subst hla
   have e0:wr.cell? ⟨g,j,none⟩=some (.int .u32 (id:Int)):=by
    rw [hO.two.row.cellAt _ (by omega),getElem?_irow,hid];rfl
   obtain ⟨_,h32,_⟩:=HIN.out id (List.mem_of_getElem? hid)
   obtain ⟨i1,i2,i3,i4⟩:=HMI.out j id hid
   have HST:Hid (M (j+1)=(((M j).1.ag id).2,if ((M j).1.ag id).1 then (M j).2++[id] else (M j).2)):=HMS.out j id hid
   obtain ⟨gk,gc⟩:=gv_of i1 i2 i3
   obtain ⟨ga1,ga2⟩:=life_in gk gc
   have HG:Hid (Calls _ _ _ _ _):=sgetC w0 wr _ b (M j).1 _ hO.three i1 id h32 i2 2 (by decide)
   rw [i3] at HG
   have HAG:Hid ((M j).1.ag id=if ((M j).1.gv id 2).a=0 then (true,((M j).1.despawn id).2) else (false,((M j).1.set id ⟨2,((M j).1.gv id 2).a - 1,((M j).1.gv id 2).b,((M j).1.gv id 2).c⟩).2)):=rfl
   have HDS:Hid (∀ w' l',Own w0 w' (Store b (M j).1 (K+(M j).2.length)::l')→Calls Tryz.prog 98 #[.pointer (some ⟨b,0,none⟩),.int .u32 (id:Int)] w' fun e w''=>∃ r,e=.returned (.int .i64 r)∧Own w0 w'' (Store b ((M j).1.despawn id).2 (K+(M j).2.length+1)::l')):=fun w' l' h'=>by
    refine (despawnC w0 w' l' b (M j).1 _ h' i1 id h32 (by omega)).mono ?_
    rintro e w'' ⟨rfl,h2⟩
    exact ⟨_,rfl,h2⟩
   have HSE:Hid (∀ w' l' (c:Cp),c.k=2→Own w0 w' (Store b (M j).1 (K+(M j).2.length)::l')→Calls Tryz.prog 99 #[.pointer (some ⟨b,0,none⟩),.int .u32 (id:Int),c.ag] w' fun e w''=>∃ r,e=.returned (.int .i64 r)∧Own w0 w'' (Store b ((M j).1.set id c).2 (K+(M j).2.length)::l')):=fun w' l' c hc h'=>by
    refine (setC0 w0 w' l' b (M j).1 _ HT.out h' i1 id h32 c (by omega) (by omega)).mono ?_
    rintro e w'' ⟨rfl,h2⟩
    exact ⟨_,rfl,h2⟩
   rw [HAG.out] at HST
   clear hO hid hv i1 i2 i3 HAG gc
   generalize (M j).1.gv id 2=q at *
   generalize hds:(M j).1.despawn id=ds at *
   clear hds
   have HSE2:Hid (∀ w' l',Own w0 w' (Store b (M j).1 (K+(M j).2.length)::l')→Calls Tryz.prog 99 #[.pointer (some ⟨b,0,none⟩),.int .u32 (id:Int),(⟨2,q.a - 1,q.b,q.c⟩:Cp).ag] w' fun e w''=>∃ r,e=.returned (.int .i64 r)∧Own w0 w'' (Store b ((M j).1.set id ⟨2,q.a - 1,q.b,q.c⟩).2 (K+(M j).2.length)::l')):=fun w' l' h'=>HSE.out w' l' _ rfl h'
   clear HSE
   generalize hse:(M j).1.set id ⟨2,q.a - 1,q.b,q.c⟩=se at *
   clear hse
   generalize (M j).1=sj at *
   generalize (M j).2=Lj at *
   generalize hll:Lj.length=ll at *
   have HLL:Hid (Lj.length=ll):=hll
   clear hll
   obtain ⟨qk,qa,qb,qc⟩:=q
   simp only [Cp.ag] at HG HSE2 HST ga1 ga2 gk
   subst gk
   go_wp2_with fail
   refine HG.out.mono ?_
   rintro e w2 ⟨rfl,hO2⟩
   have hO3:=hO2.allocC #[.int .u8 2,.int .i32 qa,.int .i32 qb,.int .i32 qc] 46
   by_cases hq0:qa=0
   ·subst hq0
    rw [if_pos rfl] at HST
    simp only [if_true] at HST
    have HD:Hid (Calls _ _ _ _ _):=HDS.out _ _ hO3.two
    clear hO2 hO3 HG HDS HSE2 HO
    go_wp2_with fail
    refine HD.out.mono ?_
    rintro e w3 ⟨r3,rfl,hO4⟩
    have H4:Hid (Own w0 w3 _):=hO4.two.tail.two
    clear hO4 HD
    go_wp2_with (at_builtin;refine append1_own rfl _ _ 55 rfl 38 i0 (.int .u32 0) 1 4 Tryz.underlying55 hi hz0 hz1 hz2 rfl (by decide) _ _ _ rfl H4.out _ _ (by simp) rfl rfl (one_int _ _) (by unfold maxLen;omega) (by omega) ?_)
    intro g6 c6 w6 hO6 hsz6
    have H7:Hid (Own w0 w6 (Row 38 1 (.slice (some ⟨g6,0,none⟩) (ll+1) c6) (ll+1) (irow .u32 (M (j+1)).2)::Row 38 1 (.slice (some ⟨g,0,none⟩) xl lc) xl (irow .u32 X)::Store b (M (j+1)).1 (K+(ll+1))::l)):=by
     show Own _ _ _
     rw [HST.out,← Nat.add_assoc]
     simpa [irow] using hO6.in23
    have HRL2:Hid ((M (j+1)).2.length=ll+1):=by show _=_;rw [HST.out,List.length_append,HLL.out];rfl
    clear hO6 hsz6 H4
    go_wp2
    go_roundw
    case rel=>exact ⟨j+1,by omega,by go_num,_,_,by rw [HRL2.out],by rw [HRL2.out];exact H7.out⟩
    case measure=>simp [intOf];omega
   ·rw [if_neg hq0] at HST
    simp only [Bool.false_eq_true,if_false] at HST
    have hne:(qa == 0)=false:=by simpa using hq0
    have hO4:=hO2.allocC #[.int .u8 2,.int .i32 (qa - 1),.int .i32 qb,.int .i32 qc] 46
    have HS:Hid (Calls _ _ _ _ _):=HSE2.out _ _ hO4.two
    clear hO2 hO3 HG HDS HSE2 HO hO4
    go_wp2_with fail
    refine HS.out.mono ?_
    rintro e w3 ⟨r3,rfl,hO5⟩
    have H5:Hid (Own w0 w3 _):=hO5.two.tail
    clear hO5 HS
    go_wp2
    go_roundw
    case rel=>exact ⟨j+1,by omega,by go_num,a1,c1,by rw [HST.out,HLL.out],by rw [HST.out,HLL.out];exact H5.out.back3⟩
    case measure=>simp [intOf];omega
  ·have hlt':¬ (j:Int) < (xl:Int):=by omega
   have hjn:j=xl:=by omega
   subst hjn
   clear hO
   go_wp2
   go_ret
   exact ⟨a1,c1,rfl,HO.out.two.tail⟩
def chl (s:Int) (at_:Cp) (odd:Bool):List Cp:=[at_,⟨1,if odd then -(64*(s+1)) else 64*(s+1),32*(s+1),0⟩,⟨2,30+10*s,0,0⟩,⟨3,s,100,1+s⟩]
theorem cs16 {w0 w:World} {l:List Thing} {B:Nat} {cs:Array Value} {t:TypeId} (h:Own w0 w (Cells B cs t::l)) (C:List Cp) (hX:∀ (j:Nat) q,C[j]? = some q→cs[j*4]? = some (.int .u8 (q.k:Int))∧cs[j*4+1]? = some (.int .i32 q.a)∧cs[j*4+2]? = some (.int .i32 q.b)∧cs[j*4+3]? = some (.int .i32 q.c)):Cs w (some ⟨B,0,none⟩) C:=by
 refine .inr ⟨B,0,rfl,fun j q hq=>?_⟩
 obtain ⟨h0,h1,h2,h3⟩:=hX j q hq
 rw [Nat.zero_add]
 exact ⟨by rw [h.cell,h0],by rw [h.cell,h1],by rw [h.cell,h2],by rw [h.cell,h3]⟩
def c16 (k a b c dx s:Int):Array Value:=#[.int .u8 k,.int .i32 a,.int .i32 b,.int .i32 c,.int .u8 1,.int .i32 dx,.int .i32 (32*(s+1)),.int .i32 0,.int .u8 2,.int .i32 (30+10*s),.int .i32 0,.int .i32 0,.int .u8 3,.int .i32 s,.int .i32 100,.int .i32 (1+s)]
theorem c16_at {w0 w:World} {l:List Thing} {B:Nat} {t:TypeId} {k:Nat} {a b c s:Int} {odd:Bool} (h:Own w0 w (Cells B (c16 (k:Int) a b c (if odd then -(64*(s+1)) else 64*(s+1)) s) t::l)):Cs w (some ⟨B,0,none⟩) (chl s ⟨k,a,b,c⟩ odd):=by
 refine cs16 h _ (fun j q hq=>?_)
 match j,hq with
 | 0,hq=>cases hq;exact ⟨rfl,rfl,rfl,rfl⟩
 | 1,hq=>cases hq;exact ⟨rfl,rfl,rfl,rfl⟩
 | 2,hq=>cases hq;exact ⟨rfl,rfl,rfl,rfl⟩
 | 3,hq=>cases hq;exact ⟨rfl,rfl,rfl,rfl⟩
 | n+4,hq=>simp [chl] at hq
theorem child_ok (w0 w:World) (l:List Thing) (h:Own w0 w l) (kc:Nat) (ce cl:Int) (s:Int) (h0:0≤s) (h1:s < 16) (k:Nat) (a b c:Int) (odd:Bool) :
  Calls Tryz.prog 159 #[.agg #[.int .u8 (kc:Int),.int .i32 ce,.int .i32 cl,.int .i32 s],.agg #[.int .u8 (k:Int),.int .i32 a,.int .i32 b,.int .i32 c],.bool odd] w fun e w'=>∃ g,e=.returned (.slice (some ⟨g,0,none⟩) 4 4)∧Own w0 w' (Cells g (c16 (k:Int) a b c (if odd then -(64*(s+1)) else 64*(s+1)) s) 46::l):=by
 have H:=((h.allocC #[.int .u8 (kc:Int),.int .i32 ce,.int .i32 cl,.int .i32 s] 46).allocC #[.int .u8 (k:Int),.int .i32 a,.int .i32 b,.int .i32 c] 46).allocC (c16 (k:Int) a b c (if odd then -(64*(s+1)) else 64*(s+1)) s) 46
 simp only [World.size_alloc] at H
 have HH:Hid (Own w0 _ _):=H
 clear H h
 cases odd with
 | true =>
  simp only [if_true] at HH ⊢
  unfold c16 at HH
  go_enter Tryz.func159,Tryz.ntmps159
  go_wp2
  go_ret
  exact ⟨_,rfl,HH.out.two.tail.two.tail⟩
 | false =>
  simp only [Bool.false_eq_true,if_false] at HH ⊢
  unfold c16 at HH
  go_enter Tryz.func159,Tryz.ntmps159
  go_wp2
  go_ret
  exact ⟨_,rfl,HH.out.two.tail.two.tail⟩
theorem rchild_ok (w0 w:World) (l:List Thing) (h:Own w0 w l) (s:Int) (h0:0≤s) (h1:s < 16) (k:Nat) (a b c:Int) (odd:Bool) :
  Calls Tryz.prog 116 #[.int .i32 s,.agg #[.int .u8 (k:Int),.int .i32 a,.int .i32 b,.int .i32 c],.bool odd] w fun e w'=>∃ g,e=.returned (.slice (some ⟨g,0,none⟩) 4 4)∧Own w0 w' (Cells g (c16 (k:Int) a b c (if odd then -(64*(s+1)) else 64*(s+1)) s) 46::l):=by
 have H:=((h).allocC #[.int .u8 (k:Int),.int .i32 a,.int .i32 b,.int .i32 c] 46).allocC (c16 (k:Int) a b c (if odd then -(64*(s+1)) else 64*(s+1)) s) 46
 simp only [World.size_alloc] at H
 have HH:Hid (Own w0 _ _):=H
 clear H h
 cases odd with
 | true =>
  simp only [if_true] at HH ⊢
  unfold c16 at HH
  go_enter Tryz.func116,Tryz.ntmps116
  go_wp2
  go_ret
  exact ⟨_,rfl,HH.out.two.tail⟩
 | false =>
  simp only [Bool.false_eq_true,if_false] at HH ⊢
  unfold c16 at HH
  go_enter Tryz.func116,Tryz.ntmps116
  go_wp2
  go_ret
  exact ⟨_,rfl,HH.out.two.tail⟩
theorem Sto.spawn_bad {σ:Sto} {C:List Cp} (h:(σ.spawn C).2.1≠0):(σ.spawn C).2.2=σ:=by
 unfold Sto.spawn at h ⊢
 split
 ·rfl
 ·rename_i h0
  rw [if_neg h0] at h
  split
  ·rfl
  ·rename_i h1
   rw [if_neg h1] at h
   exact (h rfl).elim
theorem Sto.spawn_live {σ:Sto} (h:σ.Ok) {C:List Cp} {x:Nat} (hx:σ.S.isLive x=true):(σ.spawn C).2.2.S.isLive x=true∧(σ.spawn C).2.2.cps x=σ.cps x:=by
 by_cases hb:(σ.spawn C).2.1=0
 ·have hok:=Sto.spawn_ok h C
  have e:∃ m L,(σ.spawn C).2.2.T=upd σ.T m (σ.T m++L)∧(σ.spawn C).2.2.S=σ.S.take.2.2∧σ.S.take.2.1=0:=by
   unfold Sto.spawn at hb ⊢
   split
   ·rename_i h0
    rw [if_pos h0] at hb
    exact (h0 (by simpa using hb)).elim
   ·rename_i h0
    rw [if_neg h0] at hb
    split
    ·rename_i h1
     rw [if_pos h1] at hb
     exact (h1 hb).elim
    ·rename_i h1
     exact ⟨msk C,_,rfl,rfl,by simpa using h1⟩
  obtain ⟨m,L,hT,hS,h1⟩:=e
  refine ⟨by rw [hS,(St.take_live h.s h1).2,hx];simp,?_⟩
  obtain ⟨h64,hm⟩:=Sto.mem_cps h hx
  refine Sto.cps_mem hok h64 ?_
  rw [hT]
  by_cases hk:σ.hom x=m
  ·rw [hk,upd_same]
   rw [hk] at hm
   exact List.mem_append_left _ hm
  ·rw [upd_other _ _ _ hk]
   exact hm
 ·rw [Sto.spawn_bad hb]
  exact ⟨hx,rfl⟩
def Sto.br (σ:Sto) (id:Nat):Option Nat × Sto :=
 if (σ.gv id 5).b=0 then
  if (σ.spawn (chl (σ.gv id 5).c (σ.gv id 0) (decide (id % 1024 % 2=1)))).2.1=0 then
   (some (σ.spawn (chl (σ.gv id 5).c (σ.gv id 0) (decide (id % 1024 % 2=1)))).1,((σ.spawn (chl (σ.gv id 5).c (σ.gv id 0) (decide (id % 1024 % 2=1)))).2.2.set id ⟨5,(σ.gv id 5).a,(σ.gv id 5).a - 1,(σ.gv id 5).c⟩).2)
  else (none,σ)
 else (none,(σ.set id ⟨5,(σ.gv id 5).a,(σ.gv id 5).b - 1,(σ.gv id 5).c⟩).2)
theorem Sto.br_ok {σ:Sto} (h:σ.Ok) (id:Nat):(σ.br id).2.Ok:=by
 unfold Sto.br
 split
 ·split
  ·exact Sto.set_ok (Sto.spawn_ok h _) _ _
  ·exact h
 ·exact Sto.set_ok h _ _
theorem Sto.br_live {σ:Sto} (h:σ.Ok) {id x:Nat} (hx:σ.S.isLive x=true):(σ.br id).2.S.isLive x=true∧∀ k,hasK ((σ.br id).2.cps x) k=hasK (σ.cps x) k:=by
 unfold Sto.br
 split
 ·split
  ·obtain ⟨h1,h2⟩:=Sto.spawn_live h (C:=chl (σ.gv id 5).c (σ.gv id 0) (decide (id % 1024 % 2=1))) hx
   exact ⟨by rw [Sto.set_S];exact h1,fun k=>by rw [Sto.set_has (Sto.spawn_ok h _) _ _ h1 k,h2]⟩
  ·exact ⟨hx,fun _=>rfl⟩
 ·exact ⟨by rw [Sto.set_S];exact hx,fun k=>Sto.set_has h _ _ hx k⟩
def Sto.brs (σ:Sto) (L:List Nat):Sto × List Nat:=L.foldl (fun p id=>((p.1.br id).2,p.2++(p.1.br id).1.toList)) (σ,[])
theorem Sto.brs_snoc (σ:Sto) (L:List Nat) (id:Nat):σ.brs (L++[id])=(((σ.brs L).1.br id).2,(σ.brs L).2++((σ.brs L).1.br id).1.toList):=by
 unfold Sto.brs
 rw [List.foldl_append]
 rfl
theorem Sto.brs_inv {σ:Sto} (h:σ.Ok) (L:List Nat):(σ.brs L).1.Ok∧(∀ x,σ.S.isLive x=true→(σ.brs L).1.S.isLive x=true∧∀ k,hasK ((σ.brs L).1.cps x) k=hasK (σ.cps x) k)∧(σ.brs L).2.length≤L.length:=by
 refine snoc_ind (P:=fun L=>(σ.brs L).1.Ok∧(∀ x,σ.S.isLive x=true→(σ.brs L).1.S.isLive x=true∧∀ k,hasK ((σ.brs L).1.cps x) k=hasK (σ.cps x) k)∧(σ.brs L).2.length≤L.length) ⟨h,fun x hx=>⟨hx,fun _=>rfl⟩,Nat.le_refl _⟩ ?_ L
 rintro L id ⟨i1,i3,i4⟩
 rw [Sto.brs_snoc]
 refine ⟨Sto.br_ok i1 id,fun x hx=>?_,?_⟩
 ·obtain ⟨m1,m2⟩:=i3 x hx
  obtain ⟨n1,n2⟩:=Sto.br_live i1 (id:=id) m1
  exact ⟨n1,fun k=>by rw [n2 k,m2 k]⟩
 ·simp only [List.length_append,List.length_singleton]
  have:((σ.brs L).1.br id).1.toList.length≤1:=by cases ((σ.brs L).1.br id).1 <;> simp
  omega
theorem spawn_in {q:Cp} (hk:q.k=5) (h:q.chk=0):(1≤q.a∧q.a≤255)∧(0≤q.b∧q.b≤254)∧0≤q.c∧q.c≤15:=by
 unfold Cp.chk chk at h
 rw [if_neg (by omega)] at h
 split at h
 ·cases h
 ·split at h
  ·cases h
  ·rename_i ho
   have ho':outside q.k (f3 q.a q.b q.c)=false:=by simpa using ho
   unfold outside at ho'
   rw [List.any_eq_false] at ho'
   have h0:=ho' 0 (by rw [hk];decide)
   have h1:=ho' 1 (by rw [hk];decide)
   have h2:=ho' 2 (by rw [hk];decide)
   simp only [Bool.or_eq_true,decide_eq_true_iff,not_or,Int.not_lt] at h0 h1 h2
   rw [hk] at h0 h1 h2
   exact ⟨h0,h1,h2⟩
end Go.Proofs.YtogmdoiecpihdaaGreatDoor
