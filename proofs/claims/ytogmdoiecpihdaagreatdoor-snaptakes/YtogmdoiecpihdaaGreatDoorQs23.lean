/- What moves: one entity, and all. -/
import Derived.Test.YtogmdoiecpihdaaGreatDoorQs22
import Derived.Test.YtogmdoiecpihdaaGreatDoorQs21
import Derived.Deep.RegionWith
import Derived.Test.YtogmdoiecpihdaaGreatDoorQs17
import Derived.Test.YtogmdoiecpihdaaGreatDoorQs18
import Derived.Test.YtogmdoiecpihdaaGreatDoorQs15
namespace Go.Proofs.YtogmdoiecpihdaaGreatDoor
open Go.RowKit Go.Maps
set_option linter.unusedVariables false
set_option maxHeartbeats 4000000
set_option maxRecDepth 100000
theorem gv_of {σ:Sto} (hσ:σ.Ok) {id k:Nat} (hl:σ.S.isLive id=true) (hh:hasK (σ.cps id) k=true):(σ.gv id k).k=k∧(σ.gv id k).chk=0:=by
 obtain ⟨r,C,hr,he,hlC,_⟩:=hσ.ent hl
 have hc:=Sto.cps_of hr he
 rw [hc] at hh
 obtain ⟨q,hq,hqk⟩:=(hasK_iff C k).1 hh
 have e:σ.gv id k=q:=by
  unfold Sto.gv
  rw [hc,if_pos hh,← hqk,fv_of hlC hq]
  rfl
 rw [e]
 exact ⟨hqk,(lst_ok hlC).2 q hq |>.2⟩
def mvP (p v:Cp):Cp:=⟨0,(gl1 p.a v.a).1,(gl1 p.b v.b).1,p.c⟩
def mvV (p v:Cp):Cp:=⟨1,(gl1 p.a v.a).2,(gl1 p.b v.b).2,v.c⟩
def Sto.mv (σ:Sto) (id:Nat):Bool × Sto :=
 (!(((gl1 (σ.gv id 0).a (σ.gv id 1).a).1 == (σ.gv id 0).a) && ((gl1 (σ.gv id 0).b (σ.gv id 1).b).1 == (σ.gv id 0).b)),((σ.set id (mvP (σ.gv id 0) (σ.gv id 1))).2.set id (mvV (σ.gv id 0) (σ.gv id 1))).2)
theorem Sto.mv_ok {σ:Sto} (h:σ.Ok) (id:Nat):(σ.mv id).2.Ok:=Sto.set_ok (Sto.set_ok h _ _) _ _
theorem move1_ok (w0 w:World) (l:List Thing) (b:Nat) (σ:Sto) (K:Nat) (ht:Tab w0) (h:Own w0 w (Store b σ K::l)) (hσ:σ.Ok) (hK:K < 1000000) (id:Nat) (hid:id < 4294967296) (hl:σ.S.isLive id=true) (h0:hasK (σ.cps id) 0=true) (h1:hasK (σ.cps id) 1=true) :
  Calls Tryz.prog 96 #[.pointer (some ⟨b,0,none⟩),.int .u32 (id:Int)] w fun e w'=>e=.returned (.bool (σ.mv id).1)∧Own w0 w' (Store b (σ.mv id).2 K::l):=by
 have HG0:Hid (Calls _ _ _ _ _):=sgetC w0 w l b σ K h hσ id hid hl 0 (by decide)
 have HG1:Hid (∀ w' l',Own w0 w' (Store b σ K::l')→Calls Tryz.prog 97 #[.pointer (some ⟨b,0,none⟩),.int .u32 (id:Int),.int .u8 1] w' fun e w''=>e=.returned (.tuple #[(σ.gv id 1).ag,.int .i64 (if hasK (σ.cps id) 1 then 0 else 10)])∧Own w0 w'' (Store b σ K::l')):=fun w' l' h'=>sgetC w0 w' l' b σ K h' hσ id hid hl 1 (by decide)
 rw [h0] at HG0
 rw [h1] at HG1
 obtain ⟨k0,c0⟩:=gv_of hσ hl h0
 obtain ⟨k1,c1⟩:=gv_of hσ hl h1
 have HMV:Hid (σ.mv id=(!(((gl1 (σ.gv id 0).a (σ.gv id 1).a).1 == (σ.gv id 0).a) && ((gl1 (σ.gv id 0).b (σ.gv id 1).b).1 == (σ.gv id 0).b)),((σ.set id (mvP (σ.gv id 0) (σ.gv id 1))).2.set id (mvV (σ.gv id 0) (σ.gv id 1))).2)):=rfl
 generalize σ.gv id 0=P at *
 generalize σ.gv id 1=V at *
 obtain ⟨pk,pa,pb,pc⟩:=P
 obtain ⟨vk,va,vb,vc⟩:=V
 simp only at k0 k1 HMV
 subst k0 k1
 obtain ⟨p1,p2,p3,p4,p5⟩:=chk_pv (.inl rfl) c0
 obtain ⟨v1,v2,v3,v4,v5⟩:=chk_pv (.inr rfl) c1
 simp [lo,hi,fld,kinds] at p1 p2 p3 p4 v1 v2 v3 v4
 subst p5 v5
 have HGA:Hid (∀ w',Calls Tryz.prog 151 #[.int .i32 pa,.int .i32 va] w' fun e w''=>e=.returned (.tuple #[.int .i32 (gl1 pa va).1,.int .i32 (gl1 pa va).2])∧w''=w'):=fun w'=>glide_in w' pa va ⟨by omega,by omega⟩ ⟨by omega,by omega⟩
 have HGB:Hid (∀ w',Calls Tryz.prog 151 #[.int .i32 pb,.int .i32 vb] w' fun e w''=>e=.returned (.tuple #[.int .i32 (gl1 pb vb).1,.int .i32 (gl1 pb vb).2])∧w''=w'):=fun w'=>glide_in w' pb vb ⟨by omega,by omega⟩ ⟨by omega,by omega⟩
 have HS1:Hid (∀ w' l',Own w0 w' (Store b σ K::l')→Calls Tryz.prog 99 #[.pointer (some ⟨b,0,none⟩),.int .u32 (id:Int),.agg #[.int .u8 0,.int .i32 (gl1 pa va).1,.int .i32 (gl1 pb vb).1,.int .i32 0]] w' fun e w''=>e=.returned (.int .i64 (σ.set id (mvP ⟨0,pa,pb,0⟩ ⟨1,va,vb,0⟩)).1)∧Own w0 w'' (Store b (σ.set id (mvP ⟨0,pa,pb,0⟩ ⟨1,va,vb,0⟩)).2 K::l')):=fun w' l' h'=>setC0 w0 w' l' b σ K ht h' hσ id hid (mvP ⟨0,pa,pb,0⟩ ⟨1,va,vb,0⟩) (show 0 < 256 by decide) hK
 have HS2:Hid (∀ w' l',Own w0 w' (Store b (σ.set id (mvP ⟨0,pa,pb,0⟩ ⟨1,va,vb,0⟩)).2 K::l')→Calls Tryz.prog 99 #[.pointer (some ⟨b,0,none⟩),.int .u32 (id:Int),.agg #[.int .u8 1,.int .i32 (gl1 pa va).2,.int .i32 (gl1 pb vb).2,.int .i32 0]] w' fun e w''=>e=.returned (.int .i64 ((σ.set id (mvP ⟨0,pa,pb,0⟩ ⟨1,va,vb,0⟩)).2.set id (mvV ⟨0,pa,pb,0⟩ ⟨1,va,vb,0⟩)).1)∧Own w0 w'' (Store b ((σ.set id (mvP ⟨0,pa,pb,0⟩ ⟨1,va,vb,0⟩)).2.set id (mvV ⟨0,pa,pb,0⟩ ⟨1,va,vb,0⟩)).2 K::l')):=fun w' l' h'=>setC0 w0 w' l' b _ K ht h' (Sto.set_ok hσ _ _) id hid (mvV ⟨0,pa,pb,0⟩ ⟨1,va,vb,0⟩) (show 1 < 256 by decide) hK
 have eqa:=eq_a3 9997
 rw [HMV.out]
 clear h hσ hl h0 h1 c0 c1 HMV ht
 generalize σ.set id (mvP ⟨0,pa,pb,0⟩ ⟨1,va,vb,0⟩)=s1 at *
 generalize s1.2.set id (mvV ⟨0,pa,pb,0⟩ ⟨1,va,vb,0⟩)=s2 at *
 generalize gl1 pa va=ga at *
 generalize gl1 pb vb=gb at *
 obtain ⟨ga1,ga2⟩:=ga
 obtain ⟨gb1,gb2⟩:=gb
 simp only at HGA HGB HS1 HS2 ⊢
 simp only [Cp.ag] at HG0 HG1
 go_enter Tryz.func96,Tryz.ntmps96
 go_wp2_with fail
 refine HG0.out.mono ?_
 rintro e w1 ⟨rfl,hO1⟩
 have HG2:Hid (Calls _ _ _ _ _):=HG1.out _ _ (hO1.allocC #[.int .u8 0,.int .i32 pa,.int .i32 pb,.int .i32 0] 46).two
 clear hO1 HG0 HG1
 go_wp2_with fail
 refine HG2.out.mono ?_
 rintro e w2 ⟨rfl,hO2⟩
 have hB:=hO2.allocC #[.int .u8 1,.int .i32 va,.int .i32 vb,.int .i32 0] 46
 have hC:=(hB.allocC #[.int .u8 0,.int .i32 pa,.int .i32 pb,.int .i32 0] 46)
 simp only [World.size_alloc] at hC
 have x0:=hB.three.cell 0
 have x1:=hB.three.cell 1
 have x2:=hB.three.cell 2
 have x3:=hB.three.cell 3
 simp at x0 x1 x2 x3
 have hne1:w1.heap.size < w2.heap.size:=hO2.two.lt
 have HC:Hid (Own w0 _ (Cells (w2.heap.size+1) #[.int .u8 0,.int .i32 pa,.int .i32 pb,.int .i32 0] 46::Cells w2.heap.size #[.int .u8 1,.int .i32 va,.int .i32 vb,.int .i32 0] 46::Cells w1.heap.size #[.int .u8 0,.int .i32 pa,.int .i32 pb,.int .i32 0] 46::Store b σ K::l)):=hC.four.back4 |> fun h=>(hC.perm ((List.Perm.swap _ _ _).cons _ |>.cons _))
 clear hO2 hB hC HG2
 go_wp2
 go_loopw [24] (fun v24 wr=>(v24=.int .i64 0∧Own w0 wr (Cells (w2.heap.size+1) #[.int .u8 0,.int .i32 pa,.int .i32 pb,.int .i32 0] 46::Cells w2.heap.size #[.int .u8 1,.int .i32 va,.int .i32 vb,.int .i32 0] 46::Cells w1.heap.size #[.int .u8 0,.int .i32 pa,.int .i32 pb,.int .i32 0] 46::Store b σ K::l))∨(v24=.int .i64 1∧Own w0 wr (Cells (w2.heap.size+1) #[.int .u8 0,.int .i32 ga1,.int .i32 pb,.int .i32 0] 46::Cells w2.heap.size #[.int .u8 1,.int .i32 ga2,.int .i32 vb,.int .i32 0] 46::Cells w1.heap.size #[.int .u8 0,.int .i32 pa,.int .i32 pb,.int .i32 0] 46::Store b σ K::l))∨(v24=.int .i64 2∧Own w0 wr (Cells (w2.heap.size+1) #[.int .u8 0,.int .i32 ga1,.int .i32 gb1,.int .i32 0] 46::Cells w2.heap.size #[.int .u8 1,.int .i32 ga2,.int .i32 gb2,.int .i32 0] 46::Cells w1.heap.size #[.int .u8 0,.int .i32 pa,.int .i32 pb,.int .i32 0] 46::Store b σ K::l))) (fun v24 _=>2 - (intOf v24).toNat)
 case atStart=>exact .inl ⟨rfl,HC.out⟩
 case round =>
  clear HC x0 x1 x2 x3
  rcases hrel with ⟨rfl,hO⟩ | ⟨rfl,hO⟩ | ⟨rfl,hO⟩
  ·have x1:=hO.three.cell 1
   have y1:=hO.two.cell 1
   have y2:=hO.two.froz 1
   have z1:=hO.cell 1
   have z2:=hO.froz 1
   simp at x1 y1 z1
   have HO:Hid (Own w0 wr _):=hO
   clear hO
   go_wp2
   go_region_with (go_at_call 151;refine (HGA.out _).mono ?_;rintro e w' ⟨rfl,rfl⟩)
   all_goals
    have H2:Hid (Own w0 _ _):=((HO.out.setC 1 (.int .i32 ga1)).two.setC 1 (.int .i32 ga2)).two.drew
    go_wp2
    go_roundw
    case rel=>exact .inr (.inl ⟨rfl,H2.out⟩)
    case measure=>simp [intOf]
  ·have x1:=hO.three.cell 2
   have y1:=hO.two.cell 2
   have y2:=hO.two.froz 2
   have z1:=hO.cell 2
   have z2:=hO.froz 2
   simp at x1 y1 z1
   have HO:Hid (Own w0 wr _):=hO
   clear hO
   go_wp2
   go_region_with (go_at_call 151;refine (HGB.out _).mono ?_;rintro e w' ⟨rfl,rfl⟩)
   all_goals
    have H2:Hid (Own w0 _ _):=((HO.out.setC 2 (.int .i32 gb1)).two.setC 2 (.int .i32 gb2)).two.drew
    go_wp2
    go_roundw
    case rel=>exact .inr (.inr ⟨rfl,H2.out⟩)
    case measure=>simp [intOf]
  ·have z0:=hO.cell 0
   have z1:=hO.cell 1
   have z2:=hO.cell 2
   have z3:=hO.cell 3
   simp at z0 z1 z2 z3
   have HA1:Hid (Calls _ _ _ _ _):=HS1.out _ _ (Own.four hO)
   clear hO HS1 HGA HGB
   go_wp2_with fail
   refine HA1.out.mono ?_
   rintro e w5 ⟨rfl,hO5⟩
   have y0:=hO5.three.cell 0
   have y1:=hO5.three.cell 1
   have y2:=hO5.three.cell 2
   have y3:=hO5.three.cell 3
   simp at y0 y1 y2 y3
   have HA2:Hid (Calls _ _ _ _ _):=HS2.out _ _ hO5
   clear hO5 HS2 HA1 z0 z1 z2 z3
   go_wp2_with fail
   refine HA2.out.mono ?_
   rintro e w6 ⟨rfl,hO6⟩
   have z0:=hO6.two.cell 0
   have z1:=hO6.two.cell 1
   have z2:=hO6.two.cell 2
   have z3:=hO6.two.cell 3
   have t0:=hO6.four.cell 0
   have t1:=hO6.four.cell 1
   have t2:=hO6.four.cell 2
   have t3:=hO6.four.cell 3
   simp at z0 z1 z2 z3 t0 t1 t2 t3
   have H6:Hid (Own w0 w6 _):=hO6
   clear hO6 HA2 y0 y1 y2 y3
   have hpp:∀ (x y:Bool),x=y→Ending.returned (Value.bool x)=Ending.returned (Value.bool y):=fun x y h=>by rw [h]
   have HPP:Hid _:=hpp
   clear hpp
   go_wp2
   all_goals
    rename_i hc
    go_ret
    refine ⟨HPP.out _ _ ?_,H6.out.two.tail.two.tail.two.tail⟩
    clear HPP H6
    by_cases e1:ga1=pa <;> by_cases e2:gb1=pb <;> simp_all
theorem hasK_tb1 {C:List Cp} (hC:∀ q∈C,q.k < 6) (k:Nat):hasK C k=(msk C).testBit k:=by
 rw [Nat.testBit_eq_decide_div_mod_eq]
 by_cases h6:k < 6
 ·exact (bt_msk C k h6).symm
 ·have h1:hasK C k=false:=by
   cases hh:hasK C k with
   | false=>rfl
   | true =>
    obtain ⟨q,hq,e⟩:=(hasK_iff _ _).1 hh
    have:=hC q hq
    omega
  have h2:decide (msk C / 2 ^ k % 2=1)=false:=by
   rw [← Nat.testBit_eq_decide_div_mod_eq]
   refine Nat.testBit_lt_two_pow (Nat.lt_of_lt_of_le (msk_lt C) ?_)
   have:=Nat.pow_le_pow_right (show 0 < 2 by decide) (show 6≤k by omega)
   simpa using this
  rw [h1,h2]
theorem pick_mm1:∀ (l:List Nat) (m:List Bool) (x:Nat),x∈pick l m→∃ i:Nat,l[i]? = some x∧m[i]? = some true
 | [],m,x,h=>by simp [pick] at h
 | a::l,[],x,h=>by simp [pick] at h
 | a::l,u::m,x,h=>by
  unfold pick at h
  split at h
  ·rename_i hu
   rcases List.mem_cons.1 h with rfl | h
   ·exact ⟨0,rfl,by simp [hu]⟩
   ·obtain ⟨i,h1,h2⟩:=pick_mm1 l m x h
    exact ⟨i+1,by simpa using h1,by simpa using h2⟩
  ·obtain ⟨i,h1,h2⟩:=pick_mm1 l m x h
   exact ⟨i+1,by simpa using h1,by simpa using h2⟩
theorem St.list_iv1 {S:St} (hS:S.Ok) {y:Nat} (h:y∈S.list):S.isLive y=true∧y < 4294967296:=by
 obtain ⟨i,h1,h2⟩:=pick_mm1 _ _ _ h
 obtain ⟨a,_,c⟩:=hS.id i y h1
 refine ⟨?_,c⟩
 rw [St.isLive_iff hS,a]
 exact ⟨h2,h1⟩
theorem Sto.set_S (σ:Sto) (id:Nat) (c:Cp):(σ.set id c).2.S=σ.S:=by
 unfold Sto.set
 split
 ·rfl
 ·split
  ·rfl
  ·split <;> rfl
theorem Sto.set_cps {σ:Sto} (h:σ.Ok) {id:Nat} {c:Cp} (hc:c.chk=0) (hl:σ.S.isLive id=true) (hh:hasK (σ.cps id) c.k=true) {x:Nat} (hx:σ.S.isLive x=true):(σ.set id c).2.cps x=if x=id then setc (σ.cps id) c else σ.cps x:=by
 obtain ⟨r,C,hr,he,hC,hm,h6⟩:=h.ent hl
 obtain ⟨r',C',hr',he',hC',hm',h6'⟩:=h.ent hx
 have e:(σ.set id c).2={ σ with T:=upd σ.T (σ.hom id) ((σ.T (σ.hom id)).set r (id,setc (σ.cps id) c)) }:=by
  unfold Sto.set
  rw [if_neg (by simp [hc]),if_neg (by simp [hl]),if_neg (by simp [hh]),hr]
  rfl
 rw [e]
 have hcx:=Sto.cps_of hr' he'
 have hci:=Sto.cps_of hr he
 have hom':∀ T,Sto.hom { σ with T:=T } x=σ.hom x:=fun T=>rfl
 by_cases hk:σ.hom x=σ.hom id
 ·have hT:(upd σ.T (σ.hom id) ((σ.T (σ.hom id)).set r (id,setc (σ.cps id) c))) (σ.hom x)=(σ.T (σ.hom id)).set r (id,setc (σ.cps id) c):=by rw [hk,upd_same]
  by_cases hxi:x=id
  ·subst hxi
   rw [if_pos rfl]
   refine Sto.cps_of (r:=r) ?_ ?_
   ·show plc ((upd σ.T (σ.hom x) ((σ.T (σ.hom x)).set r (x,setc (σ.cps x) c))) (σ.hom x)) x=some r
    rw [hT,plc_same he];exact hr
   ·show ((upd σ.T (σ.hom x) ((σ.T (σ.hom x)).set r (x,setc (σ.cps x) c))) (σ.hom x))[r]? = _
    rw [hT,List.getElem?_set,if_pos rfl,if_pos (List.getElem?_eq_some_iff.1 he).1]
  ·rw [if_neg hxi,hcx]
   refine Sto.cps_of (r:=r') ?_ ?_
   ·show plc ((upd σ.T (σ.hom id) ((σ.T (σ.hom id)).set r (id,setc (σ.cps id) c))) (σ.hom x)) x=some r'
    rw [hT,plc_same he,← hk];exact hr'
   ·show ((upd σ.T (σ.hom id) ((σ.T (σ.hom id)).set r (id,setc (σ.cps id) c))) (σ.hom x))[r']? = _
    rw [hT,List.getElem?_set]
    have hne:r≠r':=by
     intro hrr
     subst hrr
     rw [hk,he] at he'
     exact hxi ((Prod.mk.inj (Option.some.inj he')).1.symm)
    rw [if_neg hne,← hk];exact he'
 ·have hT:(upd σ.T (σ.hom id) ((σ.T (σ.hom id)).set r (id,setc (σ.cps id) c))) (σ.hom x)=σ.T (σ.hom x):=upd_other _ _ _ hk
  have hxi:¬ x=id:=fun hxi=>hk (by rw [hxi])
  rw [if_neg hxi,hcx]
  refine Sto.cps_of (r:=r') ?_ ?_
  ·show plc ((upd σ.T (σ.hom id) ((σ.T (σ.hom id)).set r (id,setc (σ.cps id) c))) (σ.hom x)) x=some r'
   rw [hT];exact hr'
  ·show ((upd σ.T (σ.hom id) ((σ.T (σ.hom id)).set r (id,setc (σ.cps id) c))) (σ.hom x))[r']? = _
   rw [hT];exact he'
theorem hasK_setc (C:List Cp) (c:Cp) (k:Nat):hasK (setc C c) k=hasK C k:=by
 rw [hasK_map,hasK_map,setc_kinds]
theorem Sto.set_has {σ:Sto} (h:σ.Ok) (id:Nat) (c:Cp) {x:Nat} (hx:σ.S.isLive x=true) (k:Nat):hasK ((σ.set id c).2.cps x) k=hasK (σ.cps x) k:=by
 by_cases hc:c.chk=0
 ·cases hl:σ.S.isLive id with
  | false=>unfold Sto.set;rw [if_neg (by simp [hc]),if_pos (by simp [hl])]
  | true =>
   cases hh:hasK (σ.cps id) c.k with
   | false=>unfold Sto.set;rw [if_neg (by simp [hc]),if_neg (by simp [hl]),if_pos (by simp [hh])]
   | true =>
    rw [Sto.set_cps h hc hl hh hx]
    by_cases hxi:x=id
    ·rw [if_pos hxi,hasK_setc,hxi]
    ·rw [if_neg hxi]
 ·unfold Sto.set;rw [if_pos hc]
theorem Sto.mv_S (σ:Sto) (id:Nat):(σ.mv id).2.S=σ.S:=by
 unfold Sto.mv
 rw [Sto.set_S,Sto.set_S]
theorem Sto.mv_has {σ:Sto} (h:σ.Ok) (id:Nat) {x:Nat} (hx:σ.S.isLive x=true) (k:Nat):hasK ((σ.mv id).2.cps x) k=hasK (σ.cps x) k:=by
 unfold Sto.mv
 simp only
 rw [Sto.set_has (Sto.set_ok h _ _) _ _ (by rw [Sto.set_S];exact hx),Sto.set_has h _ _ hx]
def Sto.mvs (σ:Sto) (L:List Nat):Sto × List Nat:=L.foldl (fun p id=>((p.1.mv id).2,if (p.1.mv id).1 then p.2++[id] else p.2)) (σ,[])
theorem Sto.mvs_snoc (σ:Sto) (L:List Nat) (id:Nat):σ.mvs (L++[id])=(((σ.mvs L).1.mv id).2,if ((σ.mvs L).1.mv id).1 then (σ.mvs L).2++[id] else (σ.mvs L).2):=by
 unfold Sto.mvs
 rw [List.foldl_append]
 rfl
theorem snoc_ind {α:Type} {P:List α→Prop} (h0:P []) (h1:∀ L a,P L→P (L++[a])) (L:List α):P L:=by
 have:∀ n,∀ L:List α,L.length=n→P L:=by
  intro n
  induction n with
  | zero=>intro L hL;rw [List.length_eq_zero_iff.1 hL];exact h0
  | succ n ih =>
   intro L hL
   have hne:L≠[]:=by intro h;rw [h] at hL;simp at hL
   rw [← List.dropLast_concat_getLast hne]
   exact h1 _ _ (ih _ (by rw [List.length_dropLast,hL];rfl))
 exact this _ L rfl
theorem Sto.mvs_inv {σ:Sto} (h:σ.Ok) (L:List Nat):(σ.mvs L).1.Ok∧(σ.mvs L).1.S=σ.S∧(∀ x,σ.S.isLive x=true→∀ k,hasK ((σ.mvs L).1.cps x) k=hasK (σ.cps x) k)∧(σ.mvs L).2.length≤L.length:=by
 refine snoc_ind (P:=fun L=>(σ.mvs L).1.Ok∧(σ.mvs L).1.S=σ.S∧(∀ x,σ.S.isLive x=true→∀ k,hasK ((σ.mvs L).1.cps x) k=hasK (σ.cps x) k)∧(σ.mvs L).2.length≤L.length) ⟨h,rfl,fun _ _ _=>rfl,Nat.le_refl _⟩ ?_ L
 rintro L id ⟨i1,i2,i3,i4⟩
 rw [Sto.mvs_snoc]
 refine ⟨Sto.mv_ok i1 id,by rw [Sto.mv_S,i2],fun x hx k=>by rw [Sto.mv_has i1 id (by rw [i2];exact hx),i3 x hx k],?_⟩
 simp only [List.length_append,List.length_singleton]
 split
 ·rw [List.length_append];simp;exact i4
 ·omega
theorem bit_one {C:List Cp} (hC:∀ q∈C,q.k < 6) {a k:Nat} (h:msk C &&& a=a) (ha:a.testBit k=true):hasK C k=true:=by
 rw [hasK_tb1 hC]
 have:=congrArg (fun y=>y.testBit k) h
 simp only [Nat.testBit_and,ha,Bool.and_true] at this
 exact this
theorem mem_find {σ:Sto} (hσ:σ.Ok) {a x:Nat} (hx:x∈σ.find a 0):σ.S.isLive x=true∧x < 4294967296∧∀ k,a.testBit k=true→hasK (σ.cps x) k=true:=by
 obtain ⟨h1,h2⟩:=List.mem_filter.1 hx
 obtain ⟨hl,h32⟩:=St.list_iv1 hσ.s h1
 refine ⟨hl,h32,fun k hk=>?_⟩
 obtain ⟨r,C,hr,he,hlC,_⟩:=hσ.ent hl
 have hc:=Sto.cps_of hr he
 unfold fitb at h2
 simp only [Bool.and_eq_true,decide_eq_true_iff] at h2
 exact bit_one (by rw [hc];exact fun q hq=>chk_k ((lst_ok hlC).2 q hq).2) h2.1 hk
theorem move_ok (w0 w:World) (l:List Thing) (b:Nat) (σ:Sto) (K:Nat) (ht:Tab w0) (h:Own w0 w (Store b σ K::l)) (hσ:σ.Ok) (hK:K < 1000000) :
  Calls Tryz.prog 48 #[.pointer (some ⟨b,0,none⟩)] w fun e w'=>∃ ao cap,e=.returned (.slice ao (σ.mvs (σ.find 3 0)).2.length cap)∧Own w0 w' (Row 38 1 (.slice ao (σ.mvs (σ.find 3 0)).2.length cap) (σ.mvs (σ.find 3 0)).2.length (irow .u32 (σ.mvs (σ.find 3 0)).2)::Store b (σ.mvs (σ.find 3 0)).1 K::l):=by
 obtain ⟨i0,hi,hz0,hz1,hz2⟩:=info_parts Tryz.infoID2
 have hLV:∀ id∈σ.S.list,σ.S.isLive id=true∧id < 4294967296:=fun id hid=>St.list_iv1 hσ.s hid
 have HW:Hid (Calls _ _ _ _ _):=with_g w0 w l (some ⟨b,0,none⟩) (Store b σ K) _ h 3 0 (iter_store w0 b σ K hσ (by omega) hLV 3 0 (by decide) (by decide) ht) (Sto.find_len hσ.s 3 0)
 have hlen:=Sto.find_len hσ.s 3 0
 have HIN:Hid (∀ id∈σ.find 3 0,σ.S.isLive id=true∧id < 4294967296∧hasK (σ.cps id) 0=true∧hasK (σ.cps id) 1=true):=by
  intro id hid
  obtain ⟨h1,h2,h3⟩:=mem_find hσ hid
  exact ⟨h1,h2,h3 0 (by decide),h3 1 (by decide)⟩
 have HT:Hid (Tab w0):=ht
 have HSI:Hid (∀ j,(σ.mvs ((σ.find 3 0).take j)).1.Ok∧(σ.mvs ((σ.find 3 0).take j)).1.S=σ.S∧(∀ x,σ.S.isLive x=true→∀ k,hasK ((σ.mvs ((σ.find 3 0).take j)).1.cps x) k=hasK (σ.cps x) k)∧(σ.mvs ((σ.find 3 0).take j)).2.length≤j):=by
  intro j
  obtain ⟨i1,i2,i3,i4⟩:=Sto.mvs_inv hσ ((σ.find 3 0).take j)
  exact ⟨i1,i2,i3,Nat.le_trans i4 (by rw [List.length_take];omega)⟩
 obtain ⟨X,hX⟩:∃ X,σ.find 3 0=X:=⟨_,rfl⟩
 rw [hX] at HW hlen HIN HSI ⊢
 obtain ⟨M,hM⟩:∃ M:Nat→Sto × List Nat,M=fun j=>σ.mvs (X.take j):=⟨_,rfl⟩
 have HM0:Hid (M 0=(σ,[])):=by show _=_;rw [hM];simp [Sto.mvs]
 have HMS:Hid (∀ (j id:Nat),X[j]? = some id→M (j+1)=(((M j).1.mv id).2,if ((M j).1.mv id).1 then (M j).2++[id] else (M j).2)):=by
  intro j id hd
  rw [hM]
  simp only
  rw [List.take_add_one,hd]
  exact Sto.mvs_snoc σ (X.take j) id
 have HME:Hid (M X.length=σ.mvs X):=by show _=_;rw [hM];simp
 have HMI:Hid (∀ j,(M j).1.Ok∧(M j).1.S=σ.S∧(∀ x,σ.S.isLive x=true→∀ k,hasK ((M j).1.cps x) k=hasK (σ.cps x) k)∧(M j).2.length≤j):=by rw [hM];exact HSI.out
 rw [← HME.out]
 clear h hX hLV hσ ht HSI hM HME
 generalize hxl:X.length=xl at *
 have HXL:Hid (X.length=xl):=hxl
 clear hxl
 go_enter Tryz.func48,Tryz.ntmps48
 go_wp2_with fail
 refine HW.out.mono ?_
 rintro e w1 ⟨la,lc,rfl,hO1⟩
 have H1:Hid (Own w0 w1 _):=hO1.nilRow 38 1
 clear hO1 HW
 go_wp2
 go_loopw [3,9] (fun v3 v9 wr=>∃ j:Nat,j≤xl∧v9=.int .i64 j∧∃ a1 c1,v3=.slice a1 (M j).2.length c1∧Own w0 wr (Row 38 1 (.slice a1 (M j).2.length c1) (M j).2.length (irow .u32 (M j).2)::Row 38 1 (.slice la xl lc) xl (irow .u32 X)::Store b (M j).1 K::l)) (fun _ v9 _=>xl - (intOf v9).toNat)
 case atStart=>exact ⟨0,Nat.zero_le _,rfl,none,0,by rw [HM0.out];rfl,by rw [HM0.out];exact H1.out⟩
 case round =>
  obtain ⟨j,hj,rfl,a1,c1,rfl,hO⟩:=hrel
  have HO:Hid (Own w0 wr _):=hO
  clear H1 HM0
  by_cases hlt:j < xl
  ·have hlt':(j:Int) < (xl:Int):=by omega
   obtain ⟨id,hid⟩:∃ id,X[j]? = some id:=⟨_,List.getElem?_eq_getElem (by rw [HXL.out];exact hlt)⟩
   obtain ⟨g,cp,hv,_⟩:=row_shape hO.two.row (by omega)
   have hla:=(Value.slice.inj hv).1
   subst hla
   have e0:wr.cell? ⟨g,j,none⟩=some (.int .u32 (id:Int)):=by
    rw [hO.two.row.cellAt _ (by omega),getElem?_irow,hid];rfl
   obtain ⟨hl,h32,hk0,hk1⟩:=HIN.out id (List.mem_of_getElem? hid)
   obtain ⟨i1,i2,i3,i4⟩:=HMI.out j
   have HST:Hid (M (j+1)=(((M j).1.mv id).2,if ((M j).1.mv id).1 then (M j).2++[id] else (M j).2)):=HMS.out j id hid
   have HMV:Hid (Calls _ _ _ _ _):=move1_ok w0 wr _ b (M j).1 K HT.out hO.three i1 hK id h32 (by rw [i2];exact hl) (by rw [i3 id hl];exact hk0) (by rw [i3 id hl];exact hk1)
   clear hO hid hv hl hk0 hk1 i1 i2 i3
   generalize (M j).1=sj at *
   generalize (M j).2=Lj at *
   generalize hmv:sj.mv id=mv at *
   obtain ⟨mb,ms⟩:=mv
   simp only at HST HMV
   generalize hll:Lj.length=ll at *
   have HLL:Hid (Lj.length=ll):=hll
   clear hll hmv
   go_wp2_with fail
   refine HMV.out.mono ?_
   rintro e w2 ⟨rfl,hO2⟩
   have H2:Hid (Own w0 w2 _):=hO2.back3
   clear hO2 HMV HO
   cases mb with
   | false =>
    simp only [Bool.false_eq_true,if_false] at HST
    go_wp2
    go_roundw
    case rel=>exact ⟨j+1,by omega,by go_num,a1,c1,by rw [HST.out,HLL.out],by rw [HST.out,HLL.out];exact H2.out⟩
    case measure=>simp [intOf];omega
   | true =>
    simp only [if_true] at HST
    go_wp2_with (at_builtin;refine append1_own rfl _ _ 55 rfl 38 i0 (.int .u32 0) 1 4 Tryz.underlying55 hi hz0 hz1 hz2 rfl (by decide) _ _ _ rfl H2.out _ _ (by simp) rfl rfl (one_int _ _) (by unfold maxLen;omega) (by omega) ?_)
    intro g6 c6 w6 hO6 hsz6
    have H7:Hid (Own w0 w6 (Row 38 1 (.slice (some ⟨g6,0,none⟩) (ll+1) c6) (ll+1) (irow .u32 (M (j+1)).2)::Row 38 1 (.slice (some ⟨g,0,none⟩) xl lc) xl (irow .u32 X)::Store b (M (j+1)).1 K::l)):=by
     show Own _ _ _
     rw [HST.out]
     simpa [irow] using hO6
    have HRL2:Hid ((M (j+1)).2.length=ll+1):=by show _=_;rw [HST.out,List.length_append,HLL.out];rfl
    clear hO6 hsz6 H2
    go_wp2
    go_roundw
    case rel=>exact ⟨j+1,by omega,by go_num,_,_,by rw [HRL2.out],by rw [HRL2.out];exact H7.out⟩
    case measure=>simp [intOf];omega
  ·have hlt':¬ (j:Int) < (xl:Int):=by omega
   have hjn:j=xl:=by omega
   subst hjn
   clear hO
   go_wp2
   go_ret
   exact ⟨a1,c1,rfl,HO.out.two.tail⟩
theorem mem_outr2 {α:Type} {L:List α} {r:Nat} {e x:α} (he:L[r]? = some e) (hx:x∈L) (hne:x≠e):x∈outr L r:=by
 obtain ⟨i,hi⟩:=List.mem_iff_getElem?.1 hx
 have hr:=(List.getElem?_eq_some_iff.1 he).1
 have hil:=(List.getElem?_eq_some_iff.1 hi).1
 have hir:i≠r:=by
  intro h
  subst h
  rw [he] at hi
  exact hne (Option.some.inj hi).symm
 by_cases hlast:i=L.length - 1
 ·refine List.mem_of_getElem? (i:=r) ?_
  rw [outr_at L r r hr,if_pos (by omega),if_pos rfl,← hlast]
  exact hi
 ·refine List.mem_of_getElem? (i:=i) ?_
  rw [outr_at L r i hr,if_pos (by omega),if_neg hir]
  exact hi
theorem Sto.cps_mem {σ:Sto} (h:σ.Ok) {m x:Nat} {C:List Cp} (hm:m < 64) (hx:(x,C)∈σ.T m):σ.cps x=C:=by
 obtain ⟨hl,hk⟩:=h.lv m hm (x,C) hx
 obtain ⟨r,C',hr,he,_⟩:=h.ent hl
 have hom:σ.hom x=m:=gd_some hk
 rw [hom] at hr he
 obtain ⟨i,hi⟩:=List.mem_iff_getElem?.1 hx
 have:=(h.t m hm).ap i r (x,C) (x,C') hi he rfl
 subst this
 rw [hi] at he
 have hC:C=C':=(Prod.mk.inj (Option.some.inj he)).2
 rw [hC]
 exact Sto.cps_of (by rw [hom];exact hr) (by rw [hom,hi,hC])
theorem Sto.mem_cps {σ:Sto} (h:σ.Ok) {x:Nat} (hl:σ.S.isLive x=true):σ.hom x < 64∧(x,σ.cps x)∈σ.T (σ.hom x):=by
 obtain ⟨r,C,hr,he,_,_,h6⟩:=h.ent hl
 refine ⟨h6,?_⟩
 rw [Sto.cps_of hr he]
 exact List.mem_of_getElem? he
theorem Sto.despawn_live {σ:Sto} (h:σ.Ok) {id x:Nat} (hl:σ.S.isLive id=true) (hx:σ.S.isLive x=true) (hne:x≠id):(σ.despawn id).2.S.isLive x=true∧(σ.despawn id).2.cps x=σ.cps x:=by
 obtain ⟨r,C,hr,he,_,_,h6⟩:=h.ent hl
 have hD:=Sto.despawn_ok h id
 have e:(σ.despawn id).2={ σ.out (σ.hom id) r with S:=σ.S.less id }:=by
  unfold Sto.despawn
  rw [if_pos hl,hr]
  rfl
 have hlv:(σ.despawn id).2.S.isLive x=true:=by
  rw [e]
  show (σ.S.less id).isLive x=true
  rw [(St.free_live h.s hl).2,hx]
  simp [hne]
 refine ⟨hlv,?_⟩
 obtain ⟨h64,hm⟩:=Sto.mem_cps h hx
 refine Sto.cps_mem hD h64 ?_
 rw [e]
 show (x,σ.cps x)∈upd σ.T (σ.hom id) (outr (σ.T (σ.hom id)) r) (σ.hom x)
 by_cases hk:σ.hom x=σ.hom id
 ·rw [hk,upd_same]
  rw [hk] at hm
  exact mem_outr2 he hm (fun hh=>hne (Prod.mk.inj hh).1)
 ·rw [upd_other _ _ _ hk]
  exact hm
theorem pick_sub:∀ (l:List Nat) (m:List Bool),(pick l m).Sublist l
 | [],m=>by simp [pick]
 | a::l,[]=>by simp [pick]
 | a::l,u::m=>by
  unfold pick
  split
  ·exact (pick_sub l m).cons_cons a
  ·exact (pick_sub l m).cons a
theorem St.list_nodup {S:St} (h:S.Ok):S.list.Nodup:=by
 refine (pick_sub S.last S.used).nodup ?_
 unfold List.Nodup
 rw [List.pairwise_iff_getElem]
 intro i j hi hj hij heq
 have h1:=(h.id i _ (List.getElem?_eq_getElem hi)).1
 have h2:=(h.id j _ (List.getElem?_eq_getElem hj)).1
 rw [heq] at h1
 omega
theorem find_nodup {σ:Sto} (h:σ.Ok) (a n:Nat):(σ.find a n).Nodup:=(St.list_nodup h.s).filter _
def Sto.ag (σ:Sto) (id:Nat):Bool × Sto:=if (σ.gv id 2).a=0 then (true,(σ.despawn id).2) else (false,(σ.set id ⟨2,(σ.gv id 2).a - 1,(σ.gv id 2).b,(σ.gv id 2).c⟩).2)
theorem Sto.ag_ok {σ:Sto} (h:σ.Ok) (id:Nat):(σ.ag id).2.Ok:=by
 unfold Sto.ag
 split
 ·exact Sto.despawn_ok h id
 ·exact Sto.set_ok h _ _
theorem Sto.ag_live {σ:Sto} (h:σ.Ok) {id x:Nat} (hl:σ.S.isLive id=true) (hx:σ.S.isLive x=true) (hne:x≠id):(σ.ag id).2.S.isLive x=true∧∀ k,hasK ((σ.ag id).2.cps x) k=hasK (σ.cps x) k:=by
 unfold Sto.ag
 split
 ·obtain ⟨h1,h2⟩:=Sto.despawn_live h hl hx hne
  exact ⟨h1,fun k=>by rw [h2]⟩
 ·exact ⟨by rw [Sto.set_S];exact hx,fun k=>Sto.set_has h _ _ hx k⟩
def Sto.ags (σ:Sto) (L:List Nat):Sto × List Nat:=L.foldl (fun p id=>((p.1.ag id).2,if (p.1.ag id).1 then p.2++[id] else p.2)) (σ,[])
theorem Sto.ags_snoc (σ:Sto) (L:List Nat) (id:Nat):σ.ags (L++[id])=(((σ.ags L).1.ag id).2,if ((σ.ags L).1.ag id).1 then (σ.ags L).2++[id] else (σ.ags L).2):=by
 unfold Sto.ags
 rw [List.foldl_append]
 rfl
theorem Sto.ags_inv {σ:Sto} (h:σ.Ok) (L:List Nat):L.Nodup→(∀ x∈L,σ.S.isLive x=true)→(σ.ags L).1.Ok∧(∀ x,σ.S.isLive x=true→x ∉ L→(σ.ags L).1.S.isLive x=true∧∀ k,hasK ((σ.ags L).1.cps x) k=hasK (σ.cps x) k)∧(σ.ags L).2.length≤L.length:=by
 refine snoc_ind (P:=fun L=>L.Nodup→(∀ x∈L,σ.S.isLive x=true)→(σ.ags L).1.Ok∧(∀ x,σ.S.isLive x=true→x ∉ L→(σ.ags L).1.S.isLive x=true∧∀ k,hasK ((σ.ags L).1.cps x) k=hasK (σ.cps x) k)∧(σ.ags L).2.length≤L.length) (fun _ _=>⟨h,fun x hx _=>⟨hx,fun _=>rfl⟩,Nat.le_refl _⟩) ?_ L
 intro L id ih hnd hlv
 rw [List.nodup_append] at hnd
 obtain ⟨i1,i3,i4⟩:=ih hnd.1 (fun x hx=>hlv x (by simp [hx]))
 have hid:id ∉ L:=fun hm=>hnd.2.2 id hm id (by simp) rfl
 obtain ⟨l1,l2⟩:=i3 id (hlv id (by simp)) hid
 rw [Sto.ags_snoc]
 refine ⟨Sto.ag_ok i1 id,fun x hx hxn=>?_,?_⟩
 ·obtain ⟨m1,m2⟩:=i3 x hx (fun hm=>hxn (by simp [hm]))
  obtain ⟨n1,n2⟩:=Sto.ag_live i1 l1 m1 (fun hh=>hxn (by simp [hh]))
  exact ⟨n1,fun k=>by rw [n2 k,m2 k]⟩
 ·simp only [List.length_append,List.length_singleton]
  split
  ·rw [List.length_append];simp;exact i4
  ·omega
end Go.Proofs.YtogmdoiecpihdaaGreatDoor
