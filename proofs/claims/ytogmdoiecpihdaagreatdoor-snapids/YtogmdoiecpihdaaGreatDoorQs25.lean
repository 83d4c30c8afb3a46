/- Breed: one that begets, and the loop. -/
import Derived.Test.YtogmdoiecpihdaaGreatDoorQs24
import Derived.Test.YtogmdoiecpihdaaGreatDoorQs23
import Derived.Deep.RegionHeld3
import Derived.Test.YtogmdoiecpihdaaGreatDoorQs19
import Derived.Test.YtogmdoiecpihdaaGreatDoorQs22
import Derived.Test.YtogmdoiecpihdaaGreatDoorQs20
namespace Go.Proofs.YtogmdoiecpihdaaGreatDoor
open Go.RowKit Go.Maps
set_option linter.unusedVariables false
set_option maxHeartbeats 16000000
set_option maxRecDepth 100000
theorem beget_ok (w0 w:World) (l:List Thing) (b:Nat) (σ:Sto) (K:Nat) (ht:Tab w0) (h:Own w0 w (Store b σ K::l)) (hσ:σ.Ok) (hK:K < 1000000) (id:Nat) (hid:id < 4294967296) (hl:σ.S.isLive id=true) (h0:hasK (σ.cps id) 0=true) (kk:Nat) (qa qb qc:Int) (hc0:0≤qc) (hc1:qc < 16) :
  Calls Tryz.prog 100 #[.pointer (some ⟨b,0,none⟩),.int .u32 (id:Int),.agg #[.int .u8 (kk:Int),.int .i32 qa,.int .i32 qb,.int .i32 qc]] w fun e w'=>e=.returned (.tuple #[.int .u32 ((σ.spawn (chl qc (σ.gv id 0) (decide (id % 1024 % 2=1)))).1:Int),.int .i64 (σ.spawn (chl qc (σ.gv id 0) (decide (id % 1024 % 2=1)))).2.1])∧Own w0 w' (Store b (σ.spawn (chl qc (σ.gv id 0) (decide (id % 1024 % 2=1)))).2.2 (K+1)::l):=by
 have h1:=h.allocC #[.int .u8 (kk:Int),.int .i32 qa,.int .i32 qb,.int .i32 qc] 46
 have HG:Hid (Calls _ _ _ _ _):=sgetC w0 _ _ b σ K h1.two hσ id hid hl 0 (by decide)
 rw [h0] at HG
 obtain ⟨gk,gc⟩:=gv_of hσ hl h0
 have HSL:Hid (∀ w',Calls Tryz.prog 126 #[.int .u32 (id:Int)] w' fun e w''=>e=.returned (.int .i64 ((id % 1024:Nat):Int))∧w''=w'):=fun w'=>slot_any id w' hid
 generalize hsn:id % 1024=sn at *
 have hsn2:sn < 1024:=by omega
 generalize hP:σ.gv id 0=P at *
 obtain ⟨pk,pa,pb,pc⟩:=P
 simp only at gk
 subst gk
 obtain ⟨od,hod⟩:∃ od,decide (sn % 2=1)=od:=⟨_,rfl⟩
 rw [hod]
 have hod2:((sn:Int).tmod 2 == 1)=od:=by
  rw [← hod,Bool.eq_iff_iff,Int.tmod_eq_emod_of_nonneg (by omega)]
  simp only [beq_iff_eq,decide_eq_true_iff]
  omega
 have HCH:Hid (∀ w' l' o',o'=od→Own w0 w' l'→Calls Tryz.prog 159 #[.agg #[.int .u8 (kk:Int),.int .i32 qa,.int .i32 qb,.int .i32 qc],.agg #[.int .u8 0,.int .i32 pa,.int .i32 pb,.int .i32 pc],.bool o'] w' fun e w''=>∃ g,e=.returned (.slice (some ⟨g,0,none⟩) 4 4)∧Own w0 w'' (Cells g (c16 ((0:Nat):Int) pa pb pc (if od then -(64*(qc+1)) else 64*(qc+1)) qc) 46::l')):=fun w' l' o' ho h'=>by subst ho;exact child_ok w0 w' l' h' kk qa qb qc hc0 hc1 0 pa pb pc o'
 have HSP:Hid (∀ w' g l',Own w0 w' (Store b σ K::Cells g (c16 ((0:Nat):Int) pa pb pc (if od then -(64*(qc+1)) else 64*(qc+1)) qc) 46::l')→Calls Tryz.prog 158 #[.pointer (some ⟨b,0,none⟩),.slice (some ⟨g,0,none⟩) 4 4] w' fun e w''=>e=.returned (.tuple #[.int .u32 ((σ.spawn (chl qc ⟨0,pa,pb,pc⟩ od)).1:Int),.int .i64 (σ.spawn (chl qc ⟨0,pa,pb,pc⟩ od)).2.1])∧Own w0 w'' (Store b (σ.spawn (chl qc ⟨0,pa,pb,pc⟩ od)).2.2 (K+1)::Cells g (c16 ((0:Nat):Int) pa pb pc (if od then -(64*(qc+1)) else 64*(qc+1)) qc) 46::l')):=fun w' g l' h'=>spawnC w0 w' _ b σ K ht h' hσ (some ⟨g,0,none⟩) 4 4 (chl qc ⟨0,pa,pb,pc⟩ od) rfl (fun w'' h''=>c16_at h'') (by intro q hq;simp [chl] at hq;rcases hq with rfl | rfl | rfl | rfl <;> simp) (by decide) hK
 generalize σ.spawn (chl qc ⟨0,pa,pb,pc⟩ od)=sp at *
 obtain ⟨sp1,sp2,sp3⟩:=sp
 simp only at HSP ⊢
 clear h h1 hσ hl h0 gc hsn hP hod ht
 simp only [Cp.ag] at HG
 go_enter Tryz.func100,Tryz.ntmps100
 go_wp2_with fail
 refine HG.out.mono ?_
 rintro e w1 ⟨rfl,hO⟩
 have hB:=(hO.allocC #[.int .u8 0,.int .i32 pa,.int .i32 pb,.int .i32 pc] 46).drew
 have z0:=hB.cell 0
 have z1:=hB.cell 1
 have z2:=hB.cell 2
 have z3:=hB.cell 3
 have y0:=hB.three.cell 0
 have y1:=hB.three.cell 1
 have y2:=hB.three.cell 2
 have y3:=hB.three.cell 3
 simp at z0 z1 z2 z3 y0 y1 y2 y3
 have HB:Hid (Own w0 _ _):=hB
 clear hO hB HG
 go_wp2_with fail
 go_region_held3 (fun w':World=>w'.cell? ⟨w1.heap.size,0,none⟩=some (.int .u8 0)∧w'.cell? ⟨w1.heap.size,1,none⟩=some (.int .i32 pa)∧w'.cell? ⟨w1.heap.size,2,none⟩=some (.int .i32 pb)∧w'.cell? ⟨w1.heap.size,3,none⟩=some (.int .i32 pc)∧w'.cell? ⟨w.heap.size,0,none⟩=some (.int .u8 (kk:Int))∧w'.cell? ⟨w.heap.size,1,none⟩=some (.int .i32 qa)∧w'.cell? ⟨w.heap.size,2,none⟩=some (.int .i32 qb)∧w'.cell? ⟨w.heap.size,3,none⟩=some (.int .i32 qc)) (go_keep)
   (first
    | (go_at_call 126;refine (HSL.out _).mono ?_;rintro e w2 ⟨rfl,rfl⟩)
    | (go_at_call 159;refine (HCH.out _ _ _ rfl HB.out).mono ?_;rintro e w3 ⟨g,rfl,hO3⟩
       have z0:=hO3.two.cell 0
       have z1:=hO3.two.cell 1
       have z2:=hO3.two.cell 2
       have z3:=hO3.two.cell 3
       have y0:=hO3.four.cell 0
       have y1:=hO3.four.cell 1
       have y2:=hO3.four.cell 2
       have y3:=hO3.four.cell 3
       simp at z0 z1 z2 z3 y0 y1 y2 y3
       have H3:Hid (Own w0 w3 _):=hO3
       clear hO3)
    | (go_at_call 158;refine (HSP.out _ _ _ H3.out.three).mono ?_;rintro e w4 ⟨rfl,hO4⟩
       have z0:=hO4.three.cell 0
       have z1:=hO4.three.cell 1
       have z2:=hO4.three.cell 2
       have z3:=hO4.three.cell 3
       have y0:=hO4.four.cell 0
       have y1:=hO4.four.cell 1
       have y2:=hO4.four.cell 2
       have y3:=hO4.four.cell 3
       simp at z0 z1 z2 z3 y0 y1 y2 y3
       have H4:Hid (Own w0 w4 _):=hO4
       clear hO4))
 all_goals
  go_wp2
  go_ret2
  exact ⟨rfl,H4.out.two.tail.two.tail.two.tail⟩
theorem breed_ok (w0 w:World) (l:List Thing) (b:Nat) (σ:Sto) (K:Nat) (ht:Tab w0) (h:Own w0 w (Store b σ K::l)) (hσ:σ.Ok) (hK:K≤900000) :
  Calls Tryz.prog 50 #[.pointer (some ⟨b,0,none⟩)] w fun e w'=>∃ ao cap,e=.returned (.slice ao (σ.brs (σ.find 33 0)).2.length cap)∧Own w0 w' (Row 38 1 (.slice ao (σ.brs (σ.find 33 0)).2.length cap) (σ.brs (σ.find 33 0)).2.length (irow .u32 (σ.brs (σ.find 33 0)).2)::Store b (σ.brs (σ.find 33 0)).1 (K+1024)::l):=by
 obtain ⟨i0,hi,hz0,hz1,hz2⟩:=info_parts Tryz.infoID2
 have hLV:∀ id∈σ.S.list,σ.S.isLive id=true∧id < 4294967296:=fun id hid=>St.list_iv1 hσ.s hid
 have HW:Hid (Calls _ _ _ _ _):=with_g w0 w l (some ⟨b,0,none⟩) (Store b σ K) _ h 33 0 (iter_store w0 b σ K hσ (by omega) hLV 33 0 (by decide) (by decide) ht) (Sto.find_len hσ.s 33 0)
 have hlen:=Sto.find_len hσ.s 33 0
 have HIN:Hid (∀ id∈σ.find 33 0,σ.S.isLive id=true∧id < 4294967296∧hasK (σ.cps id) 5=true∧hasK (σ.cps id) 0=true):=by
  intro id hid
  obtain ⟨h1,h2,h3⟩:=mem_find hσ hid
  exact ⟨h1,h2,h3 5 (by decide),h3 0 (by decide)⟩
 have HT:Hid (Tab w0):=ht
 have HSI:Hid (∀ j,(σ.brs ((σ.find 33 0).take j)).1.Ok∧(∀ x,σ.S.isLive x=true→(σ.brs ((σ.find 33 0).take j)).1.S.isLive x=true∧∀ k,hasK ((σ.brs ((σ.find 33 0).take j)).1.cps x) k=hasK (σ.cps x) k)∧(σ.brs ((σ.find 33 0).take j)).2.length≤j):=by
  intro j
  obtain ⟨i1,i3,i4⟩:=Sto.brs_inv hσ ((σ.find 33 0).take j)
  exact ⟨i1,i3,Nat.le_trans i4 (by rw [List.length_take];omega)⟩
 obtain ⟨X,hX⟩:∃ X,σ.find 33 0=X:=⟨_,rfl⟩
 rw [hX] at HW hlen HIN HSI ⊢
 obtain ⟨M,hM⟩:∃ M:Nat→Sto × List Nat,M=fun j=>σ.brs (X.take j):=⟨_,rfl⟩
 have HM0:Hid (M 0=(σ,[])):=by show _=_;rw [hM];simp [Sto.brs]
 have HMS:Hid (∀ (j id:Nat),X[j]? = some id→M (j+1)=(((M j).1.br id).2,(M j).2++((M j).1.br id).1.toList)):=by
  intro j id hd
  rw [hM]
  simp only
  rw [List.take_add_one,hd]
  exact Sto.brs_snoc σ (X.take j) id
 have HME:Hid (M X.length=σ.brs X):=by show _=_;rw [hM];simp
 have HMI:Hid (∀ j,(M j).1.Ok∧(∀ x,σ.S.isLive x=true→(M j).1.S.isLive x=true∧∀ k,hasK ((M j).1.cps x) k=hasK (σ.cps x) k)∧(M j).2.length≤j):=by rw [hM];exact HSI.out
 rw [← HME.out]
 clear h hX hLV hσ ht HSI hM HME
 generalize hxl:X.length=xl at *
 have HXL:Hid (X.length=xl):=hxl
 clear hxl
 go_enter Tryz.func50,Tryz.ntmps50
 go_wp2_with fail
 refine HW.out.mono ?_
 rintro e w1 ⟨la,lc,rfl,hO1⟩
 have H1:Hid (Own w0 w1 _):=hO1.nilRow 38 1
 clear hO1 HW
 go_wp2
 go_loopw [3,13] (fun v3 v9 wr=>∃ j:Nat,j≤xl∧v9=.int .i64 j∧∃ a1 c1,v3=.slice a1 (M j).2.length c1∧Own w0 wr (Row 38 1 (.slice a1 (M j).2.length c1) (M j).2.length (irow .u32 (M j).2)::Row 38 1 (.slice la xl lc) xl (irow .u32 X)::Store b (M j).1 (K+j)::l)) (fun _ v9 _=>xl - (intOf v9).toNat)
 case atStart=>exact ⟨0,Nat.zero_le _,rfl,none,0,by rw [HM0.out];rfl,by rw [HM0.out];exact H1.out⟩
 case round =>
  obtain ⟨j,hj,rfl,a1,c1,rfl,hO⟩:=hrel
  have HO:Hid (Own w0 wr _):=hO
  clear H1 HM0
  by_cases hlt:j < xl
  ·have hlt':(j:Int) < (xl:Int):=by omega
   obtain ⟨id,hid⟩:∃ id,X[j]? = some id:=⟨_,List.getElem?_eq_getElem (by rw [HXL.out];exact hlt)⟩
   obtain ⟨g,cp,hv,_⟩:=row_shape hO.two.row (by omega)
   have hla:=(Value.slice.inj hv).1
   subst hla
   have e0:wr.cell? ⟨g,j,none⟩=some (.int .u32 (id:Int)):=by
    rw [hO.two.row.cellAt _ (by omega),getElem?_irow,hid];rfl
   obtain ⟨hl0,h32,hk5,hk0⟩:=HIN.out id (List.mem_of_getElem? hid)
   obtain ⟨i1,i3,i4⟩:=HMI.out j
   obtain ⟨i2,i3⟩:=i3 id hl0
   rw [← i3 5] at hk5
   rw [← i3 0] at hk0
   have HST:Hid (M (j+1)=(((M j).1.br id).2,(M j).2++((M j).1.br id).1.toList)):=HMS.out j id hid
   obtain ⟨gk,gc⟩:=gv_of i1 i2 hk5
   obtain ⟨⟨ga1,ga2⟩,⟨gb1,gb2⟩,gc1,gc2⟩:=spawn_in gk gc
   have HG:Hid (Calls _ _ _ _ _):=sgetC w0 wr _ b (M j).1 _ hO.three i1 id h32 i2 5 (by decide)
   rw [hk5] at HG
   have HBR:Hid ((M j).1.br id=if ((M j).1.gv id 5).b=0 then if ((M j).1.spawn (chl ((M j).1.gv id 5).c ((M j).1.gv id 0) (decide (id % 1024 % 2=1)))).2.1=0 then (some ((M j).1.spawn (chl ((M j).1.gv id 5).c ((M j).1.gv id 0) (decide (id % 1024 % 2=1)))).1,(((M j).1.spawn (chl ((M j).1.gv id 5).c ((M j).1.gv id 0) (decide (id % 1024 % 2=1)))).2.2.set id ⟨5,((M j).1.gv id 5).a,((M j).1.gv id 5).a - 1,((M j).1.gv id 5).c⟩).2) else (none,(M j).1) else (none,((M j).1.set id ⟨5,((M j).1.gv id 5).a,((M j).1.gv id 5).b - 1,((M j).1.gv id 5).c⟩).2)):=rfl
   have HBG:Hid (∀ w' l' (kk:Nat) (qa qb:Int),Own w0 w' (Store b (M j).1 (K+j)::l')→Calls Tryz.prog 100 #[.pointer (some ⟨b,0,none⟩),.int .u32 (id:Int),.agg #[.int .u8 (kk:Int),.int .i32 qa,.int .i32 qb,.int .i32 ((M j).1.gv id 5).c]] w' fun e w''=>e=.returned (.tuple #[.int .u32 (((M j).1.spawn (chl ((M j).1.gv id 5).c ((M j).1.gv id 0) (decide (id % 1024 % 2=1)))).1:Int),.int .i64 ((M j).1.spawn (chl ((M j).1.gv id 5).c ((M j).1.gv id 0) (decide (id % 1024 % 2=1)))).2.1])∧Own w0 w'' (Store b ((M j).1.spawn (chl ((M j).1.gv id 5).c ((M j).1.gv id 0) (decide (id % 1024 % 2=1)))).2.2 (K+j+1)::l')):=fun w' l' kk qa qb h'=>beget_ok w0 w' l' b (M j).1 (K+j) HT.out h' i1 (by omega) id h32 i2 hk0 kk qa qb _ gc1 (by omega)
   have hokS:=Sto.spawn_ok i1 (chl ((M j).1.gv id 5).c ((M j).1.gv id 0) (decide (id % 1024 % 2=1)))
   have HSB:Hid (((M j).1.spawn (chl ((M j).1.gv id 5).c ((M j).1.gv id 0) (decide (id % 1024 % 2=1)))).2.1≠0→((M j).1.spawn (chl ((M j).1.gv id 5).c ((M j).1.gv id 0) (decide (id % 1024 % 2=1)))).2.2=(M j).1):=fun hne=>Sto.spawn_bad hne
   have HSE:Hid (∀ (τ:Sto),τ.Ok→∀ w' l' (K':Nat) (c:Cp),c.k=5→K'≤950000→Own w0 w' (Store b τ K'::l')→Calls Tryz.prog 99 #[.pointer (some ⟨b,0,none⟩),.int .u32 (id:Int),c.ag] w' fun e w''=>∃ r,e=.returned (.int .i64 r)∧Own w0 w'' (Store b (τ.set id c).2 K'::l')):=fun τ hτ w' l' K' c hc hK' h'=>by
    refine (setC0 w0 w' l' b τ K' HT.out h' hτ id h32 c (by omega) (by omega)).mono ?_
    rintro e w'' ⟨rfl,h2⟩
    exact ⟨_,rfl,h2⟩
   rw [HBR.out] at HST
   generalize (M j).1.spawn (chl ((M j).1.gv id 5).c ((M j).1.gv id 0) (decide (id % 1024 % 2=1)))=sp at *
   have HS1:Hid (∀ w' l',Own w0 w' (Store b (M j).1 (K+j)::l')→Calls Tryz.prog 99 #[.pointer (some ⟨b,0,none⟩),.int .u32 (id:Int),(⟨5,((M j).1.gv id 5).a,((M j).1.gv id 5).b - 1,((M j).1.gv id 5).c⟩:Cp).ag] w' fun e w''=>∃ r,e=.returned (.int .i64 r)∧Own w0 w'' (Store b ((M j).1.set id ⟨5,((M j).1.gv id 5).a,((M j).1.gv id 5).b - 1,((M j).1.gv id 5).c⟩).2 (K+j)::l')):=fun w' l' h'=>HSE.out _ i1 w' l' _ _ rfl (by omega) h'
   have HS2:Hid (∀ w' l',Own w0 w' (Store b sp.2.2 (K+j+1)::l')→Calls Tryz.prog 99 #[.pointer (some ⟨b,0,none⟩),.int .u32 (id:Int),(⟨5,((M j).1.gv id 5).a,((M j).1.gv id 5).a - 1,((M j).1.gv id 5).c⟩:Cp).ag] w' fun e w''=>∃ r,e=.returned (.int .i64 r)∧Own w0 w'' (Store b (sp.2.2.set id ⟨5,((M j).1.gv id 5).a,((M j).1.gv id 5).a - 1,((M j).1.gv id 5).c⟩).2 (K+j+1)::l')):=fun w' l' h'=>HSE.out _ hokS w' l' _ _ rfl (by omega) h'
   clear hO hid hv i1 i2 i3 HBR gc HSE hokS hl0 hk0 hk5
   generalize (M j).1.gv id 5=q at *
   generalize (M j).1.gv id 0=pq at *
   generalize (M j).1=sj at *
   generalize (M j).2=Lj at *
   generalize hll:Lj.length=ll at *
   have HLL:Hid (Lj.length=ll):=hll
   clear hll
   obtain ⟨qk,qa,qb,qc⟩:=q
   obtain ⟨sp1,sp2,sp3⟩:=sp
   simp only [Cp.ag] at HG HS1 HS2 HST HBG HSB ga1 ga2 gb1 gb2 gc1 gc2 gk
   subst gk
   go_wp2_with fail
   refine HG.out.mono ?_
   rintro e w2 ⟨rfl,hO2⟩
   by_cases hq0:qb=0
   ·subst hq0
    rw [if_pos rfl] at HST
    have hO3:=hO2.allocC #[.int .u8 5,.int .i32 qa,.int .i32 0,.int .i32 qc] 46
    have HB:Hid (Calls _ _ _ _ _):=HBG.out _ _ 5 qa 0 hO3.two
    clear hO2 hO3 HG HBG HS1 HO
    go_wp2_with fail
    refine HB.out.mono ?_
    rintro e w3 ⟨rfl,hO4⟩
    by_cases hs:sp2=0
    ·subst hs
     rw [if_pos rfl] at HST
     simp only [Option.toList_some] at HST
     have z0:=hO4.two.cell 0
     have z1:=hO4.two.cell 1
     have z2:=hO4.two.cell 2
     have z3:=hO4.two.cell 3
     simp at z0 z1 z2 z3
     have H4:Hid (Own w0 w3 _):=hO4.three
     clear hO4 HB HSB
     go_wp2_with (at_builtin;refine append1_own rfl _ _ 55 rfl 38 i0 (.int .u32 0) 1 4 Tryz.underlying55 hi hz0 hz1 hz2 rfl (by decide) _ _ _ rfl H4.out _ _ (by simp) rfl rfl (one_int _ _) (by unfold maxLen;omega) (by omega) ?_)
     intro g6 c6 w6 hO6 hsz6
     have z0:=hO6.three.cell 0
     have z1:=hO6.three.cell 1
     have z2:=hO6.three.cell 2
     have z3:=hO6.three.cell 3
     simp at z0 z1 z2 z3
     have y0:=hO6.three.froz 0
     have y1:=hO6.three.froz 1
     have y2:=hO6.three.froz 2
     have y3:=hO6.three.froz 3
     have hO7:=(hO6.three.setC 2 (.int .i32 qa)).setC 2 (.int .i32 (qa - 1))
     have HS:Hid (Calls _ _ _ _ _):=HS2.out _ _ hO7.three
     clear hO7 HS2 H4
     go_wp2_with fail
     refine HS.out.mono ?_
     rintro e w7 ⟨r7,rfl,hO8⟩
     have H8:Hid (Own w0 w7 (Row 38 1 (.slice (some ⟨g6,0,none⟩) (ll+1) c6) (ll+1) (irow .u32 (M (j+1)).2)::Row 38 1 (.slice (some ⟨g,0,none⟩) xl lc) xl (irow .u32 X)::Store b (M (j+1)).1 (K+(j+1))::l)):=by
      show Own _ _ _
      rw [HST.out,← Nat.add_assoc]
      have h9:=hO8.two.tail.back3
      simpa [irow] using h9
     have HRL2:Hid ((M (j+1)).2.length=ll+1):=by show _=_;rw [HST.out,List.length_append,HLL.out];rfl
     clear hO6 hsz6 hO8
     go_wp2
     go_roundw
     case rel=>exact ⟨j+1,by omega,by go_num,_,_,by rw [HRL2.out],by rw [HRL2.out];exact H8.out⟩
     case measure=>simp [intOf];omega
    ·rw [if_neg hs] at HST
     have hne:(sp2 != 0)=true:=by simpa using hs
     have hsb:sp3=sj:=HSB.out hs
     subst hsb
     simp only [Option.toList_none,List.append_nil] at HST
     have H4:Hid (Own w0 w3 _):=(Own.stoK (show K+j+1≤K+(j+1) by omega) hO4).two.tail.back3
     clear hO4 HB HSB HS2
     go_wp2
     go_roundw
     case rel=>exact ⟨j+1,by omega,by go_num,a1,c1,by rw [HST.out,HLL.out],by rw [HST.out,HLL.out];exact H4.out⟩
     case measure=>simp [intOf];omega
   ·rw [if_neg hq0] at HST
    simp only [Option.toList_none,List.append_nil] at HST
    have hne:(qb == 0)=false:=by simpa using hq0
    have hO4:=hO2.allocC #[.int .u8 5,.int .i32 qa,.int .i32 (qb - 1),.int .i32 qc] 46
    have HS:Hid (Calls _ _ _ _ _):=HS1.out _ _ hO4.two
    clear hO2 HG HS1 HS2 HBG HSB HO hO4
    go_wp2_with fail
    refine HS.out.mono ?_
    rintro e w3 ⟨r3,rfl,hO5⟩
    have H5:Hid (Own w0 w3 _):=(Own.stoK (show K+j≤K+(j+1) by omega) hO5).two.tail
    clear hO5 HS
    go_wp2
    go_roundw
    case rel=>exact ⟨j+1,by omega,by go_num,a1,c1,by rw [HST.out,HLL.out],by rw [HST.out,HLL.out];exact H5.out.back3⟩
    case measure=>simp [intOf];omega
  ·have hlt':¬ (j:Int) < (xl:Int):=by omega
   have hjn:j=xl:=by omega
   subst hjn
   clear hO
   go_wp2
   go_ret
   exact ⟨a1,c1,rfl,(Own.stoK (show K+j≤K+1024 by omega) HO.out.two.tail.two).two⟩
end Go.Proofs.YtogmdoiecpihdaaGreatDoor
namespace Go.Proofs.YtogmdoiecpihdaaGreatDoor
open Go.RowKit
set_option linter.unusedVariables false
set_option maxHeartbeats 16000000
set_option maxRecDepth 100000
theorem Own.drops {w0 w:World}:∀ {M l:List Thing},Own w0 w (M++l)→Own w0 w l
 | [],_,h=>h
 | _::M,_,h=>Own.drops (M:=M) h.tail
theorem Own.ordsW {w0 w:World} {l:List Thing} {ao:Option Addr} {n cap:Nat} {E:List OrdE} (h:Own w0 w (Row 41 4 (.slice ao n cap) n (cat OrdE.cs E)::(E.map orow++l))) (hn:E.length=n):Ords w ao E:=by
 refine Own.ords h hn (fun x hx=>?_)
 obtain ⟨i,hi⟩:=List.getElem?_of_mem hx
 exact Own.rcs (h.tail.perm ((orow_pick E i x hi).append_right _)) rfl
theorem do_allW (w0 w:World) (l:List Thing) (b:Nat) (s:Sto × Nat) (ht:Tab w0) (h:Own w0 w (Store b s.1 s.2::l)) (hσ:s.1.Ok) (ao:Option Addr) (n cap:Nat) (L:List OrdE) (hn:L.length=n) (hn6:n≤1000) (hs:s.2≤800000) (hL:∀ o∈L,o.In) (hO:∀ w',Own w0 w' l→Ords w' ao L) :
  Calls Tryz.prog 46 #[.pointer (some ⟨b,0,none⟩),.slice ao n cap] w fun e w'=>∃ ra rc,e=.returned (.slice ra n rc)∧Own w0 w' (Row 89 2 (.slice ra n rc) n (cat rcel (runs stq s L).1)::Store b (runs stq s L).2.1 (runs stq s L).2.2::l)∧(runs stq s L).2.1.Ok∧(runs stq s L).2.2=s.2+2*n:=by
 refine (all_of (fun s:Sto × Nat=>Store b s.1 s.2) (fun j t=>t.1.Ok∧t.2=s.2+2*j) stq w0 w l (some ⟨b,0,none⟩) s h ao n cap L hn (by omega) hO ⟨hσ,by omega⟩ ?_ ?_).mono ?_
 ·intro j t o w' l' ho hI h' hC
  have hj:=(List.getElem?_eq_some_iff.1 ho).1
  exact do_any w0 w' l' b t ht h' hI.1 (by rw [hI.2];omega) o (hL o (List.mem_of_getElem? ho)) hC
 ·intro j t o ho hI
  obtain ⟨a,b⟩:=stq_ok t hI.1 o
  exact ⟨a,by rw [b,hI.2];omega⟩
 ·rintro e w' ⟨ra,rc,rfl,h1,h2,h3⟩
  exact ⟨ra,rc,rfl,h1,h2,h3⟩
def Sto.sys (σ:Sto):Sto :=
 let σ2:=(σ.mvs (σ.find 3 0)).1
 let σ3:=(σ2.ags (σ2.find 4 0)).1
 (σ3.brs (σ3.find 33 0)).1
theorem find_live {σ:Sto} (h:σ.Ok) (a n:Nat):∀ x∈σ.find a n,σ.S.isLive x=true:=fun x hx=>(St.list_w h.s (List.mem_filter.1 hx).1).1
theorem find_len {σ:Sto} (h:σ.Ok) (a n:Nat):(σ.find a n).length≤1024:=Nat.le_trans (List.length_filter_le _ _) (list_lenW h.s)
theorem sys_ok {σ:Sto} (h:σ.Ok):σ.sys.Ok:=by
 have h2:=(Sto.mvs_inv h (σ.find 3 0)).1
 have h3:=(Sto.ags_inv h2 _ (find_nodup h2 4 0) (find_live h2 4 0)).1
 exact (Sto.brs_inv h3 _).1
theorem perm_stp {C St O Bf RO:Thing} {M l:List Thing}:(C::St::O::Bf::RO::(M++l)).Perm (St::RO::(M++(C::O::Bf::l))):=by
 have h1:(St::RO::(M++([C,O,Bf]++l))).Perm (St::RO::([C,O,Bf]++(M++l))):=List.Perm.cons _ (List.Perm.cons _ (List.perm_append_comm_assoc M [C,O,Bf] l))
 have h2:(C::St::O::Bf::RO::(M++l)).Perm (RO::C::St::O::Bf::(M++l)):=List.perm_middle (l₁:=[C,St,O,Bf]) (a:=RO) (l₂:=M++l)
 have h3:(RO::C::St::O::Bf::(M++l)).Perm (St::RO::C::O::Bf::(M++l)):=List.perm_middle (l₁:=[RO,C]) (a:=St) (l₂:=O::Bf::(M++l))
 exact (h2.trans h3).trans h1.symm
theorem perm_drp {A B RO:Thing} {M l:List Thing}:(A::B::RO::(M++l)).Perm ((RO::M)++(A::B::l)):=List.perm_append_comm_assoc [A,B] (RO::M) l
theorem step_ok (w0 w:World) (l:List Thing) (b bs bw:Nat) (T:Nat) (pv:Value) (mp:Option Nat) (n:Nat) (S:Nat→Nat→Option SgE) (σ:Sto) (K:Nat) (E:List OrdE) (ht:Tab w0) (hσ:σ.Ok) (hK:K≤700000) (hn:n≤100000) (hT:T < 4294967295) (hE:E.length≤1000) (hEI:∀ o∈E,o.In)
  (h:Own w0 w (Store bs σ K::Cells b #[.int .u32 (T:Int),.pointer (some ⟨bs,0,none⟩),.pointer (some ⟨bw,0,none⟩),.map mp,pv] 102::SMapO mp n S::Buf bw E::l)) :
  Calls Tryz.prog 15 #[.pointer (some ⟨b,0,none⟩)] w fun e w'=>∃ (ra:Option Addr) (rc:Nat),e=.returned (.tuple #[.slice ra E.length rc,.int .i64 0])∧∃ (σ':Sto) (K' mn:Nat) (ao:Option Addr) (cap:Nat) (P L1 L2:List PlE),σ'=(runs stq (σ,K) E).2.1.sys∧K'≤K+2*E.length+2048∧LeftOf (sgp S) (sgp (mapOf S (T+1) (allS σ'))) (fun _ _=>false) L1∧ReachOf (mapOf S (T+1) (allS σ')) (T+1) (fun _ _=>false) L2∧P.Perm (L1++L2)∧P.Pairwise (fun a b=>a.id≤b.id)∧Own w0 w' (Row 89 2 (.slice ra E.length rc) E.length (cat rcel (runs stq (σ,K) E).1)::Store bs σ' K'::Cells b #[.int .u32 ((T+1:Nat):Int),.pointer (some ⟨bs,0,none⟩),.pointer (some ⟨bw,0,none⟩),.map (some mn),.slice ao P.length cap] 102::SMapO (some mn) (allS σ').length (mapOf S (T+1) (allS σ'))::Row 92 4 (.slice ao P.length cap) P.length (cat PlE.cs P)::Buf bw []::l):=by
 have hTw:IntKind.u32.wrap ((T:Int)+1)=((T+1:Nat):Int):=by rw [IntKind.wrap_u32];omega
 have hTe:((T:Int) == 4294967295)=false:=by simp;omega
 obtain ⟨T1,hT1⟩:∃ T1,T1=T+1:=⟨_,rfl⟩
 rw [← hT1] at hTw ⊢
 obtain ⟨en,hen⟩:∃ en,en=E.length:=⟨_,rfl⟩
 have HEN:Hid (en=E.length):=hen
 rw [← hen] at hE ⊢
 have hC:=h.two
 have z0:=hC.cell 0
 have z1:=hC.cell 1
 have z2:=hC.cell 2
 have y0:=hC.froz 0
 simp at z0 z1 z2
 have hC1:=hC.setC 0 (.int .u32 (T1:Int))
 have hC2:Own w0 (w.setCell ⟨b,0,none⟩ (.int .u32 (T1:Int))) (Cells b #[.int .u32 (T1:Int),.pointer (some ⟨bs,0,none⟩),.pointer (some ⟨bw,0,none⟩),.map mp,pv] 102::Store bs σ K::SMapO mp n S::Buf bw E::l):=hC1
 have x1:=hC2.cell 1
 have x2:=hC2.cell 2
 simp at x1 x2
 have HTK:Hid (Calls _ _ _ _ _):=otake w0 _ _ bw E (hC2.four.drew)
 have HAL:Hid (∀ W ao cap l,Own w0 W (Store bs σ K::Row 41 4 (.slice ao en cap) en (cat OrdE.cs E)::(E.map orow++l))→Calls Tryz.prog 46 #[.pointer (some ⟨bs,0,none⟩),.slice ao en cap] W fun e w'=>∃ ra rc,e=.returned (.slice ra en rc)∧Own w0 w' (Row 89 2 (.slice ra en rc) en (cat rcel (runs stq (σ,K) E).1)::Store bs (runs stq (σ,K) E).2.1 (runs stq (σ,K) E).2.2::Row 41 4 (.slice ao en cap) en (cat OrdE.cs E)::(E.map orow++l))∧(runs stq (σ,K) E).2.1.Ok∧(runs stq (σ,K) E).2.2=K+2*en):=fun W ao cap l h=>by
  exact do_allW w0 W _ bs (σ,K) ht h hσ ao en cap E HEN.out.symm hE (by show K≤_;omega) hEI (fun w' hw=>Own.ordsW hw HEN.out.symm)
 rw [← hen] at HTK
 have HT:Hid (Tab w0):=ht
 clear h hC hC1 hC2 ht hσ hEI hen hT1 hT
 go_enter Tryz.func15,Tryz.ntmps15
 go_wp2_with fail
 go_region_held3 (fun w'=>w'.cell? ⟨b,1,none⟩=some (.pointer (some ⟨bs,0,none⟩))∧w'.cell? ⟨b,2,none⟩=some (.pointer (some ⟨bw,0,none⟩))) (go_keep)
  (first
    | (go_at_call 47;refine HTK.out.mono ?_;rintro e w5 ⟨oa,oc,rfl,h5⟩
       have h5b:Own w0 w5 (Cells b #[.int .u32 (T1:Int),.pointer (some ⟨bs,0,none⟩),.pointer (some ⟨bw,0,none⟩),.map mp,pv] 102::Store bs σ K::SMapO mp n S::Buf bw []::Row 41 4 (.slice oa en oc) en (cat OrdE.cs E)::(E.map orow++l)):=by
        refine h5.perm ?_
        have:=List.perm_append_comm_assoc (Buf bw []::Row 41 4 (.slice oa en oc) en (cat OrdE.cs E)::E.map orow) [Cells b #[.int .u32 (T1:Int),.pointer (some ⟨bs,0,none⟩),.pointer (some ⟨bw,0,none⟩),.map mp,pv] 102,Store bs σ K,SMapO mp n S] l
        simpa using this
       have u1:=h5b.cell 1
       have u2:=h5b.cell 2
       simp at u1 u2
       have H5:Hid (Own w0 w5 _):=h5b
       clear h5 h5b)
    | (go_at_call 46;refine (HAL.out _ oa oc (Cells b #[.int .u32 (T1:Int),.pointer (some ⟨bs,0,none⟩),.pointer (some ⟨bw,0,none⟩),.map mp,pv] 102::SMapO mp n S::Buf bw []::l) (H5.out.perm perm_stp)).mono ?_;rintro e w6 ⟨ra,rc,rfl,h6,hok,hK6⟩
       have h6b:Own w0 w6 (Row 89 2 (.slice ra en rc) en (cat rcel (runs stq (σ,K) E).1)::Store bs (runs stq (σ,K) E).2.1 (runs stq (σ,K) E).2.2::Cells b #[.int .u32 (T1:Int),.pointer (some ⟨bs,0,none⟩),.pointer (some ⟨bw,0,none⟩),.map mp,pv] 102::SMapO mp n S::Buf bw []::l):=Own.drops (h6.perm perm_drp)
       have v1:=h6b.three.cell 1
       have v2:=h6b.three.cell 2
       simp at v1 v2
       have H6:Hid (Own w0 w6 _):=h6b
       have HOK:Hid ((runs stq (σ,K) E).2.1.Ok∧(runs stq (σ,K) E).2.2=K+2*en):=⟨hok,hK6⟩
       clear h6 h6b hok hK6))
 obtain ⟨R,hR⟩:∃ R,R=(runs stq (σ,K) E).1:=⟨_,rfl⟩
 obtain ⟨σ1,hσ1⟩:∃ s,s=(runs stq (σ,K) E).2.1:=⟨_,rfl⟩
 obtain ⟨K1,hK1⟩:∃ k,k=(runs stq (σ,K) E).2.2:=⟨_,rfl⟩
 have HRR:Hid (R=(runs stq (σ,K) E).1∧σ1=(runs stq (σ,K) E).2.1):=⟨hR,hσ1⟩
 rw [← hR,← hσ1,← hK1] at H6
 rw [← hσ1,← hK1] at HOK
 obtain ⟨ok1,k1⟩:=HOK.out
 have hb1:K1≤702000:=by omega
 have ok2:=(Sto.mvs_inv ok1 (σ1.find 3 0)).1
 have HMV:Hid (Calls _ _ _ _ _):=move_ok w0 w6 _ bs σ1 K1 HT.out H6.out.two ok1 (by omega)
 obtain ⟨σ2,hσ2⟩:∃ s,s=(σ1.mvs (σ1.find 3 0)).1:=⟨_,rfl⟩
 rw [← hσ2] at ok2
 have ag:=Sto.ags_inv ok2 _ (find_nodup ok2 4 0) (find_live ok2 4 0)
 have ok3:=ag.1
 have gl:(σ2.ags (σ2.find 4 0)).2.length≤1024:=Nat.le_trans ag.2.2 (find_len ok2 4 0)
 have HAG:Hid (∀ W l,Own w0 W (Store bs σ2 K1::l)→Calls Tryz.prog 49 #[.pointer (some ⟨bs,0,none⟩)] W fun e w'=>(∃ v,e=.returned v)∧Own w0 w' (Store bs (σ2.ags (σ2.find 4 0)).1 (K1+(σ2.ags (σ2.find 4 0)).2.length)::l)):=fun W l h=>(age_ok w0 W l bs σ2 K1 HT.out h ok2 (by omega)).mono (by
  rintro e w' ⟨a,c,rfl,h2⟩
  exact ⟨⟨_,rfl⟩,h2.tail⟩)
 obtain ⟨σ3,hσ3⟩:∃ s,s=(σ2.ags (σ2.find 4 0)).1:=⟨_,rfl⟩
 obtain ⟨K3,hK3⟩:∃ k,k=K1+(σ2.ags (σ2.find 4 0)).2.length:=⟨_,rfl⟩
 have hb3:K3≤K1+1024:=by omega
 rw [← hσ3,← hK3] at HAG
 rw [← hσ3] at ok3
 have HBR:Hid (∀ W l,Own w0 W (Store bs σ3 K3::l)→Calls Tryz.prog 50 #[.pointer (some ⟨bs,0,none⟩)] W fun e w'=>(∃ v,e=.returned v)∧Own w0 w' (Store bs (σ3.brs (σ3.find 33 0)).1 (K3+1024)::l)):=fun W l h=>(breed_ok w0 W l bs σ3 K3 HT.out h ok3 (by omega)).mono (by
  rintro e w' ⟨a,c,rfl,h2⟩
  exact ⟨⟨_,rfl⟩,h2.tail⟩)
 have ok4:=(Sto.brs_inv ok3 (σ3.find 33 0)).1
 obtain ⟨σ4,hσ4⟩:∃ s,s=(σ3.brs (σ3.find 33 0)).1:=⟨_,rfl⟩
 rw [← hσ4] at HBR ok4
 have HMV2:Hid (Calls Tryz.prog 48 #[.pointer (some ⟨bs,0,none⟩)] w6 fun e w'=>(∃ v,e=.returned v)∧Own w0 w' (Store bs σ2 K1::Row 89 2 (.slice ra en rc) en (cat rcel R)::Cells b #[.int .u32 (T1:Int),.pointer (some ⟨bs,0,none⟩),.pointer (some ⟨bw,0,none⟩),.map mp,pv] 102::SMapO mp n S::Buf bw []::l)):=HMV.out.mono (by
  rintro e w' ⟨a,c,rfl,h2⟩
  rw [← hσ2] at h2
  exact ⟨⟨_,rfl⟩,h2.tail⟩)
 have HSY:Hid (σ4=(runs stq (σ,K) E).2.1.sys):=by
  show _=_
  rw [← HRR.out.2]
  unfold Sto.sys
  rw [hσ4,hσ3,hσ2]
 have hb4:K3+1024≤K+2*en+2048:=by omega
 have HOK4:Hid (σ4.Ok):=ok4
 clear HTK HAL H5 H6 HMV ok1 ok2 ok3 ok4 ag gl hR hσ1 hK1 hσ2 hσ3 hσ4 hK3 HOK k1 hb1 hb3 u1 u2 x1 x2
 go_wp2_with fail
 refine HMV2.out.mono ?_
 rintro e w7 ⟨⟨rv,rfl⟩,h7⟩
 clear v1 v2
 have v1:=h7.three.cell 1
 simp at v1
 have HA2:Hid (Calls _ _ _ _ _):=HAG.out w7 _ h7
 clear h7 HMV2 HAG
 go_wp2_with fail
 refine HA2.out.mono ?_
 rintro e w8 ⟨⟨rv2,rfl⟩,h8⟩
 clear v1
 have v1:=h8.three.cell 1
 simp at v1
 have HB2:Hid (Calls _ _ _ _ _):=HBR.out w8 _ h8
 clear h8 HA2 HBR
 go_wp2_with fail
 refine HB2.out.mono ?_
 rintro e w9 ⟨⟨rv3,rfl⟩,h9⟩
 clear v1
 have h9b:Own w0 w9 (Store bs σ4 (K3+1024)::Cells b #[.int .u32 (T1:Int),.pointer (some ⟨bs,0,none⟩),.pointer (some ⟨bw,0,none⟩),.map mp,pv] 102::SMapO mp n S::Row 89 2 (.slice ra en rc) en (cat rcel R)::Buf bw []::l):=h9.perm (List.Perm.cons _ ((List.Perm.swap _ _ _).trans (List.Perm.cons _ (List.Perm.swap _ _ _))))
 have HLK:Hid (Calls _ _ _ _ _):=look_ok w0 w9 _ b bs T1 (.pointer (some ⟨bw,0,none⟩)) pv mp n S σ4 (K3+1024) HOK4.out (by omega) hn h9b
 clear h9 h9b HB2
 go_wp2_with fail
 refine HLK.out.mono ?_
 rintro e w10 ⟨rfl,mn,ao,cap,P,L1,L2,hl1,hl2,hp,hpw,h10⟩
 have HFI:Hid (LeftOf (sgp S) (sgp (mapOf S T1 (allS σ4))) (fun _ _=>false) L1∧ReachOf (mapOf S T1 (allS σ4)) T1 (fun _ _=>false) L2∧P.Perm (L1++L2)∧P.Pairwise (fun a b=>a.id≤b.id)):=⟨hl1,hl2,hp,hpw⟩
 have H10:Hid (Own w0 w10 _):=h10.five
 have hb5:K3+1024≤K+2*en+2048:=hb4
 clear hl1 hl2 hp hpw h10 HLK
 go_wp2
 go_ret2
 refine ⟨ra,rc,rfl,σ4,K3+1024,mn,ao,cap,P,L1,L2,HSY.out,hb5,HFI.out.1,HFI.out.2.1,HFI.out.2.2.1,HFI.out.2.2.2,?_⟩
 rw [← HRR.out.1]
 exact H10.out
structure Wd where
 T:Nat
 σ:Sto
 E:List OrdE
 S:Nat→Nat→Option SgE
 P:List PlE
def wcs (T bs bw:Nat) (mp:Option Nat) (pv:Value):Array Value:=#[.int .u32 (T:Int),.pointer (some ⟨bs,0,none⟩),.pointer (some ⟨bw,0,none⟩),.map mp,pv]
def WdX (b:Nat) (x:Wd) (K n:Nat) (y:Nat × Nat × Option Nat × Value):List Thing:=[Store y.1 x.σ K,Cells b (wcs x.T y.1 y.2.1 y.2.2.1 y.2.2.2) 102,SMapO y.2.2.1 n x.S,Buf y.2.1 x.E,View 4 y.2.2.2 x.P.length (cat PlE.cs x.P)]
def WdT (b:Nat) (x:Wd) (K n:Nat):Thing:=Ex (WdX b x K n)
theorem Own.wdO {w0 w:World} {l:List Thing} {b K n:Nat} {x:Wd} (h:Own w0 w (WdT b x K n::l)):∃ bs bw mp pv,Own w0 w (Store bs x.σ K::Cells b (wcs x.T bs bw mp pv) 102::SMapO mp n x.S::Buf bw x.E::View 4 pv x.P.length (cat PlE.cs x.P)::l):=by
 obtain ⟨y,hy⟩:=Own.ex_iff.1 h
 exact ⟨y.1,y.2.1,y.2.2.1,y.2.2.2,hy⟩
theorem Own.wdS {w0 w:World} {l:List Thing} {b K n bs bw:Nat} {mp:Option Nat} {pv:Value} {x:Wd} (h:Own w0 w (Store bs x.σ K::Cells b (wcs x.T bs bw mp pv) 102::SMapO mp n x.S::Buf bw x.E::View 4 pv x.P.length (cat PlE.cs x.P)::l)):Own w0 w (WdT b x K n::l):=Own.ex_iff.2 ⟨(bs,bw,mp,pv),h⟩
theorem wnew (w0 w:World) (l:List Thing) (k f T:Nat) (h:Own w0 w l) (h1:1≤k) (h2:k≤1024) (h3:1≤f) (h4:f≤4194303) :
  Calls Tryz.prog 8 #[.int .i64 (k:Int),.int .i64 (f:Int),.int .u32 (T:Int)] w fun e w'=>∃ b,e=.returned (.tuple #[.pointer (some ⟨b,0,none⟩),.int .i64 0])∧Own w0 w' (WdT b ⟨T,Sto.new k f,[],fun _ _=>none,[]⟩ 0 0::l):=by
 have HS:Hid (Calls _ _ _ _ _):=snew w0 w l k f h h1 h2 h3 h4
 clear h h1 h2 h3 h4
 go_enter Tryz.func8,Tryz.ntmps8
 go_wp2_with fail
 refine HS.out.mono ?_
 rintro e w1 ⟨bs,rfl,h1⟩
 have HO:Hid (Calls _ _ _ _ _):=onew w0 w1 _ h1
 clear h1 HS
 go_wp2_with fail
 refine HO.out.mono ?_
 rintro e w2 ⟨bw,rfl,h2⟩
 have hA:=h2.allocC (wcs T bs bw none (.slice none 0 0)) 102
 have hB:Own w0 (w2.alloc (.cells (wcs T bs bw none (.slice none 0 0)) 102)) (Store bs (Sto.new k f) 0::Cells w2.heap.size (wcs T bs bw none (.slice none 0 0)) 102::SMapO none 0 (fun _ _=>none)::Buf bw []::View 4 (.slice none 0 0) 0 []::l):=by
  have h4:Own w0 _ (SMapO none 0 (fun _ _=>none)::View 4 (.slice none 0 0) 0 []::Cells w2.heap.size (wcs T bs bw none (.slice none 0 0)) 102::Buf bw []::Store bs (Sto.new k f) 0::l):=Own.fct (fun _ _=>rfl) ((hA.nilRow 92 4).view (by decide))
  have h5:=h4.five
  have h6:=h5.four
  have h7:=h6.two
  refine h7.perm (List.Perm.cons _ (List.Perm.cons _ (List.Perm.cons _ ?_)))
  exact List.Perm.swap _ _ _
 have HB:Hid (Own w0 _ _):=Own.wdS (x:=⟨T,Sto.new k f,[],fun _ _=>none,[]⟩) hB
 clear hA hB h2 HO
 unfold wcs at HB
 go_wp2
 go_ret2
 exact ⟨_,rfl,HB.out⟩
end Go.Proofs.YtogmdoiecpihdaaGreatDoor
