/- Age as the document says it: the loop. -/
import Derived.Test.YtogmdoiecpihdaaGreatDoorQs42
namespace Go.Proofs.YtogmdoiecpihdaaGreatDoor
open Go.RowKit Go.Maps
set_option linter.unusedVariables false
set_option maxHeartbeats 8000000
set_option maxRecDepth 100000
theorem rage_ok (w0 w:World) (l:List Thing) (b:Nat) (σ:Sto) (K:Nat) (h:Own w0 w (RSto b σ K::l)) (hσ:σ.Ok) (hK:K≤900000) :
  Calls Tryz.prog 56 #[.pointer (some ⟨b,0,none⟩)] w fun e w'=>∃ ao cap,e=.returned (.slice ao (σ.ags (σ.find 4 0)).2.length cap)∧Own w0 w' (Row 38 1 (.slice ao (σ.ags (σ.find 4 0)).2.length cap) (σ.ags (σ.find 4 0)).2.length (irow .u32 (σ.ags (σ.find 4 0)).2)::RSto b (σ.ags (σ.find 4 0)).1 (K+1024)::l):=by
 obtain ⟨i0,hi,hz0,hz1,hz2⟩:=info_parts Tryz.infoID2
 have hLV:∀ id∈σ.S.list,σ.S.isLive id=true∧id < 4294967296:=fun id hid=>St.list_iv1 hσ.s hid
 obtain ⟨x,hx,h⟩:=RSto.opn h
 have HL:Hid (Calls _ _ _ _ _):=rlistS w0 w l b σ K x h hx hσ (by omega) (fun id hid=>(hLV id hid).1)
 have hlen:=list_len2 hσ.s
 have hnd:=St.list_nodup hσ.s
 have HFE:Hid (σ.find 4 0=σ.S.list.filter (fun id=>hasK (σ.cps id) 2)):=find_one1 hσ 2
 rw [HFE.out]
 have HGG:Hid (∀ w' l',Own w0 w' (RSX b σ.S x::l')→Own w0 w' (RStG (σ.S.list.map (x.at σ)) b σ K::l')):=fun w' l' h'=>RStG.all hx hσ (fun id hid=>(hLV id hid).1) h'
 have HAT:Hid (∀ id∈σ.S.list,(x.at σ id).1=id∧(x.at σ id).2.1=σ.cps id):=by
  intro id hid
  obtain ⟨_,h1,h2,_⟩:=hx.at hσ (hLV id hid).1
  exact ⟨h1,h2⟩
 have HGV:Hid (∀ id∈σ.S.list,id < 4294967296∧lst (-1) (σ.cps id)=0∧(∀ q∈σ.cps id,q.k < 6)∧∀ q∈σ.cps id,σ.gv id q.k=q∧q.chk=0):=by
  intro id hid
  obtain ⟨hl,h32⟩:=hLV id hid
  obtain ⟨c1,c2⟩:=cps61 hσ hl
  exact ⟨h32,c1,c2,fun q hq=>gv_is hσ hl hq⟩
 obtain ⟨X,hX⟩:∃ X,σ.S.list=X:=⟨_,rfl⟩
 rw [hX] at HL hlen HGG HAT HGV hLV hnd ⊢
 obtain ⟨M,hM⟩:∃ M:Nat→Sto × List Nat,M=fun j=>σ.ags ((X.take j).filter (fun id=>hasK (σ.cps id) 2)):=⟨_,rfl⟩
 have HM0:Hid (M 0=(σ,[])):=by show _=_;rw [hM];simp [Sto.ags]
 have HMS:Hid (∀ (j id:Nat),X[j]? = some id→M (j+1)=if hasK (σ.cps id) 2 then (((M j).1.ag id).2,if ((M j).1.ag id).1 then (M j).2++[id] else (M j).2) else M j):=by
  intro j id hd
  rw [hM]
  simp only
  rw [List.take_add_one,hd]
  simp only [Option.toList_some,List.filter_append,List.filter_cons,List.filter_nil]
  cases hasK (σ.cps id) 2 with
  | true=>simp only [if_true];exact Sto.ags_snoc σ _ id
  | false=>simp
 have HME:Hid (M X.length=σ.ags (X.filter (fun id=>hasK (σ.cps id) 2))):=by show _=_;rw [hM];simp
 have HMI:Hid (∀ (j id:Nat),X[j]? = some id→(M j).1.Ok∧(M j).1.S.isLive id=true∧(M j).1.cps id=σ.cps id∧(M j).2.length≤j):=by
  intro j id hd
  have hnt:=not_take hnd hd
  have hf:(((X.take j).filter (fun id=>hasK (σ.cps id) 2))).Nodup:=(hnd.sublist (List.take_sublist _ _)).filter _
  have hlv:∀ y∈(X.take j).filter (fun id=>hasK (σ.cps id) 2),σ.S.isLive y=true:=fun y hy=>(hLV y (List.mem_of_mem_take (List.mem_filter.1 hy).1)).1
  have hni:id ∉ (X.take j).filter (fun id=>hasK (σ.cps id) 2):=fun hm=>hnt (List.mem_filter.1 hm).1
  obtain ⟨i1,i3,i4⟩:=Sto.ags_inv hσ _ hf hlv
  have hl:=(hLV id (List.mem_of_getElem? hd)).1
  rw [hM]
  exact ⟨i1,(i3 id hl hni).1,Sto.ags_oth hσ _ hf hlv id hl hni,Nat.le_trans i4 (Nat.le_trans (List.length_filter_le _ _) (by rw [List.length_take];omega))⟩
 have HNE:Hid (∀ (j id:Nat),X[j]? = some id→∀ d∈(X.map (x.at σ)).drop (j+1),d.1≠id):=by
  intro j id hd d hdm he
  rw [← List.map_drop] at hdm
  obtain ⟨y,hy,rfl⟩:=List.mem_map.1 hdm
  rw [(HAT.out y (List.mem_of_mem_drop hy)).1] at he
  rw [he] at hy
  exact not_drop hnd hd hy
 rw [← HME.out]
 clear h hX hLV hσ hM HME hnd HFE hx
 generalize hxl:X.length=xl at *
 have HXL:Hid (X.length=xl):=hxl
 clear hxl
 go_enter Tryz.func56,Tryz.ntmps56
 go_wp2_with fail
 refine HL.out.mono ?_
 rintro e w1 ⟨la,lc,rfl,hO1⟩
 have H1:Hid (Own w0 w1 (Row 38 1 (.slice none 0 0) 0 (irow .u32 [])::Row 76 2 (.slice la xl lc) xl (cat rcells (X.map (x.at σ)))::RStG (X.map (x.at σ)) b σ K::l)):=(HGG.out _ _ hO1.two).two.nilRow 38 1
 clear hO1 HL HGG
 go_wp2
 go_loopw [3,11] (fun v3 v9 wr=>∃ j:Nat,j≤xl∧v9=.int .i64 j∧∃ a1 c1,v3=.slice a1 (M j).2.length c1∧Own w0 wr (Row 38 1 (.slice a1 (M j).2.length c1) (M j).2.length (irow .u32 (M j).2)::Row 76 2 (.slice la xl lc) xl (cat rcells (X.map (x.at σ)))::RStG ((X.map (x.at σ)).drop j) b (M j).1 (K+j)::l)) (fun _ v9 _=>xl - (intOf v9).toNat)
 case atStart=>exact ⟨0,Nat.zero_le _,rfl,none,0,by rw [HM0.out];rfl,by rw [HM0.out];exact H1.out⟩
 case round =>
  obtain ⟨j,hj,rfl,a1,c1,rfl,hO⟩:=hrel
  have HO:Hid (Own w0 wr _):=hO
  clear H1 HM0
  by_cases hlt:j < xl
  ·have hlt':(j:Int) < (xl:Int):=by omega
   obtain ⟨id,hid⟩:∃ id,X[j]? = some id:=⟨_,List.getElem?_eq_getElem (by rw [HXL.out];exact hlt)⟩
   have hidm:=List.mem_of_getElem? hid
   obtain ⟨g,cp,hv,_⟩:=row_shape hO.two.row (by omega)
   have hla:=(Value.slice.inj hv).1
   subst hla
   obtain ⟨d,hde⟩:∃ d,x.at σ id=d:=⟨_,rfl⟩
   have hD:(X.map (x.at σ))[j]? = some d:=by rw [List.getElem?_map,hid];simp [hde]
   have hO':=hO.two
   rw [show xl=(X.map (x.at σ)).length by rw [List.length_map,HXL.out]] at hO'
   obtain ⟨e0,e1⟩:=ecell hO' j d hD
   obtain ⟨hd1,hd2⟩:=HAT.out id hidm
   rw [hde] at hd1 hd2
   obtain ⟨h32,hlC,hC6,hGV⟩:=HGV.out id hidm
   obtain ⟨i1,i2,i3,i4⟩:=HMI.out j id hid
   have HST:Hid (M (j+1)=if hasK (σ.cps id) 2 then (((M j).1.ag id).2,if ((M j).1.ag id).1 then (M j).2++[id] else (M j).2) else M j):=HMS.out j id hid
   have hgv:(M j).1.gv id 2=σ.gv id 2:=by unfold Sto.gv;rw [i3]
   have HNX:Hid (∀ d'∈(X.map (x.at σ)).drop (j+1),d'.1≠id):=HNE.out j id hid
   have hdrop:=drop_at hD
   have HAG:Hid ((M j).1.ag id=if (σ.gv id 2).a=0 then (true,((M j).1.despawn id).2) else (false,((M j).1.set id ⟨2,(σ.gv id 2).a - 1,(σ.gv id 2).b,(σ.gv id 2).c⟩).2)):=by
    show _=_
    unfold Sto.ag
    rw [hgv]
   have hO5:=hO.allocC #[.int .u32 (d.1:Int),.slice d.2.2.1 d.2.1.length d.2.2.2] 76
   have hcs:=RStG.cs hO5.four hdrop
   have HFN:Hid (Calls _ _ _ _ _):=find_any _ d.2.2.1 d.2.1.length d.2.2.2 d.2.1 rfl hcs (by rw [hd2];exact fun q hq=>by have:=hC6 q hq;omega) (by rw [hd2];have:=lst_len6 hlC;omega) 2 (by omega)
   have H5:Hid (Own w0 _ _):=hO5
   have HDS:Hid (∀ w' l',Own w0 w' (RStG ((X.map (x.at σ)).drop j) b (M j).1 (K+j)::l')→Calls Tryz.prog 114 #[.pointer (some ⟨b,0,none⟩),.int .u32 (id:Int)] w' fun e w''=>∃ r,e=.returned (.int .i64 r)∧Own w0 w'' (RStG ((X.map (x.at σ)).drop (j+1)) b ((M j).1.despawn id).2 (K+(j+1))::l')):=fun w' l' h'=>by
    refine (rdespawnG w0 w' l' b (M j).1 (K+j) (RStG.sub drop_sub h') i1 id HNX.out h32 (by omega)).mono ?_
    rintro e w'' ⟨rfl,h2⟩
    exact ⟨_,rfl,h2⟩
   have HSE:Hid (∀ w' l' (c:Cp),c.k=2→Own w0 w' (RStG ((X.map (x.at σ)).drop j) b (M j).1 (K+j)::l')→Calls Tryz.prog 113 #[.pointer (some ⟨b,0,none⟩),.int .u32 (id:Int),c.ag] w' fun e w''=>∃ r,e=.returned (.int .i64 r)∧Own w0 w'' (RStG ((X.map (x.at σ)).drop (j+1)) b ((M j).1.set id c).2 (K+(j+1))::l')):=fun w' l' c hc h'=>by
    refine (rsetG w0 w' l' b (M j).1 (K+j) (RStG.sub drop_sub h') i1 id HNX.out h32 c (by omega) (by omega)).mono ?_
    rintro e w'' ⟨rfl,h2⟩
    exact ⟨_,rfl,RStG.stoK (by omega) h2⟩
   rw [HAG.out] at HST
   clear hO hO' hid hv hO5 hcs hidm hde hD i1 i2 i3 HAG hgv HNX hlC hC6
   obtain ⟨dd1,C,da,dc⟩:=d
   simp only at e0 e1 hd1 hd2 H5 HFN hdrop
   subst hd1
   generalize hcl:C.length=cl at *
   have HCL:Hid (C.length=cl):=hcl
   clear hcl
   go_wp2_with fail
   refine HFN.out.mono ?_
   rintro e w5 ⟨r2,rfl,hf2,hcase⟩
   have hO6:=H5.out.quiet hf2
   have x0:=hO6.cell 0
   have x1:=hO6.cell 1
   simp at x0 x1
   rcases hcase with ⟨rfl,hno⟩ | ⟨i,rfl,q,hq,hqk,hy⟩
   ·rw [hd2] at hno
    rw [hno] at HST
    simp only [Bool.false_eq_true,if_false] at HST
    have H6:Hid (Own w0 w5 _):=(RStG.stoK (show K+j≤K+(j+1) by omega) (RStG.sub drop_sub hO6.four)).back4.tail
    clear hf2 hO6 H5 HFN hno HDS HSE HO
    go_wp2
    go_roundw
    case rel=>exact ⟨j+1,by omega,by go_num,a1,c1,by rw [HST.out],by rw [HST.out];exact H6.out⟩
    case measure=>simp [intOf];omega
   ·rw [hd2] at hy
    rw [hy] at HST
    simp only [if_true] at HST
    have hqm:=List.mem_of_getElem? hq
    rw [hd2] at hqm
    obtain ⟨gq,gc⟩:=hGV q hqm
    rw [hqk] at gq
    rw [gq] at HST
    obtain ⟨gb0,gc0⟩:=life_0 hqk gc
    obtain ⟨ga1,ga2⟩:=life_in hqk gc
    have hil:i < cl:=by rw [← HCL.out];exact (List.getElem?_eq_some_iff.1 hq).1
    obtain ⟨gg,oc,hda,_,hat⟩:=(RStG.cs hO6.four hdrop).at i q hq
    simp only at hda
    subst hda
    obtain ⟨c0,c1',c2,c3⟩:=hat
    obtain ⟨yk,ya,yb,yc⟩:=q
    simp only at c0 c1' c2 c3 gb0 gc0 ga1 ga2 HST hqk
    subst gb0 gc0
    have hil':(i:Int) < (cl:Int):=by omega
    by_cases hq0:ya=0
    ·subst hq0
     rw [if_pos rfl] at HST
     simp only [if_true] at HST
     have HD:Hid (Calls _ _ _ _ _):=HDS.out _ _ hO6.four
     clear hf2 hO6 H5 HFN HDS HSE HO hq hqm gq gc hy hGV c0 c2 c3
     go_wp2_with fail
     refine HD.out.mono ?_
     rintro e w6 ⟨r6,rfl,hO7⟩
     have x0:=hO7.two.cell 0
     simp at x0
     have H7:Hid (Own w0 w6 _):=hO7.three
     clear hO7 HD
     generalize hll:(M j).2.length=ll at *
     have HLL:Hid ((M j).2.length=ll):=hll
     clear hll
     go_wp2_with (at_builtin;refine append1_own rfl _ _ 55 rfl 38 i0 (.int .u32 0) 1 4 Tryz.underlying55 hi hz0 hz1 hz2 rfl (by decide) _ _ _ rfl H7.out _ _ (by simp) rfl rfl (one_int _ _) (by unfold maxLen;omega) (by omega) ?_)
     intro g6 c6 w7 hO8 hsz6
     have H8:Hid (Own w0 w7 (Row 38 1 (.slice (some ⟨g6,0,none⟩) (ll+1) c6) (ll+1) (irow .u32 (M (j+1)).2)::Row 76 2 (.slice (some ⟨g,0,none⟩) xl lc) xl (cat rcells (X.map (x.at σ)))::RStG ((X.map (x.at σ)).drop (j+1)) b (M (j+1)).1 (K+(j+1))::l)):=by
      show Own _ _ _
      rw [HST.out]
      have h9:=hO8.three.tail.two.in23.three.in23
      simpa [irow] using h9
     have HRL2:Hid ((M (j+1)).2.length=ll+1):=by show _=_;rw [HST.out,List.length_append,HLL.out];rfl
     clear hO8 hsz6 H7
     go_wp2
     go_roundw
     case rel=>exact ⟨j+1,by omega,by go_num,_,_,by rw [HRL2.out],by rw [HRL2.out];exact H8.out⟩
     case measure=>simp [intOf];omega
    ·rw [if_neg hq0] at HST
     simp only [Bool.false_eq_true,if_false] at HST
     have hgt:0 < ya:=by omega
     have HS:Hid (Calls _ _ _ _ _):=HSE.out _ _ ⟨2,ya - 1,0,0⟩ rfl hO6.four
     simp only [Cp.ag] at HS
     clear hf2 hO6 H5 HFN HDS HSE HO hq hqm gq gc hy hGV c0 c2 c3
     go_wp2_with fail
     refine HS.out.mono ?_
     rintro e w6 ⟨r6,rfl,hO7⟩
     have H7:Hid (Own w0 w6 _):=hO7.back4.tail
     clear hO7 HS
     go_wp2
     go_roundw
     case rel=>exact ⟨j+1,by omega,by go_num,a1,c1,by rw [HST.out],by rw [HST.out];exact H7.out⟩
     case measure=>simp [intOf];omega
  ·have hlt':¬ (j:Int) < (xl:Int):=by omega
   have hjn:j=xl:=by omega
   subst hjn
   clear hO
   go_wp2
   go_ret
   exact ⟨a1,c1,rfl,Own.two (Own.rstoK (by omega) (RStG.less HO.out.two.tail.two))⟩
end Go.Proofs.YtogmdoiecpihdaaGreatDoor
