/- Breed as the document says it: the loop. -/
import Derived.Test.YtogmdoiecpihdaaGreatDoorQs43
import Derived.Test.YtogmdoiecpihdaaGreatDoorQs24
import Derived.Test.YtogmdoiecpihdaaGreatDoorQs41
import Derived.Deep.RegionHeld3
namespace Go.Proofs.YtogmdoiecpihdaaGreatDoor
open Go.RowKit Go.Maps
set_option linter.unusedVariables false
set_option maxHeartbeats 8000000
set_option maxRecDepth 100000
theorem Own.neC {w0 w:World} {b b2:Nat} {cur cur2:Array Value} {t t2:TypeId} {l:List Thing} (h:Own w0 w (Cells b cur t::Cells b2 cur2 t2::l)):b≠b2:=by
 obtain ⟨A,⟨B,C,hB,⟨D,E,hD,hE,hde,hc⟩,hbc,hA⟩,hF,hlo⟩:=h
 exact fun hk=>hbc b ((hB.2 b).2 rfl) ((hc b).2 (.inl ((hD.2 b).2 hk)))
theorem Sto.br_oth {σ:Sto} (h:σ.Ok) {id x:Nat} (hx:σ.S.isLive x=true) (hne:x≠id):(σ.br id).2.cps x=σ.cps x:=by
 unfold Sto.br
 split
 ·split
  ·obtain ⟨h1,h2⟩:=Sto.spawn_live h (C:=chl (σ.gv id 5).c (σ.gv id 0) (decide (id % 1024 % 2=1))) hx
   rw [Sto.set_oth (Sto.spawn_ok h _) _ _ h1 hne]
   exact h2
  ·rfl
 ·exact Sto.set_oth h _ _ hx hne
theorem Sto.brs_oth {σ:Sto} (h:σ.Ok) (L:List Nat):∀ x,σ.S.isLive x=true→x ∉ L→(σ.brs L).1.cps x=σ.cps x:=by
 refine snoc_ind (P:=fun L=>∀ x,σ.S.isLive x=true→x ∉ L→(σ.brs L).1.cps x=σ.cps x) (fun x _ _=>rfl) ?_ L
 intro L id ih x hx hxn
 obtain ⟨i1,i2,_⟩:=Sto.brs_inv h L
 rw [Sto.brs_snoc]
 simp only
 rw [Sto.br_oth i1 (i2 x hx).1 (fun hh=>hxn (by simp [hh]))]
 exact ih x hx (fun hm=>hxn (by simp [hm]))
theorem rbreed_ok (w0 w:World) (l:List Thing) (b:Nat) (σ:Sto) (K:Nat) (h:Own w0 w (RSto b σ K::l)) (hσ:σ.Ok) (hK:K≤900000) :
  Calls Tryz.prog 57 #[.pointer (some ⟨b,0,none⟩)] w fun e w'=>∃ ao cap,e=.returned (.slice ao (σ.brs (σ.find 33 0)).2.length cap)∧Own w0 w' (Row 38 1 (.slice ao (σ.brs (σ.find 33 0)).2.length cap) (σ.brs (σ.find 33 0)).2.length (irow .u32 (σ.brs (σ.find 33 0)).2)::RSto b (σ.brs (σ.find 33 0)).1 (K+1024)::l):=by
 obtain ⟨i0,hi,hz0,hz1,hz2⟩:=info_parts Tryz.infoID2
 have hLV:∀ id∈σ.S.list,σ.S.isLive id=true∧id < 4294967296:=fun id hid=>St.list_iv1 hσ.s hid
 obtain ⟨x,hx,h⟩:=RSto.opn h
 have HL:Hid (Calls _ _ _ _ _):=rlistS w0 w l b σ K x h hx hσ (by omega) (fun id hid=>(hLV id hid).1)
 have hlen:=list_len2 hσ.s
 have hnd:=St.list_nodup hσ.s
 have HFE:Hid (σ.find 33 0=σ.S.list.filter (fun id=>hasK (σ.cps id) 5 && hasK (σ.cps id) 0)):=find_33 hσ
 rw [HFE.out]
 have HGG:Hid (∀ w' l',Own w0 w' (RSX b σ.S x::l')→Own w0 w' (RStG (σ.S.list.map (x.at σ)) b σ K::l')):=fun w' l' h'=>RStG.all hx hσ (fun id hid=>(hLV id hid).1) h'
 have HAT:Hid (∀ id∈σ.S.list,(x.at σ id).1=id∧(x.at σ id).2.1=σ.cps id):=by
  intro id hid
  obtain ⟨_,h1,h2,_⟩:=hx.at hσ (hLV id hid).1
  exact ⟨h1,h2⟩
 have HGV:Hid (∀ id∈σ.S.list,id < 4294967296∧lst (-1) (σ.cps id)=0∧(∀ q∈σ.cps id,q.k < 6)∧∀ q∈σ.cps id,σ.gv id q.k=q∧q.chk=0):=by
  intro id hid
  obtain ⟨hl,h32⟩:=hLV id hid
  obtain ⟨c1,c2⟩:=cps61 hσ hl
  exact ⟨h32,c1,c2,fun q hq=>gv_is hσ hl hq⟩
 obtain ⟨X,hX⟩:∃ X,σ.S.list=X:=⟨_,rfl⟩
 rw [hX] at HL hlen HGG HAT HGV hLV hnd ⊢
 obtain ⟨M,hM⟩:∃ M:Nat→Sto × List Nat,M=fun j=>σ.brs ((X.take j).filter (fun id=>hasK (σ.cps id) 5 && hasK (σ.cps id) 0)):=⟨_,rfl⟩
 have HM0:Hid (M 0=(σ,[])):=by show _=_;rw [hM];simp [Sto.brs]
 have HMS:Hid (∀ (j id:Nat),X[j]? = some id→M (j+1)=if hasK (σ.cps id) 5 && hasK (σ.cps id) 0 then (((M j).1.br id).2,(M j).2++((M j).1.br id).1.toList) else M j):=by
  intro j id hd
  rw [hM]
  simp only
  rw [List.take_add_one,hd]
  simp only [Option.toList_some,List.filter_append,List.filter_cons,List.filter_nil]
  cases hasK (σ.cps id) 5 && hasK (σ.cps id) 0 with
  | true=>simp only [if_true];exact Sto.brs_snoc σ _ id
  | false=>simp
 have HME:Hid (M X.length=σ.brs (X.filter (fun id=>hasK (σ.cps id) 5 && hasK (σ.cps id) 0))):=by show _=_;rw [hM];simp
 have HMI:Hid (∀ (j id:Nat),X[j]? = some id→(M j).1.Ok∧(M j).1.S.isLive id=true∧(M j).1.cps id=σ.cps id∧(M j).2.length≤j):=by
  intro j id hd
  have hnt:=not_take hnd hd
  have hf:(((X.take j).filter (fun id=>hasK (σ.cps id) 5 && hasK (σ.cps id) 0))).Nodup:=(hnd.sublist (List.take_sublist _ _)).filter _
  have hlv:∀ y∈(X.take j).filter (fun id=>hasK (σ.cps id) 5 && hasK (σ.cps id) 0),σ.S.isLive y=true:=fun y hy=>(hLV y (List.mem_of_mem_take (List.mem_filter.1 hy).1)).1
  have hni:id ∉ (X.take j).filter (fun id=>hasK (σ.cps id) 5 && hasK (σ.cps id) 0):=fun hm=>hnt (List.mem_filter.1 hm).1
  obtain ⟨i1,i3,i4⟩:=Sto.brs_inv hσ ((X.take j).filter (fun id=>hasK (σ.cps id) 5 && hasK (σ.cps id) 0))
  have hl:=(hLV id (List.mem_of_getElem? hd)).1
  rw [hM]
  exact ⟨i1,(i3 id hl).1,Sto.brs_oth hσ _ id hl hni,Nat.le_trans i4 (Nat.le_trans (List.length_filter_le _ _) (by rw [List.length_take];omega))⟩
 have HLG:Hid (∀ j,∀ d∈(X.map (x.at σ)).drop j,(M j).1.S.isLive d.1=true):=by
  intro j d hdm
  rw [← List.map_drop] at hdm
  obtain ⟨y,hy,rfl⟩:=List.mem_map.1 hdm
  have hym:=List.mem_of_mem_drop hy
  rw [(HAT.out y hym).1,hM]
  exact ((Sto.brs_inv hσ ((X.take j).filter (fun id=>hasK (σ.cps id) 5 && hasK (σ.cps id) 0))).2.1 y (hLV y hym).1).1
 have HNE:Hid (∀ (j id:Nat),X[j]? = some id→∀ d∈(X.map (x.at σ)).drop (j+1),d.1≠id):=by
  intro j id hd d hdm he
  rw [← List.map_drop] at hdm
  obtain ⟨y,hy,rfl⟩:=List.mem_map.1 hdm
  rw [(HAT.out y (List.mem_of_mem_drop hy)).1] at he
  rw [he] at hy
  exact not_drop hnd hd hy
 rw [← HME.out]
 clear h hX hLV hσ hM HME hnd HFE hx
 generalize hxl:X.length=xl at *
 have HXL:Hid (X.length=xl):=hxl
 clear hxl
 go_enter Tryz.func57,Tryz.ntmps57
 go_wp2_with fail
 refine HL.out.mono ?_
 rintro e w1 ⟨la,lc,rfl,hO1⟩
 have H1:Hid (Own w0 w1 (Row 38 1 (.slice none 0 0) 0 (irow .u32 [])::Row 76 2 (.slice la xl lc) xl (cat rcells (X.map (x.at σ)))::RStG (X.map (x.at σ)) b σ K::l)):=(HGG.out _ _ hO1.two).two.nilRow 38 1
 clear hO1 HL HGG
 go_wp2
 go_loopw [3,14] (fun v3 v9 wr=>∃ j:Nat,j≤xl∧v9=.int .i64 j∧∃ a1 c1,v3=.slice a1 (M j).2.length c1∧Own w0 wr (Row 38 1 (.slice a1 (M j).2.length c1) (M j).2.length (irow .u32 (M j).2)::Row 76 2 (.slice la xl lc) xl (cat rcells (X.map (x.at σ)))::RStG ((X.map (x.at σ)).drop j) b (M j).1 (K+j)::l)) (fun _ v9 _=>xl - (intOf v9).toNat)
 case atStart=>exact ⟨0,Nat.zero_le _,rfl,none,0,by rw [HM0.out];rfl,by rw [HM0.out];exact H1.out⟩
 case round =>
  obtain ⟨j,hj,rfl,a1,c1,rfl,hO⟩:=hrel
  have HO:Hid (Own w0 wr _):=hO
  clear H1 HM0
  by_cases hlt:j < xl
  ·have hlt':(j:Int) < (xl:Int):=by omega
   obtain ⟨id,hid⟩:∃ id,X[j]? = some id:=⟨_,List.getElem?_eq_getElem (by rw [HXL.out];exact hlt)⟩
   have hidm:=List.mem_of_getElem? hid
   obtain ⟨g,cp,hv,_⟩:=row_shape hO.two.row (by omega)
   have hla:=(Value.slice.inj hv).1
   subst hla
   obtain ⟨d,hde⟩:∃ d,x.at σ id=d:=⟨_,rfl⟩
   have hD:(X.map (x.at σ))[j]? = some d:=by rw [List.getElem?_map,hid];simp [hde]
   have hO':=hO.two
   rw [show xl=(X.map (x.at σ)).length by rw [List.length_map,HXL.out]] at hO'
   obtain ⟨e0,e1⟩:=ecell hO' j d hD
   obtain ⟨hd1,hd2⟩:=HAT.out id hidm
   rw [hde] at hd1 hd2
   obtain ⟨h32,hlC,hC6,hGV⟩:=HGV.out id hidm
   obtain ⟨i1,i2,i3,i4⟩:=HMI.out j id hid
   have HST:Hid (M (j+1)=if hasK (σ.cps id) 5 && hasK (σ.cps id) 0 then (((M j).1.br id).2,(M j).2++((M j).1.br id).1.toList) else M j):=HMS.out j id hid
   have hgv0:(M j).1.gv id 0=σ.gv id 0:=by unfold Sto.gv;rw [i3]
   have hgv1:(M j).1.gv id 5=σ.gv id 5:=by unfold Sto.gv;rw [i3]
   have HNX:Hid (∀ d'∈(X.map (x.at σ)).drop (j+1),d'.1≠id):=HNE.out j id hid
   have HLJ:=HLG.out j
   have hdrop:=drop_at hD
   have HAG:Hid ((M j).1.br id=if (σ.gv id 5).b=0 then if ((M j).1.spawn (chl (σ.gv id 5).c (σ.gv id 0) (decide (id % 1024 % 2=1)))).2.1=0 then (some ((M j).1.spawn (chl (σ.gv id 5).c (σ.gv id 0) (decide (id % 1024 % 2=1)))).1,(((M j).1.spawn (chl (σ.gv id 5).c (σ.gv id 0) (decide (id % 1024 % 2=1)))).2.2.set id ⟨5,(σ.gv id 5).a,(σ.gv id 5).a - 1,(σ.gv id 5).c⟩).2) else (none,(M j).1) else (none,((M j).1.set id ⟨5,(σ.gv id 5).a,(σ.gv id 5).b - 1,(σ.gv id 5).c⟩).2)):=by
    show _=_
    unfold Sto.br
    rw [hgv0,hgv1]
   have hO5:=(hO.allocC #[.int .u32 (d.1:Int),.slice d.2.2.1 d.2.1.length d.2.2.2] 76).drew
   have HFN:Hid (∀ w' (k:Nat),k < 6→Own w0 w' (Cells wr.heap.size #[.int .u32 (d.1:Int),.slice d.2.2.1 d.2.1.length d.2.2.2] 76::Row 38 1 (.slice a1 (M j).2.length c1) (M j).2.length (irow .u32 (M j).2)::Row 76 2 (.slice (some ⟨g,0,none⟩) xl lc) xl (cat rcells (X.map (x.at σ)))::RStG ((X.map (x.at σ)).drop j) b (M j).1 (K+j)::l)→Calls Tryz.prog 30 #[.slice d.2.2.1 d.2.1.length d.2.2.2,.int .u8 (k:Int)] w' fun e w''=>∃ r:Int,e=.returned (.int .i64 r)∧Fr Nobody w' w''∧((r = -1∧hasK d.2.1 k=false)∨∃ i:Nat,r=i∧∃ q:Cp,d.2.1[i]? = some q∧q.k=k∧hasK d.2.1 k=true)):=fun w' k hk h'=>find_any w' d.2.2.1 d.2.1.length d.2.2.2 d.2.1 rfl (RStG.cs h'.four hdrop) (by rw [hd2];exact fun q hq=>by have:=hC6 q hq;omega) (by rw [hd2];have:=lst_len6 hlC;omega) k (by omega)
   have HF0:Hid (Calls Tryz.prog 30 #[.slice d.2.2.1 d.2.1.length d.2.2.2,.int .u8 5] _ _):=HFN.out _ 5 (by decide) hO5
   have HF1:Hid (∀ w',_→Calls Tryz.prog 30 #[.slice d.2.2.1 d.2.1.length d.2.2.2,.int .u8 0] w' _):=fun w' h'=>HFN.out w' 0 (by decide) h'
   clear HFN
   have H5:Hid (Own w0 _ _):=hO5
   have HS1:Hid (∀ w' l' (c:Cp),c.k=5→Own w0 w' (RStG ((X.map (x.at σ)).drop j) b (M j).1 (K+j)::l')→Calls Tryz.prog 113 #[.pointer (some ⟨b,0,none⟩),.int .u32 (id:Int),c.ag] w' fun e w''=>∃ r,e=.returned (.int .i64 r)∧Own w0 w'' (RStG ((X.map (x.at σ)).drop (j+1)) b ((M j).1.set id c).2 (K+(j+1))::l')):=fun w' l' c hc h'=>by
    refine (rsetG w0 w' l' b (M j).1 (K+j) (RStG.sub drop_sub h') i1 id HNX.out h32 c (by omega) (by omega)).mono ?_
    rintro e w'' ⟨rfl,h2⟩
    exact ⟨_,rfl,RStG.stoK (by omega) h2⟩
   have HS2:Hid (∀ w' l' (C':List Cp) (c:Cp),c.k=5→Own w0 w' (RStG ((X.map (x.at σ)).drop j) b ((M j).1.spawn C').2.2 (K+j+1)::l')→Calls Tryz.prog 113 #[.pointer (some ⟨b,0,none⟩),.int .u32 (id:Int),c.ag] w' fun e w''=>∃ r,e=.returned (.int .i64 r)∧Own w0 w'' (RStG ((X.map (x.at σ)).drop (j+1)) b (((M j).1.spawn C').2.2.set id c).2 (K+(j+1))::l')):=fun w' l' C' c hc h'=>by
    refine (rsetG w0 w' l' b _ (K+j+1) (RStG.sub drop_sub h') (Sto.spawn_ok i1 _) id HNX.out h32 c (by omega) (by omega)).mono ?_
    rintro e w'' ⟨rfl,h2⟩
    exact ⟨_,rfl,h2⟩
   have HSPW:Hid (∀ w' gb l' (k:Nat) (a b' c s:Int) (od:Bool),k < 256→Own w0 w' (RStG ((X.map (x.at σ)).drop j) b (M j).1 (K+j)::Cells gb (c16 (k:Int) a b' c (if od then -(64*(s+1)) else 64*(s+1)) s) 46::l')→Calls Tryz.prog 115 #[.pointer (some ⟨b,0,none⟩),.slice (some ⟨gb,0,none⟩) 4 4] w' fun e w''=>e=.returned (.tuple #[.int .u32 (((M j).1.spawn (chl s ⟨k,a,b',c⟩ od)).1:Int),.int .i64 ((M j).1.spawn (chl s ⟨k,a,b',c⟩ od)).2.1])∧Own w0 w'' (RStG ((X.map (x.at σ)).drop j) b ((M j).1.spawn (chl s ⟨k,a,b',c⟩ od)).2.2 (K+j+1)::Cells gb (c16 (k:Int) a b' c (if od then -(64*(s+1)) else 64*(s+1)) s) 46::l')):=fun w' gb l' k a b' c s od hk h'=>rspawnG w0 w' _ b (M j).1 (K+j) h' i1 HLJ (some ⟨gb,0,none⟩) 4 4 (chl s ⟨k,a,b',c⟩ od) rfl (fun w'' h''=>c16_at h'') (by intro q hq;simp [chl] at hq;rcases hq with rfl | rfl | rfl | rfl <;> simp [hk]) (by decide) (by omega)
   have HSB:Hid (∀ C',((M j).1.spawn C').2.1≠0→((M j).1.spawn C').2.2=(M j).1):=fun C' hne=>Sto.spawn_bad hne
   have HSL:Hid (∀ w',Calls Tryz.prog 117 #[.int .u32 (id:Int)] w' fun e w''=>e=.returned (.int .i64 ((id % 1024:Nat):Int))∧w''=w'):=fun w'=>rslot_any id w' h32
   rw [HAG.out] at HST
   have x1:=hO5.cell 1
   simp at x1
   clear hO hO' hid hv hO5 hidm hde hD i1 i2 i3 HAG hgv0 hgv1 HNX hlC hC6 HLJ
   obtain ⟨dd1,C,da,dc⟩:=d
   simp only at e0 e1 hd1 hd2 H5 HF0 HF1 hdrop x1
   subst hd1
   generalize hcl:C.length=cl at *
   have HCL:Hid (C.length=cl):=hcl
   clear hcl
   go_wp2_with fail
   go_region_held3 (fun w':World=>w'.cell? ⟨wr.heap.size,1,none⟩=some (.slice da cl dc)) (go_keep)
    (first
     | (go_at_call 30;with_reducible refine HF0.out.mono ?_;rintro e w5 ⟨r5,rfl,hf5,hcase5⟩
        have hO6:=H5.out.quiet hf5
        have x1:=hO6.cell 1
        simp at x1
        have H6:Hid (Own w0 w5 _):=hO6
        have HC5:Hid (_∨_):=hcase5
        clear hf5 hcase5 hO6)
     | (go_at_call 30;with_reducible refine (HF1.out _ H6.out).mono ?_;rintro e w6 ⟨r6,rfl,hf6,hcase6⟩
        have hO7:=H6.out.quiet hf6
        have x1:=hO7.cell 1
        simp at x1
        have H7:Hid (Own w0 w6 _):=hO7
        have HC6:Hid (_∨_):=hcase6
        clear hf6 hcase6 hO7))
   all_goals
    rcases HC5.out with ⟨rfl,hno⟩ | ⟨i,rfl,q,hq,hqk,hy⟩
    ·rw [hd2] at hno
     rw [hno] at HST
     simp only [Bool.false_and,Bool.false_eq_true,if_false] at HST
     have H8:Hid (Own w0 w6 _):=(RStG.stoK (show K+j≤K+(j+1) by omega) (RStG.sub drop_sub H7.out.four)).back4.tail
     clear H5 H6 H7 HF0 HF1 hno HS1 HS2 HSPW HSB HSL HO HC5 HC6
     go_wp2
     go_roundw
     case rel=>exact ⟨j+1,by omega,by go_num,a1,c1,by rw [HST.out],by rw [HST.out];exact H8.out⟩
     case measure=>simp [intOf];omega
    ·rcases HC6.out with ⟨rfl,hno⟩ | ⟨i2,rfl,q2,hq2,hqk2,hy2⟩
     ·rw [hd2] at hno
      rw [hno] at HST
      simp only [Bool.and_false,Bool.false_eq_true,if_false] at HST
      have H8:Hid (Own w0 w6 _):=(RStG.stoK (show K+j≤K+(j+1) by omega) (RStG.sub drop_sub H7.out.four)).back4.tail
      clear H5 H6 H7 HF0 HF1 hno HS1 HS2 HSPW HSB HSL HO HC5 HC6 hq hqk hy
      go_wp2
      go_roundw
      case rel=>exact ⟨j+1,by omega,by go_num,a1,c1,by rw [HST.out],by rw [HST.out];exact H8.out⟩
      case measure=>simp [intOf];omega
     ·rw [hd2] at hy hy2
      rw [hy,hy2] at HST
      simp only [Bool.and_self,if_true] at HST
      have hqm:=List.mem_of_getElem? hq
      have hqm2:=List.mem_of_getElem? hq2
      rw [hd2] at hqm hqm2
      obtain ⟨gq,gc⟩:=hGV q hqm
      obtain ⟨gq2,gc2⟩:=hGV q2 hqm2
      rw [hqk] at gq
      rw [hqk2] at gq2
      rw [gq,gq2] at HST
      have hil:i < cl:=by rw [← HCL.out];exact (List.getElem?_eq_some_iff.1 hq).1
      have hil2:i2 < cl:=by rw [← HCL.out];exact (List.getElem?_eq_some_iff.1 hq2).1
      have HCE:Hid (∀ w' σ' K' l',Own w0 w' (RStG ((X.map (x.at σ)).drop j) b σ' K'::l')→∃ gg oc,da=some ⟨gg,oc,none⟩∧(w'.cell? ⟨gg,oc+i*4,none⟩=some (.int .u8 (q.k:Int))∧w'.cell? ⟨gg,oc+i*4+1,none⟩=some (.int .i32 q.a)∧w'.cell? ⟨gg,oc+i*4+2,none⟩=some (.int .i32 q.b)∧w'.cell? ⟨gg,oc+i*4+3,none⟩=some (.int .i32 q.c))∧(w'.cell? ⟨gg,oc+i2*4,none⟩=some (.int .u8 (q2.k:Int))∧w'.cell? ⟨gg,oc+i2*4+1,none⟩=some (.int .i32 q2.a)∧w'.cell? ⟨gg,oc+i2*4+2,none⟩=some (.int .i32 q2.b)∧w'.cell? ⟨gg,oc+i2*4+3,none⟩=some (.int .i32 q2.c))):=by
       intro w' σ' K' l' h'
       have hcs:=RStG.cs h' hdrop
       obtain ⟨gg,oc,hda,_,hat⟩:=hcs.at i q hq
       obtain ⟨gg',oc',hda',_,hat2⟩:=hcs.at i2 q2 hq2
       simp only at hda hda'
       rw [hda] at hda'
       simp only [Option.some.injEq,Addr.mk.injEq] at hda'
       obtain ⟨rfl,rfl,_⟩:=hda'
       exact ⟨gg,oc,hda,hat,hat2⟩
      obtain ⟨gg,oc,hda,⟨p0,p1,p2,p3⟩,v0,v1,v2,v3⟩:=HCE.out _ _ _ _ H7.out.four
      subst hda
      obtain ⟨⟨qa1,qa2⟩,⟨qb1,qb2⟩,qc1,qc2⟩:=spawn_in hqk gc
      obtain ⟨qk,qa,qb,qc⟩:=q
      obtain ⟨qk2,pa,pb,pc⟩:=q2
      simp only at p0 p1 p2 p3 v0 v1 v2 v3 HST hqk hqk2 qa1 qa2 qb1 qb2 qc1 qc2 HCE
      subst hqk hqk2
      have HCF:Hid (∀ w' σ' K' l',Own w0 w' (RStG ((X.map (x.at σ)).drop j) b σ' K'::l')→w'.cell? ⟨gg,oc+i2*4,none⟩=some (.int .u8 0)∧w'.cell? ⟨gg,oc+i2*4+1,none⟩=some (.int .i32 pa)∧w'.cell? ⟨gg,oc+i2*4+2,none⟩=some (.int .i32 pb)∧w'.cell? ⟨gg,oc+i2*4+3,none⟩=some (.int .i32 pc)):=by
       intro w' σ' K' l' h'
       obtain ⟨gg',oc',hda',_,h2⟩:=HCE.out _ _ _ _ h'
       simp only [Option.some.injEq,Addr.mk.injEq] at hda'
       obtain ⟨rfl,rfl,_⟩:=hda'
       exact h2
      have hil':(i:Int) < (cl:Int):=by omega
      have hil2':(i2:Int) < (cl:Int):=by omega
      clear H5 H6 HF0 HF1 HO HC5 HC6 hq hq2 hqm hqm2 gq gq2 gc gc2 hy hy2 hGV HNE HMI HMS HAT HGV HCE HLG
      generalize hll:(M j).2.length=ll at *
      have HLL:Hid ((M j).2.length=ll):=hll
      clear hll
      by_cases hqb:qb=0
      ·subst hqb
       rw [if_pos rfl] at HST
       obtain ⟨sn,hsn⟩:∃ sn,dd1 % 1024=sn:=⟨_,rfl⟩
       rw [hsn] at HST HSL
       obtain ⟨od,hod⟩:∃ od,decide (sn % 2=1)=od:=⟨_,rfl⟩
       rw [hod] at HST
       have hod2:((sn:Int).tmod 2 == 1)=od:=by
        rw [← hod,Bool.eq_iff_iff,Int.tmod_eq_emod_of_nonneg (by omega)]
        simp only [beq_iff_eq,decide_eq_true_iff]
        omega
       have hsn2:sn < 1024:=by omega
       have HCH:Hid (∀ w' l',Own w0 w' l'→Calls Tryz.prog 116 #[.int .i32 qc,.agg #[.int .u8 0,.int .i32 pa,.int .i32 pb,.int .i32 pc],.bool od] w' fun e w''=>∃ g,e=.returned (.slice (some ⟨g,0,none⟩) 4 4)∧Own w0 w'' (Cells g (c16 ((0:Nat):Int) pa pb pc (if od then -(64*(qc+1)) else 64*(qc+1)) qc) 46::l')):=fun w' l' h'=>rchild_ok w0 w' l' h' qc qc1 (by omega) 0 pa pb pc od
       have HSP:Hid (∀ w' gb l',_→Calls Tryz.prog 115 #[.pointer (some ⟨b,0,none⟩),.slice (some ⟨gb,0,none⟩) 4 4] w' _):=fun w' gb l' h'=>HSPW.out w' gb l' 0 pa pb pc qc od (by decide) h'
       have HSE:Hid (∀ w' l',_→Calls Tryz.prog 113 #[.pointer (some ⟨b,0,none⟩),.int .u32 (dd1:Int),.agg #[.int .u8 5,.int .i32 qa,.int .i32 (qa - 1),.int .i32 qc]] w' _):=fun w' l' h'=>HS2.out w' l' (chl qc ⟨0,pa,pb,pc⟩ od) ⟨5,qa,qa - 1,qc⟩ rfl h'
       have HSBD:=HSB.out (chl qc ⟨0,pa,pb,pc⟩ od)
       clear HS1 HS2 HSPW HSB hsn hod
       generalize (M j).1.spawn (chl qc ⟨0,pa,pb,pc⟩ od)=sp at *
       obtain ⟨sp1,sp2,sp3⟩:=sp
       simp only at HSP HSE HSBD HST
       have HSBX:Hid (sp2≠0→sp3=(M j).1):=HSBD
       clear HSBD
       have hB:=(H7.out.allocC #[.int .u8 5,.int .i32 qa,.int .i32 0,.int .i32 qc] 46).drew
       have z3:=hB.cell 3
       have y0:=hB.two.cell 0
       have y1:=hB.two.cell 1
       obtain ⟨v0,v1,v2,v3⟩:=HCF.out _ _ _ _ hB.five
       simp at z3 y0 y1 v0 v1 v2 v3
       have HB:Hid (Own w0 _ _):=hB
       clear hB
       go_wp2_with fail
       go_region_held3 (fun w':World=>w'.cell? ⟨w6.heap.size,3,none⟩=some (.int .i32 qc)∧w'.cell? ⟨wr.heap.size,0,none⟩=some (.int .u32 (dd1:Int))∧w'.cell? ⟨wr.heap.size,1,none⟩=some (.slice (some ⟨gg,oc,none⟩) cl dc)∧w'.cell? ⟨gg,oc+i2*4,none⟩=some (.int .u8 0)∧w'.cell? ⟨gg,oc+i2*4+1,none⟩=some (.int .i32 pa)∧w'.cell? ⟨gg,oc+i2*4+2,none⟩=some (.int .i32 pb)∧w'.cell? ⟨gg,oc+i2*4+3,none⟩=some (.int .i32 pc)) (go_keep)
        (first
         | (go_at_call 117;refine (HSL.out _).mono ?_;rintro e w2 ⟨rfl,rfl⟩)
         | (go_at_call 116;refine (HCH.out _ _ HB.out).mono ?_;rintro e w3 ⟨gb,rfl,hO3⟩
            have z3:=hO3.two.cell 3
            have y0:=hO3.three.cell 0
            have y1:=hO3.three.cell 1
            obtain ⟨v0,v1,v2,v3⟩:=HCF.out _ _ _ _ hO3.six
            simp at z3 y0 y1
            have H3:Hid (Own w0 w3 _):=hO3.six
            clear hO3)
         | (go_at_call 115;refine (HSP.out _ _ _ H3.out).mono ?_;rintro e w4 ⟨rfl,hO4⟩
            have z3:=hO4.three.cell 3
            have y0:=hO4.four.cell 0
            have y1:=hO4.four.cell 1
            obtain ⟨v0,v1,v2,v3⟩:=HCF.out _ _ _ _ hO4
            simp at z3 y0 y1
            have H4:Hid (Own w0 w4 _):=hO4
            clear hO4))
       all_goals
        by_cases hs:sp2=0
        ·subst hs
         rw [if_pos rfl] at HST
         simp only [Option.toList_some] at HST
         have hO4:=H4.out.three
         have z0:=hO4.cell 0
         have z1:=hO4.cell 1
         have z2:=hO4.cell 2
         have z3:=hO4.cell 3
         simp at z0 z1 z2 z3
         have u0:=hO4.froz 0
         have u1:=hO4.froz 1
         have u2:=hO4.froz 2
         have u3:=hO4.froz 3
         have hne:=hO4.four.neC
         have hne2:=hne.symm
         have hO5:=hO4.setC 2 (.int .i32 (qa - 1))
         have HS:Hid (Calls _ _ _ _ _):=HSE.out _ _ hO5.two
         clear hO4 hO5 H3 H4 HB H7 HCH HSP HSE HSBX HSL HCF
         go_wp2_with fail
         refine HS.out.mono ?_
         rintro e w7 ⟨r7,rfl,hO8⟩
         have H9:Hid (Own w0 w7 _):=hO8.two.tail.two.tail.two.tail.two
         clear hO8 HS
         go_wp2_with (at_builtin;refine append1_own rfl _ _ 55 rfl 38 i0 (.int .u32 0) 1 4 Tryz.underlying55 hi hz0 hz1 hz2 rfl (by decide) _ _ _ rfl H9.out _ _ (by simp) rfl rfl (one_int _ _) (by unfold maxLen;omega) (by omega) ?_)
         intro g6 c6 w8 hO10 hsz6
         have HFI:Hid (Own w0 w8 (Row 38 1 (.slice (some ⟨g6,0,none⟩) (ll+1) c6) (ll+1) (irow .u32 (M (j+1)).2)::Row 76 2 (.slice (some ⟨g,0,none⟩) xl lc) xl (cat rcells (X.map (x.at σ)))::RStG ((X.map (x.at σ)).drop (j+1)) b (M (j+1)).1 (K+(j+1))::l)):=by
          show Own _ _ _
          rw [HST.out]
          have h9:=hO10.in23
          simpa [irow] using h9
         have HRL2:Hid ((M (j+1)).2.length=ll+1):=by show _=_;rw [HST.out,List.length_append,HLL.out];rfl
         clear hO10 hsz6 H9
         go_wp2
         go_roundw
         case rel=>exact ⟨j+1,by omega,by go_num,_,_,by rw [HRL2.out],by rw [HRL2.out];exact HFI.out⟩
         case measure=>simp [intOf];omega
        ·rw [if_neg hs] at HST
         have hne:(sp2 == 0)=false:=by simpa using hs
         have hsb:sp3=(M j).1:=HSBX.out hs
         simp only [Option.toList_none,List.append_nil] at HST
         have HFI:Hid (Own w0 w4 (Row 38 1 (.slice a1 ll c1) ll (irow .u32 (M j).2)::Row 76 2 (.slice (some ⟨g,0,none⟩) xl lc) xl (cat rcells (X.map (x.at σ)))::RStG ((X.map (x.at σ)).drop (j+1)) b (M j).1 (K+(j+1))::l)):=by
          have h9:=RStG.sub drop_sub H4.out.two.tail.two.tail.two.tail
          rw [hsb] at h9
          exact h9.back3
         clear H3 H4 HB H7 HCH HSP HSE HSBX HSL HCF hsb
         go_wp2
         go_roundw
         case rel=>exact ⟨j+1,by omega,by go_num,a1,c1,by rw [HST.out,HLL.out],by rw [HST.out,HLL.out];exact HFI.out⟩
         case measure=>simp [intOf];omega
      ·rw [if_neg hqb] at HST
       simp only [Option.toList_none,List.append_nil] at HST
       have hgt:0 < qb:=by omega
       have hO8:=H7.out.allocC #[.int .u8 5,.int .i32 qa,.int .i32 (qb - 1),.int .i32 qc] 46
       have y0:=hO8.two.cell 0
       simp at y0
       have HS:Hid (Calls Tryz.prog 113 #[.pointer (some ⟨b,0,none⟩),.int .u32 (dd1:Int),.agg #[.int .u8 5,.int .i32 qa,.int .i32 (qb - 1),.int .i32 qc]] _ _):=HS1.out _ _ ⟨5,qa,qb - 1,qc⟩ rfl hO8.five
       clear hO8 H7 HS1 HS2 HSPW HSB HSL HCF
       go_wp2_with fail
       refine HS.out.mono ?_
       rintro e w7 ⟨r7,rfl,hO9⟩
       have HFI:Hid (Own w0 w7 _):=hO9.two.tail.two.tail.back3
       clear hO9 HS
       go_wp2
       go_roundw
       case rel=>exact ⟨j+1,by omega,by go_num,a1,c1,by rw [HST.out,HLL.out],by rw [HST.out,HLL.out];exact HFI.out⟩
       case measure=>simp [intOf];omega
  ·have hlt':¬ (j:Int) < (xl:Int):=by omega
   have hjn:j=xl:=by omega
   subst hjn
   clear hO
   go_wp2
   go_ret
   exact ⟨a1,c1,rfl,Own.two (Own.rstoK (by omega) (RStG.less HO.out.two.tail.two))⟩
end Go.Proofs.YtogmdoiecpihdaaGreatDoor
