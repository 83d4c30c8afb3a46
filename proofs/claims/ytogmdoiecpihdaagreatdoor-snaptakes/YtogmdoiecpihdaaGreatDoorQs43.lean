/- Masks of two kinds; what moving leaves as it was; the document's turn. -/
import Derived.Test.YtogmdoiecpihdaaGreatDoorQs42
import Derived.Deep.RegionHeld3
import Derived.Test.YtogmdoiecpihdaaGreatDoorQs04
namespace Go.Proofs.YtogmdoiecpihdaaGreatDoor
open Go.RowKit Go.Maps
set_option linter.unusedVariables false
set_option maxHeartbeats 8000000
set_option maxRecDepth 100000
theorem fit_two1 {C:List Cp} (hC:∀ q∈C,q.k < 6) {m p q:Nat} (hm:∀ i,m.testBit i=(decide (i=p) || decide (i=q))):fitb m 0 (msk C)=(hasK C p && hasK C q):=by
 rw [hasK_tb1 hC,hasK_tb1 hC]
 unfold fitb
 simp only [Nat.and_zero,decide_true,Bool.and_true]
 rw [Bool.eq_iff_iff]
 simp only [decide_eq_true_iff,Bool.and_eq_true]
 constructor
 ·intro h
  constructor
  ·have:=congrArg (fun y=>y.testBit p) h
   simpa [Nat.testBit_and,hm] using this
  ·have:=congrArg (fun y=>y.testBit q) h
   simpa [Nat.testBit_and,hm] using this
 ·rintro ⟨h1,h2⟩
  apply Nat.eq_of_testBit_eq
  intro i
  rw [Nat.testBit_and,hm]
  by_cases c1:i=p
  ·subst c1;simp [h1]
  ·by_cases c2:i=q
   ·subst c2;simp [h2]
   ·simp [c1,c2]
theorem bits3:∀ i,(3:Nat).testBit i=(decide (i=0) || decide (i=1))
 | 0=>rfl
 | 1=>rfl
 | i+2=>by
  rw [Nat.testBit_lt_two_pow (Nat.lt_of_lt_of_le (show 3 < 2 ^ 2 by decide) (Nat.pow_le_pow_right (by decide) (by omega)))]
  simp
theorem bits33:∀ i,(33:Nat).testBit i=(decide (i=5) || decide (i=0))
 | 0=>rfl
 | 1=>rfl
 | 2=>rfl
 | 3=>rfl
 | 4=>rfl
 | 5=>rfl
 | i+6=>by
  rw [Nat.testBit_lt_two_pow (Nat.lt_of_lt_of_le (show 33 < 2 ^ 6 by decide) (Nat.pow_le_pow_right (by decide) (by omega)))]
  simp
theorem find_3 {σ:Sto} (hσ:σ.Ok):σ.find 3 0=σ.S.list.filter (fun id=>hasK (σ.cps id) 0 && hasK (σ.cps id) 1):=by
 unfold Sto.find
 refine List.filter_congr (fun id hid=>?_)
 rw [fit_two1 (cps61 hσ (St.list_iv1 hσ.s hid).1).2 bits3]
theorem find_33 {σ:Sto} (hσ:σ.Ok):σ.find 33 0=σ.S.list.filter (fun id=>hasK (σ.cps id) 5 && hasK (σ.cps id) 0):=by
 unfold Sto.find
 refine List.filter_congr (fun id hid=>?_)
 rw [fit_two1 (cps61 hσ (St.list_iv1 hσ.s hid).1).2 bits33]
theorem Sto.mv_oth {σ:Sto} (h:σ.Ok) {id x:Nat} (hx:σ.S.isLive x=true) (hne:x≠id):(σ.mv id).2.cps x=σ.cps x:=by
 unfold Sto.mv
 simp only
 rw [Sto.set_oth (Sto.set_ok h _ _) _ _ (by rw [Sto.set_S];exact hx) hne,Sto.set_oth h _ _ hx hne]
theorem Sto.mvs_oth {σ:Sto} (h:σ.Ok) (L:List Nat):∀ x,σ.S.isLive x=true→x ∉ L→(σ.mvs L).1.cps x=σ.cps x:=by
 refine snoc_ind (P:=fun L=>∀ x,σ.S.isLive x=true→x ∉ L→(σ.mvs L).1.cps x=σ.cps x) (fun x _ _=>rfl) ?_ L
 intro L id ih x hx hxn
 obtain ⟨i1,i2,_⟩:=Sto.mvs_inv h L
 rw [Sto.mvs_snoc]
 simp only
 rw [Sto.mv_oth i1 (by rw [i2];exact hx) (fun hh=>hxn (by simp [hh]))]
 exact ih x hx (fun hm=>hxn (by simp [hm]))
theorem rturn14 (w:World) (a b:Int) (ha:-524288≤a∧a≤524287) (hb:-32768≤b∧b≤32767):Calls Tryz.prog 112 #[.int .i32 a,.int .i32 b] w fun e w'=>e=.returned (.tuple #[.int .i32 (gl1 a b).1,.int .i32 (gl1 a b).2])∧w'=w:=by
 obtain ⟨ha1,ha2⟩:=ha
 obtain ⟨hb1,hb2⟩:=hb
 by_cases c1:a+b < -524288
 ·have hn1:¬ (-524288≤a+b):=by omega
  have hn2:a+b < 0:=by omega
  by_cases c3:b = -32768
  ·subst c3
   have e:gl1 a (-32768)=(-524288,32767):=by
    unfold gl1
    refine Prod.ext ?_ ?_
    ·show max _ _=_;omega
    ·show (if _ then _ else _)=_;rw [if_neg (by omega)];decide
   rw [e]
   clear e
   go_enter Tryz.func112,Tryz.ntmps112
   go_wp2
   go_ret2
   exact ⟨rfl,rfl⟩
  ·have hne:(b == -32768)=false:=by simpa using c3
   have e:gl1 a b=(-524288,-b):=by
    unfold gl1
    refine Prod.ext ?_ ?_
    ·show max _ _=_;omega
    ·show (if _ then _ else _)=_;rw [if_neg (by omega)];omega
   rw [e]
   clear e
   go_enter Tryz.func112,Tryz.ntmps112
   go_wp2
   go_ret2
   exact ⟨rfl,rfl⟩
 ·have hn1:-524288≤a+b:=by omega
  by_cases c2:a+b≤524287
  ·have e:gl1 a b=(a+b,b):=by
    unfold gl1
    refine Prod.ext ?_ ?_
    ·show max _ _=_;omega
    ·show (if _ then _ else _)=_;rw [if_pos (by omega)]
   rw [e]
   clear e
   go_enter Tryz.func112,Tryz.ntmps112
   go_wp2
   go_ret2
   exact ⟨rfl,rfl⟩
  ·have hn2:¬ a+b < 0:=by omega
   have hne:(b == -32768)=false:=by simp;omega
   have e:gl1 a b=(524287,-b):=by
    unfold gl1
    refine Prod.ext ?_ ?_
    ·show max _ _=_;omega
    ·show (if _ then _ else _)=_;rw [if_neg (by omega)];omega
   rw [e]
   clear e
   go_enter Tryz.func112,Tryz.ntmps112
   go_wp2
   go_ret2
   exact ⟨rfl,rfl⟩
theorem Own.six {w0 w:World} {P Q R S T U:Thing} {l:List Thing} (h:Own w0 w (P::Q::R::S::T::U::l)):Own w0 w (U::P::Q::R::S::T::l):=h.perm (List.perm_middle (l₁:=[P,Q,R,S,T]) (a:=U) (l₂:=l))
theorem rmove_ok (w0 w:World) (l:List Thing) (b:Nat) (σ:Sto) (K:Nat) (h:Own w0 w (RSto b σ K::l)) (hσ:σ.Ok) (hK:K≤900000) :
  Calls Tryz.prog 55 #[.pointer (some ⟨b,0,none⟩)] w fun e w'=>∃ ao cap,e=.returned (.slice ao (σ.mvs (σ.find 3 0)).2.length cap)∧Own w0 w' (Row 38 1 (.slice ao (σ.mvs (σ.find 3 0)).2.length cap) (σ.mvs (σ.find 3 0)).2.length (irow .u32 (σ.mvs (σ.find 3 0)).2)::RSto b (σ.mvs (σ.find 3 0)).1 (K+1024)::l):=by
 obtain ⟨i0,hi,hz0,hz1,hz2⟩:=info_parts Tryz.infoID2
 have hLV:∀ id∈σ.S.list,σ.S.isLive id=true∧id < 4294967296:=fun id hid=>St.list_iv1 hσ.s hid
 obtain ⟨x,hx,h⟩:=RSto.opn h
 have HL:Hid (Calls _ _ _ _ _):=rlistS w0 w l b σ K x h hx hσ (by omega) (fun id hid=>(hLV id hid).1)
 have hlen:=list_len2 hσ.s
 have hnd:=St.list_nodup hσ.s
 have HFE:Hid (σ.find 3 0=σ.S.list.filter (fun id=>hasK (σ.cps id) 0 && hasK (σ.cps id) 1)):=find_3 hσ
 rw [HFE.out]
 have HGG:Hid (∀ w' l',Own w0 w' (RSX b σ.S x::l')→Own w0 w' (RStG (σ.S.list.map (x.at σ)) b σ K::l')):=fun w' l' h'=>RStG.all hx hσ (fun id hid=>(hLV id hid).1) h'
 have HAT:Hid (∀ id∈σ.S.list,(x.at σ id).1=id∧(x.at σ id).2.1=σ.cps id):=by
  intro id hid
  obtain ⟨_,h1,h2,_⟩:=hx.at hσ (hLV id hid).1
  exact ⟨h1,h2⟩
 have HGV:Hid (∀ id∈σ.S.list,id < 4294967296∧lst (-1) (σ.cps id)=0∧(∀ q∈σ.cps id,q.k < 6)∧∀ q∈σ.cps id,σ.gv id q.k=q∧q.chk=0):=by
  intro id hid
  obtain ⟨hl,h32⟩:=hLV id hid
  obtain ⟨c1,c2⟩:=cps61 hσ hl
  exact ⟨h32,c1,c2,fun q hq=>gv_is hσ hl hq⟩
 obtain ⟨X,hX⟩:∃ X,σ.S.list=X:=⟨_,rfl⟩
 rw [hX] at HL hlen HGG HAT HGV hLV hnd ⊢
 obtain ⟨M,hM⟩:∃ M:Nat→Sto × List Nat,M=fun j=>σ.mvs ((X.take j).filter (fun id=>hasK (σ.cps id) 0 && hasK (σ.cps id) 1)):=⟨_,rfl⟩
 have HM0:Hid (M 0=(σ,[])):=by show _=_;rw [hM];simp [Sto.mvs]
 have HMS:Hid (∀ (j id:Nat),X[j]? = some id→M (j+1)=if hasK (σ.cps id) 0 && hasK (σ.cps id) 1 then (((M j).1.mv id).2,if ((M j).1.mv id).1 then (M j).2++[id] else (M j).2) else M j):=by
  intro j id hd
  rw [hM]
  simp only
  rw [List.take_add_one,hd]
  simp only [Option.toList_some,List.filter_append,List.filter_cons,List.filter_nil]
  cases hasK (σ.cps id) 0 && hasK (σ.cps id) 1 with
  | true=>simp only [if_true];exact Sto.mvs_snoc σ _ id
  | false=>simp
 have HME:Hid (M X.length=σ.mvs (X.filter (fun id=>hasK (σ.cps id) 0 && hasK (σ.cps id) 1))):=by show _=_;rw [hM];simp
 have HMI:Hid (∀ (j id:Nat),X[j]? = some id→(M j).1.Ok∧(M j).1.S.isLive id=true∧(M j).1.cps id=σ.cps id∧(M j).2.length≤j):=by
  intro j id hd
  have hnt:=not_take hnd hd
  have hf:(((X.take j).filter (fun id=>hasK (σ.cps id) 0 && hasK (σ.cps id) 1))).Nodup:=(hnd.sublist (List.take_sublist _ _)).filter _
  have hlv:∀ y∈(X.take j).filter (fun id=>hasK (σ.cps id) 0 && hasK (σ.cps id) 1),σ.S.isLive y=true:=fun y hy=>(hLV y (List.mem_of_mem_take (List.mem_filter.1 hy).1)).1
  have hni:id ∉ (X.take j).filter (fun id=>hasK (σ.cps id) 0 && hasK (σ.cps id) 1):=fun hm=>hnt (List.mem_filter.1 hm).1
  obtain ⟨i1,i3,_,i4⟩:=Sto.mvs_inv hσ ((X.take j).filter (fun id=>hasK (σ.cps id) 0 && hasK (σ.cps id) 1))
  have hl:=(hLV id (List.mem_of_getElem? hd)).1
  rw [hM]
  exact ⟨i1,(by rw [i3];exact hl),Sto.mvs_oth hσ _ id hl hni,Nat.le_trans i4 (Nat.le_trans (List.length_filter_le _ _) (by rw [List.length_take];omega))⟩
 have HNE:Hid (∀ (j id:Nat),X[j]? = some id→∀ d∈(X.map (x.at σ)).drop (j+1),d.1≠id):=by
  intro j id hd d hdm he
  rw [← List.map_drop] at hdm
  obtain ⟨y,hy,rfl⟩:=List.mem_map.1 hdm
  rw [(HAT.out y (List.mem_of_mem_drop hy)).1] at he
  rw [he] at hy
  exact not_drop hnd hd hy
 rw [← HME.out]
 clear h hX hLV hσ hM HME hnd HFE hx
 generalize hxl:X.length=xl at *
 have HXL:Hid (X.length=xl):=hxl
 clear hxl
 go_enter Tryz.func55,Tryz.ntmps55
 go_wp2_with fail
 refine HL.out.mono ?_
 rintro e w1 ⟨la,lc,rfl,hO1⟩
 have H1:Hid (Own w0 w1 (Row 38 1 (.slice none 0 0) 0 (irow .u32 [])::Row 76 2 (.slice la xl lc) xl (cat rcells (X.map (x.at σ)))::RStG (X.map (x.at σ)) b σ K::l)):=(HGG.out _ _ hO1.two).two.nilRow 38 1
 clear hO1 HL HGG
 go_wp2
 go_loopw [3,17] (fun v3 v9 wr=>∃ j:Nat,j≤xl∧v9=.int .i64 j∧∃ a1 c1,v3=.slice a1 (M j).2.length c1∧Own w0 wr (Row 38 1 (.slice a1 (M j).2.length c1) (M j).2.length (irow .u32 (M j).2)::Row 76 2 (.slice la xl lc) xl (cat rcells (X.map (x.at σ)))::RStG ((X.map (x.at σ)).drop j) b (M j).1 (K+j)::l)) (fun _ v9 _=>xl - (intOf v9).toNat)
 case atStart=>exact ⟨0,Nat.zero_le _,rfl,none,0,by rw [HM0.out];rfl,by rw [HM0.out];exact H1.out⟩
 case round =>
  obtain ⟨j,hj,rfl,a1,c1,rfl,hO⟩:=hrel
  have HO:Hid (Own w0 wr _):=hO
  clear H1 HM0
  by_cases hlt:j < xl
  ·have hlt':(j:Int) < (xl:Int):=by omega
   obtain ⟨id,hid⟩:∃ id,X[j]? = some id:=⟨_,List.getElem?_eq_getElem (by rw [HXL.out];exact hlt)⟩
   have hidm:=List.mem_of_getElem? hid
   obtain ⟨g,cp,hv,_⟩:=row_shape hO.two.row (by omega)
   have hla:=(Value.slice.inj hv).1
   subst hla
   obtain ⟨d,hde⟩:∃ d,x.at σ id=d:=⟨_,rfl⟩
   have hD:(X.map (x.at σ))[j]? = some d:=by rw [List.getElem?_map,hid];simp [hde]
   have hO':=hO.two
   rw [show xl=(X.map (x.at σ)).length by rw [List.length_map,HXL.out]] at hO'
   obtain ⟨e0,e1⟩:=ecell hO' j d hD
   obtain ⟨hd1,hd2⟩:=HAT.out id hidm
   rw [hde] at hd1 hd2
   obtain ⟨h32,hlC,hC6,hGV⟩:=HGV.out id hidm
   obtain ⟨i1,i2,i3,i4⟩:=HMI.out j id hid
   have HST:Hid (M (j+1)=if hasK (σ.cps id) 0 && hasK (σ.cps id) 1 then (((M j).1.mv id).2,if ((M j).1.mv id).1 then (M j).2++[id] else (M j).2) else M j):=HMS.out j id hid
   have hgv0:(M j).1.gv id 0=σ.gv id 0:=by unfold Sto.gv;rw [i3]
   have hgv1:(M j).1.gv id 1=σ.gv id 1:=by unfold Sto.gv;rw [i3]
   have HNX:Hid (∀ d'∈(X.map (x.at σ)).drop (j+1),d'.1≠id):=HNE.out j id hid
   have hdrop:=drop_at hD
   have HAG:Hid ((M j).1.mv id=(!(((gl1 (σ.gv id 0).a (σ.gv id 1).a).1 == (σ.gv id 0).a) && ((gl1 (σ.gv id 0).b (σ.gv id 1).b).1 == (σ.gv id 0).b)),(((M j).1.set id (mvP (σ.gv id 0) (σ.gv id 1))).2.set id (mvV (σ.gv id 0) (σ.gv id 1))).2)):=by
    show _=_
    unfold Sto.mv
    rw [hgv0,hgv1]
   have hO5:=(hO.allocC #[.int .u32 (d.1:Int),.slice d.2.2.1 d.2.1.length d.2.2.2] 76).drew
   have HFN:Hid (∀ w' (k:Nat),k < 6→Own w0 w' (Cells wr.heap.size #[.int .u32 (d.1:Int),.slice d.2.2.1 d.2.1.length d.2.2.2] 76::Row 38 1 (.slice a1 (M j).2.length c1) (M j).2.length (irow .u32 (M j).2)::Row 76 2 (.slice (some ⟨g,0,none⟩) xl lc) xl (cat rcells (X.map (x.at σ)))::RStG ((X.map (x.at σ)).drop j) b (M j).1 (K+j)::l)→Calls Tryz.prog 30 #[.slice d.2.2.1 d.2.1.length d.2.2.2,.int .u8 (k:Int)] w' fun e w''=>∃ r:Int,e=.returned (.int .i64 r)∧Fr Nobody w' w''∧((r = -1∧hasK d.2.1 k=false)∨∃ i:Nat,r=i∧∃ q:Cp,d.2.1[i]? = some q∧q.k=k∧hasK d.2.1 k=true)):=fun w' k hk h'=>find_any w' d.2.2.1 d.2.1.length d.2.2.2 d.2.1 rfl (RStG.cs h'.four hdrop) (by rw [hd2];exact fun q hq=>by have:=hC6 q hq;omega) (by rw [hd2];have:=lst_len6 hlC;omega) k (by omega)
   have HF0:Hid (Calls Tryz.prog 30 #[.slice d.2.2.1 d.2.1.length d.2.2.2,.int .u8 0] _ _):=HFN.out _ 0 (by decide) hO5
   have HF1:Hid (∀ w',_→Calls Tryz.prog 30 #[.slice d.2.2.1 d.2.1.length d.2.2.2,.int .u8 1] w' _):=fun w' h'=>HFN.out w' 1 (by decide) h'
   clear HFN
   have H5:Hid (Own w0 _ _):=hO5
   have HS1:Hid (∀ w' l' (c:Cp),c.k=0→Own w0 w' (RStG ((X.map (x.at σ)).drop j) b (M j).1 (K+j)::l')→Calls Tryz.prog 113 #[.pointer (some ⟨b,0,none⟩),.int .u32 (id:Int),c.ag] w' fun e w''=>∃ r,e=.returned (.int .i64 r)∧Own w0 w'' (RStG ((X.map (x.at σ)).drop (j+1)) b ((M j).1.set id c).2 (K+(j+1))::l')):=fun w' l' c hc h'=>by
    refine (rsetG w0 w' l' b (M j).1 (K+j) (RStG.sub drop_sub h') i1 id HNX.out h32 c (by omega) (by omega)).mono ?_
    rintro e w'' ⟨rfl,h2⟩
    exact ⟨_,rfl,RStG.stoK (by omega) h2⟩
   have HS2:Hid (∀ w' l' (c' c:Cp),c.k=1→Own w0 w' (RStG ((X.map (x.at σ)).drop (j+1)) b ((M j).1.set id c').2 (K+(j+1))::l')→Calls Tryz.prog 113 #[.pointer (some ⟨b,0,none⟩),.int .u32 (id:Int),c.ag] w' fun e w''=>∃ r,e=.returned (.int .i64 r)∧Own w0 w'' (RStG ((X.map (x.at σ)).drop (j+1)) b (((M j).1.set id c').2.set id c).2 (K+(j+1))::l')):=fun w' l' c' c hc h'=>by
    refine (rsetG w0 w' l' b _ (K+(j+1)) h' (Sto.set_ok i1 _ _) id HNX.out h32 c (by omega) (by omega)).mono ?_
    rintro e w'' ⟨rfl,h2⟩
    exact ⟨_,rfl,h2⟩
   rw [HAG.out] at HST
   have x1:=hO5.cell 1
   simp at x1
   clear hO hO' hid hv hO5 hidm hde hD i1 i2 i3 HAG hgv0 hgv1 HNX hlC hC6
   obtain ⟨dd1,C,da,dc⟩:=d
   simp only at e0 e1 hd1 hd2 H5 HF0 HF1 hdrop x1
   subst hd1
   generalize hcl:C.length=cl at *
   have HCL:Hid (C.length=cl):=hcl
   clear hcl
   go_wp2_with fail
   go_region_held3 (fun w':World=>w'.cell? ⟨wr.heap.size,1,none⟩=some (.slice da cl dc)) (go_keep)
    (first
     | (go_at_call 30;with_reducible refine HF0.out.mono ?_;rintro e w5 ⟨r5,rfl,hf5,hcase5⟩
        have hO6:=H5.out.quiet hf5
        have x1:=hO6.cell 1
        simp at x1
        have H6:Hid (Own w0 w5 _):=hO6
        have HC5:Hid (_∨_):=hcase5
        clear hf5 hcase5 hO6)
     | (go_at_call 30;with_reducible refine (HF1.out _ H6.out).mono ?_;rintro e w6 ⟨r6,rfl,hf6,hcase6⟩
        have hO7:=H6.out.quiet hf6
        have x1:=hO7.cell 1
        simp at x1
        have H7:Hid (Own w0 w6 _):=hO7
        have HC6:Hid (_∨_):=hcase6
        clear hf6 hcase6 hO7))
   all_goals
    rcases HC5.out with ⟨rfl,hno⟩ | ⟨i,rfl,q,hq,hqk,hy⟩
    ·rw [hd2] at hno
     rw [hno] at HST
     simp only [Bool.false_and,Bool.false_eq_true,if_false] at HST
     have H8:Hid (Own w0 w6 _):=(RStG.stoK (show K+j≤K+(j+1) by omega) (RStG.sub drop_sub H7.out.four)).back4.tail
     clear H5 H6 H7 HF0 HF1 hno HS1 HS2 HO HC5 HC6
     go_wp2
     go_roundw
     case rel=>exact ⟨j+1,by omega,by go_num,a1,c1,by rw [HST.out],by rw [HST.out];exact H8.out⟩
     case measure=>simp [intOf];omega
    ·rcases HC6.out with ⟨rfl,hno⟩ | ⟨i2,rfl,q2,hq2,hqk2,hy2⟩
     ·rw [hd2] at hno
      rw [hno] at HST
      simp only [Bool.and_false,Bool.false_eq_true,if_false] at HST
      have H8:Hid (Own w0 w6 _):=(RStG.stoK (show K+j≤K+(j+1) by omega) (RStG.sub drop_sub H7.out.four)).back4.tail
      clear H5 H6 H7 HF0 HF1 hno HS1 HS2 HO HC5 HC6 hq hqk hy
      go_wp2
      go_roundw
      case rel=>exact ⟨j+1,by omega,by go_num,a1,c1,by rw [HST.out],by rw [HST.out];exact H8.out⟩
      case measure=>simp [intOf];omega
     ·rw [hd2] at hy hy2
      rw [hy,hy2] at HST
      simp only [Bool.and_self,if_true] at HST
      have hqm:=List.mem_of_getElem? hq
      have hqm2:=List.mem_of_getElem? hq2
      rw [hd2] at hqm hqm2
      obtain ⟨gq,gc⟩:=hGV q hqm
      obtain ⟨gq2,gc2⟩:=hGV q2 hqm2
      rw [hqk] at gq
      rw [hqk2] at gq2
      rw [gq,gq2] at HST
      have hil:i < cl:=by rw [← HCL.out];exact (List.getElem?_eq_some_iff.1 hq).1
      have hil2:i2 < cl:=by rw [← HCL.out];exact (List.getElem?_eq_some_iff.1 hq2).1
      obtain ⟨gg,oc,hda,_,hat⟩:=(RStG.cs H7.out.four hdrop).at i q hq
      simp only at hda
      subst hda
      obtain ⟨gg',oc',hda',_,hat2⟩:=(RStG.cs H7.out.four hdrop).at i2 q2 hq2
      simp only [Option.some.injEq,Addr.mk.injEq] at hda'
      obtain ⟨rfl,rfl,_⟩:=hda'
      obtain ⟨p0,p1,p2,p3⟩:=hat
      obtain ⟨v0,v1,v2,v3⟩:=hat2
      obtain ⟨qk,pa,pb,pc⟩:=q
      obtain ⟨qk2,va,vb,vc⟩:=q2
      simp only at p0 p1 p2 p3 v0 v1 v2 v3 HST hqk hqk2 gc gc2
      subst hqk hqk2
      obtain ⟨b1,b2,b3,b4,b5⟩:=chk_pv (.inl rfl) gc
      obtain ⟨d1,d2,d3,d4,d5⟩:=chk_pv (.inr rfl) gc2
      simp [lo,Go.Proofs.YtogmdoiecpihdaaGreatDoor.hi,fld,kinds] at b1 b2 b3 b4 d1 d2 d3 d4
      subst b5 d5
      have hil':(i:Int) < (cl:Int):=by omega
      have hil2':(i2:Int) < (cl:Int):=by omega
      have HTA:Hid (∀ w',Calls Tryz.prog 112 #[.int .i32 pa,.int .i32 va] w' fun e w''=>e=.returned (.tuple #[.int .i32 (gl1 pa va).1,.int .i32 (gl1 pa va).2])∧w''=w'):=fun w'=>rturn14 w' pa va ⟨by omega,by omega⟩ ⟨by omega,by omega⟩
      have HTB:Hid (∀ w',Calls Tryz.prog 112 #[.int .i32 pb,.int .i32 vb] w' fun e w''=>e=.returned (.tuple #[.int .i32 (gl1 pb vb).1,.int .i32 (gl1 pb vb).2])∧w''=w'):=fun w'=>rturn14 w' pb vb ⟨by omega,by omega⟩ ⟨by omega,by omega⟩
      have HSA:Hid (∀ w' l',_→Calls Tryz.prog 113 #[.pointer (some ⟨b,0,none⟩),.int .u32 (dd1:Int),.agg #[.int .u8 0,.int .i32 (gl1 pa va).1,.int .i32 (gl1 pb vb).1,.int .i32 0]] w' _):=fun w' l' h'=>HS1.out w' l' (mvP ⟨0,pa,pb,0⟩ ⟨1,va,vb,0⟩) rfl h'
      have HSB:Hid (∀ w' l',_→Calls Tryz.prog 113 #[.pointer (some ⟨b,0,none⟩),.int .u32 (dd1:Int),.agg #[.int .u8 1,.int .i32 (gl1 pa va).2,.int .i32 (gl1 pb vb).2,.int .i32 0]] w' _):=fun w' l' h'=>HS2.out w' l' (mvP ⟨0,pa,pb,0⟩ ⟨1,va,vb,0⟩) (mvV ⟨0,pa,pb,0⟩ ⟨1,va,vb,0⟩) rfl h'
      have H7d:Hid (Own w0 w6.drew _):=H7.out.drew
      clear H5 H6 HF0 HF1 HS1 HS2 HO HC5 HC6 hq hq2 hqm hqm2 gq gq2 gc gc2 hy hy2 hGV HNE HMI HMS HAT HGV
      generalize hll:(M j).2.length=ll at *
      have HLL:Hid ((M j).2.length=ll):=hll
      clear hll
      generalize gl1 pa va=ga at *
      generalize gl1 pb vb=gb at *
      obtain ⟨ga1,ga2⟩:=ga
      obtain ⟨gb1,gb2⟩:=gb
      simp only at HTA HTB HSA HSB HST
      go_wp2_with fail
      go_region_held3 (fun w':World=>w'.cell? ⟨wr.heap.size,1,none⟩=some (.slice (some ⟨gg,oc,none⟩) cl dc)∧w'.cell? ⟨gg,oc+i*4,none⟩=some (.int .u8 0)∧w'.cell? ⟨gg,oc+i*4+1,none⟩=some (.int .i32 pa)∧w'.cell? ⟨gg,oc+i*4+2,none⟩=some (.int .i32 pb)∧w'.cell? ⟨gg,oc+i*4+3,none⟩=some (.int .i32 0)∧w'.cell? ⟨gg,oc+i2*4,none⟩=some (.int .u8 1)∧w'.cell? ⟨gg,oc+i2*4+1,none⟩=some (.int .i32 va)∧w'.cell? ⟨gg,oc+i2*4+2,none⟩=some (.int .i32 vb)∧w'.cell? ⟨gg,oc+i2*4+3,none⟩=some (.int .i32 0)) (go_keep) (fail)
      ·have hX0:=(H7.out.allocC #[.int .u8 0,.int .i32 pa,.int .i32 pb,.int .i32 0] 46).allocC #[.int .u8 1,.int .i32 va,.int .i32 vb,.int .i32 0] 46
       simp only [World.size_alloc] at hX0
       have hX1:Own w0 _ (Cells w6.heap.size #[.int .u8 0,.int .i32 pa,.int .i32 pb,.int .i32 0] 46::Cells (w6.heap.size+1) #[.int .u8 1,.int .i32 va,.int .i32 vb,.int .i32 0] 46::Cells wr.heap.size #[.int .u32 (dd1:Int),.slice (some ⟨gg,oc,none⟩) cl dc] 76::Row 38 1 (.slice a1 ll c1) ll (irow .u32 (M j).2)::Row 76 2 (.slice (some ⟨g,0,none⟩) xl lc) xl (cat rcells (X.map (x.at σ)))::RStG ((X.map (x.at σ)).drop j) b (M j).1 (K+j)::l):=hX0.two.drew
       generalize ((w6.alloc (.cells #[.int .u8 0,.int .i32 pa,.int .i32 pb,.int .i32 0] 46)).alloc (.cells #[.int .u8 1,.int .i32 va,.int .i32 vb,.int .i32 0] 46)).drew=W at hX1 ⊢
       have k1:=hX1.cell 1
       have k2:=hX1.cell 2
       have m1:=hX1.two.cell 1
       have m2:=hX1.two.cell 2
       have y0:=hX1.three.cell 0
       simp at k1 k2 m1 m2 y0
       have HX:Hid (Own w0 _ _):=hX1
       clear hX0 hX1
       go_wp2_with fail
       refine (HTA.out _).mono ?_
       rintro e wA ⟨rfl,rfl⟩
       go_wp2_with fail
       refine (HTB.out _).mono ?_
       rintro e wB ⟨rfl,rfl⟩
       clear HTA HTB
       by_cases ca:ga1=pa
       ·have hca:(ga1 != pa)=false:=by simp [ca]
        by_cases cb:gb1=pb
        ·have hcb:(gb1 != pb)=false:=by simp [cb]
         have hbb:(!(ga1 == pa && gb1 == pb))=false:=by simp [ca,cb]
         clear ca cb
         rw [hbb] at HST
         simp only [Bool.false_eq_true,if_false] at HST
         have HC1:Hid (Calls _ _ _ _ _):=HSA.out _ _ HX.out.six
         clear HX H7 H7d
         go_wp2_with fail
         refine HC1.out.mono ?_
         rintro e w8 ⟨r8,rfl,hO9⟩
         have y0:=hO9.four.cell 0
         simp at y0
         have HC2:Hid (Calls _ _ _ _ _):=HSB.out _ _ hO9
         clear hO9 HC1
         go_wp2_with fail
         refine HC2.out.mono ?_
         rintro e w9 ⟨r9,rfl,hO10⟩
         have HFI:Hid (Own w0 w9 _):=hO10.two.tail.two.tail.two.tail.back3
         clear hO10 HC2
         go_wp2
         go_roundw
         case rel=>exact ⟨j+1,by omega,by go_num,a1,c1,by rw [HST.out,HLL.out],by rw [HST.out,HLL.out];exact HFI.out⟩
         case measure=>simp [intOf];omega
        ·have hcb:(gb1 != pb)=true:=by simpa using cb
         have hbb:(!(ga1 == pa && gb1 == pb))=true:=by simp [cb]
         clear ca cb
         rw [hbb] at HST
         simp only [if_true] at HST
         have H9:Hid (Own w0 _ _):=HX.out.four
         clear HX H7 H7d
         go_wp2_with (at_builtin;refine append1_own rfl _ _ 55 rfl 38 i0 (.int .u32 0) 1 4 Tryz.underlying55 hi hz0 hz1 hz2 rfl (by decide) _ _ _ rfl H9.out _ _ (by simp) rfl rfl (one_int _ _) (by unfold maxLen;omega) (by omega) ?_)
         intro g6 c6 w7 hO8 hsz6
         have y0:=hO8.four.cell 0
         simp at y0
         have HC1:Hid (Calls _ _ _ _ _):=HSA.out _ _ hO8.six
         clear hO8 hsz6 H9
         go_wp2_with fail
         refine HC1.out.mono ?_
         rintro e w8 ⟨r8,rfl,hO9⟩
         have y0:=hO9.five.cell 0
         simp at y0
         have HC2:Hid (Calls _ _ _ _ _):=HSB.out _ _ hO9
         clear hO9 HC1
         go_wp2_with fail
         refine HC2.out.mono ?_
         rintro e w9 ⟨r9,rfl,hO10⟩
         have HFI:Hid (Own w0 w9 (Row 38 1 (.slice (some ⟨g6,0,none⟩) (ll+1) c6) (ll+1) (irow .u32 (M (j+1)).2)::Row 76 2 (.slice (some ⟨g,0,none⟩) xl lc) xl (cat rcells (X.map (x.at σ)))::RStG ((X.map (x.at σ)).drop (j+1)) b (M (j+1)).1 (K+(j+1))::l)):=by
          show Own _ _ _
          rw [HST.out]
          have h9:=hO10.three.tail.three.tail.three.tail.back3
          simpa [irow] using h9
         have HRL2:Hid ((M (j+1)).2.length=ll+1):=by show _=_;rw [HST.out,List.length_append,HLL.out];rfl
         clear hO10 HC2
         go_wp2
         go_roundw
         case rel=>exact ⟨j+1,by omega,by go_num,_,_,by rw [HRL2.out],by rw [HRL2.out];exact HFI.out⟩
         case measure=>simp [intOf];omega
       ·have hca:(ga1 != pa)=true:=by simpa using ca
        have hbb:(!(ga1 == pa && gb1 == pb))=true:=by simp [ca]
        clear ca
        rw [hbb] at HST
        simp only [if_true] at HST
        have H9:Hid (Own w0 _ _):=HX.out.four
        clear HX H7 H7d
        go_wp2_with (at_builtin;refine append1_own rfl _ _ 55 rfl 38 i0 (.int .u32 0) 1 4 Tryz.underlying55 hi hz0 hz1 hz2 rfl (by decide) _ _ _ rfl H9.out _ _ (by simp) rfl rfl (one_int _ _) (by unfold maxLen;omega) (by omega) ?_)
        intro g6 c6 w7 hO8 hsz6
        have y0:=hO8.four.cell 0
        simp at y0
        have HC1:Hid (Calls _ _ _ _ _):=HSA.out _ _ hO8.six
        clear hO8 hsz6 H9
        go_wp2_with fail
        refine HC1.out.mono ?_
        rintro e w8 ⟨r8,rfl,hO9⟩
        have y0:=hO9.five.cell 0
        simp at y0
        have HC2:Hid (Calls _ _ _ _ _):=HSB.out _ _ hO9
        clear hO9 HC1
        go_wp2_with fail
        refine HC2.out.mono ?_
        rintro e w9 ⟨r9,rfl,hO10⟩
        have HFI:Hid (Own w0 w9 (Row 38 1 (.slice (some ⟨g6,0,none⟩) (ll+1) c6) (ll+1) (irow .u32 (M (j+1)).2)::Row 76 2 (.slice (some ⟨g,0,none⟩) xl lc) xl (cat rcells (X.map (x.at σ)))::RStG ((X.map (x.at σ)).drop (j+1)) b (M (j+1)).1 (K+(j+1))::l)):=by
         show Own _ _ _
         rw [HST.out]
         have h9:=hO10.three.tail.three.tail.three.tail.back3
         simpa [irow] using h9
        have HRL2:Hid ((M (j+1)).2.length=ll+1):=by show _=_;rw [HST.out,List.length_append,HLL.out];rfl
        clear hO10 HC2
        go_wp2
        go_roundw
        case rel=>exact ⟨j+1,by omega,by go_num,_,_,by rw [HRL2.out],by rw [HRL2.out];exact HFI.out⟩
        case measure=>simp [intOf];omega
      ·have hX0:=(H7.out.allocC #[.int .u8 1,.int .i32 va,.int .i32 vb,.int .i32 0] 46).allocC #[.int .u8 0,.int .i32 pa,.int .i32 pb,.int .i32 0] 46
       simp only [World.size_alloc] at hX0
       have hX1:Own w0 _ (Cells (w6.heap.size+1) #[.int .u8 0,.int .i32 pa,.int .i32 pb,.int .i32 0] 46::Cells w6.heap.size #[.int .u8 1,.int .i32 va,.int .i32 vb,.int .i32 0] 46::Cells wr.heap.size #[.int .u32 (dd1:Int),.slice (some ⟨gg,oc,none⟩) cl dc] 76::Row 38 1 (.slice a1 ll c1) ll (irow .u32 (M j).2)::Row 76 2 (.slice (some ⟨g,0,none⟩) xl lc) xl (cat rcells (X.map (x.at σ)))::RStG ((X.map (x.at σ)).drop j) b (M j).1 (K+j)::l):=hX0.drew
       generalize ((w6.alloc (.cells #[.int .u8 1,.int .i32 va,.int .i32 vb,.int .i32 0] 46)).alloc (.cells #[.int .u8 0,.int .i32 pa,.int .i32 pb,.int .i32 0] 46)).drew=W at hX1 ⊢
       have k1:=hX1.cell 1
       have k2:=hX1.cell 2
       have m1:=hX1.two.cell 1
       have m2:=hX1.two.cell 2
       have y0:=hX1.three.cell 0
       simp at k1 k2 m1 m2 y0
       have HX:Hid (Own w0 _ _):=hX1
       clear hX0 hX1
       go_wp2_with fail
       refine (HTA.out _).mono ?_
       rintro e wA ⟨rfl,rfl⟩
       go_wp2_with fail
       refine (HTB.out _).mono ?_
       rintro e wB ⟨rfl,rfl⟩
       clear HTA HTB
       by_cases ca:ga1=pa
       ·have hca:(ga1 != pa)=false:=by simp [ca]
        by_cases cb:gb1=pb
        ·have hcb:(gb1 != pb)=false:=by simp [cb]
         have hbb:(!(ga1 == pa && gb1 == pb))=false:=by simp [ca,cb]
         clear ca cb
         rw [hbb] at HST
         simp only [Bool.false_eq_true,if_false] at HST
         have HC1:Hid (Calls _ _ _ _ _):=HSA.out _ _ HX.out.six
         clear HX H7 H7d
         go_wp2_with fail
         refine HC1.out.mono ?_
         rintro e w8 ⟨r8,rfl,hO9⟩
         have y0:=hO9.four.cell 0
         simp at y0
         have HC2:Hid (Calls _ _ _ _ _):=HSB.out _ _ hO9
         clear hO9 HC1
         go_wp2_with fail
         refine HC2.out.mono ?_
         rintro e w9 ⟨r9,rfl,hO10⟩
         have HFI:Hid (Own w0 w9 _):=hO10.two.tail.two.tail.two.tail.back3
         clear hO10 HC2
         go_wp2
         go_roundw
         case rel=>exact ⟨j+1,by omega,by go_num,a1,c1,by rw [HST.out,HLL.out],by rw [HST.out,HLL.out];exact HFI.out⟩
         case measure=>simp [intOf];omega
        ·have hcb:(gb1 != pb)=true:=by simpa using cb
         have hbb:(!(ga1 == pa && gb1 == pb))=true:=by simp [cb]
         clear ca cb
         rw [hbb] at HST
         simp only [if_true] at HST
         have H9:Hid (Own w0 _ _):=HX.out.four
         clear HX H7 H7d
         go_wp2_with (at_builtin;refine append1_own rfl _ _ 55 rfl 38 i0 (.int .u32 0) 1 4 Tryz.underlying55 hi hz0 hz1 hz2 rfl (by decide) _ _ _ rfl H9.out _ _ (by simp) rfl rfl (one_int _ _) (by unfold maxLen;omega) (by omega) ?_)
         intro g6 c6 w7 hO8 hsz6
         have y0:=hO8.four.cell 0
         simp at y0
         have HC1:Hid (Calls _ _ _ _ _):=HSA.out _ _ hO8.six
         clear hO8 hsz6 H9
         go_wp2_with fail
         refine HC1.out.mono ?_
         rintro e w8 ⟨r8,rfl,hO9⟩
         have y0:=hO9.five.cell 0
         simp at y0
         have HC2:Hid (Calls _ _ _ _ _):=HSB.out _ _ hO9
         clear hO9 HC1
         go_wp2_with fail
         refine HC2.out.mono ?_
         rintro e w9 ⟨r9,rfl,hO10⟩
         have HFI:Hid (Own w0 w9 (Row 38 1 (.slice (some ⟨g6,0,none⟩) (ll+1) c6) (ll+1) (irow .u32 (M (j+1)).2)::Row 76 2 (.slice (some ⟨g,0,none⟩) xl lc) xl (cat rcells (X.map (x.at σ)))::RStG ((X.map (x.at σ)).drop (j+1)) b (M (j+1)).1 (K+(j+1))::l)):=by
          show Own _ _ _
          rw [HST.out]
          have h9:=hO10.three.tail.three.tail.three.tail.back3
          simpa [irow] using h9
         have HRL2:Hid ((M (j+1)).2.length=ll+1):=by show _=_;rw [HST.out,List.length_append,HLL.out];rfl
         clear hO10 HC2
         go_wp2
         go_roundw
         case rel=>exact ⟨j+1,by omega,by go_num,_,_,by rw [HRL2.out],by rw [HRL2.out];exact HFI.out⟩
         case measure=>simp [intOf];omega
       ·have hca:(ga1 != pa)=true:=by simpa using ca
        have hbb:(!(ga1 == pa && gb1 == pb))=true:=by simp [ca]
        clear ca
        rw [hbb] at HST
        simp only [if_true] at HST
        have H9:Hid (Own w0 _ _):=HX.out.four
        clear HX H7 H7d
        go_wp2_with (at_builtin;refine append1_own rfl _ _ 55 rfl 38 i0 (.int .u32 0) 1 4 Tryz.underlying55 hi hz0 hz1 hz2 rfl (by decide) _ _ _ rfl H9.out _ _ (by simp) rfl rfl (one_int _ _) (by unfold maxLen;omega) (by omega) ?_)
        intro g6 c6 w7 hO8 hsz6
        have y0:=hO8.four.cell 0
        simp at y0
        have HC1:Hid (Calls _ _ _ _ _):=HSA.out _ _ hO8.six
        clear hO8 hsz6 H9
        go_wp2_with fail
        refine HC1.out.mono ?_
        rintro e w8 ⟨r8,rfl,hO9⟩
        have y0:=hO9.five.cell 0
        simp at y0
        have HC2:Hid (Calls _ _ _ _ _):=HSB.out _ _ hO9
        clear hO9 HC1
        go_wp2_with fail
        refine HC2.out.mono ?_
        rintro e w9 ⟨r9,rfl,hO10⟩
        have HFI:Hid (Own w0 w9 (Row 38 1 (.slice (some ⟨g6,0,none⟩) (ll+1) c6) (ll+1) (irow .u32 (M (j+1)).2)::Row 76 2 (.slice (some ⟨g,0,none⟩) xl lc) xl (cat rcells (X.map (x.at σ)))::RStG ((X.map (x.at σ)).drop (j+1)) b (M (j+1)).1 (K+(j+1))::l)):=by
         show Own _ _ _
         rw [HST.out]
         have h9:=hO10.three.tail.three.tail.three.tail.back3
         simpa [irow] using h9
        have HRL2:Hid ((M (j+1)).2.length=ll+1):=by show _=_;rw [HST.out,List.length_append,HLL.out];rfl
        clear hO10 HC2
        go_wp2
        go_roundw
        case rel=>exact ⟨j+1,by omega,by go_num,_,_,by rw [HRL2.out],by rw [HRL2.out];exact HFI.out⟩
        case measure=>simp [intOf];omega
  ·have hlt':¬ (j:Int) < (xl:Int):=by omega
   have hjn:j=xl:=by omega
   subst hjn
   clear hO
   go_wp2
   go_ret
   exact ⟨a1,c1,rfl,Own.two (Own.rstoK (by omega) (RStG.less HO.out.two.tail.two))⟩
end Go.Proofs.YtogmdoiecpihdaaGreatDoor
