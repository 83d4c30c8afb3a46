/- The snapshot of a whole world names just those that have a place: SnapIDs returns true, whatever its argument, where the table of the components lies as the program's text lays it, and changes nothing that was there. -/
import Derived.Test.YtogmdoiecpihdaaGreatDoorQs48
import Derived.Test.YtogmdoiecpihdaaGreatDoorQs50
import Derived.Test.YtogmdoiecpihdaaGreatDoorQs46
import Derived.OpenShut
import Derived.SevenTiedAt
import Derived.Deep.CutBlock
namespace Go.Proofs.YtogmdoiecpihdaaGreatDoor
open Go.ChangeShapes Go.WideShapes Go.ChangeAt Go.RowKit Go.Maps
set_option linter.unusedVariables false
set_option maxHeartbeats 32000000
set_option maxRecDepth 100000
def PrS (σ:Sto) (i j id:Nat):Prop:=∃ p q:Nat,q < 4∧(p < i∨(p=i∧q < j))∧id∈sids σ true (-24+16*(p:Int)) (-24+16*(q:Int)) 8 σ.S.list
theorem prs_0 (σ:Sto) (id:Nat):¬ PrS σ 0 0 id:=by
 rintro ⟨p,q,_,h,_⟩
 omega
theorem prs_next (σ:Sto) (i id:Nat):PrS σ i 4 id ↔ PrS σ (i+1) 0 id:=by
 constructor
 ·rintro ⟨p,q,hq,h,hm⟩
  exact ⟨p,q,hq,by omega,hm⟩
 ·rintro ⟨p,q,hq,h,hm⟩
  exact ⟨p,q,hq,by omega,hm⟩
theorem prs_step {σ:Sto} {i j:Nat} {X Y:List Nat} (hj:j < 4) (hX:∀ id,id∈X ↔ PrS σ i j id) (hY:∀ id,id∈Y ↔ id∈sids σ true (-24+16*(i:Int)) (-24+16*(j:Int)) 8 σ.S.list):∀ id,id∈X++Y ↔ PrS σ i (j+1) id:=by
 intro id
 rw [List.mem_append,hX,hY]
 constructor
 ·rintro (⟨p,q,hq,h,hm⟩ | h)
  ·exact ⟨p,q,hq,by omega,hm⟩
  ·exact ⟨i,j,hj,by omega,h⟩
 ·rintro ⟨p,q,hq,h,hm⟩
  by_cases c:p=i∧q=j
  ·obtain ⟨rfl,rfl⟩:=c
   exact .inr hm
  ·exact .inl ⟨p,q,hq,by omega,hm⟩
theorem pos_rng {σ:Sto} (hσ:σ.Ok) {id:Nat} (hid:id∈σ.S.list) {q:Cp} (hq:q∈σ.cps id) (hk0:q.k=0):(-524288≤q.a∧q.a≤524287)∧(-524288≤q.b∧q.b≤524287):=by
 obtain ⟨r,C,hr,he,hC,_⟩:=hσ.ent (St.list_w hσ.s hid).1
 rw [Sto.cps_of hr he] at hq
 have hk:=((lst_ok hC).2 q hq).2
 unfold Cp.chk chk at hk
 rw [hk0,if_neg (by omega)] at hk
 by_cases hs:stray 0 (f3 q.a q.b q.c)=true
 ·rw [if_pos hs] at hk;cases hk
 ·rw [if_neg hs] at hk
  by_cases ho:outside 0 (f3 q.a q.b q.c)=true
  ·rw [if_pos ho] at hk;cases hk
  ·have ho':outside 0 (f3 q.a q.b q.c)=false:=by simpa using ho
   unfold outside at ho'
   rw [List.any_eq_false] at ho'
   have e0:lo 0 0 = -524288∧hi 0 0=524287∧lo 0 1 = -524288∧hi 0 1=524287∧cnt 0=2:=by decide
   obtain ⟨e1,e2,e3,e4,e5⟩:=e0
   have h0:=ho' 0 (List.mem_range.2 (by rw [e5];decide))
   have h1:=ho' 1 (List.mem_range.2 (by rw [e5];decide))
   rw [e1,e2] at h0
   rw [e3,e4] at h1
   have f0:f3 q.a q.b q.c 0=q.a:=rfl
   have f1:f3 q.a q.b q.c 1=q.b:=rfl
   rw [f0] at h0
   rw [f1] at h1
   simp only [Bool.or_eq_true,decide_eq_true_iff,not_or] at h0 h1
   omega
theorem cen_of {c:Int} (h:-32≤c∧c≤31):∃ p:Nat,p < 4∧-24+16*(p:Int) - 8≤c∧c ≤ -24+16*(p:Int)+8:=by
 by_cases h1:c ≤ -16
 ·exact ⟨0,by decide,by omega,by omega⟩
 ·by_cases h2:c≤0
  ·exact ⟨1,by decide,by omega,by omega⟩
  ·by_cases h3:c≤16
   ·exact ⟨2,by decide,by omega,by omega⟩
   ·exact ⟨3,by decide,by omega,by omega⟩
theorem prs_all {σ:Sto} (hσ:σ.Ok) (id:Nat):PrS σ 4 0 id ↔ id∈σ.S.list∧hasK (σ.cps id) 0=true:=by
 constructor
 ·rintro ⟨p,q,_,_,hm⟩
  unfold sids at hm
  obtain ⟨h1,h2⟩:=List.mem_filter.1 hm
  refine ⟨h1,?_⟩
  unfold seeB at h2
  obtain ⟨c,hc,h3⟩:=List.any_eq_true.1 h2
  unfold seeQ at h3
  rw [Bool.and_eq_true] at h3
  have hk:c.k=0:=of_decide_eq_true h3.1
  rw [← hk]
  exact hasK_true hc
 ·rintro ⟨h1,h2⟩
  unfold hasK at h2
  obtain ⟨c,hc,h3⟩:=List.any_eq_true.1 h2
  have hk:c.k=0:=of_decide_eq_true h3
  obtain ⟨⟨a1,a2⟩,b1,b2⟩:=pos_rng hσ h1 hc hk
  obtain ⟨p,hp,p1,p2⟩:=cen_of (c:=cel c.a) (by unfold cel;omega)
  obtain ⟨q,hq,q1,q2⟩:=cen_of (c:=cel c.b) (by unfold cel;omega)
  refine ⟨p,q,hq,.inl hp,?_⟩
  unfold sids
  refine List.mem_filter.2 ⟨h1,?_⟩
  unfold seeB
  rw [List.any_eq_true]
  refine ⟨c,hc,?_⟩
  unfold seeQ hasC hasR
  simp only [hk,decide_true,Bool.true_and,Bool.and_eq_true,inR_iff,bw_iff]
  omega
def idsA (X:List Nat) (i:Nat):Option Unit:=if i∈X then some () else none
theorem idsA_put (X:List Nat) (k x:Nat) (hx:X[k]? = some x):(fun y=>if y=x then some (Value.bool true) else (idsA (X.take k) y).map (fun _=>Value.bool true))=fun y=>(idsA (X.take (k+1)) y).map (fun _=>Value.bool true):=by
 funext y
 unfold idsA
 rw [List.take_add_one,hx]
 by_cases c:y=x
 ·simp [c]
 ·by_cases d:y∈X.take k <;> simp [c,d]
theorem keyN_put1 {X:List Nat} {k x sz:Nat} (hx:X[k]? = some x) (hx32:x < 4294967296) (h:KeyN (idsA (X.take k)) sz):KeyN (idsA (X.take (k+1))) (if (idsA (X.take k) x).isSome then sz else sz+1):=by
 refine (h.put x hx32 ()).is (fun i _=>?_)
 unfold idsA
 rw [List.take_add_one,hx]
 by_cases c:i=x
 ·simp [c]
 ·by_cases d:i∈X.take k <;> simp [c,d]
theorem filt_len {M:List EnE} {ids:List Nat} {f:Nat→List Cp} (h:M.map (fun x=>(x.id,x.C))=ids.map (fun id=>(id,f id))) (p:List Cp→Bool):(M.filter (fun x=>p x.C)).length=(ids.filter (fun id=>p (f id))).length:=by
 have e1:(M.filter (fun x=>p x.C)).length=((M.map (fun x=>(x.id,x.C))).filter (fun y=>p y.2)).length:=by
  rw [List.filter_map,List.length_map];rfl
 have e2:(ids.filter (fun id=>p (f id))).length=((ids.map (fun id=>(id,f id))).filter (fun y=>p y.2)).length:=by
  rw [List.filter_map,List.length_map];rfl
 rw [e1,e2,h]
theorem filt_take {M:List EnE} {j:Nat} {x:EnE} (hx:M[j]? = some x) (p:EnE→Bool):((M.take (j+1)).filter p).length=((M.take j).filter p).length+(if p x then 1 else 0):=by
 rw [List.take_add_one,hx,List.filter_append,List.length_append]
 congr 1
 cases h:p x <;> simp [h]
theorem ents_in {M:List EnE} {σ:Sto} (h:M.map (fun x=>(x.id,x.C))=σ.S.list.map (fun id=>(id,σ.cps id))) {x:EnE} (hx:x∈M):x.id∈σ.S.list∧x.C=σ.cps x.id:=by
 have hm:(x.id,x.C)∈σ.S.list.map (fun id=>(id,σ.cps id)):=by rw [← h];exact List.mem_map.2 ⟨x,hx,rfl⟩
 obtain ⟨id,hid,e⟩:=List.mem_map.1 hm
 simp only [Prod.mk.injEq] at e
 rw [← e.1,← e.2]
 exact ⟨hid,rfl⟩
theorem zeroBl (w:World):(zeroValue 4).run Tryz.prog w=.ok (.bool false) w:=by kernel_rfl
theorem snapIDs_fr (w:World) (ht:Tab w) (ao:Option Addr) (len cap:Nat) (Q:List LsoE) (hQ:IsLsos w ao len cap Q) :
  Calls Tryz.prog 6 #[.slice ao len cap] w fun e w'=>e=.returned (.bool true)∧Fr Nobody w w':=by
 obtain ⟨i0,hi,hz0,hz1,hz2⟩:=info_parts Tryz.infoIDh
 have HT:Hid (Tab w):=ht
 have HAW:Hid (Calls _ _ _ _ _):=awake18 w ht
 have HRU:Hid (∀ W,Fr Nobody w W→_):=fun W hf=>run18 w ht W hf ao len cap Q hQ
 have hmm:=fun w=>@run_makeMap Tryz.prog 83 w
 clear ht hQ
 go_enter Tryz.func6,Tryz.ntmps6
 go_wp2_with fail
 refine HAW.out.mono ?_
 rintro e w1 ⟨rfl,hf⟩
 have HC:Hid (Calls _ _ _ _ _):=HRU.out w1 hf
 clear hf HAW HRU
 go_wp2_with fail
 refine HC.out.mono ?_
 rintro e w2 ⟨ba,bb,x,y,K,n,K2,rfl,hj,hK,hn,hK2,hO⟩
 have H2:Hid (Own w w2 [WdT ba x K n,Row 38 1 (.slice none 0 0) 0 (irow .u32 [])]):=(hO.two.tail.nilRow _ _).two
 obtain ⟨T0,σ,E0,S0,P0⟩:=x
 have hok:=hj.ok
 simp only at hok
 have Hσ:Hid σ.Ok:=hok
 have hKK:K≤1000000:=by omega
 generalize hx:(⟨T0,σ,E0,S0,P0⟩:Wd)=x at *
 have Hσx:Hid (x.σ=σ):=by show _=_;rw [← hx]
 clear hO HC hj hok hx
 go_wp2
 refine wp_loop (fun a' wr=>∃ (i:Nat) (cx:Int) (X:List Nat) (wn wc:Nat) (wa:Option Addr),a'={ tmps:=#[gf a' 0,gf a' 1,gf a' 2,.pointer (some ⟨ba,0,none⟩),gf a' 4,.slice wa wn wc,.int .i64 cx,gf a' 7,gf a' 8,gf a' 9,gf a' 10,gf a' 11,gf a' 12,gf a' 13,gf a' 14,gf a' 15,gf a' 16,gf a' 17,gf a' 18,gf a' 19,gf a' 20,gf a' 21,gf a' 22,gf a' 23,gf a' 24,gf a' 25,gf a' 26,gf a' 27,gf a' 28,gf a' 29,gf a' 30,gf a' 31,gf a' 32,gf a' 33,gf a' 34,gf a' 35,gf a' 36,gf a' 37,gf a' 38,gf a' 39,gf a' 40,gf a' 41,gf a' 42,gf a' 43,gf a' 44,gf a' 45,gf a' 46,gf a' 47,gf a' 48,gf a' 49,gf a' 50,gf a' 51,gf a' 52,gf a' 53,gf a' 54,gf a' 55,gf a' 56,gf a' 57,gf a' 58,gf a' 59,gf a' 60,gf a' 61,gf a' 62,gf a' 63,gf a' 64,gf a' 65,gf a' 66,gf a' 67,gf a' 68,gf a' 69,gf a' 70,gf a' 71,gf a' 72,gf a' 73,gf a' 74,gf a' 75,gf a' 76,gf a' 77,gf a' 78,gf a' 79,gf a' 80,gf a' 81,gf a' 82,gf a' 83,gf a' 84],defers:=[] }∧i≤4∧cx = -32+16*(i:Int)∧X.length=wn∧wn≤i*4096∧(∀ id,id∈X ↔ PrS σ i 0 id)∧Own w wr [WdT ba x K n,Row 38 1 (.slice wa wn wc) wn (irow .u32 X)]) (fun a' _=>(32 - intOf (a'.tmps.getD 6 undef)).toNat) ?_ ?_
 ·exact ⟨0,-32,[],0,0,none,rfl,Nat.zero_le _,rfl,rfl,Nat.zero_le _,fun id=>⟨fun h=>(by cases h),fun h=>absurd h (prs_0 σ id)⟩,H2.out⟩
 ·intro a' wr hI
  obtain ⟨i,cx,X,wn,wc,wa,hact,hi',hcx,hXl,hwn,hX,hO⟩:=hI
  obtain ⟨u,hu⟩:∃ u:Nat→Value,∀ k,gf a' k=u k:=⟨_,fun _=>rfl⟩
  simp only [hu] at hact
  clear hu
  subst hact
  clear H2
  have HX:Hid (X.length=wn∧∀ id,id∈X ↔ PrS σ i 0 id):=⟨hXl,hX⟩
  have HCX:Hid (cx = -32+16*(i:Int)):=hcx
  have hcx1:-32≤cx:=by omega
  have hcx2:cx≤32:=by omega
  clear hXl hX hcx
  by_cases hlt:cx < 32
  ·have hi4:i < 4:=by have:=HCX.out;omega
   have HO:Hid (Own w wr _):=hO
   clear hO
   go_wp2
   refine wp_loop (fun a' wr=>∃ (j:Nat) (cy:Int) (X:List Nat) (wn wc:Nat) (wa:Option Addr),a'={ tmps:=#[gf a' 0,gf a' 1,gf a' 2,.pointer (some ⟨ba,0,none⟩),gf a' 4,.slice wa wn wc,.int .i64 cx,.int .i64 cy,gf a' 8,gf a' 9,gf a' 10,gf a' 11,gf a' 12,gf a' 13,gf a' 14,gf a' 15,gf a' 16,gf a' 17,gf a' 18,gf a' 19,gf a' 20,gf a' 21,gf a' 22,gf a' 23,gf a' 24,gf a' 25,gf a' 26,gf a' 27,gf a' 28,gf a' 29,gf a' 30,gf a' 31,gf a' 32,gf a' 33,gf a' 34,gf a' 35,gf a' 36,gf a' 37,gf a' 38,gf a' 39,gf a' 40,gf a' 41,gf a' 42,gf a' 43,gf a' 44,gf a' 45,gf a' 46,gf a' 47,gf a' 48,gf a' 49,gf a' 50,gf a' 51,gf a' 52,gf a' 53,gf a' 54,gf a' 55,gf a' 56,gf a' 57,gf a' 58,gf a' 59,gf a' 60,gf a' 61,gf a' 62,gf a' 63,gf a' 64,gf a' 65,gf a' 66,gf a' 67,gf a' 68,gf a' 69,gf a' 70,gf a' 71,gf a' 72,gf a' 73,gf a' 74,gf a' 75,gf a' 76,gf a' 77,gf a' 78,gf a' 79,gf a' 80,gf a' 81,gf a' 82,gf a' 83,gf a' 84],defers:=[] }∧j≤4∧cy = -32+16*(j:Int)∧X.length=wn∧wn≤i*4096+j*1024∧(∀ id,id∈X ↔ PrS σ i j id)∧Own w wr [WdT ba x K n,Row 38 1 (.slice wa wn wc) wn (irow .u32 X)]) (fun a' _=>(32 - intOf (a'.tmps.getD 7 undef)).toNat) ?_ ?_
   ·exact ⟨0,-32,X,wn,wc,wa,rfl,Nat.zero_le _,rfl,HX.out.1,by omega,HX.out.2,HO.out⟩
   ·intro a' wr hI
    obtain ⟨j,cy,X,wn,wc,wa,hact,hj',hcy,hXl,hwn,hX,hO⟩:=hI
    obtain ⟨u2,hu⟩:∃ u2:Nat→Value,∀ k,gf a' k=u2 k:=⟨_,fun _=>rfl⟩
    simp only [hu] at hact
    clear hu
    subst hact
    clear HO HX
    have HX:Hid (X.length=wn∧∀ id,id∈X ↔ PrS σ i j id):=⟨hXl,hX⟩
    have HCY:Hid (cy = -32+16*(j:Int)):=hcy
    have hcy1:-32≤cy:=by omega
    have hcy2:cy≤32:=by omega
    clear hXl hX hcy
    by_cases hlt2:cy < 32
    ·have hj4:j < 4:=by have:=HCY.out;omega
     have HD:Hid (Calls _ _ _ _ _):=direct_any w wr HT.out _ ba K n x (by rw [Hσx.out];exact Hσ.out) hKK true (cx+8) (cy+8) 8 hO
     rw [Hσx.out] at HD
     unfold rgv at HD
     clear hO
     go_wp2_with fail
     refine HD.out.mono ?_
     rintro e w3 ⟨da,dc,M,rfl,hMp,hMv,hO⟩
     have hids:∀ id,id∈M.map EnE.id ↔ id∈sids σ true (-24+16*(i:Int)) (-24+16*(j:Int)) 8 σ.S.list:=by
      have hp:=hMv.map (fun z:En=>z.1)
      have e1:(evs M).map (fun z:En=>z.1)=M.map EnE.id:=by unfold evs;rw [List.map_map];rfl
      have e2:(tks σ (sids σ true (cx+8) (cy+8) 8 σ.S.list)).map (fun z:En=>z.1)=sids σ true (cx+8) (cy+8) 8 σ.S.list:=by unfold tks;rw [List.map_map];exact List.map_id' _
      rw [e1,e2] at hp
      have e3:cx+8 = -24+16*(i:Int):=by have:=HCX.out;omega
      have e4:cy+8 = -24+16*(j:Int):=by have:=HCY.out;omega
      rw [e3,e4] at hp
      exact fun id=>hp.mem_iff
     have hml:M.length≤1024:=by
      have h1:=hMv.length_eq
      rw [evs_len] at h1
      rw [h1]
      unfold tks sids
      rw [List.length_map]
      exact Nat.le_trans (List.length_filter_le _ _) (list_lenW Hσ.out.s)
     have HXN:Hid (∀ id,id∈X++M.map EnE.id ↔ PrS σ i (j+1) id):=prs_step hj4 HX.out.2 hids
     obtain ⟨dl,hdl⟩:∃ dl,M.length=dl:=⟨_,rfl⟩
     have HDL:Hid (M.length=dl):=hdl
     have H3:Hid (Own w w3 [EntsT da dc M,WdT ba x K n,Row 38 1 (.slice wa wn wc) wn (irow .u32 X)]):=hO
     rw [hdl] at hml ⊢
     clear HD hMp hMv hO hids hdl
     go_wp2
     refine wp_loop (fun a' wr=>∃ (k wn wc:Nat) (wa:Option Addr) (Z:List Nat),a'={ tmps:=#[gf a' 0,gf a' 1,gf a' 2,.pointer (some ⟨ba,0,none⟩),gf a' 4,.slice wa wn wc,.int .i64 cx,.int .i64 cy,gf a' 8,gf a' 9,gf a' 10,gf a' 11,gf a' 12,gf a' 13,gf a' 14,gf a' 15,gf a' 16,gf a' 17,gf a' 18,gf a' 19,gf a' 20,gf a' 21,gf a' 22,gf a' 23,gf a' 24,gf a' 25,gf a' 26,gf a' 27,gf a' 28,gf a' 29,gf a' 30,gf a' 31,gf a' 32,gf a' 33,gf a' 34,gf a' 35,gf a' 36,gf a' 37,.slice da dl dc,.int .i64 (dl:Int),.int .i64 (k:Int),gf a' 41,gf a' 42,gf a' 43,gf a' 44,gf a' 45,gf a' 46,gf a' 47,gf a' 48,gf a' 49,gf a' 50,gf a' 51,gf a' 52,gf a' 53,gf a' 54,gf a' 55,gf a' 56,gf a' 57,gf a' 58,gf a' 59,gf a' 60,gf a' 61,gf a' 62,gf a' 63,gf a' 64,gf a' 65,gf a' 66,gf a' 67,gf a' 68,gf a' 69,gf a' 70,gf a' 71,gf a' 72,gf a' 73,gf a' 74,gf a' 75,gf a' 76,gf a' 77,gf a' 78,gf a' 79,gf a' 80,gf a' 81,gf a' 82,gf a' 83,gf a' 84],defers:=[] }∧k≤dl∧wn≤i*4096+j*1024+k∧Z=X++(M.take k).map EnE.id∧Z.length=wn∧Own w wr [EntsT da dc M,WdT ba x K n,Row 38 1 (.slice wa wn wc) wn (irow .u32 Z)]) (fun a' _=>dl - (intOf (a'.tmps.getD 40 undef)).toNat) ?_ ?_
     ·exact ⟨0,wn,wc,wa,X,rfl,Nat.zero_le _,by omega,by simp,HX.out.1,H3.out⟩
     ·intro a' wr hI
      obtain ⟨k,wn,wc,wa,Z,hact,hk',hwn,hZ,hZl,hO⟩:=hI
      obtain ⟨u3,hu⟩:∃ u3:Nat→Value,∀ k,gf a' k=u3 k:=⟨_,fun _=>rfl⟩
      simp only [hu] at hact
      clear hu
      subst hact
      clear H3
      have HZ:Hid (Z=X++(M.take k).map EnE.id∧Z.length=wn):=⟨hZ,hZl⟩
      clear hZ hZl
      by_cases hlt3:k < dl
      ·have hlt3':(k:Int) < (dl:Int):=by omega
       obtain ⟨y,hy⟩:∃ y,M[k]? = some y:=⟨_,List.getElem?_eq_getElem (by rw [HDL.out];exact hlt3)⟩
       obtain ⟨⟨g,hda,c0,c1⟩,_⟩:=hO.entAt hy
       subst hda
       have HZ2:Hid (Z++[y.id]=X++(M.take (k+1)).map EnE.id):=by
        show _=_
        rw [HZ.out.1,List.take_add_one,hy]
        simp
       have hB:=hO.three.allocC #[.int .u32 (y.id:Int),.slice y.ao y.C.length y.cap] 76
       have e0:=hB.cell 0
       simp at e0
       have HB:Hid (Own w _ _):=hB.tail
       clear hO hB hy
       obtain ⟨yi,ya,yc,C⟩:=y
       simp only at c0 c1 e0 HB HZ2
       generalize C.length=cl at *
       go_wp2_with (at_builtin;refine append1_own rfl _ _ 55 rfl 38 i0 (.int .u32 0) 1 4 Tryz.underlying55 hi hz0 hz1 hz2 rfl (by decide) _ _ _ rfl HB.out _ #[.int .u32 (yi:Int)] (by simp) rfl rfl (one_int _ _) (by unfold maxLen;omega) (by omega) ?_)
       intro g2 cap2 w5 hO2 hsz
       have H5:Hid (Own w w5 [EntsT (some ⟨g,0,none⟩) dc M,WdT ba x K n,Row 38 1 (.slice (some ⟨g2,0,none⟩) (wn+1) cap2) (wn+1) (irow .u32 (Z++[yi]))]):=by
        show Own _ _ _
        rw [irow_append]
        exact Own.back3 hO2
       clear hO2 HB c0 c1 e0
       go_wp2
       exact ⟨⟨k+1,wn+1,cap2,some ⟨g2,0,none⟩,Z++[yi],rfl,by omega,by omega,HZ2.out,by rw [List.length_append,HZ.out.2];rfl,H5.out⟩,by simp [intOf];omega⟩
      ·have hlt3':¬ (k:Int) < (dl:Int):=by omega
       have HZ3:Hid (Z=X++M.map EnE.id):=by
        show _=_
        rw [HZ.out.1,List.take_of_length_le (by rw [HDL.out];omega)]
       have HF:Hid (Own w wr [WdT ba x K n,Row 38 1 (.slice wa wn wc) wn (irow .u32 Z)]):=hO.tail
       clear hO
       go_wp2
       exact ⟨⟨j+1,cy+16,Z,wn,wc,wa,⟨⟨rfl,rfl,rfl⟩,rfl⟩,by omega,by have:=HCY.out;push_cast;omega,HZ.out.2,by omega,by rw [HZ3.out];exact HXN.out,HF.out⟩,by simp [intOf];omega⟩
    ·have hj4:j=4:=by have:=HCY.out;omega
     subst hj4
     have HF:Hid (Own w wr _):=hO
     clear hO
     go_wp2
     exact ⟨⟨i+1,cx+16,X,wn,wc,wa,⟨⟨rfl,rfl,rfl⟩,rfl⟩,by omega,by have:=HCX.out;push_cast;omega,HX.out.1,by omega,fun id=>(HX.out.2 id).trans (prs_next σ i id),HF.out⟩,by simp [intOf];omega⟩
  ·have hi4:i=4:=by have:=HCX.out;omega
   subst hi4
   have HX32:Hid (∀ id∈X,id < 4294967296):=fun id hid=>by
    have h1:=((prs_all Hσ.out id).1 ((HX.out.2 id).1 hid)).1
    exact (St.list_w Hσ.out.s h1).2
   have hM:=((Own.gmNew wdK hO).gmIs (q:=fun y=>(idsA (X.take 0) y).map (fun _=>Value.bool true)) (Nat.le_refl _) (fun y hy=>by simp [idsA])).sel 3 [1,2,0] (by decide)
   have H4:Hid (Own w _ _):=hM
   clear hO hM
   go_wp2
   generalize hbm:wr.heap.size=bm at *
   generalize hW3:wr.alloc (.map #[] 0)=W3 at *
   clear hbm hW3 hmm
   refine wp_loop (fun a' wr=>∃ (k sz N:Nat),a'={ tmps:=#[gf a' 0,gf a' 1,gf a' 2,.pointer (some ⟨ba,0,none⟩),gf a' 4,.slice wa wn wc,gf a' 6,gf a' 7,gf a' 8,gf a' 9,.map (some bm),gf a' 11,gf a' 12,gf a' 13,gf a' 14,gf a' 15,gf a' 16,gf a' 17,gf a' 18,gf a' 19,gf a' 20,gf a' 21,gf a' 22,gf a' 23,gf a' 24,gf a' 25,gf a' 26,gf a' 27,gf a' 28,gf a' 29,gf a' 30,gf a' 31,gf a' 32,gf a' 33,gf a' 34,gf a' 35,gf a' 36,gf a' 37,gf a' 38,gf a' 39,gf a' 40,gf a' 41,gf a' 42,gf a' 43,gf a' 44,gf a' 45,gf a' 46,gf a' 47,gf a' 48,gf a' 49,gf a' 50,.slice wa wn wc,.int .i64 (wn:Int),.int .i64 (k:Int),gf a' 54,gf a' 55,gf a' 56,gf a' 57,gf a' 58,gf a' 59,gf a' 60,gf a' 61,gf a' 62,gf a' 63,gf a' 64,gf a' 65,gf a' 66,gf a' 67,gf a' 68,gf a' 69,gf a' 70,gf a' 71,gf a' 72,gf a' 73,gf a' 74,gf a' 75,gf a' 76,gf a' 77,gf a' 78,gf a' 79,gf a' 80,gf a' 81,gf a' 82,gf a' 83,gf a' 84],defers:=[] }∧k≤wn∧N≤k∧KeyN (idsA (X.take k)) sz∧Own w wr [WdT ba x K n,Row 38 1 (.slice wa wn wc) wn (irow .u32 X),GMap wdK bm N sz (fun y=>(idsA (X.take k) y).map (fun _=>Value.bool true))]) (fun a' _=>wn - (intOf (a'.tmps.getD 53 undef)).toNat) ?_ ?_
   ·exact ⟨0,0,0,rfl,Nat.zero_le _,Nat.le_refl _,KeyN.nil.is (fun i _=>by simp [idsA]),H4.out⟩
   ·intro a' wr hI
    obtain ⟨k,sz,N,hact,hk,hN,hkey,hO⟩:=hI
    obtain ⟨u4,hu⟩:∃ u4:Nat→Value,∀ k,gf a' k=u4 k:=⟨_,fun _=>rfl⟩
    simp only [hu] at hact
    clear hu
    subst hact
    clear H4
    by_cases hkn:k < wn
    ·have hkn':(k:Int) < (wn:Int):=by omega
     obtain ⟨y,hy⟩:∃ y,X[k]? = some y:=⟨_,List.getElem?_eq_getElem (by rw [HX.out.1];exact hkn)⟩
     have hy32:=HX32.out y (List.mem_of_getElem? hy)
     obtain ⟨g,c',hv,_⟩:=row_shape hO.two.row (by omega)
     obtain ⟨rfl,_,rfl⟩:=Value.slice.inj hv
     have c0:wr.cell? ⟨g,k,none⟩=some (.int .u32 (y:Int)):=by
      rw [hO.two.row.cellAt _ (by omega),getElem?_irow,hy];rfl
     obtain ⟨w5,hu,h5⟩:=hO.three.gmPut Tryz.underlying83 y (.bool true) hy32 (by unfold maxLen;omega)
     rw [idsA_put X k y hy,Option.isSome_map] at h5
     have HK2:Hid (KeyN _ _):=keyN_put1 hy hy32 hkey
     have hu':(Instr.mapUpdate 83 (.map (some bm)) (.int .u32 (y:Int)) (.bool true)).run Tryz.prog wr=.ok () w5:=hu
     have H5:Hid (Own w w5 _):=h5.back3
     clear hO hv hy hu h5 hkey
     go_wp2
     exact ⟨⟨k+1,rfl,by omega,_,N+1,by omega,HK2.out,H5.out⟩,by simp [intOf];omega⟩
    ·have hkn':¬ (k:Int) < (wn:Int):=by omega
     have hke:k=wn:=by omega
     have htk:X.take k=X:=List.take_of_length_le (by rw [HX.out.1];omega)
     rw [htk] at hkey hO
     have HKY:Hid (KeyN (idsA X) sz):=hkey
     have HLA:Hid (Calls _ _ _ _ _):=wlistT w wr _ ba K n x (by rw [Hσx.out];exact Hσ.out) hKK (hO.sel 3 [0,2] (by decide))
     rw [Hσx.out] at HLA
     clear hO hkey htk
     go_wp2_with fail
     refine HLA.out.mono ?_
     rintro e w8 ⟨la,lc,L,rfl,hL,hO⟩
     obtain ⟨hl1,hx1⟩:=ents_ok Hσ.out hL
     have HX1:Hid (∀ x∈L,x.id < 4294967296∧x.C.length≤6∧∀ c∈x.C,c.k < 256):=hx1
     have HL:Hid (L.map (fun x=>(x.id,x.C))=σ.S.list.map (fun id=>(id,σ.cps id))):=hL
     have H8:Hid (Own w w8 _):=hO
     obtain ⟨ml,hml⟩:∃ ml,L.length=ml:=⟨_,rfl⟩
     have HML:Hid (L.length=ml):=hml
     rw [hml] at hl1 ⊢
     clear hO HLA hL hx1 hml
     go_wp2
     refine wp_loop (fun a' wr=>∃ (j c:Nat),a'={ tmps:=#[gf a' 0,gf a' 1,gf a' 2,.pointer (some ⟨ba,0,none⟩),gf a' 4,gf a' 5,gf a' 6,gf a' 7,gf a' 8,gf a' 9,.map (some bm),gf a' 11,gf a' 12,.int .i64 (c:Int),gf a' 14,gf a' 15,gf a' 16,gf a' 17,gf a' 18,gf a' 19,gf a' 20,gf a' 21,gf a' 22,gf a' 23,gf a' 24,gf a' 25,gf a' 26,gf a' 27,gf a' 28,gf a' 29,gf a' 30,gf a' 31,gf a' 32,gf a' 33,gf a' 34,gf a' 35,gf a' 36,gf a' 37,gf a' 38,gf a' 39,gf a' 40,gf a' 41,gf a' 42,gf a' 43,gf a' 44,gf a' 45,gf a' 46,gf a' 47,gf a' 48,gf a' 49,gf a' 50,gf a' 51,gf a' 52,gf a' 53,gf a' 54,gf a' 55,gf a' 56,gf a' 57,gf a' 58,gf a' 59,gf a' 60,.slice la ml lc,.int .i64 (ml:Int),.int .i64 (j:Int),gf a' 64,gf a' 65,gf a' 66,gf a' 67,gf a' 68,gf a' 69,gf a' 70,gf a' 71,gf a' 72,gf a' 73,gf a' 74,gf a' 75,gf a' 76,gf a' 77,gf a' 78,gf a' 79,gf a' 80,gf a' 81,gf a' 82,gf a' 83,gf a' 84],defers:=[] }∧j≤ml∧c≤j∧c=((L.take j).filter (fun x=>hasK x.C 0)).length∧Own w wr [EntsT la lc L,WdT ba x K n,GMap wdK bm N sz (fun y=>(idsA X y).map (fun _=>Value.bool true))]) (fun a' _=>ml - (intOf (a'.tmps.getD 63 undef)).toNat) ?_ ?_
     ·exact ⟨0,0,rfl,Nat.zero_le _,Nat.le_refl _,rfl,H8.out⟩
     ·intro a' wr hI
      obtain ⟨j,c,hact,hj,hcj,hc,hO⟩:=hI
      obtain ⟨u5,hu⟩:∃ u5:Nat→Value,∀ k,gf a' k=u5 k:=⟨_,fun _=>rfl⟩
      simp only [hu] at hact
      clear hu
      subst hact
      have HCJ:Hid (c=((L.take j).filter (fun x=>hasK x.C 0)).length):=hc
      clear H8 hc
      by_cases hjn:j < ml
      ·have hjn':(j:Int) < (ml:Int):=by omega
       obtain ⟨z,hz⟩:∃ z,L[j]? = some z:=⟨_,List.getElem?_eq_getElem (by rw [HML.out];exact hjn)⟩
       obtain ⟨⟨ge,hge,c0,c1⟩,hcs⟩:=hO.entAt hz
       subst hge
       have hmx:=List.mem_of_getElem? hz
       obtain ⟨hx32,hx6,hxk⟩:=HX1.out z hmx
       obtain ⟨hin,hxC⟩:=ents_in HL.out hmx
       have hft:=filt_take hz (fun x=>hasK x.C 0)
       have hinX:z.id∈X ↔ hasK z.C 0=true:=by
        rw [HX.out.2,prs_all Hσ.out,hxC]
        exact ⟨fun h=>h.2,fun h=>⟨hin,h⟩⟩
       have hB:=hO.allocC #[.int .u32 (z.id:Int),.slice z.ao z.C.length z.cap] 76
       have HFI:Hid (Calls _ _ _ _ _):=find_any _ z.ao z.C.length z.cap z.C rfl (hcs.quiet ((Fr.refl _ _).alloc (.cells #[.int .u32 (z.id:Int),.slice z.ao z.C.length z.cap] 76))) hxk (by omega) 0 (by decide)
       have HB:Hid (Own w _ _):=hB
       have HIX:Hid (z.id∈X ↔ hasK z.C 0=true):=hinX
       have HFT:Hid (((L.take (j+1)).filter (fun x=>hasK x.C 0)).length=((L.take j).filter (fun x=>hasK x.C 0)).length+(if hasK z.C 0 then 1 else 0)):=hft
       clear hO hB hcs hft hz hmx hin hxC hxk hinX
       obtain ⟨zi,za,zc,C⟩:=z
       simp only at c0 c1 HFI HB hx32 hx6 HIX HFT
       generalize hcl:C.length=cl at *
       go_wp2_with fail
       refine HFI.out.mono ?_
       rintro e w9 ⟨r,rfl,hf9,hr⟩
       have h9:=HB.out.quiet hf9
       have f0:=h9.cell 0
       simp at f0
       have hlk:=h9.four.gmAt Tryz.underlying83 (zeroBl _) zi hx32
       have H9:Hid (Own w w9 _):=h9.tail
       clear HFI HB hf9 h9 hcl
       rcases hr with ⟨rfl,hh⟩ | ⟨q,rfl,_,_,_,hh⟩
       ·have hlk':(Instr.lookup 83 (.map (some bm)) (.int .u32 (zi:Int)) false).run Tryz.prog w9=.ok (.bool false) w9:=by
         have hni:zi ∉ X:=fun q=>by rw [HIX.out,hh] at q;cases q
         have e:idsA X zi=none:=by unfold idsA;rw [if_neg hni]
         rw [e] at hlk
         exact hlk
        have HF2:Hid (c=((L.take (j+1)).filter (fun x=>hasK x.C 0)).length):=by show _=_;rw [HFT.out,hh,HCJ.out];rfl
        clear hlk hh
        go_wp2
        exact ⟨⟨j+1,c,rfl,by omega,by omega,HF2.out,H9.out⟩,by simp [intOf];omega⟩
       ·have hlk':(Instr.lookup 83 (.map (some bm)) (.int .u32 (zi:Int)) false).run Tryz.prog w9=.ok (.bool true) w9:=by
         have hni:zi∈X:=HIX.out.2 hh
         have e:idsA X zi=some ():=by unfold idsA;rw [if_pos hni]
         rw [e] at hlk
         exact hlk
        have HF2:Hid (c+1=((L.take (j+1)).filter (fun x=>hasK x.C 0)).length):=by show _=_;rw [HFT.out,hh,HCJ.out];rfl
        have hq0:(0:Int)≤(q:Int):=by omega
        clear hlk hh
        go_wp2
        exact ⟨⟨j+1,c+1,rfl,by omega,by omega,HF2.out,H9.out⟩,by simp [intOf];omega⟩
      ·have hjn':¬ (j:Int) < (ml:Int):=by omega
       have hcz:c=sz:=by
        rw [HCJ.out,List.take_of_length_le (by rw [HML.out];omega),filt_len HL.out (fun C=>hasK C 0)]
        refine HKY.out.len ((St.list_nodup Hσ.out.s).filter _) (fun i hi=>(St.list_w Hσ.out.s (List.mem_filter.1 hi).1).2) (fun i _=>?_)
        rw [List.mem_filter,← prs_all Hσ.out,← HX.out.2]
        unfold idsA
        by_cases d:i∈X <;> simp [d]
       have hln:∀ ty,(Builtin.len_ #[83] ty #[.map (some bm)]).run Tryz.prog wr=.ok (.int .i64 (sz:Int)) wr:=fun ty=>hO.three.gmLen Tryz.underlying83 ty
       have HF:Hid (Fr Nobody w wr):=hO.fr
       subst hcz
       clear hO HCJ
       go_wp2
       go_ret
       exact ⟨rfl,HF.out⟩
theorem snapIDs_walk (w:World) (ht:Tab w) (a0:Option Addr) (len0 cap0:Nat) (z0:List LsoE) (w0:IsLsos w a0 len0 cap0 z0) :
  Calls Tryz.prog 6 #[.slice a0 len0 cap0] w fun e w'=>e=.returned (.bool true)∧Below w.heap.size w w':=by
 refine (snapIDs_fr w ht a0 len0 cap0 z0 w0).mono ?_
 rintro e w' ⟨rfl,hf⟩
 exact ⟨rfl,hf.below (Nat.le_refl _) (fun _ _=>id)⟩
theorem laidOut:laidOutB Tryz.prog=true:=by kernel_rfl
set_option maxRecDepth 100000 in
theorem snapIDs_lifted (os:Os) (started:os.Started) (H:Type) (enc:TypeId × Value→H) :
  ReturnsInHanded {} Tryz.checked os 6 .any (fun w args=>(Rows.snapIDsSpec.pre enc Tryz.prog Tryz.f6 [] false w args∧laidMetH Tryz.prog laid1 w)∧sizedMet enc Tryz.prog Tryz.f6 (OpenSpec.ofChange Rows.snapIDsSpec) false w args) (Rows.snapIDsSpec.post enc Tryz.prog Tryz.f6 false true false false):=by
 refine returnsInHanded_of_change_and (C:=Tryz.checked) (X:=fun w _=>laidMetH Tryz.prog laid1 w) (fun _ _ _ hh h=>h.of_heap hh) own started (by kernel_rfl) Tryz.func6
  (ChangeSpec.witness_shaped (enc:=enc) (C:=Tryz.checked) (os:=os) (X:=fun w _=>laidMetH Tryz.prog laid1 w) false (World.doorLaid Tryz.prog 400 os) #[.slice none 0 0] 8 rfl (World.shaped_of_RefB (by kernel_rfl) (by kernel_rfl)) (by kernel_rfl) (by kernel_rfl) (by kernel_rfl) (door_met os _)) ?_
 intro W base args ds gs before hval0 hW _ _ hL _
 have hval:∀ (j:Nat) t v,Tryz.f6.params[j]? = some t→args[j]? = some v→Value.okWide Tryz.prog W .any base t v:=hval0
 have hW':=hW
 obtain ⟨p,q,hA0,hV,rfl,hfz,hnd⟩:=hW
 have hA:DataW.TrodAll enc Tryz.prog W 0 (fun _=>true) true Tryz.f6.params.toList args.toList ds p:=hA0
 rw [Tryz.params6] at hA hval
 obtain ⟨v0,vs0,d0,ds0,p0,q0,hargs,rfl,rfl,h0,r0⟩:=trodAll_cons hA
 obtain ⟨rfl,rfl,rfl⟩:=trodAll_nil r0
 obtain rfl:args=#[v0]:=by cases args;simp_all
 obtain ⟨rfl,rfl⟩:=trodVars_none hV
 obtain ⟨a0,len0,cap0,rfl⟩:=okWide_slice Tryz.underlying59 (hval 0 59 v0 rfl rfl)
 have k0:=h0
 have lt0:∀ x∈p0,x.block < W.heap.size:=by obtain ⟨m,hm⟩:=k0;exact DataW.trod_lt m _ _ _ hm
 obtain ⟨z0,w0⟩:=open_lsos (hval 0 59 _ rfl rfl) h0
 clear hA0 hval0
 refine (snapIDs_walk W (of_laid hL) a0 len0 cap0 z0 w0).mono fun e W' ⟨he,bel⟩=>?_
 subst he
 exact ⟨_,rfl,_,_,_,[],_,[],hW',trodAll_mk1 (shut_bool Tryz.underlying4 _),(trodAll_cons_mk (Below.trod laidOut (by kernel_rfl) (of_decide_eq_true (by kernel_rfl)) k0 bel lt0) trodAll_mk0),rfl,bel.frame _,fun h=>by cases h⟩
theorem snapIDs_row:Rows.SnapIDsSaid :=
 OpenClaim.holds_of_wide 6 Tryz.f6 rfl rfl rfl rfl rfl rfl rfl ⟨rfl,rfl,rfl,rfl,rfl⟩ rfl rfl rfl rfl rfl (by kernel_rfl) Tryz.func6 (by kernel_rfl)
  (of_decide_eq_true (by kernel_rfl)) (by unfold Func.isWrapper;first | (rw [if_pos (by decide +kernel)];kernel_rfl) | (rw [if_neg (by decide +kernel)];exact ⟨rfl,rfl⟩))
  (fun os started H enc _=>snapIDs_lifted os started H enc)
theorem snapIDs_holds:Rows.SnapIDsCardSaid :=
 Claim7.holds_tied_plain_at .later [] [.data] true (true,"4b41c9bd5891817d31698d06efdb6009454ae84fba62bff55935f977f7490441") false
  snapIDs_row (fun _ h=>by cases h) (by kernel_rfl) (fun _ h=>by cases h) snapIDs_row_tie rfl ⟨rfl,rfl⟩ (by kernel_rfl) rfl
  (fun f fn hf hfn=>by
    obtain rfl : f = 6 := Option.some.inj ((show Tryz.prog.funcNamed "pinnace/pinnacelaw18.SnapIDs" = some 6 by kernel_rfl).symm.trans hf) |>.symm
    obtain rfl:fn=Tryz.f6:=(Option.some.inj (Tryz.func6.symm.trans hfn)).symm
    exact ⟨by kernel_rfl,fun j t ht=>by
     rw [Tryz.params6] at ht
     have hm:t∈[59]:=by simpa using Array.mem_of_getElem? ht
     have hall:([59].all fun u=>!Tryz.prog.wantsStandIn u)=true:=by kernel_rfl
     exact (show Tryz.prog.wantsStandIn t=false by simpa using List.all_eq_true.1 hall t hm)⟩)
  (by kernel_rfl)
end Go.Proofs.YtogmdoiecpihdaaGreatDoor
