/- The document's store: a copy of its own. -/
import Derived.Test.YtogmdoiecpihdaaGreatDoorQs35
import Derived.Test.YtogmdoiecpihdaaGreatDoorQs26
import Derived.Test.YtogmdoiecpihdaaGreatDoorQs20
import Derived.Laws.Rows
import Derived.Test.YtogmdoiecpihdaaGreatDoorQs01
import Derived.Maps.OwnSet
import Derived.Maps.Range
import Derived.DeepKeys4
namespace Go.Proofs.YtogmdoiecpihdaaGreatDoor
open Go.RowKit Go.Maps
set_option linter.unusedVariables false
set_option maxHeartbeats 8000000
set_option maxRecDepth 100000
def toE (d:REnt):EnE:=⟨d.1,d.2.2.1,d.2.2.2,d.2.1⟩
def frE (x:EnE):REnt:=(x.id,x.C,x.ao,x.cap)
theorem cat_toE (L:List REnt):cat EnE.cs (L.map toE)=cat rcells L:=by
 induction L with
 | nil=>rfl
 | cons d L ih=>show EnE.cs (toE d)++cat EnE.cs (L.map toE)=rcells d++cat rcells L;rw [ih];rfl
theorem cat_frE (L:List EnE):cat rcells (L.map frE)=cat EnE.cs L:=by
 induction L with
 | nil=>rfl
 | cons d L ih=>show rcells (frE d)++cat rcells (L.map frE)=EnE.cs d++cat EnE.cs L;rw [ih];rfl
theorem row_toE (L:List REnt):(L.map toE).map erow=L.map rrow:=by rw [List.map_map];rfl
theorem row_frE (L:List EnE):(L.map frE).map rrow=L.map erow:=by rw [List.map_map];rfl
theorem e_frE (L:List EnE):(L.map frE).map REnt.e=evs L:=by rw [List.map_map];rfl
theorem evs_toE (L:List REnt):evs (L.map toE)=L.map REnt.e:=by unfold evs;rw [List.map_map];rfl
theorem Own.rte {w0 w:World} {l:List Thing} {ao:Option Addr} {cap:Nat} {M:List EnE} (h:Own w0 w (EntsT ao cap M::l)):Own w0 w (RTE (.slice ao M.length cap) (M.map frE)::l):=by
 obtain ⟨_,h1⟩:=Own.ex_iff.1 h
 refine RTE.iff.2 ?_
 rw [cat_frE,row_frE,List.length_map]
 exact h1
theorem Own.ofRte {w0 w:World} {l:List Thing} {ao:Option Addr} {n cap:Nat} {E:List REnt} (hn:E.length=n) (h:Own w0 w (RTE (.slice ao n cap) E::l)):Own w0 w (EntsT ao cap (E.map toE)::l):=by
 have h1:=RTE.iff.1 h
 refine Own.ents ?_
 rw [cat_toE,row_toE,List.length_map,hn]
 rw [hn] at h1
 exact h1
theorem Own.neCw {w0 w:World} {b b2:Nat} {cur cur2:Array Value} {t t2:TypeId} {l:List Thing} (h:Own w0 w (Cells b cur t::Cells b2 cur2 t2::l)):b≠b2:=by
 obtain ⟨A,⟨B,C,hB,⟨D,E,hD,hE,hde,hc⟩,hbc,hA⟩,hF,hlo⟩:=h
 exact fun e=>hbc b ((hB.2 b).2 rfl) ((hc b).2 (.inl ((hD.2 b).2 e)))
theorem RSX.ents {w0 w:World} {l:List Thing} {b m:Nat} {S:St} {x:RX} (h:Own w0 w (RSX b S x::l)) (hm:m < 64):∃ ao cap,x.v m=.slice ao (x.E m).length cap∧EntsAt w ao ((x.E m).map toE)∧w.cell? ⟨b,1+m*2+1,none⟩=some (.slice ao (x.E m).length cap):=by
 have h3:=RSX.iff.1 h
 have q:=h3.cell (1+m*2+1)
 rw [rscells_v _ _ _ hm] at q
 have h4:=(RTabsOn.pull (k:=m) (by simpa using hm)).1 h3.three
 obtain ⟨ao,cap,hv⟩:=row_any (RTE.iff.1 h4).row
 rw [hv] at q h4
 exact ⟨ao,cap,hv,(Own.ofRte rfl h4).entsAt,q⟩
def kpair (v:Nat→Value) (j k:Nat):Value:=if k % 2=0 then .int .u8 (if k / 2 < j then ((k / 2:Nat):Int) else 0) else if k / 2 < j then v (k / 2) else .slice none 0 0
def kcells (bs:Nat) (v:Nat→Value) (j:Nat):Array Value:=(Value.pointer (some ⟨bs,0,none⟩)::(List.range 128).map (kpair v j)).toArray
theorem kcells_zero (bs:Nat) (v:Nat→Value):kcells bs v 0=jcells bs 0:=by
 unfold kcells jcells
 have:(List.range 128).map (kpair v 0)=(List.range 128).map (jpair 0):=List.map_congr_left (fun k _=>by unfold kpair jpair;simp)
 rw [this]
theorem kcells_end (bs:Nat) (v:Nat→Value):kcells bs v 64=rscells bs v:=by
 unfold kcells rscells
 have:(List.range 128).map (kpair v 64)=(List.range 128).map (rpair v):=List.map_congr_left (fun k hk=>by
  have hk':k < 128:=by simpa using hk
  unfold kpair rpair
  rw [if_pos (show k / 2 < 64 by omega),if_pos (show k / 2 < 64 by omega)])
 rw [this]
theorem kcells_at (bs:Nat) (v:Nat→Value) (j k:Nat) (hk:k < 128):(kcells bs v j)[k+1]? = some (kpair v j k):=by simp [kcells,hk]
theorem kcells_set (bs:Nat) (v:Nat→Value) (j:Nat) (hj:j < 64) (u:Value):((kcells bs v j).setIfInBounds (1+j*2) (.int .u8 (j:Int))).setIfInBounds (1+j*2+1) u=kcells bs (upd v j u) (j+1):=by
 rw [show 1+j*2=j*2+1 by omega,show j*2+1+1=(j*2+1)+1 by omega]
 unfold kcells
 simp only [List.setIfInBounds_toArray,List.set_cons_succ]
 have:(((List.range 128).map (kpair v j)).set (j*2) (.int .u8 (j:Int))).set (j*2+1) u=(List.range 128).map (kpair (upd v j u) (j+1)):=by
  apply List.ext_getElem?
  intro i
  rw [List.getElem?_set,List.getElem?_set]
  simp only [List.length_set,List.length_map,List.length_range,List.getElem?_map]
  by_cases c1:j*2+1=i
  ·subst c1
   rw [if_pos rfl,if_pos (by omega),List.getElem?_range (by omega)]
   show some u=some (kpair _ _ _)
   unfold kpair
   rw [if_neg (by omega),if_pos (by omega),show (j*2+1) / 2=j by omega,upd_same]
  ·rw [if_neg c1]
   by_cases c:j*2=i
   ·subst c
    rw [if_pos rfl,if_pos (by omega),List.getElem?_range (by omega)]
    show _=some (kpair _ _ _)
    unfold kpair
    rw [if_pos (by omega),if_pos (by omega),show j*2 / 2=j by omega]
   ·rw [if_neg c]
    by_cases d:i < 128
    ·rw [List.getElem?_range d]
     show some (kpair _ _ _)=some (kpair _ _ _)
     unfold kpair
     by_cases e:i % 2=0
     ·rw [if_pos e,if_pos e]
      by_cases g:i / 2 < j
      ·rw [if_pos g,if_pos (by omega)]
      ·rw [if_neg g,if_neg (by omega)]
     ·rw [if_neg e,if_neg e]
      by_cases g:i / 2 < j
      ·rw [if_pos g,if_pos (by omega),upd_other _ _ _ (by omega)]
      ·rw [if_neg g,if_neg (by omega)]
    ·rw [List.getElem?_eq_none (by simp;omega)];rfl
 rw [this]
theorem Own.tabsSnoc {w0 w:World} {l:List Thing} {j:Nat} {v:Nat→Value} {E:Nat→List REnt} {u:Value} {F:List REnt} (h:Own w0 w (RTE u F::RTabsOn (List.range j) v E::l)):Own w0 w (RTabsOn (List.range (j+1)) (upd v j u) (upd E j F)::l):=by
 have e:RTabsOn (List.range j) v E=RTabsOn (List.range j) (upd v j u) (upd E j F):=RTabsOn.congr (fun m hm=>by
  have:m < j:=List.mem_range.1 hm
  exact ⟨(upd_other _ _ _ (by omega)).symm,(upd_other _ _ _ (by omega)).symm⟩)
 rw [e] at h
 have h2:Own w0 w (RTE (upd v j u j) (upd E j F j)::RTabsOn (List.range j) (upd v j u) (upd E j F)::l):=by rw [upd_same,upd_same];exact h
 obtain ⟨_,h3⟩:=Own.ex2.1 h2
 refine Own.ex_iff.2 ⟨(),?_⟩
 rw [List.range_succ,List.map_append]
 refine h3.perm ?_
 have:=List.perm_middle (a:=RTE (upd v j u j) (upd E j F j)) (l₁:=(List.range j).map (fun m=>RTE (upd v j u m) (upd E j F m))) (l₂:=l)
 simpa using this.symm
theorem esz_toE {σ:Sto} {x:RX} {K:Nat} (hx:RXok σ x K) (hσ:σ.Ok) (hK:K≤100000) {m:Nat} (hm:m < 64):esz ((x.E m).map toE)≤1000000:=by
 have h1:∀ L:List EnE,(∀ y∈L,y.C.length≤6)→csz L≤6*L.length:=by
  intro L
  induction L with
  | nil=>intro _;simp [csz]
  | cons y L ih =>
   intro h
   have:=h y List.mem_cons_self
   have:=ih (fun z hz=>h z (List.mem_cons_of_mem _ hz))
   simp only [csz,List.length_cons];omega
 have h2:=h1 ((x.E m).map toE) (fun y hy=>by
  obtain ⟨d,hd,rfl⟩:=List.mem_map.1 hy
  have hm2:d.e∈σ.T m:=by rw [← hx.E m hm];exact List.mem_map.2 ⟨d,hd,rfl⟩
  obtain ⟨r,hr⟩:=List.getElem?_of_mem hm2
  exact (hσ.t m hm).c6 hr)
 have h3:=hx.len m hm
 rw [← hx.E m hm,List.length_map] at h3
 unfold esz
 rw [List.length_map] at h2 ⊢
 omega
theorem rtwin11 (w0 w:World) (l:List Thing) (b0:Nat) (σ:Sto) (K:Nat) (x:RX) (h:Own w0 w (RSX b0 σ.S x::l)) (hx:RXok σ x K) (hσ:σ.Ok) (hK:K≤100000) :
  Calls Tryz.prog 53 #[.pointer (some ⟨b0,0,none⟩)] w fun e w'=>∃ b2 x2,e=.returned (.pointer (some ⟨b2,0,none⟩))∧RXok σ x2 K∧Own w0 w' (RSX b2 σ.S x2::RSX b0 σ.S x::l):=by
 have q0:=RSX.ids w0 w l b0 σ x h
 have hn2:=hσ.s.n2
 have hn1:=hσ.s.n1
 have HX:Hid (RXok σ x K):=hx
 have HTW:Hid (Calls Tryz.prog 109 #[.pointer (some ⟨x.bs,0,none⟩)] w fun e w'=>∃ b,e=.returned (.pointer (some ⟨b,0,none⟩))∧Own w0 w' (RSlots b σ.S x.f x.ck::RSX b0 σ.S x::l)):=by
  refine (rtwin7 w0 w _ x.bs σ.S x.f x.ck (RSX.iff.1 h).two hn2 hn1).mono ?_
  rintro e w' ⟨b2,rfl,h2⟩
  refine ⟨b2,rfl,?_⟩
  have h3:Own w0 w' (Cells b0 (rscells x.bs x.v) 186::RSlots x.bs σ.S x.f x.ck::RTabsOn (List.range 64) x.v x.E::(RSlots b2 σ.S x.f x.ck::l)):=h2.sel 4 [2,1,3,0] (by decide)
  exact (RSX.iff.2 h3).two
 have HEN:Hid (∀ W l' (m:Nat),Own w0 W (RSX b0 σ.S x::l')→m < 64→∃ ao cap,x.v m=.slice ao (x.E m).length cap∧W.cell? ⟨b0,1+m*2+1,none⟩=some (.slice ao (x.E m).length cap)∧∀ l'',(∀ W',Own w0 W' l''→∃ l3,Own w0 W' (RSX b0 σ.S x::l3))→∀ W2,Own w0 W2 l''→Calls Tryz.prog 110 #[.slice ao (x.E m).length cap] W2 fun e w'=>∃ (a2:Option Addr) (c2:Nat) (F:List REnt),e=.returned (.slice a2 (x.E m).length c2)∧F.map REnt.e=(x.E m).map REnt.e∧Own w0 w' (RTE (.slice a2 (x.E m).length c2) F::l'')):=by
  intro W l' m hW hm
  obtain ⟨ao,cap,hv,_,q⟩:=RSX.ents hW hm
  refine ⟨ao,cap,hv,q,fun l'' hl W2 hW2=>?_⟩
  refine (rtwins_any w0 W2 l'' hW2 ao (x.E m).length cap ((x.E m).map toE) (fun W' h'=>?_) (by rw [List.length_map]) (esz_toE hx hσ hK hm)).mono ?_
  ·obtain ⟨l3,h3⟩:=hl W' h'
   obtain ⟨ao2,cap2,hv2,he,_⟩:=RSX.ents h3 hm
   rw [hv] at hv2
   obtain ⟨rfl,_,rfl⟩:=Value.slice.inj hv2
   exact he
  ·rintro e w' ⟨a2,c2,rfl,M,hM,he,h2⟩
   refine ⟨a2,c2,M.map frE,rfl,by rw [e_frE,he,evs_toE],?_⟩
   have h3:=h2.rte
   rw [hM] at h3
   exact h3
 have H0:Hid (Own w0 w (RSX b0 σ.S x::l)):=h
 clear h hx hσ hn1 hn2
 go_enter Tryz.func53,Tryz.ntmps53
 go_wp2_with fail
 refine HTW.out.mono ?_
 rintro e w1 ⟨bs2,rfl,hO⟩
 have k:=hO.allocC (jcells bs2 0) 186
 have HK0:Hid (Own w0 (w1.alloc (.cells (jcells bs2 0) 186)) (Cells w1.heap.size (jcells bs2 0) 186::RSlots bs2 σ.S x.f x.ck::RSX b0 σ.S x::l)):=k
 rw [← jcells_zero] at HK0
 clear hO k HTW H0 q0
 go_wp2
 generalize hW2:w1.alloc (.cells (Tryz.zeroCells186.setIfInBounds 0 (.pointer (some ⟨bs2,0,none⟩))) 186)=W2 at *
 generalize w1.heap.size=b2 at *
 clear hW2
 rw [jcells_zero] at HK0
 refine wp_loop (fun a' wr=>∃ (j:Nat) (v:Nat→Value) (E:Nat→List REnt),a'={ tmps:=#[.pointer (some ⟨b0,0,none⟩),gf a' 1,gf a' 2,.pointer (some ⟨b2,0,none⟩),gf a' 4,gf a' 5,gf a' 6,gf a' 7,gf a' 8,gf a' 9,gf a' 10,gf a' 11,.int .i64 (j:Int),gf a' 13,gf a' 14,gf a' 15,gf a' 16,gf a' 17,gf a' 18,gf a' 19,gf a' 20,gf a' 21,gf a' 22,gf a' 23,gf a' 24,gf a' 25,gf a' 26,gf a' 27,gf a' 28,gf a' 29,gf a' 30,gf a' 31,gf a' 32],defers:=[] }∧j≤64∧(∀ m,m < j→(E m).map REnt.e=(x.E m).map REnt.e)∧Own w0 wr (Cells b2 (kcells bs2 v j) 186::RTabsOn (List.range j) v E::RSlots bs2 σ.S x.f x.ck::RSX b0 σ.S x::l)) (fun a' _=>64 - (intOf (a'.tmps.getD 12 undef)).toNat) ?_ ?_
 ·refine ⟨0,(fun _=>.slice none 0 0),(fun _=>[]),rfl,Nat.zero_le _,(fun m hm=>absurd hm (by omega)),?_⟩
  rw [kcells_zero]
  exact Own.ex2.2 ⟨(),HK0.out⟩
 ·intro a' wr hI
  obtain ⟨j,v,E,hact,hj,hE,hO⟩:=hI
  obtain ⟨u,hu⟩:∃ u:Nat→Value,∀ k,gf a' k=u k:=⟨_,fun _=>rfl⟩
  simp only [hu] at hact
  clear hu
  subst hact
  have HE:Hid (∀ m,m < j→(E m).map REnt.e=(x.E m).map REnt.e):=hE
  clear HK0 hE
  by_cases hlt:j < 64
  ·have hlt':(j:Int) < 64:=by omega
   obtain ⟨ao,cap,hv,q,hcall⟩:=HEN.out wr _ j (hO.four) hlt
   have HT:Hid (Calls _ _ _ _ _):=hcall _ (fun W' h'=>⟨_,h'.four⟩) _ hO.drew
   obtain ⟨n,hn⟩:∃ n,n=(x.E j).length:=⟨_,rfl⟩
   rw [← hn] at q HT hv
   have HV:Hid (x.v j=.slice ao n cap):=hv
   clear hv
   have hz:∃ z1,(kcells bs2 v j)[1+j*2]? = some z1:=⟨_,by rw [Nat.add_comm];exact kcells_at _ _ _ _ (by omega)⟩
   have hz2:∃ z2,(kcells bs2 v j)[1+j*2+1]? = some z2:=⟨_,by rw [show 1+j*2+1=(j*2+1)+1 by omega];exact kcells_at _ _ _ _ (by omega)⟩
   have hne:b2≠b0:=((RSX.iff.1 hO.four).four).neCw
   have hne2:b0≠b2:=fun e=>hne e.symm
   have hwr:IntKind.u8.wrap (j:Int)=(j:Int):=by rw [IntKind.wrap_u8];omega
   obtain ⟨z1,hz1⟩:=hz
   obtain ⟨z2,hz2⟩:=hz2
   have HZ:Hid ((kcells bs2 v j)[1+j*2]? = some z1∧(kcells bs2 v j)[1+j*2+1]? = some z2):=⟨hz1,hz2⟩
   clear hcall hO hn hz1 hz2
   go_wp2
   go_region_held3 (fun w'=>w'.cell? ⟨b0,1+j*2+1,none⟩=some (.slice ao n cap)) (go_keep)
    (first
      | (go_at_call 110;refine HT.out.mono ?_;rintro e w5 ⟨a5,c5,F,rfl,hF,h5⟩
         have hC:=h5.two
         have t0:=(RSX.iff.1 h5.five).cell (1+j*2+1)
         rw [rscells_v _ _ _ hlt,HV.out] at t0
         have t1:=hC.cell (1+j*2)
         have t2:=hC.cell (1+j*2+1)
         rw [HZ.out.1] at t1
         rw [HZ.out.2] at t2
         have y1:=hC.froz (1+j*2)
         have y2:=hC.froz (1+j*2+1)
         have H5:Hid (Own w0 w5 _):=hC
         have HF:Hid (F.map REnt.e=(x.E j).map REnt.e):=hF
         clear h5 hC hF))
   have hS:=(H5.out.setC (1+j*2) (.int .u8 (j:Int))).setC (1+j*2+1) (.slice a5 n c5)
   rw [kcells_set _ _ _ hlt] at hS
   have hS2:=hS.two
   have hS3:Own w0 _ (RTE (.slice a5 n c5) F::RTabsOn (List.range j) v E::Cells b2 (kcells bs2 (upd v j (.slice a5 n c5)) (j+1)) 186::RSlots bs2 σ.S x.f x.ck::RSX b0 σ.S x::l):=hS.sel 5 [1,2,0,3,4] (by decide)
   have HS:Hid (Own w0 _ _):=(hS3.tabsSnoc).two
   have HE2:Hid (∀ m,m < j+1→(upd E j F m).map REnt.e=(x.E m).map REnt.e):=by
    intro m hm
    by_cases c:m=j
    ·subst c;rw [upd_same];exact HF.out
    ·rw [upd_other _ _ _ c];exact HE.out m (by omega)
   clear hS hS2 hS3 H5
   go_wp2
   exact ⟨⟨j+1,upd v j (.slice a5 n c5),upd E j F,rfl,by omega,HE2.out,HS.out⟩,by simp [intOf];omega⟩
  ·have hj6:j=64:=by omega
   subst hj6
   have hlt':¬ ((64:Nat):Int) < 64:=by omega
   rw [kcells_end] at hO
   have HO:Hid (Own w0 wr (RSX b2 σ.S ⟨bs2,v,x.f,x.ck,E⟩::RSX b0 σ.S x::l)):=RSX.iff.2 (hO.sel 4 [0,2,1,3] (by decide))
   have HX2:Hid (RXok σ ⟨bs2,v,x.f,x.ck,E⟩ K):=⟨HX.out.st,HX.out.ck,fun m hm=>by rw [← HX.out.E m hm];exact HE.out m hm,HX.out.len⟩
   clear hO
   go_wp2
   go_ret
   exact ⟨b2,rfl,_,HX2.out,HO.out⟩
end Go.Proofs.YtogmdoiecpihdaaGreatDoor
namespace Go.Proofs.YtogmdoiecpihdaaGreatDoor
open Go.RowKit
set_option linter.unusedVariables false
set_option maxHeartbeats 8000000
set_option maxRecDepth 100000
theorem Tryz.infoIDh:(Tryz.prog.info? 38).map (fun i=>(i.zero,i.size,i.bytes))=some (some (.int .u32 0),1,4):=by kernel_rfl
end Go.Proofs.YtogmdoiecpihdaaGreatDoor
namespace Go.Proofs.YtogmdoiecpihdaaGreatDoor
open Go.RowKit Go.Maps
set_option linter.unusedVariables false
set_option maxHeartbeats 8000000
set_option maxRecDepth 100000
structure Keys (P:Program) (k:TypeId) (κ:Type) where
 law:Keyed P k
 val:κ→Value
 lit:κ→Lit
 ok:κ→Prop
 of:∀ {x:κ},ok x→keyOf P k (val x)=some (lit x)
 inv:∀ {v:Value} {l:Lit},keyOf P k v=some l→∃ x,ok x∧v=val x∧l=lit x
 inj:∀ {x y:κ},ok x→ok y→lit x=lit y→x=y
 key:∀ x,WideAt.IsKeyLit (lit x)
def heldV (v:Value):Option (DataW Value × List MemPlace):=some (.held v,[])
def rdV (p:Option Value) (z:DataW Value):DataW Value:=match p with
 | none=>z
 | some v=>.held v
section
variable {P:Program} {k:TypeId} {κ:Type}
def GMap (S:Keys P k κ) (b n sz:Nat) (p:κ→Option Value):Thing where
 is:=fun w A=>(∃ D:DataW Value,w.ownsMap P k heldV b n D∧(∀ x,S.ok x→∀ z,D.atKey (S.lit x) z=rdV (p x) z)∧Maps.size D=sz)∧∀ j,A j ↔ j=b
 lt:=by
  rintro w A j ⟨⟨D,h,_⟩,hA⟩ a
  rw [(hA j).1 a];exact h.lt
 keep:=by
  rintro w w' A B ⟨⟨D,h,hk⟩,hA⟩ hf hn
  refine ⟨⟨D,?_,hk⟩,hA⟩
  have hlt:=h.lt
  obtain ⟨es,clock,hb,F,hs,hD⟩:=h
  exact ⟨es,clock,(hf.block b hlt (hn b ((hA b).2 rfl))).trans hb,F,hs,hD⟩
variable {S:Keys P k κ} {w0 w:World} {l:List Thing} {b n sz r cnt:Nat} {p q:κ→Option Value} {left:κ→Prop} {t e:TypeId} {z:Value}
theorem has_of {D:DataW Value} {x:κ} (hd:∀ z,D.atKey (S.lit x) z=rdV (p x) z):Maps.has D (S.lit x)=(p x).isSome:=by
 cases hp:p x with
 | none=>rw [hp] at hd;rw [has_false_of_atKey hd];rfl
 | some v=>rw [hp] at hd;rw [has_true_of_atKey hd];rfl
theorem Own.gmAt (h:Own w0 w (GMap S b n sz p::l)) (ht:P.underlying t=some (.map k e)) (hz:(zeroValue e).run P w=.ok z w) (x:κ) (hx:S.ok x) :
  (Instr.lookup t (.map (some b)) (S.val x) false).run P w=.ok ((p x).getD z) w:=by
 obtain ⟨A,⟨B,C,⟨⟨D,hm,hd,_⟩,_⟩,_⟩,_⟩:=h
 obtain ⟨v,ps,hrun,hv⟩:=hm.lookup S.law ht hz (show heldV _=some (.held _,[]) from rfl) (S.of hx)
 have hd:=hd x hx
 have hq:=(Prod.mk.inj (Option.some.inj hv)).1
 rw [hd] at hq
 cases hp:p x with
 | none=>
  rw [hp] at hq;have:v=z:=by simpa [rdV] using hq
  subst this;exact hrun
 | some u=>
  rw [hp] at hq;have:v=u:=by simpa [rdV] using hq
  subst this;exact hrun
theorem Own.gmLen (h:Own w0 w (GMap S b n sz p::l)) (ht:P.underlying t=some (.map k e)) (ty:TypeId):(Builtin.len_ #[t] ty #[.map (some b)]).run P w=.ok (.int .i64 (sz:Int)) w:=by
 obtain ⟨A,⟨B,C,⟨⟨D,hm,hd,rfl⟩,_⟩,_⟩,_⟩:=h
 exact hm.len ht ty
theorem Own.gmPut [DecidableEq κ] (h:Own w0 w (GMap S b n sz p::l)) (ht:P.underlying t=some (.map k e)) (x:κ) (v:Value) (hx:S.ok x) (hn:n < maxLen) :
  ∃ w',(Instr.mapUpdate t (.map (some b)) (S.val x) v).run P w=.ok () w'∧Own w0 w' (GMap S b (n+1) (if (p x).isSome then sz else sz+1) (fun y=>if y=x then some v else p y)::l):=by
 obtain ⟨A,⟨⟨D,hm,hd,hs⟩,hA⟩,hlo,act⟩:=h.act
 obtain ⟨w',hrun,hm',hg⟩:=hm.update S.law ht hn (S.of hx) (show heldV v=some (.held v,[]) from rfl)
 refine ⟨w',hrun,act w' (GMap S b (n+1) _ _) A ⟨⟨_,hm',?_,?_⟩,hA⟩ ((Fr.refl _ _).grown hg (fun k hk=>.inl ((hA k).2 (by cases hk;rfl)))) (fun _ a=>.inl a)⟩
 ·intro y hy z
  by_cases e:y=x
  ·subst e
   rw [atKey_put_same hm.isMap (k:=S.lit y) (S.key y)];simp [rdV]
  ·rw [atKey_put_other (by intro q;exact e (S.inj hy hx q)),hd y hy];simp [e]
 ·rw [size_put (hm.tidy S.law),has_of (hd x hx),hs]
theorem Own.gmNew (S:Keys P k κ) (h:Own w0 w l):Own w0 (w.alloc (.map #[] 0)) (GMap S w.heap.size 0 0 (fun _=>none)::l) :=
 h.new (GMap S w.heap.size 0 0 (fun _=>none)) (fun j=>j=w.heap.size) ⟨⟨.map [],World.ownsMap_made _ _ _ _,fun x _ z=>by simp [DataW.atKey,rdV],rfl⟩,fun _=>Iff.rfl⟩ ((Fr.refl _ _).alloc _) (fun j hj=>by omega)
theorem Own.gmIs (h:Own w0 w (GMap S b n sz p::l)) {m:Nat} (hm:n≤m) (hq:∀ x,S.ok x→p x=q x):Own w0 w (GMap S b m sz q::l):=by
 obtain ⟨A,⟨B,C,⟨⟨D,hd,hk,hs⟩,hB⟩,r⟩,s⟩:=h
 exact ⟨A,⟨B,C,⟨⟨D,hd.mono hm,fun x hx z=>by rw [← hq x hx];exact hk x hx z,hs⟩,hB⟩,r⟩,s⟩
end
end Go.Proofs.YtogmdoiecpihdaaGreatDoor
namespace Go.Proofs.YtogmdoiecpihdaaGreatDoor
open Go.RowKit
set_option linter.unusedVariables false
set_option maxHeartbeats 8000000
set_option maxRecDepth 100000
theorem sgt_old {o:Option SgE} {T:Nat} {k a b c:Int} (h:(sgt o T k a b c).t≠T):o=some (sgt o T k a b c):=by
 unfold sgt at h ⊢
 split
 ·split
  ·rfl
  ·rename_i h2;simp only [h2] at h;exact absurd rfl h
 ·exact absurd rfl h
theorem mapOf_none {S:Nat→Nat→Option SgE} {T:Nat} {A:List (Nat × Cp)} {i k:Nat} (h:∀ x∈A,¬ (x.1=i∧x.2.k=k)):mapOf S T A i k=none:=by
 have key:∀ (A:List (Nat × Cp)) (p:Nat→Nat→Option SgE),(∀ x∈A,¬ (x.1=i∧x.2.k=k))→(A.foldl (stpW S T) p) i k=p i k:=by
  intro A
  induction A with
  | nil=>intro p _;rfl
  | cons x A ih =>
   intro p h
   rw [List.foldl_cons,ih _ (fun y hy=>h y (List.mem_cons_of_mem _ hy))]
   unfold stpW
   rw [if_neg]
   rintro ⟨rfl,rfl⟩
   exact h x List.mem_cons_self ⟨rfl,rfl⟩
 exact key A _ h
theorem mapOf_some {S:Nat→Nat→Option SgE} {T:Nat} {A:List (Nat × Cp)} {x:Nat × Cp} (hx:x∈A) (h:∀ y∈A,y.1=x.1→y.2.k=x.2.k→y.2=x.2):mapOf S T A x.1 x.2.k=some (sgt (S x.1 x.2.k) T x.2.k x.2.a x.2.b x.2.c):=by
 have key:∀ (A:List (Nat × Cp)) (p:Nat→Nat→Option SgE),(x∈A∨p x.1 x.2.k=some (sgt (S x.1 x.2.k) T x.2.k x.2.a x.2.b x.2.c))→(∀ y∈A,y.1=x.1→y.2.k=x.2.k→y.2=x.2)→(A.foldl (stpW S T) p) x.1 x.2.k=some (sgt (S x.1 x.2.k) T x.2.k x.2.a x.2.b x.2.c):=by
  intro A
  induction A with
  | nil =>
   intro p h _
   rcases h with h | h
   ·cases h
   ·exact h
  | cons y A ih =>
   intro p h hA
   rw [List.foldl_cons]
   refine ih _ ?_ (fun z hz=>hA z (List.mem_cons_of_mem _ hz))
   by_cases e:x.1=y.1∧x.2.k=y.2.k
   ·right
    have:=hA y List.mem_cons_self e.1.symm e.2.symm
    unfold stpW
    rw [if_pos e,← e.1,this]
   ·rcases h with h | h
    ·rcases List.mem_cons.1 h with rfl | h
     ·exact absurd ⟨rfl,rfl⟩ e
     ·exact .inl h
    ·right
     unfold stpW
     rw [if_neg e];exact h
 exact key A _ (.inl hx) h
def KeyN {α:Type} (A:Nat→Option α) (sz:Nat):Prop:=∃ K:List Nat,K.Nodup∧(∀ i∈K,i < 4294967296)∧(∀ i,i < 4294967296→(i∈K ↔ (A i).isSome=true))∧K.length=sz
theorem KeyN.nil {α:Type}:KeyN (fun _=>(none:Option α)) 0:=⟨[],List.nodup_nil,(fun _ h=>(by cases h)),fun i _=>by simp,rfl⟩
theorem KeyN.drop {α:Type} {A:Nat→Option α} {sz:Nat} (h:KeyN A sz) (x:Nat) (hx:x < 4294967296):KeyN (fun y=>if y=x then none else A y) (if (A x).isSome then sz - 1 else sz):=by
 obtain ⟨K,hn,hl,hm,rfl⟩:=h
 refine ⟨K.erase x,hn.erase x,fun i hi=>hl i (List.mem_of_mem_erase hi),fun i hi=>?_,?_⟩
 ·rw [hn.mem_erase_iff,hm i hi]
  by_cases e:i=x
  ·simp [e]
  ·simp [e]
 ·have:=hm x hx
  split
  ·rename_i h
   exact List.length_erase_of_mem (this.2 h)
  ·rename_i h
   rw [List.erase_of_not_mem (fun q=>h (this.1 q))]
theorem KeyN.put {α:Type} {A:Nat→Option α} {sz:Nat} (h:KeyN A sz) (x:Nat) (hx:x < 4294967296) (v:α):KeyN (fun y=>if y=x then some v else A y) (if (A x).isSome then sz else sz+1):=by
 obtain ⟨K,hn,hl,hm,rfl⟩:=h
 have:=hm x hx
 by_cases c:(A x).isSome=true
 ·rw [if_pos c]
  refine ⟨K,hn,hl,fun i hi=>?_,rfl⟩
  rw [hm i hi]
  by_cases e:i=x
  ·subst e;simp [c]
  ·simp [e]
 ·rw [if_neg c]
  have hnx:x ∉ K:=fun q=>c (this.1 q)
  refine ⟨x::K,List.nodup_cons.2 ⟨hnx,hn⟩,fun i hi=>?_,fun i hi=>?_,rfl⟩
  ·rcases List.mem_cons.1 hi with rfl | hi
   ·exact hx
   ·exact hl i hi
  ·rw [List.mem_cons,hm i hi]
   by_cases e:i=x
   ·simp [e]
   ·simp [e]
theorem KeyN.is {α:Type} {A B:Nat→Option α} {sz:Nat} (h:KeyN A sz) (e:∀ i,i < 4294967296→A i=B i):KeyN B sz:=by
 obtain ⟨K,hn,hl,hm,rfl⟩:=h
 exact ⟨K,hn,hl,fun i hi=>by rw [← e i hi];exact hm i hi,rfl⟩
theorem KeyN.len {α:Type} {A:Nat→Option α} {sz:Nat} (h:KeyN A sz) {L:List Nat} (hn:L.Nodup) (hl:∀ i∈L,i < 4294967296) (hm:∀ i,i < 4294967296→(i∈L ↔ (A i).isSome=true)):L.length=sz:=by
 obtain ⟨K,kn,kl,km,rfl⟩:=h
 refine ((List.perm_ext_iff_of_nodup hn kn).2 (fun a=>?_)).length_eq
 constructor
 ·intro ha;exact (km a (hl a ha)).2 ((hm a (hl a ha)).1 ha)
 ·intro ha;exact (hm a (kl a ha)).2 ((km a (kl a ha)).1 ha)
theorem allS_mem {σ:Sto} {x:Nat × Cp}:x∈allS σ ↔ x.1∈σ.S.list∧x.2∈σ.cps x.1:=by
 unfold allS
 rw [List.mem_flatMap]
 constructor
 ·rintro ⟨id,hid,hx⟩
  obtain ⟨c,hc,rfl⟩:=List.mem_map.1 hx
  exact ⟨hid,hc⟩
 ·rintro ⟨h1,h2⟩
  exact ⟨x.1,h1,List.mem_map.2 ⟨x.2,h2,rfl⟩⟩
theorem pw_inj {C:List Cp} (h:C.Pairwise (fun x y=>x.k < y.k)) {c d:Cp} (hc:c∈C) (hd:d∈C) (hk:c.k=d.k):c=d:=by
 induction C with
 | nil=>cases hc
 | cons q t ih =>
  obtain ⟨h1,h2⟩:=List.pairwise_cons.1 h
  rcases List.mem_cons.1 hc with e1 | hc
  ·rcases List.mem_cons.1 hd with e2 | hd
   ·rw [e1,e2]
   ·have:=h1 d hd;rw [← e1] at this;omega
  ·rcases List.mem_cons.1 hd with e2 | hd
   ·have:=h1 c hc;rw [← e2] at this;omega
   ·exact ih h2 hc hd
theorem cps_good {σ:Sto} (hσ:σ.Ok) {id:Nat} (hid:id∈σ.S.list):(σ.cps id).Pairwise (fun x y=>x.k < y.k)∧∀ q∈σ.cps id,q.k < 6:=by
 obtain ⟨hl,_⟩:=St.list_w hσ.s hid
 obtain ⟨r,C,hr,he,hC,_⟩:=hσ.ent hl
 rw [Sto.cps_of hr he]
 exact ⟨(lst_ok hC).1,fun q hq=>chk_k ((lst_ok hC).2 q hq).2⟩
theorem allS_one {σ:Sto} (hσ:σ.Ok) {x y:Nat × Cp} (hx:x∈allS σ) (hy:y∈allS σ) (h1:y.1=x.1) (h2:y.2.k=x.2.k):y.2=x.2:=by
 obtain ⟨a1,a2⟩:=allS_mem.1 hx
 obtain ⟨b1,b2⟩:=allS_mem.1 hy
 rw [h1] at b2
 exact pw_inj (cps_good hσ a1).1 b2 a2 h2
theorem look_has {σ:Sto} (hσ:σ.Ok) {S:Nat→Nat→Option SgE} {T id:Nat} {c:Cp} (hid:id∈σ.S.list) (hc:c∈σ.cps id):mapOf S T (allS σ) id c.k=some (sgt (S id c.k) T c.k c.a c.b c.c) :=
 mapOf_some (x:=(id,c)) (allS_mem.2 ⟨hid,hc⟩) (fun y hy h1 h2=>allS_one hσ (allS_mem.2 ⟨hid,hc⟩) hy h1 h2)
theorem look_no {σ:Sto} {S:Nat→Nat→Option SgE} {T id k:Nat} (h:id∈σ.S.list→∀ c∈σ.cps id,c.k≠k):mapOf S T (allS σ) id k=none :=
 mapOf_none (fun x hx e=>by
  obtain ⟨a1,a2⟩:=allS_mem.1 hx
  rw [e.1] at a1 a2
  exact h a1 x.2 a2 e.2)
theorem look_is {σ:Sto} (hσ:σ.Ok) {S:Nat→Nat→Option SgE} {T id k:Nat} {s:SgE} (h:mapOf S T (allS σ) id k=some s):id∈σ.S.list∧∃ c∈σ.cps id,c.k=k∧s=sgt (S id k) T c.k c.a c.b c.c:=by
 by_cases hh:id∈σ.S.list∧∃ c∈σ.cps id,c.k=k
 ·obtain ⟨h1,c,h2,rfl⟩:=hh
  rw [look_has hσ h1 h2] at h
  exact ⟨h1,c,h2,rfl,(Option.some.inj h).symm⟩
 ·rw [look_no (fun h1 c hc e=>hh ⟨h1,c,hc,e⟩)] at h
  cases h
theorem look_old {σ:Sto} (hσ:σ.Ok) {S:Nat→Nat→Option SgE} {T id k:Nat} {s:SgE} (h:mapOf S T (allS σ) id k=some s) (ht:s.t≠T):S id k=some s:=by
 obtain ⟨_,c,_,rfl,rfl⟩:=look_is hσ h
 exact sgt_old ht
end Go.Proofs.YtogmdoiecpihdaaGreatDoor
