/- The world looks at all components. -/
import Derived.Test.YtogmdoiecpihdaaGreatDoorQs18
import Derived.Test.YtogmdoiecpihdaaGreatDoorQs11
import Derived.Deep.RegionHeld3
namespace Go.Proofs.YtogmdoiecpihdaaGreatDoor
open Go.RowKit
set_option linter.unusedVariables false
set_option maxHeartbeats 32000000
set_option maxRecDepth 100000
theorem Own.fr6 {w0 w:World} {a b c d e f g:Thing} {l:List Thing} (h:Own w0 w (a::b::c::d::e::f::g::l)):Own w0 w (g::a::b::c::d::e::f::l):=h.perm (List.perm_middle (l₁:=[a,b,c,d,e,f]) (a:=g) (l₂:=l))
theorem Own.fr7 {w0 w:World} {a b c d e f g k:Thing} {l:List Thing} (h:Own w0 w (a::b::c::d::e::f::g::k::l)):Own w0 w (k::a::b::c::d::e::f::g::l):=h.perm (List.perm_middle (l₁:=[a,b,c,d,e,f,g]) (a:=k) (l₂:=l))
def allS (σ:Sto):List (Nat × Cp):=σ.S.list.flatMap (fun id=>(σ.cps id).map (fun c=>(id,c)))
theorem allW_S {σ:Sto} {L:List EnE} (h:L.map (fun x=>(x.id,x.C))=σ.S.list.map (fun id=>(id,σ.cps id))):allW L=allS σ:=by
 have e1:allW L=(L.map (fun x=>(x.id,x.C))).flatMap (fun e=>e.2.map (fun c=>(e.1,c))):=by
  unfold allW;rw [List.flatMap_map]
 have e2:allS σ=(σ.S.list.map (fun id=>(id,σ.cps id))).flatMap (fun e=>e.2.map (fun c=>(e.1,c))):=by
  unfold allS;rw [List.flatMap_map]
 rw [e1,e2,h]
theorem ents_ok {σ:Sto} (hσ:σ.Ok) {L:List EnE} (h:L.map (fun x=>(x.id,x.C))=σ.S.list.map (fun id=>(id,σ.cps id))):L.length≤1024∧∀ x∈L,x.id < 4294967296∧x.C.length≤6∧∀ c∈x.C,c.k < 256:=by
 constructor
 ·have:=congrArg List.length h
  simp only [List.length_map] at this
  rw [this]
  exact list_lenW hσ.s
 ·intro x hx
  have hm:(x.id,x.C)∈σ.S.list.map (fun id=>(id,σ.cps id)):=by rw [← h];exact List.mem_map.2 ⟨x,hx,rfl⟩
  obtain ⟨id,hid,e⟩:=List.mem_map.1 hm
  simp only [Prod.mk.injEq] at e
  obtain ⟨hl,h32⟩:=St.list_w hσ.s hid
  obtain ⟨r,C,hr,he,hC,_⟩:=hσ.ent hl
  have hc:=Sto.cps_of hr he
  rw [← e.1,← e.2,hc]
  exact ⟨h32,lst_len6 hC,lst_k hC⟩
theorem look_ok (w0 w:World) (l:List Thing) (b bs:Nat) (T:Nat) (bwv pv:Value) (mp:Option Nat) (n:Nat) (S:Nat→Nat→Option SgE) (σ:Sto) (K:Nat) (hσ:σ.Ok) (hK:K≤1000000) (hn:n≤100000)
  (h:Own w0 w (Store bs σ K::Cells b #[.int .u32 (T:Int),.pointer (some ⟨bs,0,none⟩),bwv,.map mp,pv] 102::SMapO mp n S::l)) :
  Calls Tryz.prog 51 #[.pointer (some ⟨b,0,none⟩)] w fun e w'=>e=.returned (.tuple #[])∧∃ (mn:Nat) (ao:Option Addr) (cap:Nat) (P L1 L2:List PlE),LeftOf (sgp S) (sgp (mapOf S T (allS σ))) (fun _ _=>false) L1∧ReachOf (mapOf S T (allS σ)) T (fun _ _=>false) L2∧P.Perm (L1++L2)∧P.Pairwise (fun a b=>a.id≤b.id)∧Own w0 w' (Store bs σ K::Cells b #[.int .u32 (T:Int),.pointer (some ⟨bs,0,none⟩),bwv,.map (some mn),.slice ao P.length cap] 102::SMap mn (allS σ).length (sgp (mapOf S T (allS σ)))::Row 92 4 (.slice ao P.length cap) P.length (cat PlE.cs P)::l):=by
 have hM:=h.smNew
 have HL:Hid (Calls _ _ _ _ _):=wlist w0 _ _ b bs _ σ K hM.back3 rfl hσ hK
 have HOK:Hid (∀ L:List EnE,L.map (fun x=>(x.id,x.C))=σ.S.list.map (fun id=>(id,σ.cps id))→L.length≤1024∧∀ x∈L,x.id < 4294967296∧x.C.length≤6∧∀ c∈x.C,c.k < 256):=fun L hL=>ents_ok hσ hL
 have hmm:=fun w=>@run_makeMap Tryz.prog 100 w
 clear h hM hσ hK
 go_enter Tryz.func51,Tryz.ntmps51
 go_wp2_with fail
 refine HL.out.mono ?_
 rintro e w2 ⟨ae,ce,L,rfl,hLe,h2⟩
 generalize w.heap.size=Bm at *
 obtain ⟨hLn,hLx⟩:=HOK.out L hLe
 have HLE:Hid (allW L=allS σ):=allW_S hLe
 have HLX:Hid (∀ x∈L,x.id < 4294967296∧x.C.length≤6∧∀ c∈x.C,c.k < 256):=hLx
 have H2:Hid (Own w0 w2 (EntsT ae ce L::Store bs σ K::Cells b #[.int .u32 (T:Int),.pointer (some ⟨bs,0,none⟩),bwv,.map mp,pv] 102::SMap Bm 0 (sgp (mapOf S T []))::SMapO mp n S::l)):=(h2.perm perm_ents).ents
 obtain ⟨m,hm⟩:∃ m,m=L.length:=⟨_,rfl⟩
 have HMM:Hid (m=L.length):=hm
 rw [← hm] at hLn ⊢
 clear h2 hLe hLx HL HOK hm hmm
 go_wp2
 go_loopw [12] (fun vi wr=>∃ (j:Nat) (A:List (Nat × Cp)),j≤m∧vi=.int .i64 (j:Int)∧A=allW (L.take j)∧A.length≤6*j∧Own w0 wr (EntsT ae ce L::Store bs σ K::Cells b #[.int .u32 (T:Int),.pointer (some ⟨bs,0,none⟩),bwv,.map mp,pv] 102::SMap Bm A.length (sgp (mapOf S T A))::SMapO mp n S::l)) (fun vi _=>m - (intOf vi).toNat)
 case atStart=>exact ⟨0,[],Nat.zero_le _,rfl,rfl,Nat.zero_le _,H2.out⟩
 case round =>
  obtain ⟨j,A,hj,rfl,hA0,hAl,hO⟩:=hrel
  have HAE:Hid (A=allW (L.take j)):=hA0
  clear hA0 H2
  by_cases hlt:j < m
  ·have hlt':(j:Int) < (m:Int):=by omega
   obtain ⟨x,hx⟩:∃ x,L[j]? = some x:=⟨_,List.getElem?_eq_getElem (by rw [← HMM.out];exact hlt)⟩
   obtain ⟨⟨ge,hge,c0,c1⟩,_⟩:=hO.entAt hx
   obtain ⟨hx1,hx2,hx3⟩:=HLX.out x (List.mem_of_getElem? hx)
   have HX3:Hid (∀ c∈x.C,c.k < 256):=hx3
   have HXX:Hid (L[j]? = some x):=hx
   have HAN:Hid (A++x.C.map (fun c=>(x.id,c))=allW (L.take (j+1))):=by
    show _=_
    rw [HAE.out,List.take_add_one,hx]
    exact (allW_snoc _ _).symm
   have hA:=hO.allocC #[.int .u32 (x.id:Int),.slice x.ao x.C.length x.cap] 76
   have HA:Hid (Own w0 _ _):=hA
   obtain ⟨xi,hxi⟩:∃ v,v=x.id:=⟨_,rfl⟩
   obtain ⟨xl,hxl⟩:∃ v,v=x.C.length:=⟨_,rfl⟩
   obtain ⟨xa,hxa⟩:∃ v,v=x.ao:=⟨_,rfl⟩
   obtain ⟨xc,hxc⟩:∃ v,v=x.cap:=⟨_,rfl⟩
   rw [← hxi] at c0 hx1 HA HAN
   rw [← hxl,← hxa,← hxc] at c1 HA
   rw [← hxl] at hx2
   have HXV:Hid (xi=x.id∧xl=x.C.length∧xa=x.ao∧xc=x.cap):=⟨hxi,hxl,hxa,hxc⟩
   obtain ⟨An,hAn⟩:∃ v,v=A.length:=⟨_,rfl⟩
   rw [← hAn] at hAl HA
   have HAn:Hid (An=A.length):=hAn
   subst hge
   clear hA hO hx hx3 hxi hxl hxa hxc hAn
   go_wp2
   generalize hWg:wr.alloc (.cells #[.int .u32 (xi:Int),.slice xa xl xc] 76)=W3 at *
   generalize wr.heap.size=b4 at *
   clear hWg c0 c1
   go_loopw [19] (fun vi wr=>∃ (q:Nat) (A2:List (Nat × Cp)),q≤xl∧vi=.int .i64 (q:Int)∧A2=A++(x.C.take q).map (fun c=>(xi,c))∧Own w0 wr (Cells b4 #[.int .u32 (xi:Int),.slice xa xl xc] 76::EntsT (some ⟨ge,0,none⟩) ce L::Store bs σ K::Cells b #[.int .u32 (T:Int),.pointer (some ⟨bs,0,none⟩),bwv,.map mp,pv] 102::SMap Bm (An+q) (sgp (mapOf S T A2))::SMapO mp n S::l)) (fun vi _=>xl - (intOf vi).toNat)
   case atStart=>exact ⟨0,A,Nat.zero_le _,rfl,by simp,HA.out⟩
   case round =>
    obtain ⟨q,A2,hq,rfl,hA2,hO⟩:=hrel
    have HA2:Hid (A2=A++(x.C.take q).map (fun c=>(xi,c))):=hA2
    clear hA2 HA
    by_cases hql:q < xl
    ·have hql':(q:Int) < (xl:Int):=by omega
     obtain ⟨c,hc⟩:∃ c,x.C[q]? = some c:=⟨_,List.getElem?_eq_getElem (by rw [← HXV.out.2.1];exact hql)⟩
     have hcs:=(hO.two.entAt HXX.out).2
     obtain ⟨gc,oc,hgc,_,t0,t1,t2,t3⟩:=hcs.at q c hc
     rw [← HXV.out.2.2.1] at hgc
     have hck:=HX3.out c (List.mem_of_getElem? hc)
     have f0:=hO.cell 0
     simp at f0
     have HA3:Hid (A2++[(xi,c)]=A++(x.C.take (q+1)).map (fun c=>(xi,c))):=by
      show _=_
      rw [HA2.out,List.take_add_one,hc]
      simp
     obtain ⟨ck,ca,cb,cc⟩:=c
     simp only at t0 t1 t2 t3 hck
     have hB:=(hO.allocC #[.int .u8 (ck:Int),.int .i32 ca,.int .i32 cb,.int .i32 cc] 46).allocC #[.int .u32 (xi:Int),.int .u8 (ck:Int)] 166
     simp only [World.size_alloc] at hB
     have g0:=hB.three.cell 0
     simp at g0
     have hB1:=hO.allocC #[.int .u8 (ck:Int),.int .i32 ca,.int .i32 cb,.int .i32 cc] 46
     have k0:=hB1.two.cell 0
     simp at k0
     obtain ⟨sv,hsv⟩:∃ sv,sv=(sgt (S xi ck) T ck ca cb cc).v:=⟨_,rfl⟩
     have HSG:Hid (∀ W l,Own w0 W (SMapO mp n S::Cells b #[.int .u32 (T:Int),.pointer (some ⟨bs,0,none⟩),bwv,.map mp,pv] 102::l)→Calls Tryz.prog 101 #[.pointer (some ⟨b,0,none⟩),.agg #[.int .u32 (xi:Int),.int .u8 (ck:Int)],.agg #[.int .u8 (ck:Int),.int .i32 ca,.int .i32 cb,.int .i32 cc]] W fun e w'=>e=.returned sv∧Own w0 w' (SMapO mp n S::Cells b #[.int .u32 (T:Int),.pointer (some ⟨bs,0,none⟩),bwv,.map mp,pv] 102::l)):=fun W l h=>by
      rw [hsv]
      exact sight_o w0 W l b _ mp n T S rfl rfl xi ck hx1 hck ck ca cb cc h
     have HPU:Hid (∀ W l,Own w0 W (SMap Bm (An+q) (sgp (mapOf S T A2))::l)→∃ w',(Instr.mapUpdate 100 (.map (some Bm)) (.agg #[.int .u32 (xi:Int),.int .u8 (ck:Int)]) sv).run Tryz.prog W=.ok () w'∧Own w0 w' (SMap Bm (An+(q+1)) (sgp (mapOf S T (A2++[(xi,⟨ck,ca,cb,cc⟩)])))::l)):=fun W l h=>by
      rw [hsv,mapOf_snoc]
      exact h.smStp (S:=S) (T:=T) (xi,⟨ck,ca,cb,cc⟩) hx1 hck (by unfold maxLen;omega)
     have H0:Hid (Own w0 _ (SMapO mp n S::Cells b #[.int .u32 (T:Int),.pointer (some ⟨bs,0,none⟩),bwv,.map mp,pv] 102::Cells (wr.heap.size+1) #[.int .u32 (xi:Int),.int .u8 (ck:Int)] 166::Cells wr.heap.size #[.int .u8 (ck:Int),.int .i32 ca,.int .i32 cb,.int .i32 cc] 46::Cells b4 #[.int .u32 (xi:Int),.slice xa xl xc] 76::EntsT (some ⟨ge,0,none⟩) ce L::Store bs σ K::SMap Bm (An+q) (sgp (mapOf S T A2))::l)):=(hB.fr7.fr6.two).drew
     subst hgc
     clear hB hB1 hO hcs hc hsv
     go_wp2
     generalize hWg:(wr.alloc (.cells #[.int .u8 (ck:Int),.int .i32 ca,.int .i32 cb,.int .i32 cc] 46)).alloc (.cells #[.int .u32 (xi:Int),.int .u8 (ck:Int)] 166)=W5 at *
     generalize hb6:wr.heap.size=b6 at *
     generalize hb7:b6+1=b7 at *
     clear hWg t0 t1 t2 t3 f0 g0 k0 hb6 hb7
     have p0:=H0.out.three.cell 0
     have p1:=H0.out.three.cell 1
     have r0:=H0.out.four.cell 0
     have r1:=H0.out.four.cell 1
     have r2:=H0.out.four.cell 2
     have r3:=H0.out.four.cell 3
     simp at p0 p1 r0 r1 r2 r3
     go_region_held3 (fun w'=>w'.cell? ⟨b7,0,none⟩=some (.int .u32 (xi:Int))∧w'.cell? ⟨b7,1,none⟩=some (.int .u8 (ck:Int))∧w'.cell? ⟨b6,0,none⟩=some (.int .u8 (ck:Int))∧w'.cell? ⟨b6,1,none⟩=some (.int .i32 ca)∧w'.cell? ⟨b6,2,none⟩=some (.int .i32 cb)∧w'.cell? ⟨b6,3,none⟩=some (.int .i32 cc)) (go_keep)
      (first
        | (go_at_call 101;refine (HSG.out _ _ H0.out).mono ?_;rintro e w5 ⟨rfl,h5⟩
           have u0:=h5.three.cell 0
           have u1:=h5.three.cell 1
           have v0:=h5.four.cell 0
           have v1:=h5.four.cell 1
           have v2:=h5.four.cell 2
           have v3:=h5.four.cell 3
           simp at u0 u1 v0 v1 v2 v3
           obtain ⟨W6,hr6,h6⟩:=HPU.out w5 _ h5.fr7
           have x0:=h6.four.cell 0
           have x1:=h6.four.cell 1
           have y0:=h6.five.cell 0
           have y1:=h6.five.cell 1
           have y2:=h6.five.cell 2
           have y3:=h6.five.cell 3
           simp at x0 x1 y0 y1 y2 y3
           have H6:Hid (Own w0 W6 (Cells b4 #[.int .u32 (xi:Int),.slice (some ⟨gc,oc,none⟩) xl xc] 76::EntsT (some ⟨ge,0,none⟩) ce L::Store bs σ K::Cells b #[.int .u32 (T:Int),.pointer (some ⟨bs,0,none⟩),bwv,.map mp,pv] 102::SMap Bm (An+(q+1)) (sgp (mapOf S T (A2++[(xi,⟨ck,ca,cb,cc⟩)])))::SMapO mp n S::l)):=h6.three.fr7.fr7.fr7.fr6.tail.fr6.tail
           clear h5 h6))
     clear HSG HPU H0
     go_wp2
     go_roundw
     case rel=>exact ⟨q+1,A2++[(xi,⟨ck,ca,cb,cc⟩)],by omega,by go_num,HA3.out,H6.out⟩
     case measure=>simp [intOf];omega
    ·have hql':¬ (q:Int) < (xl:Int):=by omega
     have hqe:q=xl:=by omega
     have HAF:Hid (A2=allW (L.take (j+1))∧A2.length=An+q):=by
      have e:A2=A++x.C.map (fun c=>(xi,c)):=by rw [HA2.out,hqe,HXV.out.2.1,List.take_length]
      refine ⟨by rw [e];exact HAN.out,?_⟩
      rw [e,List.length_append,List.length_map,← HAn.out,← HXV.out.2.1,hqe]
     have HOF:Hid (Own w0 wr (EntsT (some ⟨ge,0,none⟩) ce L::Store bs σ K::Cells b #[.int .u32 (T:Int),.pointer (some ⟨bs,0,none⟩),bwv,.map mp,pv] 102::SMap Bm A2.length (sgp (mapOf S T A2))::SMapO mp n S::l)):=by
      rw [HAF.out.2]
      exact hO.tail
     clear hO hqe
     go_wp2
     go_roundw
     case rel=>exact ⟨j+1,A2,by omega,by go_num,HAF.out.1,by rw [HAF.out.2];omega,HOF.out⟩
     case measure=>simp [intOf];omega
  ·have hlt':¬ (j:Int) < (m:Int):=by omega
   have hjm:j=m:=by omega
   have hAA:A=allS σ:=by rw [HAE.out,hjm,HMM.out,List.take_length];exact HLE.out
   obtain ⟨An,hAn⟩:∃ v,v=A.length:=⟨_,rfl⟩
   have hAl2:An≤6144:=by omega
   have hO1:Own w0 wr (SMapO mp n S::SMap Bm An (sgp (mapOf S T A))::Cells b #[.int .u32 (T:Int),.pointer (some ⟨bs,0,none⟩),bwv,.map mp,pv] 102::Store bs σ K::l):=by
    have h1:=hO.tail
    rw [← hAn] at h1
    have h2:=h1.three.four
    exact h2.perm (List.Perm.cons _ (List.Perm.cons _ (List.Perm.swap _ _ l)))
   have HAA:Hid (A=allS σ∧An=(allS σ).length):=⟨hAA,by rw [hAn,hAA]⟩
   obtain ⟨S',hS'⟩:∃ S',S'=mapOf S T A:=⟨_,rfl⟩
   rw [← hS'] at hO1
   have HS':Hid (S'=mapOf S T (allS σ)):=by rw [hS',hAA];exact rfl
   have HLF:Hid (Calls _ _ _ _ _):=left_o w0 wr _ b _ mp n Bm An S S' rfl (by omega) hO1
   clear hO hO1 hAA hAn hS' hjm HAE HMM HLE HLX hAl hLn hj
   go_wp2_with fail
   refine HLF.out.mono ?_
   rintro e w3 ⟨a1,c1,L1,rfl,hl1,hL1,h3⟩
   have HRC:Hid (Calls _ _ _ _ _):=reached_ok w0 w3 _ b _ Bm An T S' rfl (by omega) h3.three.four.two
   have HL1:Hid (LeftOf (sgp S) (sgp S') (fun _ _=>false) L1):=hL1
   obtain ⟨n1,hn1⟩:∃ v,v=L1.length:=⟨_,rfl⟩
   have HN1:Hid (n1=L1.length):=hn1
   rw [← hn1] at hl1 HRC ⊢
   clear HLF h3 hL1 hn1
   go_wp2_with fail
   refine HRC.out.mono ?_
   rintro e w4 ⟨a2,c2,L2,rfl,hl2,hL2,h4⟩
   have HL2:Hid (ReachOf S' T (fun _ _=>false) L2):=hL2
   obtain ⟨n2,hn2⟩:∃ v,v=L2.length:=⟨_,rfl⟩
   have HN2:Hid (n2=L2.length):=hn2
   rw [← hn2] at hl2 h4 ⊢
   have hD:=h4.allocC #[.slice a1 n1 c1,.slice a2 n2 c2] 86
   have hD2:=hD.five.two
   have HCC:Hid (Calls _ _ _ _ _):=concatPl w0 _ _ w4.heap.size a1 a2 c1 c2 L1 L2 (by rw [← HN1.out,← HN2.out];omega) (by rw [← HN1.out,← HN2.out];exact hD2)
   clear HRC h4 hL2 hn2 hD hD2
   go_wp2_with fail
   refine HCC.out.mono ?_
   rintro e w5 ⟨a3,c3,rfl,h5⟩
   obtain ⟨n3,hn3⟩:∃ v,v=(L1++L2).length:=⟨_,rfl⟩
   have hn3b:n3≤200000:=by rw [hn3,List.length_append,← HN1.out,← HN2.out];omega
   have hC:=h5.three
   have z4:=hC.cell 4
   have y4:=hC.froz 4
   simp at z4
   have hC2:=hC.setC 4 (.slice a3 n3 c3)
   have HSO:Hid (Calls _ _ _ _ _):=sort_any w0 _ _ a3 c3 (L1++L2) hC2.two (by rw [← hn3];omega)
   have z5:=hC2.cell 4
   simp at z5
   rw [← hn3] at HSO ⊢
   have HN3:Hid (n3=(L1++L2).length):=hn3
   clear HCC h5 hC hC2 hn3
   go_wp2_with fail
   refine HSO.out.mono ?_
   rintro e w6 ⟨rfl,P,hp,hpw,h6⟩
   have hE:=h6.two
   have z3:=hE.cell 3
   have y3:=hE.froz 3
   simp at z3
   have hE2:=hE.setC 3 (.map (some Bm))
   have hPl:P.length=n3:=by rw [HN3.out];exact hp.length_eq
   have HP:Hid (P.Perm (L1++L2)∧P.Pairwise (fun a b=>a.id≤b.id)):=⟨hp,hpw⟩
   have HFI:Hid (Own w0 (w6.setCell ⟨b,3,none⟩ (.map (some Bm))) (Store bs σ K::Cells b #[.int .u32 (T:Int),.pointer (some ⟨bs,0,none⟩),bwv,.map (some Bm),.slice a3 P.length c3] 102::SMap Bm (allS σ).length (sgp (mapOf S T (allS σ)))::Row 92 4 (.slice a3 P.length c3) P.length (cat PlE.cs P)::l)):=by
    show Own _ _ _
    rw [hPl,← HAA.out.2,← HS'.out]
    have h7:=hE2.five.five.tail
    exact h7.perm (List.Perm.cons _ (List.Perm.cons _ (List.Perm.swap _ _ l)))
   clear hE hE2 h6 hp hpw hPl HSO z4 y4 z5
   go_wp2
   go_end0
   refine ⟨rfl,Bm,a3,c3,P,L1,L2,?_,?_,HP.out.1,HP.out.2,HFI.out⟩
   ·rw [← HS'.out];exact HL1.out
   ·rw [← HS'.out];exact HL2.out
def ock (d k:Nat) (C:List Cp):Nat :=
 if d=1 then lst (-1) C else if d=2 then (if C.length=0 then 0 else 4) else if d=3∨d=4 then (if C.length=1 then (C.headD ⟨0,0,0,0⟩).chk else 4) else if d=5 then (if 5 < k then 1 else if C.length=0 then 0 else 4) else 1
theorem ock_bad (d k:Nat) (C:List Cp) (h:d < 1∨5 < d):ock d k C=1:=by
 unfold ock
 rw [if_neg (by omega),if_neg (by omega),if_neg (by omega),if_neg (by omega)]
theorem onone (w:World) (ao:Option Addr) (len cap:Nat):Calls Tryz.prog 144 #[.slice ao len cap] w fun e w'=>e=.returned (.int .i64 (((if len=0 then 0 else 4:Nat)):Int))∧w'=w:=by
 by_cases h:len=0
 ·subst h
  go_enter Tryz.func144,Tryz.ntmps144
  go_wp2
  go_ret
  exact ⟨rfl,rfl⟩
 ·rw [if_neg h]
  have h':(0:Int) < (len:Int):=by omega
  go_enter Tryz.func144,Tryz.ntmps144
  go_wp2
  go_ret
  exact ⟨rfl,rfl⟩
theorem oone (w:World) (ht:Tab w) (ao:Option Addr) (len cap:Nat) (C:List Cp) (hl:C.length=len) (hs:Cs w ao C) (hk:∀ q∈C,q.k < 256):Calls Tryz.prog 145 #[.slice ao len cap] w fun e w'=>e=.returned (.int .i64 (((if C.length=1 then (C.headD ⟨0,0,0,0⟩).chk else 4:Nat)):Int))∧Fr Nobody w w':=by
 by_cases h:len=1
 ·obtain ⟨q,rfl⟩:∃ q,C=[q]:=List.length_eq_one_iff.1 (by omega)
  have hq:=hk q (by simp)
  obtain ⟨g,o,rfl,_,c0,c1,c2,c3⟩:=hs.at 0 q rfl
  have HC:Hid (Calls _ _ _ _ _):=check3 w ht q.k hq q.a q.b q.c
  simp at c0 c1 c2 c3
  rw [show (if [q].length=1 then ([q].headD ⟨0,0,0,0⟩).chk else 4)=q.chk from rfl]
  subst h
  clear hl hs hk ht
  go_enter Tryz.func145,Tryz.ntmps145
  go_wp2_with fail
  refine HC.out.mono ?_
  rintro e w1 ⟨rfl,hf⟩
  go_wp2
  go_ret
  exact ⟨rfl,hf⟩
 ·rw [if_neg (by omega)]
  have h':((len:Int) == (1:Int))=false:=by simp;omega
  clear hs hk ht
  go_enter Tryz.func145,Tryz.ntmps145
  go_wp2
  go_ret
  exact ⟨rfl,Fr.refl _ _⟩
theorem ocheck (w:World) (ht:Tab w) (d id k:Nat) (hk:k < 256) (ao:Option Addr) (len cap:Nat) (C:List Cp) (hl:C.length=len) (hs:Cs w ao C) (hCk:∀ q∈C,q.k < 256) (hm:len≤1000000) :
  Calls Tryz.prog 90 #[.agg #[.int .u8 (d:Int),.int .u32 (id:Int),.int .u8 (k:Int),.slice ao len cap]] w fun e w'=>e=.returned (.int .i64 ((ock d k C:Nat):Int))∧Fr Nobody w w':=by
 have HL:Hid (∀ w',Fr Nobody w w'→Calls Tryz.prog 74 #[.slice ao len cap] w' fun e w''=>e=.returned (.int .i64 ((lst (-1) C:Nat):Int))∧Fr Nobody w' w''):=fun w' hf=>list_any w' (ht.quiet hf) ao len cap C hl (hs.quiet hf) hCk hm
 have HN:Hid (∀ w',Calls Tryz.prog 144 #[.slice ao len cap] w' fun e w''=>e=.returned (.int .i64 (((if C.length=0 then 0 else 4:Nat)):Int))∧w''=w'):=fun w'=>by rw [hl];exact onone w' ao len cap
 have HO:Hid (∀ w',Fr Nobody w w'→Calls Tryz.prog 145 #[.slice ao len cap] w' fun e w''=>e=.returned (.int .i64 (((if C.length=1 then (C.headD ⟨0,0,0,0⟩).chk else 4:Nat)):Int))∧Fr Nobody w' w''):=fun w' hf=>oone w' (ht.quiet hf) ao len cap C hl (hs.quiet hf) hCk
 have HC:Hid (∀ w',Fr Nobody w w'→Calls Tryz.prog 146 #[.int .u8 (k:Int)] w' fun e w''=>e=.returned (.int .i64 ((cnt k:Nat):Int))∧w''=w'):=fun w' hf=>count_any w' (ht.quiet hf) k hk
 clear ht hs hCk hl
 by_cases hd:d < 1∨5 < d
 ·rw [ock_bad d k C hd]
  have d1:¬ (d:Int)=1:=by omega
  have d2:¬ (d:Int)=2:=by omega
  have d3:¬ (d:Int)=3:=by omega
  have d4:¬ (d:Int)=4:=by omega
  have d5:¬ (d:Int)=5:=by omega
  clear hd
  go_enter Tryz.func90,Tryz.ntmps90
  go_wp2
  go_ret
  exact ⟨rfl,(Fr.refl _ _).alloc _⟩
 ·have:d=1∨d=2∨d=3∨d=4∨d=5:=by omega
  clear hd
  rcases this with rfl | rfl | rfl | rfl | rfl
  ·have hv:ock 1 k C=lst (-1) C:=rfl
   rw [hv]
   clear hv
   generalize lst (-1) C=x at *
   go_enter Tryz.func90,Tryz.ntmps90
   go_wp2_with fail
   refine (HL.out _ ((Fr.refl _ _).alloc _)).mono ?_
   rintro e w1 ⟨rfl,hf⟩
   go_wp2
   go_ret
   exact ⟨rfl,((Fr.refl _ _).alloc _).trans hf⟩
  ·have hv:ock 2 k C=(if C.length=0 then 0 else 4):=rfl
   rw [hv]
   clear hv
   generalize (if C.length=0 then 0 else 4)=x at *
   go_enter Tryz.func90,Tryz.ntmps90
   go_wp2_with fail
   refine (HN.out _).mono ?_
   rintro e w1 ⟨rfl,rfl⟩
   go_wp2
   go_ret
   exact ⟨rfl,((Fr.refl _ _).alloc _)⟩
  ·have hv:ock 3 k C=(if C.length=1 then (C.headD ⟨0,0,0,0⟩).chk else 4):=rfl
   rw [hv]
   clear hv
   generalize (if C.length=1 then (C.headD ⟨0,0,0,0⟩).chk else 4)=x at *
   go_enter Tryz.func90,Tryz.ntmps90
   go_wp2_with fail
   refine (HO.out _ ((Fr.refl _ _).alloc _)).mono ?_
   rintro e w1 ⟨rfl,hf⟩
   go_wp2
   go_ret
   exact ⟨rfl,((Fr.refl _ _).alloc _).trans hf⟩
  ·have hv:ock 4 k C=(if C.length=1 then (C.headD ⟨0,0,0,0⟩).chk else 4):=rfl
   rw [hv]
   clear hv
   generalize (if C.length=1 then (C.headD ⟨0,0,0,0⟩).chk else 4)=x at *
   go_enter Tryz.func90,Tryz.ntmps90
   go_wp2_with fail
   refine (HO.out _ ((Fr.refl _ _).alloc _)).mono ?_
   rintro e w1 ⟨rfl,hf⟩
   go_wp2
   go_ret
   exact ⟨rfl,((Fr.refl _ _).alloc _).trans hf⟩
  ·by_cases h5:5 < k
   ·have hv:ock 5 k C=1:=by unfold ock;simp [h5]
    rw [hv]
    rw [cnt_out k h5] at HC
    clear hv
    go_enter Tryz.func90,Tryz.ntmps90
    go_wp2_with fail
    refine (HC.out _ ((Fr.refl _ _).alloc _)).mono ?_
    rintro e w1 ⟨rfl,rfl⟩
    go_wp2
    go_ret
    exact ⟨rfl,(Fr.refl _ _).alloc _⟩
   ·have hv:ock 5 k C=(if C.length=0 then 0 else 4):=by unfold ock;simp [h5]
    rw [hv]
    have hc:=cnt_pos k (by omega)
    generalize cnt k=n at *
    have hc':¬ (n:Int)=0:=by omega
    clear hv
    generalize (if C.length=0 then 0 else 4)=x at *
    go_enter Tryz.func90,Tryz.ntmps90
    go_wp2_with fail
    refine (HC.out _ ((Fr.refl _ _).alloc _)).mono ?_
    rintro e w1 ⟨rfl,rfl⟩
    go_wp2_with fail
    refine (HN.out _).mono ?_
    rintro e w1 ⟨rfl,rfl⟩
    go_wp2
    go_ret
    exact ⟨rfl,(Fr.refl _ _).alloc _⟩
theorem rocheck (w:World) (d id k:Nat) (hk:k < 256) (ao:Option Addr) (len cap:Nat) (C:List Cp) (hl:C.length=len) (hs:Cs w ao C) (hCk:∀ q∈C,q.k < 256) (hm:len≤1000000) :
  Calls Tryz.prog 44 #[.agg #[.int .u8 (d:Int),.int .u32 (id:Int),.int .u8 (k:Int),.slice ao len cap]] w fun e w'=>e=.returned (.int .i64 ((ock d k C:Nat):Int))∧Fr Nobody w w':=by
 have HL:Hid (∀ w',Fr Nobody w w'→Calls Tryz.prog 92 #[.slice ao len cap] w' fun e w''=>e=.returned (.int .i64 ((lst (-1) C:Nat):Int))∧Fr Nobody w' w''):=fun w' hf=>rlist_any w' ao len cap C hl (hs.quiet hf) hCk hm
 by_cases hd:d < 1∨5 < d
 ·rw [ock_bad d k C hd]
  by_cases h0:d < 1
  ·have d1:(d:Int) < 1:=by omega
   clear hd
   go_enter Tryz.func44,Tryz.ntmps44
   go_wp2
   go_ret
   exact ⟨rfl,(Fr.refl _ _).alloc _⟩
  ·have d1:¬ (d:Int) < 1:=by omega
   have d5:(5:Int) < (d:Int):=by omega
   clear hd
   go_enter Tryz.func44,Tryz.ntmps44
   go_wp2
   go_ret
   exact ⟨rfl,(Fr.refl _ _).alloc _⟩
 ·have:d=1∨d=2∨d=3∨d=4∨d=5:=by omega
  clear hd
  rcases this with rfl | rfl | rfl | rfl | rfl
  ·have hv:ock 1 k C=lst (-1) C:=rfl
   rw [hv]
   clear hv
   go_enter Tryz.func44,Tryz.ntmps44
   go_wp2_with fail
   refine (HL.out _ ((Fr.refl _ _).alloc _)).mono ?_
   rintro e w1 ⟨rfl,hf⟩
   go_wp2
   go_ret
   exact ⟨rfl,((Fr.refl _ _).alloc _).trans hf⟩
  ·have hv:ock 2 k C=(if C.length=0 then 0 else 4):=by unfold ock;simp
   rw [hv]
   clear hv HL hs hCk
   by_cases h0:len=0
   ·subst h0
    rw [hl,if_pos rfl]
    go_enter Tryz.func44,Tryz.ntmps44
    go_wp2
    go_ret
    exact ⟨rfl,(Fr.refl _ _).alloc _⟩
   ·have h0':¬ (len:Int)=0:=by omega
    rw [hl,if_neg h0]
    go_enter Tryz.func44,Tryz.ntmps44
    go_wp2
    go_ret
    exact ⟨rfl,(Fr.refl _ _).alloc _⟩
  ·have hv:ock 3 k C=(if C.length=1 then (C.headD ⟨0,0,0,0⟩).chk else 4):=rfl
   rw [hv]
   clear hv HL
   by_cases h:len=1
   ·obtain ⟨q,rfl⟩:∃ q,C=[q]:=List.length_eq_one_iff.1 (by omega)
    have hq:=hCk q (by simp)
    obtain ⟨g,o,rfl,_,c0,c1,c2,c3⟩:=hs.at 0 q rfl
    have HC:Hid (∀ w',Calls Tryz.prog 93 #[.agg #[.int .u8 (q.k:Int),.int .i32 q.a,.int .i32 q.b,.int .i32 q.c]] w' fun e w''=>e=.returned (.int .i64 ((q.chk:Nat):Int))∧Fr Nobody w' w''):=fun w'=>rcheck3 w' q.k hq q.a q.b q.c
    have c0:=c0
    simp at c0 c1 c2 c3
    have hg:=World.block_lt_of_cell? w _ c0
    rw [show (if [q].length=1 then ([q].headD ⟨0,0,0,0⟩).chk else 4)=q.chk from rfl]
    subst h
    clear hl hs hCk
    go_enter Tryz.func44,Tryz.ntmps44
    go_wp2_with fail
    refine (HC.out _).mono ?_
    rintro e w1 ⟨rfl,hf⟩
    go_wp2
    go_ret
    exact ⟨rfl,((Fr.refl _ _).alloc _).trans hf⟩
   ·rw [if_neg (by omega)]
    have h':¬ (len:Int)=1:=by omega
    clear hs hCk
    go_enter Tryz.func44,Tryz.ntmps44
    go_wp2
    go_ret
    exact ⟨rfl,(Fr.refl _ _).alloc _⟩
  ·have hv:ock 4 k C=(if C.length=1 then (C.headD ⟨0,0,0,0⟩).chk else 4):=rfl
   rw [hv]
   clear hv HL
   by_cases h:len=1
   ·obtain ⟨q,rfl⟩:∃ q,C=[q]:=List.length_eq_one_iff.1 (by omega)
    have hq:=hCk q (by simp)
    obtain ⟨g,o,rfl,_,c0,c1,c2,c3⟩:=hs.at 0 q rfl
    have HC:Hid (∀ w',Calls Tryz.prog 93 #[.agg #[.int .u8 (q.k:Int),.int .i32 q.a,.int .i32 q.b,.int .i32 q.c]] w' fun e w''=>e=.returned (.int .i64 ((q.chk:Nat):Int))∧Fr Nobody w' w''):=fun w'=>rcheck3 w' q.k hq q.a q.b q.c
    have c0:=c0
    simp at c0 c1 c2 c3
    have hg:=World.block_lt_of_cell? w _ c0
    rw [show (if [q].length=1 then ([q].headD ⟨0,0,0,0⟩).chk else 4)=q.chk from rfl]
    subst h
    clear hl hs hCk
    go_enter Tryz.func44,Tryz.ntmps44
    go_wp2_with fail
    refine (HC.out _).mono ?_
    rintro e w1 ⟨rfl,hf⟩
    go_wp2
    go_ret
    exact ⟨rfl,((Fr.refl _ _).alloc _).trans hf⟩
   ·rw [if_neg (by omega)]
    have h':¬ (len:Int)=1:=by omega
    clear hs hCk
    go_enter Tryz.func44,Tryz.ntmps44
    go_wp2
    go_ret
    exact ⟨rfl,(Fr.refl _ _).alloc _⟩
  ·by_cases h5:5 < k
   ·have hv:ock 5 k C=1:=by unfold ock;simp [h5]
    rw [hv]
    have h5':(5:Int) < (k:Int):=by omega
    clear hv HL
    go_enter Tryz.func44,Tryz.ntmps44
    go_wp2
    go_ret
    exact ⟨rfl,(Fr.refl _ _).alloc _⟩
   ·have h5':¬ (5:Int) < (k:Int):=by omega
    have hv:ock 5 k C=(if C.length=0 then 0 else 4):=by unfold ock;simp [h5]
    rw [hv]
    clear hv HL hs hCk
    by_cases h0:len=0
    ·subst h0
     rw [hl,if_pos rfl]
     go_enter Tryz.func44,Tryz.ntmps44
     go_wp2
     go_ret
     exact ⟨rfl,(Fr.refl _ _).alloc _⟩
    ·have h0':¬ (len:Int)=0:=by omega
     rw [hl,if_neg h0]
     go_enter Tryz.func44,Tryz.ntmps44
     go_wp2
     go_ret
     exact ⟨rfl,(Fr.refl _ _).alloc _⟩
end Go.Proofs.YtogmdoiecpihdaaGreatDoor
