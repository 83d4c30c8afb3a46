/- Take: of the program, where somebody is dead, and of no world; of the document. -/
import Derived.Test.YtogmdoiecpihdaaGreatDoorQs48
import Derived.Test.YtogmdoiecpihdaaGreatDoorQs50
namespace Go.Proofs.YtogmdoiecpihdaaGreatDoor
open Go.RowKit Go.Maps
set_option linter.unusedVariables false
set_option maxHeartbeats 16000000
set_option maxRecDepth 100000
theorem sentNoW (w0 w:World) (l:List Thing) (b:Nat) (σ:Sto) (K:Nat) (h:Own w0 w (Store b σ K::l)) (hσ:σ.Ok) (id:Nat) (hid:id < 4294967296) (hl:σ.S.isLive id=false) :
  Calls Tryz.prog 119 #[.pointer (some ⟨b,0,none⟩),.int .u32 (id:Int)] w fun e w'=>e=.returned (.tuple #[.agg #[.int .u32 0,.slice none 0 0],.int .i64 7])∧Own w0 w' (Store b σ K::l):=by
 obtain ⟨bs,v,p,h⟩:=h.stoX
 have hA:=(h.allocC #[.int .u32 0,.slice none 0 0] 76).two
 have HH:Hid (Calls _ _ _ _ _):=home_dead w0 _ _ b bs v p σ K hA hσ.s id hid hl
 clear h hA hσ hl hid
 go_enter Tryz.func119,Tryz.ntmps119
 go_wp2_with fail
 refine HH.out.mono ?_
 rintro e w1 ⟨rfl,hO⟩
 have hB:=hO.two
 have z0:=hB.cell 0
 have z1:=hB.cell 1
 simp at z0 z1
 have y0:=hB.froz 0
 have y1:=hB.froz 1
 have HF:Hid (Own w0 _ _):=(hB.setC 0 (.int .u32 0)).setC 1 (.slice none 0 0)
 clear hO hB HH
 go_wp2
 (try simp only [Exit.inBlock,Exit.then])
 refine bodyPost_ret (v:=.tuple #[.agg #[.int .u32 0,.slice none 0 0],.int .i64 7]) ?_ rfl ⟨rfl,HF.out.tail.xSto⟩
 rw [results_cell_tmp rfl]
 have r0:=HF.out.cell 0
 have r1:=HF.out.cell 1
 simp at r0 r1
 go_simp
theorem wentNo (w0 w:World) (l:List Thing) (b K n:Nat) (x:Wd) (hσ:x.σ.Ok) (id:Nat) (hid:id < 4294967296) (hl:x.σ.S.isLive id=false) (h:Own w0 w (WdT b x K n::l)) :
  Calls Tryz.prog 63 #[.pointer (some ⟨b,0,none⟩),.int .u32 (id:Int)] w fun e w'=>e=.returned (.tuple #[.agg #[.int .u32 0,.slice none 0 0],.int .i64 7])∧Own w0 w' (WdT b x K n::l):=by
 obtain ⟨bs,bw,mp,pv,h⟩:=h.wdO
 have hA:=h.allocC #[.int .u32 0,.slice none 0 0] 76
 have HS:Hid (Calls _ _ _ _ _):=wstored w0 _ _ b bs _ hA.three (by simp [wcs])
 have HE:Hid (Calls _ _ _ _ _):=sentNoW w0 _ _ bs x.σ K hA.two hσ id hid hl
 have HCL:Hid (∀ W,Own w0 W (Store bs x.σ K::Cells b (wcs x.T bs bw mp pv) 102::SMapO mp n x.S::Buf bw x.E::View 4 pv x.P.length (cat PlE.cs x.P)::l)→Own w0 W (WdT b x K n::l)):=fun W hW=>Own.wdS hW
 clear h hσ hl hid hA
 go_enter Tryz.func63,Tryz.ntmps63
 go_wp2_with fail
 refine HS.out.mono ?_
 rintro e w1 ⟨rfl,rfl⟩
 go_wp2_with fail
 refine HE.out.mono ?_
 rintro e w2 ⟨rfl,hO⟩
 have hB:=hO.two
 generalize w.heap.size=B at *
 have z0:=hB.cell 0
 have z1:=hB.cell 1
 simp at z0 z1
 have y0:=hB.froz 0
 have y1:=hB.froz 1
 have HF:Hid (Own w0 _ _):=(hB.setC 0 (.int .u32 0)).setC 1 (.slice none 0 0)
 clear hO hB HS HE
 go_wp2
 (try simp only [Exit.inBlock,Exit.then])
 refine bodyPost_ret (v:=.tuple #[.agg #[.int .u32 0,.slice none 0 0],.int .i64 7]) ?_ rfl ⟨rfl,HCL.out _ HF.out.tail⟩
 rw [results_cell_tmp rfl]
 have r0:=HF.out.cell 0
 have r1:=HF.out.cell 1
 simp at r0 r1
 go_simp
theorem take_dead (w0 w:World) (ht:Tab w0) (l:List Thing) (b K n:Nat) (x:Wd) (hσ:x.σ.Ok) (hK:K≤1000000) (ia:Option Addr) (ic:Nat) (ids:List Nat) (hN:∀ w',Own w0 w' l→Nums .u32 w' (.slice ia ids.length ic) ids) (hX:ids.length≤1000000) (hr:risB ids=true) (hl:∀ id∈ids,id < 4294967296) (d z:Nat) (hd:ids[d]? = some z) (hz:x.σ.S.isLive z=false) (hpre:∀ i id,i < d→ids[i]? = some id→x.σ.S.isLive id=true) (h:Own w0 w (WdT b x K n::l)) :
  Calls Tryz.prog 24 #[.pointer (some ⟨b,0,none⟩),.slice ia ids.length ic] w fun e w'=>e=.returned (.tuple #[.slice none 0 0,.int .i64 7])∧Own w0 w' (WdT b x K n::l):=by
 obtain ⟨i0,hi,hz0,hz1,hz2⟩:=info3w Tryz.infoEnt
 have HR:Hid (Calls _ _ _ _ _):=rising_any w _ ids (hN w h.tail) hX
 rw [hr] at HR
 obtain ⟨m,hm⟩:∃ m,m=ids.length:=⟨_,rfl⟩
 have HM:Hid (m=ids.length):=hm
 have HN:Hid (∀ w',Own w0 w' l→Nums .u32 w' (.slice ia ids.length ic) ids):=hN
 have HL:Hid (∀ id∈ids,id < 4294967296):=hl
 have HPRE:Hid (∀ i id,i < d→ids[i]? = some id→x.σ.S.isLive id=true):=hpre
 have HD:Hid (ids[d]? = some z):=hd
 have HZ:Hid (x.σ.S.isLive z=false):=hz
 have hdm:d < ids.length:=(List.getElem?_eq_some_iff.1 hd).1
 have HT:Hid (Tab w0):=ht
 have HOK:Hid (x.σ.Ok):=hσ
 have H:Hid (Own w0 w _):=h
 rw [← hm] at HR hX hdm ⊢
 clear h hN hl hr ht hσ hm hpre hd hz
 go_enter Tryz.func24,Tryz.ntmps24
 go_wp2_with fail
 refine HR.out.mono ?_
 rintro e w1 ⟨rfl,hf⟩
 have H1:Hid (Own w0 w1 (WdT b x K n::l)):=H.out.quiet hf
 clear hf HR H
 go_wp2
 go_loopw [6,16] (fun v6 v16 wr=>∃ (j:Nat) (M:List EnE) (ao:Option Addr) (cap:Nat),j≤d∧v16=.int .i64 (j:Int)∧v6=.slice ao j cap∧M.length=j∧evs M=tks x.σ (ids.take j)∧Own w0 wr (Row 76 2 (.slice ao j cap) j (cat EnE.cs M)::(M.map erow++(WdT b x K n::l)))) (fun _ v16 _=>m - (intOf v16).toNat)
 case atStart=>exact ⟨0,[],none,0,Nat.zero_le _,rfl,rfl,rfl,rfl,H1.out.nilRow _ _⟩
 case round =>
  obtain ⟨j,M,ao,cap,hj,rfl,rfl,hMl,hMv,hO⟩:=hrel
  have HMM:Hid (M.length=j∧evs M=tks x.σ (ids.take j)):=⟨hMl,hMv⟩
  clear H1 hMl hMv
  by_cases hlt:j < d
  ·have hlt':(j:Int) < (m:Int):=by omega
   obtain ⟨id,hid⟩:∃ id,ids[j]? = some id:=⟨_,List.getElem?_eq_getElem (by rw [← HM.out];omega)⟩
   have hlv:=HPRE.out j id hlt hid
   have h32:=HL.out id (List.mem_of_getElem? hid)
   obtain ⟨g,o,hia,hc0⟩:∃ g o,ia=some ⟨g,o,none⟩∧wr.cell? ⟨g,o+j,none⟩=some (.int .u32 (id:Int)):=by
    obtain ⟨a2,c2,e2,h2⟩:=HN.out wr (hO.tail.dropA).tail
    simp only [Value.slice.injEq] at e2
    rcases h2 with h2 | ⟨g,o,ha,hc⟩
    ·rw [h2] at hid;simp at hid
    ·exact ⟨g,o,by rw [e2.1,ha],hc j id hid⟩
   have h2:=Own.lift (l:=Row 76 2 (.slice ao j cap) j (cat EnE.cs M)::M.map erow) hO
   have HEN:Hid (Calls _ _ _ _ _):=wentT w0 wr _ b K n x HOK.out id h32 hlv hK h2
   have HMV:Hid (∀ a c,evs (M++[EnE.mk id a c (toldL (x.σ.cps id))])=tks x.σ (ids.take (j+1))):=fun a c=>by
    rw [tks_take hid,← HMM.out.2];simp [evs]
   obtain ⟨hck,hcl⟩:=Sto.cps_in HOK.out hlv
   have HCK:Hid (∀ q∈x.σ.cps id,q.k < 256):=hck
   generalize hCe:x.σ.cps id=C at *
   generalize hcl2:C.length=cl at *
   have HCL:Hid (C.length=cl):=hcl2
   have htl:=toldL_le C
   rw [hcl2] at htl
   generalize htl2:(toldL C).length=tl at *
   have HTL:Hid ((toldL C).length=tl):=htl2
   subst hia
   clear hO h2 hlv hid hck hCe hcl2 htl2
   go_wp2_with fail
   refine HEN.out.mono ?_
   rintro e w2 ⟨a2,c2,rfl,h3⟩
   have hB:=h3.allocC #[.int .u32 (id:Int),.slice a2 cl c2] 76
   have HTD:Hid (Calls _ _ _ _ _):=toldE_any w0 _ HT.out _ hB id a2 cl c2 C HCL.out (fun w' hw=>Own.rcs hw.tail HCL.out) HCK.out (by omega)
   simp only [HTL.out] at HTD
   clear h3 hB HEN hc0
   go_wp2_with fail
   refine HTD.out.mono ?_
   rintro e w3 ⟨a3,c3,rfl,h4⟩
   have H4:Hid (Own w0 w3 _):=Own.k4 h4
   clear h4 HTD
   go_wp2_with (at_builtin;refine append1_own rfl _ _ 62 rfl 76 i0 (.agg #[.int .u32 0,.slice none 0 0]) 2 32 Tryz.underlying62 hi hz0 hz1 hz2 rfl (by decide) _ _ _ rfl H4.out _ #[.int .u32 (id:Int),.slice a3 tl c3] (by simp) rfl rfl (by intro u hu;simp at hu;rcases hu with rfl | rfl <;> rfl) (by unfold maxLen;omega) (by omega) ?_)
   intro g6 c6 w6 hO6 hsz6
   have H7:Hid (Own w0 w6 (Row 76 2 (.slice (some ⟨g6,0,none⟩) (j+1) c6) (j+1) (cat EnE.cs (M++[EnE.mk id a3 c3 (toldL C)]))::((M++[EnE.mk id a3 c3 (toldL C)]).map erow++(WdT b x K n::l)))):=by
    have e1:cat EnE.cs (M++[EnE.mk id a3 c3 (toldL C)])=cat EnE.cs M++[.int .u32 (id:Int),.slice a3 tl c3]:=by
     rw [cat_append]
     congr 1
     simp [cat,EnE.cs,HTL.out]
    have e2:(M++[EnE.mk id a3 c3 (toldL C)]).map erow++(WdT b x K n::l)=M.map erow++([Row 46 4 (.slice a3 tl c3) tl (ccat (toldL C)),WdT b x K n]++l):=by
     simp [erow,HTL.out]
    show Own _ _ _
    rw [e1,e2]
    have h8:=hO6.three.tail.three.tail
    exact h8.perm (List.Perm.cons _ (List.perm_append_comm_assoc [Row 46 4 (.slice a3 tl c3) tl (ccat (toldL C)),WdT b x K n] (M.map erow) l))
   clear hO6 hsz6 H4
   go_wp2
   go_roundw
   case rel=>exact ⟨j+1,M++[EnE.mk id a3 c3 (toldL C)],_,_,by omega,by go_num,rfl,by rw [List.length_append,HMM.out.1];rfl,HMV.out a3 c3,H7.out⟩
   case measure=>simp [intOf];omega
  ·have hjd:j=d:=by omega
   subst hjd
   have hlt':(j:Int) < (m:Int):=by omega
   have hid:=HD.out
   have h32:=HL.out z (List.mem_of_getElem? hid)
   obtain ⟨g,o,hia,hc0⟩:∃ g o,ia=some ⟨g,o,none⟩∧wr.cell? ⟨g,o+j,none⟩=some (.int .u32 (z:Int)):=by
    obtain ⟨a2,c2,e2,h2⟩:=HN.out wr (hO.tail.dropA).tail
    simp only [Value.slice.injEq] at e2
    rcases h2 with h2 | ⟨g,o,ha,hc⟩
    ·rw [h2] at hid;simp at hid
    ·exact ⟨g,o,by rw [e2.1,ha],hc j z hid⟩
   have h2:=Own.lift (l:=Row 76 2 (.slice ao j cap) j (cat EnE.cs M)::M.map erow) hO
   have HEN:Hid (Calls _ _ _ _ _):=wentNo w0 wr _ b K n x HOK.out z h32 HZ.out h2
   subst hia
   clear hO h2 hid
   go_wp2_with fail
   refine HEN.out.mono ?_
   rintro e w2 ⟨rfl,h3⟩
   have H3:Hid (Own w0 w2 (WdT b x K n::l)):=by
    have h4:Own w0 w2 ((WdT b x K n::Row 76 2 (.slice ao j cap) j (cat EnE.cs M)::M.map erow)++l):=h3
    have h5:Own w0 w2 (WdT b x K n::((Row 76 2 (.slice ao j cap) j (cat EnE.cs M)::M.map erow)++l)):=h3
    exact Own.drops (M:=Row 76 2 (.slice ao j cap) j (cat EnE.cs M)::M.map erow) (Own.sink (P:=WdT b x K n) (l:=Row 76 2 (.slice ao j cap) j (cat EnE.cs M)::M.map erow) (m:=l) h5)
   clear h3 HEN hc0
   go_wp2
   go_ret2
   exact ⟨rfl,H3.out.alloc _⟩
def tcode (σ:Sto) (ids:List Nat):Nat:=if risB ids=false then 4 else if ids.all (fun id=>decide (id∈σ.S.list))=false then 7 else 0
def tval (σ:Sto) (ids:List Nat):List En:=if tcode σ ids=0 then tks σ ids else []
theorem ris_yes {L:List Nat} {j:Nat} (h:risB (L.take j)=true) (hj:L.length≤j):risB L=true:=by rw [← h,List.take_of_length_le hj]
theorem ris_one (L:List Nat):risB (L.take 1)=true:=by
 cases L with
 | nil=>rfl
 | cons a t=>rfl
theorem rtake15 (w0 w:World) (l:List Thing) (b K0:Nat) (y:RWd) (hσ:y.σ.Ok) (hK:K0≤1000000) (ia:Option Addr) (ic:Nat) (ids:List Nat) (hN:∀ w',Own w0 w' l→Nums .u32 w' (.slice ia ids.length ic) ids) (hX:ids.length≤100000) (h:Own w0 w (RWdT b y K0::l)) :
  Calls Tryz.prog 25 #[.pointer (some ⟨b,0,none⟩),.slice ia ids.length ic] w fun e w'=>∃ (ao:Option Addr) (cap:Nat) (M:List EnE),e=.returned (.tuple #[.slice ao M.length cap,.int .i64 ((tcode y.σ ids:Nat):Int)])∧evs M=tval y.σ ids∧Own w0 w' (EntsT ao cap M::RWdT b y K0::l):=by
 obtain ⟨i0,hi,hz0,hz1,hz2⟩:=info3w Tryz.infoEnt
 obtain ⟨m,hm⟩:∃ m,ids.length=m:=⟨_,rfl⟩
 have HM:Hid (ids.length=m):=hm
 have HN:Hid (∀ w',Own w0 w' l→Nums .u32 w' (.slice ia m ic) ids):=by
  show ∀ w',_
  rw [← hm];exact hN
 have HCE:Hid (∀ W W',Own w0 W l→Fr Nobody W W'→∀ (i z:Nat),ids[i]? = some z→∃ g o,ia=some ⟨g,o,none⟩∧W'.cell? ⟨g,o+i,none⟩=some (.int .u32 (z:Int))):=fun W W' hW hf i z hz=>by
  obtain ⟨a2,c2,e2,h2⟩:=(HN.out W hW).quiet hf
  simp only [Value.slice.injEq] at e2
  rcases h2 with h2 | ⟨g,o,ha,hc⟩
  ·rw [h2] at hz;simp at hz
  ·exact ⟨g,o,by rw [e2.1,ha],hc i z hz⟩
 have HOK:Hid (y.σ.Ok):=hσ
 have HNM:Hid (∀ W,Own w0 W (RWdT b y K0::l)→∀ code,tcode y.σ ids=code→code≠0→∃ (ao:Option Addr) (cap:Nat) (M:List EnE),Ending.returned (.tuple #[.slice none 0 0,.int .i64 (code:Int)])=.returned (.tuple #[.slice ao M.length cap,.int .i64 ((tcode y.σ ids:Nat):Int)])∧evs M=tval y.σ ids∧Own w0 W (EntsT ao cap M::RWdT b y K0::l)):=fun W hW code hc hne=>by
  refine ⟨none,0,[],by rw [hc];rfl,?_,Own.ents (hW.nilRow _ _)⟩
  unfold tval
  rw [hc,if_neg hne];rfl
 have HRL:Hid (∀ W,Own w0 W (RWdT b y K0::l)→_):=fun W hW=>rlist15 w0 W l b K0 y hW hσ hK
 have H:Hid (Own w0 w _):=h
 rw [hm] at hX ⊢
 clear h hN hσ hm
 go_enter Tryz.func25,Tryz.ntmps25
 go_wp2
 refine wp_loop (fun a' wr=>∃ (i:Nat),a'={ tmps:=#[.pointer (some ⟨b,0,none⟩),.slice ia m ic,gf a' 2,gf a' 3,gf a' 4,gf a' 5,gf a' 6,gf a' 7,gf a' 8,gf a' 9,gf a' 10,gf a' 11,gf a' 12,.int .i64 (m:Int),.int .i64 (i:Int),gf a' 15,gf a' 16,gf a' 17,gf a' 18,gf a' 19,gf a' 20,gf a' 21,gf a' 22,gf a' 23,gf a' 24,gf a' 25,gf a' 26,gf a' 27,gf a' 28,gf a' 29,gf a' 30,gf a' 31,gf a' 32,gf a' 33,gf a' 34,gf a' 35,gf a' 36,gf a' 37,gf a' 38,gf a' 39,gf a' 40,gf a' 41,gf a' 42,gf a' 43,gf a' 44,gf a' 45,gf a' 46,gf a' 47,gf a' 48,gf a' 49,gf a' 50,gf a' 51,gf a' 52,gf a' 53,gf a' 54,gf a' 55,gf a' 56,gf a' 57],defers:=[] }∧i≤m∧risB (ids.take i)=true∧Own w0 wr (RWdT b y K0::l)) (fun a' _=>m - (intOf (a'.tmps.getD 14 undef)).toNat) ?_ ?_
 ·exact ⟨0,rfl,Nat.zero_le _,rfl,H.out⟩
 ·intro a' wr hI
  obtain ⟨i,hact,hi',hr,hO⟩:=hI
  obtain ⟨u,hu⟩:∃ u:Nat→Value,∀ k,gf a' k=u k:=⟨_,fun _=>rfl⟩
  simp only [hu] at hact
  clear hu
  subst hact
  have HR:Hid (risB (ids.take i)=true):=hr
  have HO:Hid (Own w0 wr (RWdT b y K0::l)):=hO
  clear H hr hO
  by_cases hlt:i < m
  ·have hlt':(i:Int) < (m:Int):=by omega
   rcases Nat.eq_zero_or_pos i with h0 | h0
   ·subst h0
    go_wp2
    refine wp_region_fr (by kernel_rfl) (by kernel_rfl) ?_
    repeat (with_reducible refine wpQuiet_step (fun K hK=>?_)
            go_simp
            first
             | (refine hK _ ?_;clear hK K))
    refine wpQuiet_nil ?_
    rintro w' ⟨f,rfl⟩
    have HO2:Hid (Own w0 f.val _):=HO.out.quiet f.fr
    clear HO
    go_wp2
    exact ⟨⟨1,rfl,by omega,ris_one ids,HO2.out⟩,by simp [intOf];omega⟩
   ·have h0':(0:Int) < (i:Int):=by omega
    obtain ⟨z,hz⟩:∃ z,ids[i]? = some z:=⟨_,List.getElem?_eq_getElem (by rw [HM.out];exact hlt)⟩
    obtain ⟨p,hp⟩:∃ p,i=p+1:=⟨i - 1,by omega⟩
    obtain ⟨v,hv⟩:∃ v,ids[p]? = some v:=⟨_,List.getElem?_eq_getElem (by rw [HM.out];omega)⟩
    obtain ⟨g,o,hia,_⟩:=HCE.out wr wr HO.out.tail (Fr.refl _ _) i z hz
    have c0:∀ f:FrOf wr,f.val.cell? ⟨g,o+i,none⟩=some (.int .u32 (z:Int)):=fun f=>by
     obtain ⟨g2,o2,h2,h3⟩:=HCE.out wr f.val HO.out.tail f.fr i z hz
     rw [hia] at h2;cases h2;exact h3
    have c1:∀ f:FrOf wr,f.val.cell? ⟨g,o+p,none⟩=some (.int .u32 (v:Int)):=fun f=>by
     obtain ⟨g2,o2,h2,h3⟩:=HCE.out wr f.val HO.out.tail f.fr p v hv
     rw [hia] at h2;cases h2;exact h3
    have hk1:(i:Int) - 1=(p:Int):=by omega
    have hk3:IntKind.i64.wrap (p:Int)=(p:Int):=by rw [IntKind.wrap_i64];omega
    have hpm:(p:Int) < (m:Int):=by omega
    have hrt:risB (ids.take (i+1))=decide (v < z):=by
     have h2:=HR.out
     rw [hp] at h2 hz ⊢
     exact ris_take hv hz h2
    subst hia
    by_cases hvz:v < z
    ·have hvz':¬ (z:Int)≤(v:Int):=by omega
     have HR2:Hid (risB (ids.take (i+1))=true):=by show _=_;rw [hrt];simp [hvz]
     clear hrt hz hv hp hvz
     go_wp2
     refine wp_region_fr (by kernel_rfl) (by kernel_rfl) ?_
     repeat (with_reducible refine wpQuiet_step (fun K hK=>?_)
             go_simp
             first
              | (refine hK _ ?_;clear hK K))
     refine wpQuiet_nil ?_
     rintro w' ⟨f,rfl⟩
     have HO2:Hid (Own w0 f.val _):=HO.out.quiet f.fr
     clear HO c0 c1
     go_wp2
     exact ⟨⟨i+1,rfl,by omega,HR2.out,HO2.out⟩,by simp [intOf];omega⟩
    ·have hvz':(z:Int)≤(v:Int):=by omega
     have HTC:Hid (tcode y.σ ids=4):=by
      show _=_
      unfold tcode
      rw [if_pos]
      refine ris_no (j:=i+1) ?_
      rw [hrt];simp [hvz]
     clear hrt hz hv hp hvz
     go_wp2
     refine wp_region_fr (by kernel_rfl) (by kernel_rfl) ?_
     repeat (with_reducible refine wpQuiet_step (fun K hK=>?_)
             go_simp
             first
              | (refine hK _ ?_;clear hK K))
     refine wpQuiet_nil ?_
     rintro w' ⟨f,rfl⟩
     have HO2:Hid (Own w0 f.val _):=HO.out.quiet f.fr
     clear HO c0 c1
     go_wp2
     go_ret2
     exact HNM.out _ HO2.out 4 HTC.out (by decide)
  ·have hlt':¬ (i:Int) < (m:Int):=by omega
   have HRY:Hid (risB ids=true):=ris_yes HR.out (by rw [HM.out];omega)
   have HC:Hid (Calls _ _ _ _ _):=HRL.out wr HO.out
   clear HO HRL
   go_wp2_with fail
   refine HC.out.mono ?_
   rintro e w2 ⟨la,lc,bs,wv,mv,pv,xs,rfl,hxs,hO⟩
   have HX:Hid (RXok y.σ xs K0):=hxs
   have H2:Hid (Own w0 w2 (RLT la lc b y bs wv mv pv xs::l)):=hO.rlS
   obtain ⟨ln,hln⟩:∃ ln,y.σ.S.list.length=ln:=⟨_,rfl⟩
   have HLN:Hid (y.σ.S.list.length=ln):=hln
   have hln2:ln≤1024:=by rw [← hln];exact list_lenW HOK.out.s
   have HSE:Hid (∀ W l',Own w0 W (RLT la lc b y bs wv mv pv xs::l')→EntsAt W la (seeL y.σ xs)):=fun W l' hW=>hW.rlO.see HX.out HOK.out
   have HCL:Hid (∀ W l',Own w0 W (RLT la lc b y bs wv mv pv xs::l')→Own w0 W (RWdT b y K0::l')):=fun W l' hW=>Own.rwC (xs:=xs) hW.rlO HX.out
   rw [hln]
   clear hO HC hxs hln
   generalize RLT la lc b y bs wv mv pv xs=RLX at *
   go_wp2
   refine wp_loop (fun a' wr=>∃ (j cap:Nat) (ao:Option Addr) (M:List EnE),a'={ tmps:=#[gf a' 0,gf a' 1,gf a' 2,gf a' 3,gf a' 4,gf a' 5,gf a' 6,.slice la ln lc,.slice ao j cap,gf a' 9,gf a' 10,gf a' 11,gf a' 12,gf a' 13,gf a' 14,gf a' 15,gf a' 16,gf a' 17,gf a' 18,gf a' 19,gf a' 20,gf a' 21,gf a' 22,gf a' 23,gf a' 24,gf a' 25,gf a' 26,gf a' 27,gf a' 28,gf a' 29,gf a' 30,gf a' 31,gf a' 32,gf a' 33,.slice ia m ic,.int .i64 (m:Int),.int .i64 (j:Int),gf a' 37,gf a' 38,gf a' 39,gf a' 40,gf a' 41,gf a' 42,gf a' 43,gf a' 44,gf a' 45,gf a' 46,gf a' 47,gf a' 48,gf a' 49,gf a' 50,gf a' 51,gf a' 52,gf a' 53,gf a' 54,gf a' 55,gf a' 56,gf a' 57],defers:=[] }∧j≤m∧M.length=j∧(∀ id∈ids.take j,id∈y.σ.S.list)∧evs M=tks y.σ (ids.take j)∧Own w0 wr (Row 76 2 (.slice ao j cap) j (cat EnE.cs M)::(M.map erow++(RLX::l)))) (fun a' _=>m - (intOf (a'.tmps.getD 36 undef)).toNat) ?_ ?_
   ·exact ⟨0,0,none,[],rfl,Nat.zero_le _,rfl,(fun _ h=>by simp at h),rfl,H2.out.nilRow _ _⟩
   ·intro a' wr hI
    obtain ⟨j,cap,ao,M,hact,hj,hMl,hin,hMv,hO⟩:=hI
    obtain ⟨u2,hu⟩:∃ u2:Nat→Value,∀ k,gf a' k=u2 k:=⟨_,fun _=>rfl⟩
    simp only [hu] at hact
    clear hu
    subst hact
    have HMM:Hid (M.length=j∧(∀ id∈ids.take j,id∈y.σ.S.list)∧evs M=tks y.σ (ids.take j)):=⟨hMl,hin,hMv⟩
    have hO2:=Own.lift (l:=Row 76 2 (.slice ao j cap) j (cat EnE.cs M)::M.map erow) hO
    clear H2 hMl hin hMv
    by_cases hjm:j < m
    ·have hjm':(j:Int) < (m:Int):=by omega
     obtain ⟨z,hz⟩:∃ z,ids[j]? = some z:=⟨_,List.getElem?_eq_getElem (by rw [HM.out];exact hjm)⟩
     obtain ⟨g,o,hia,c0⟩:=HCE.out wr wr (Own.drops (M:=Row 76 2 (.slice ao j cap) j (cat EnE.cs M)::M.map erow) hO2.tail) (Fr.refl _ _) j z hz
     subst hia
     have HFI:Hid (Calls _ _ _ _ _):=rfindE_any wr la ln lc (seeL y.σ xs) (HSE.out wr _ hO2) (by rw [seeL_len,HLN.out]) (by omega) z
     have HO:Hid (Own w0 wr _):=hO
     clear hO hO2
     go_wp2_with fail
     refine HFI.out.mono ?_
     rintro e w4 ⟨r,rfl,hfr,hf⟩
     have HO4:Hid (Own w0 w4 _):=HO.out.quiet hf
     clear HO HFI hf c0
     rcases hfr with ⟨rfl,hno⟩ | ⟨q,x,rfl,hx,hxz,_⟩
     ·have HTC:Hid (tcode y.σ ids=7):=by
       show _=_
       unfold tcode
       rw [if_neg (by rw [HRY.out];decide),if_pos]
       cases hall:ids.all (fun id=>decide (id∈y.σ.S.list)) with
       | false=>rfl
       | true =>
        exfalso
        have h1:=List.all_eq_true.1 hall z (List.mem_of_getElem? hz)
        have h2:z∈y.σ.S.list:=of_decide_eq_true h1
        obtain ⟨k,hk⟩:=List.getElem?_of_mem h2
        obtain ⟨x,hx,hxi,_⟩:=seeL_at HX.out HOK.out hk
        exact hno x (List.mem_of_getElem? hx) hxi
      have H5:Hid (Own w0 w4 (RWdT b y K0::l)):=by
       have h1:=Own.lift (l:=Row 76 2 (.slice ao j cap) j (cat EnE.cs M)::M.map erow) HO4.out
       have h2:=HCL.out w4 _ h1
       exact Own.drops (M:=Row 76 2 (.slice ao j cap) j (cat EnE.cs M)::M.map erow) (Own.sink (P:=RWdT b y K0) (l:=Row 76 2 (.slice ao j cap) j (cat EnE.cs M)::M.map erow) (m:=l) h2)
      clear hno hz HO4
      go_wp2
      go_ret2
      exact HNM.out _ H5.out 7 HTC.out (by decide)
     ·obtain ⟨hxin,hxC⟩:=seeL_in HX.out HOK.out (List.mem_of_getElem? hx)
      rw [hxz] at hxin hxC
      obtain ⟨hck,hcl⟩:=Sto.cps_in HOK.out (St.list_w HOK.out.s hxin).1
      have hq1:q < ln:=by have:=(List.getElem?_eq_some_iff.1 hx).1;rw [seeL_len,HLN.out] at this;exact this
      have hq1':(q:Int) < (ln:Int):=by omega
      have hq0:(0:Int)≤(q:Int):=by omega
      have h4:=Own.lift (l:=Row 76 2 (.slice ao j cap) j (cat EnE.cs M)::M.map erow) HO4.out
      obtain ⟨ga,oa,hla,d0,d1,hcs⟩:=(HSE.out w4 _ h4).at hx
      subst hla
      have HCSW:Hid (∀ W,Own w0 W (Row 76 2 (.slice ao j cap) j (cat EnE.cs M)::(M.map erow++(RLX::l)))→Cs W x.ao x.C):=fun W hW=>(HSE.out W _ (Own.lift (l:=Row 76 2 (.slice ao j cap) j (cat EnE.cs M)::M.map erow) hW)).2 x (List.mem_of_getElem? hx)
      have HTD:Hid (Calls _ _ _ _ _):=rtold_l w0 w4 _ HO4.out x.ao x.C.length x.cap x.C rfl (fun w' hw=>HCSW.out w' hw) (by rw [hxC];exact hck) (by rw [hxC];omega)
      have HIN:Hid (∀ id∈ids.take (j+1),id∈y.σ.S.list):=by
       intro id hid
       rw [List.take_add_one,hz] at hid
       rcases List.mem_append.1 hid with h | h
       ·exact HMM.out.2.1 id h
       ·simp at h;subst h;exact hxin
      have HEV:Hid (∀ a c,evs (M++[⟨z,a,c,toldL x.C⟩])=tks y.σ (ids.take (j+1))):=fun a c=>by
       rw [tks_take hz,← HMM.out.2.2,hxC]
       simp [evs]
      have htl:=toldL_le x.C
      rw [hxC] at htl
      have htl2:(toldL x.C).length≤6:=by rw [hxC];omega
      clear hx hxz hxin hxC hck hcl h4 hcs hz htl
      obtain ⟨xi,xa,xc,C⟩:=x
      simp only at d0 d1 HTD HEV htl2
      generalize hcl:C.length=cl at *
      generalize htl:(toldL C).length=tl at *
      have HTL:Hid ((toldL C).length=tl):=htl
      clear hcl htl
      go_wp2_with fail
      refine HTD.out.mono ?_
      rintro e w5 ⟨a3,c3,rfl,h5⟩
      have H5:Hid (Own w0 w5 (Row 76 2 (.slice ao j cap) j (cat EnE.cs M)::Row 46 4 (.slice a3 tl c3) tl (ccat (toldL C))::(M.map erow++(RLX::l)))):=h5.two
      clear h5 HTD HO4 d0 d1
      go_wp2_with (at_builtin;refine append1_own rfl _ _ 62 rfl 76 i0 (.agg #[.int .u32 0,.slice none 0 0]) 2 32 Tryz.underlying62 hi hz0 hz1 hz2 rfl (by decide) _ _ _ rfl H5.out _ #[.int .u32 (z:Int),.slice a3 tl c3] (by simp) rfl rfl (by intro u hu;simp at hu;rcases hu with rfl | rfl <;> rfl) (by unfold maxLen;omega) (by omega) ?_)
      intro g6 c6 w6 hO6 hsz6
      have H7:Hid (Own w0 w6 (Row 76 2 (.slice (some ⟨g6,0,none⟩) (j+1) c6) (j+1) (cat EnE.cs (M++[EnE.mk z a3 c3 (toldL C)]))::((M++[EnE.mk z a3 c3 (toldL C)]).map erow++(RLX::l)))):=by
       have e1:cat EnE.cs (M++[EnE.mk z a3 c3 (toldL C)])=cat EnE.cs M++[.int .u32 (z:Int),.slice a3 tl c3]:=by
        rw [cat_append]
        congr 1
        simp [cat,EnE.cs,HTL.out]
       have e2:(M++[EnE.mk z a3 c3 (toldL C)]).map erow++(RLX::l)=M.map erow++(Row 46 4 (.slice a3 tl c3) tl (ccat (toldL C))::(RLX::l)):=by
        simp [erow,HTL.out]
       show Own _ _ _
       rw [e1,e2]
       exact hO6.perm (List.Perm.cons _ List.perm_middle.symm)
      clear hO6 hsz6 H5
      go_wp2
      exact ⟨⟨j+1,c6,some ⟨g6,0,none⟩,M++[EnE.mk z a3 c3 (toldL C)],rfl,by omega,by rw [List.length_append,HMM.out.1];rfl,HIN.out,HEV.out a3 c3,H7.out⟩,by simp [intOf];omega⟩
    ·have hjm':¬ (j:Int) < (m:Int):=by omega
     have htk:ids.take j=ids:=List.take_of_length_le (by rw [HM.out];omega)
     have HTC:Hid (tcode y.σ ids=0):=by
      show _=_
      unfold tcode
      rw [if_neg (by rw [HRY.out];decide),if_neg]
      have h2:=HMM.out.2.1
      rw [htk] at h2
      rw [Bool.not_eq_false]
      exact List.all_eq_true.2 (fun id hid=>decide_eq_true (h2 id hid))
     have HEV:Hid (evs M=tval y.σ ids):=by
      show _=_
      unfold tval
      rw [HTC.out,if_pos rfl,HMM.out.2.2,htk]
     have hml:=HMM.out.1
     have H9:Hid (Own w0 wr (EntsT ao cap M::RWdT b y K0::l)):=by
      rw [← hml] at hO
      exact (HCL.out wr _ (Own.ents hO).two).two
     have HML:Hid (M.length=j):=hml
     clear hO hO2 htk hml
     go_wp2
     go_ret2
     refine ⟨ao,cap,M,?_,HEV.out,H9.out⟩
     rw [HTC.out,HML.out]
     rfl
end Go.Proofs.YtogmdoiecpihdaaGreatDoor
