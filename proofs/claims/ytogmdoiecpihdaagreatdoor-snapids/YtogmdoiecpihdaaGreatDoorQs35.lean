/- The document's store: Remove, List, New. -/
import Derived.Test.YtogmdoiecpihdaaGreatDoorQs34
import Derived.Test.YtogmdoiecpihdaaGreatDoorQs26
import Derived.Test.YtogmdoiecpihdaaGreatDoorQs01
import Derived.Deep.RegionHeld3
namespace Go.Proofs.YtogmdoiecpihdaaGreatDoor
open Go.RowKit Go.Maps
set_option linter.unusedVariables false
set_option maxHeartbeats 8000000
set_option maxRecDepth 100000
section
variable (w0 w:World) (l:List Thing) (b:Nat) (σ:Sto) (K:Nat)
theorem rremoveS (h:Own w0 w (RSto b σ K::l)) (hσ:σ.Ok) (id:Nat) (hid:id < 4294967296) (k:Nat) (hk:k < 256) (hK:K < 1000000) :
  Calls Tryz.prog 166 #[.pointer (some ⟨b,0,none⟩),.int .u32 (id:Int),.int .u8 (k:Int)] w fun e w'=>e=.returned (.int .i64 (σ.remove id k).1)∧Own w0 w' (RSto b (σ.remove id k).2 (K+1)::l):=by
 cases hl:σ.S.isLive id with
 | false =>
  have HV:Hid (σ.remove id k=(7,σ)):=by show _=_;unfold Sto.remove;rw [if_pos hl]
  obtain ⟨x,hx,h'⟩:=RSto.opn h
  have HX:Hid (RXok σ x K):=hx
  have HE:Hid (Calls _ _ _ _ _):=rentNo w0 w l b σ x K h' hx hσ (by omega) id hl
  clear h h' hx hσ hl
  go_enter Tryz.func166,Tryz.ntmps166
  go_wp2_with fail
  refine HE.out.mono ?_
  rintro e w1 ⟨rfl,hO⟩
  have H1:Hid (Own w0 w1 _):=hO
  clear hO HE
  go_wp2
  go_ret
  rw [HV.out]
  exact ⟨rfl,(RSto.mk HX.out (H1.out.alloc _)).rstoK (Nat.le_succ K)⟩
 | true =>
  obtain ⟨r,C,hr,he,hlC,_,h6⟩:=hσ.ent hl
  have hcps:=Sto.cps_of hr he
  have hC6:C.length≤6:=(hσ.t _ h6).c6 he
  have hCk:∀ q∈C,q.k < 256:=fun q hq=>by have:=chk_k ((lst_ok hlC).2 q hq).2;omega
  obtain ⟨y,hy,h'⟩:=RSto.opn h
  obtain ⟨r',d,hr',hd,hdi,he'⟩:=hy.row hσ hl
  have hrr:r'=r:=Option.some.inj (hr'.symm.trans hr)
  subst hrr
  have hCC:d.2.1=C:=by rw [he] at he';exact (Prod.mk.inj (Option.some.inj he')).2.symm
  have HE:Hid (Calls _ _ _ _ _):=rent w0 w l b σ y K h' hy hσ (by omega) id hl r' hr d hd
  have HCY:Hid (∀ w3 l3,Own w0 w3 (RSX b σ.S y::l3)→Cs w3 d.2.2.1 C):=fun w3 l3 h3=>by
   obtain ⟨_,_,_,_,_,_,hc⟩:=RSX.ent w0 w3 l3 b σ y h3 _ r' h6 d hd
   rw [hCC] at hc
   exact hc
  rw [hdi,hCC] at HE
  have HY:Hid (RXok σ y K):=hy
  generalize d.2.2.1=ae at *
  generalize d.2.2.2=ce at *
  have hol:=outk_ok hlC k
  have hoL:(outk C k).length≤6:=Nat.le_trans (List.length_filter_le _ _) hC6
  have HTU:Hid (∀ w' l' ao cap,Own w0 w' (RSto b σ K::Row 46 4 (.slice ao (outk C k).length cap) (outk C k).length (ccat (outk C k))::l')→Calls Tryz.prog 212 #[.pointer (some ⟨b,0,none⟩),.int .u32 (id:Int),.slice ao (outk C k).length cap] w' fun e w''=>e=.returned (.tuple #[])∧Own w0 w'' (RSto b (σ.turn id (outk C k)) (K+1)::Row 46 4 (.slice ao (outk C k).length cap) (outk C k).length (ccat (outk C k))::l')):=fun w' l' ao cap h'=>rturn w0 w' _ b σ K h' hσ id hid hl ao _ cap (outk C k) rfl (fun w'' h''=>Own.rcs h'' rfl) hol (by omega) hK
  have HWO:Hid (∀ w' l',Own w0 w' l'→(∀ w3,Own w0 w3 l'→Cs w3 ae C)→Calls Tryz.prog 214 #[.slice ae C.length ce,.int .u8 (k:Int)] w' fun e w''=>∃ ao cap,e=.returned (.slice ao (outk C k).length cap)∧Own w0 w'' (Row 46 4 (.slice ao (outk C k).length cap) (outk C k).length (ccat (outk C k))::l')):=fun w' l' h' hc=>rwithout_any w0 w' l' h' ae C.length ce C rfl hc hCk (by omega) k hk
  have HVN:Hid (hasK C k=false→σ.remove id k=(10,σ)):=fun hh=>by unfold Sto.remove;rw [if_neg (by simp [hl]),hcps,if_pos hh]
  have HVY:Hid (hasK C k=true→σ.remove id k=(0,σ.turn id (outk C k))):=fun hh=>by unfold Sto.remove;rw [if_neg (by simp [hl]),hcps,if_neg (by simp [hh])]
  clear h h' hy hσ hl hr hr' he he' hlC h6 hcps hd hdi hCC hol
  generalize outk C k=I at *
  generalize I.length=il at *
  generalize hcl:C.length=cl at *
  go_enter Tryz.func166,Tryz.ntmps166
  go_wp2_with fail
  refine HE.out.mono ?_
  rintro e w2 ⟨rfl,hO2⟩
  have hO3:=hO2.allocC #[.int .u32 (id:Int),.slice ae cl ce] 76
  have e1:=hO3.cell 1
  simp at e1
  have HFN:Hid (Calls _ _ _ _ _):=find_any _ ae cl ce C hcl (HCY.out _ _ hO3.two) hCk (by omega) k hk
  have H3:Hid (Own w0 _ _):=hO3
  clear hO2 hO3 HE
  go_wp2_with fail
  refine HFN.out.mono ?_
  rintro e w4 ⟨r2,rfl,hf2,hcase⟩
  have hO4:=H3.out.quiet hf2
  have e1:=hO4.cell 1
  simp at e1
  have HWO4:Hid (Calls _ _ _ _ _):=HWO.out w4 _ hO4 (fun w3 h3=>HCY.out _ _ h3.two)
  have H4:Hid (Own w0 w4 _):=hO4
  clear hf2 HFN H3 hO4
  rcases hcase with ⟨rfl,hno⟩ | ⟨i,rfl,q,hq,hqk,hyes⟩
  ·have HV:Hid (σ.remove id k=(10,σ)):=HVN.out hno
   clear hno
   go_wp2
   go_ret
   rw [HV.out]
   exact ⟨rfl,(RSto.mk HY.out H4.out.tail).rstoK (Nat.le_succ K)⟩
  ·have HV:Hid (σ.remove id k=(0,σ.turn id I)):=HVY.out hyes
   have hi0:¬ (i:Int) < 0:=by omega
   clear hq hqk hyes
   go_wp2_with fail
   refine HWO4.out.mono ?_
   rintro e w5 ⟨a5,c5,rfl,hO5⟩
   have H5:Hid (Own w0 w5 (RSto b σ K::Row 46 4 (.slice a5 il c5) il (ccat I)::Cells w2.heap.size #[.int .u32 (id:Int),.slice ae cl ce] 76::l)):=RSto.mk HY.out hO5.three
   clear hO5 HWO4 e1 H4
   go_wp2_with fail
   refine (HTU.out _ _ _ _ H5.out).mono ?_
   rintro e w6 ⟨rfl,hO6⟩
   have H6:Hid (Own w0 w6 _):=hO6
   clear hO6
   go_wp2
   go_ret
   rw [HV.out]
   exact ⟨rfl,H6.out.two.tail.two.tail⟩
def RX.at (x:RX) (σ:Sto) (id:Nat):REnt:=((plc (σ.T (σ.hom id)) id).bind fun r=>(x.E (σ.hom id))[r]?).getD (0,[],none,0)
theorem RXok.at {σ:Sto} {x:RX} {K:Nat} (hx:RXok σ x K) (hσ:σ.Ok) {id:Nat} (hl:σ.S.isLive id=true):(x.at σ id).e=(id,σ.cps id)∧(x.at σ id).1=id∧(x.at σ id).2.1=σ.cps id∧∃ r,plc (σ.T (σ.hom id)) id=some r∧(x.E (σ.hom id))[r]? = some (x.at σ id):=by
 obtain ⟨r,d,hr,hd,hdi,he⟩:=hx.row hσ hl
 have e:x.at σ id=d:=by unfold RX.at;rw [hr];simp [hd]
 rw [e,Sto.cps_of hr he]
 obtain ⟨d1,d2,d3,d4⟩:=d
 simp only at hdi
 subst hdi
 exact ⟨rfl,rfl,rfl,r,hr,hd⟩
theorem RXok.atCs {σ:Sto} {x:RX} {K:Nat} (hx:RXok σ x K) (hσ:σ.Ok) {id:Nat} (hl:σ.S.isLive id=true) {w0 w3:World} {l3:List Thing} {b:Nat} (h3:Own w0 w3 (RSX b σ.S x::l3)):Cs w3 (x.at σ id).2.2.1 (σ.cps id):=by
 obtain ⟨_,_,h2,r,_,hd⟩:=hx.at hσ hl
 obtain ⟨_,_,_,_,_,_,hc⟩:=RSX.ent w0 w3 l3 b σ x h3 _ r (hσ.home hl).1 _ hd
 rw [h2] at hc
 exact hc
theorem list_len {S:St} (hS:S.Ok):S.list.length≤1024:=by
 rw [← rl_all hS]
 have:=rl_le S S.n
 have:=hS.n2
 omega
theorem rlistS (x:RX) (h:Own w0 w (RSX b σ.S x::l)) (hx:RXok σ x K) (hσ:σ.Ok) (hK:K≤1000000) (hLV:∀ id∈σ.S.list,σ.S.isLive id=true) :
  Calls Tryz.prog 52 #[.pointer (some ⟨b,0,none⟩)] w fun e w'=>∃ ao cap,e=.returned (.slice ao σ.S.list.length cap)∧Own w0 w' (Row 76 2 (.slice ao σ.S.list.length cap) σ.S.list.length (cat rcells (σ.S.list.map (x.at σ)))::RSX b σ.S x::l):=by
 obtain ⟨i0,hi,hz0,hz1,hz2⟩:=info_parts Tryz.infoEnt
 have q0:=RSX.ids w0 w l b σ x h
 have HL:Hid (Calls Tryz.prog 107 #[.pointer (some ⟨x.bs,0,none⟩)] w fun e w'=>∃ a c,e=.returned (.tuple #[.slice a σ.S.list.length c,.int .i64 (rr σ.S σ.S.n:Int)])∧Own w0 w' (Row 38 1 (.slice a σ.S.list.length c) σ.S.list.length (irow .u32 σ.S.list)::RSX b σ.S x::l)):=by
  refine (rlist_ok w0 w _ x.bs σ.S x.f x.ck (RSX.iff.1 h).two hσ.s).mono ?_
  rintro e w' ⟨v,rfl,h2⟩
  obtain ⟨a,c,rfl⟩:=row_any h2.row
  exact ⟨a,c,rfl,(RSX.iff.2 h2.in23.back4).two⟩
 have hn:=list_len hσ.s
 have HEN:Hid (∀ w' l' (j id:Nat),Own w0 w' (RSX b σ.S x::l')→σ.S.list[j]? = some id→Calls Tryz.prog 108 #[.pointer (some ⟨b,0,none⟩),.int .u32 (id:Int)] w' fun e w''=>e=.returned (.tuple #[.agg #[.int .u32 ((x.at σ id).1:Int),.slice (x.at σ id).2.2.1 (x.at σ id).2.1.length (x.at σ id).2.2.2],.int .i64 0])∧Own w0 w'' (RSX b σ.S x::l')):=by
  intro w' l' j id h' hj
  have hl:=hLV id (List.mem_of_getElem? hj)
  obtain ⟨_,_,_,r,hr,hd⟩:=hx.at hσ hl
  exact rent w0 w' l' b σ x K h' hx hσ hK id hl r hr _ hd
 clear h hx hσ hLV
 generalize rr σ.S σ.S.n=rk at *
 obtain ⟨IL,hIL⟩:∃ I,I=σ.S.list:=⟨_,rfl⟩
 simp only [← hIL] at HL HEN hn ⊢
 generalize hln:IL.length=n at *
 have HN:Hid (IL.length=n):=hln
 clear hln hIL
 go_enter Tryz.func52,Tryz.ntmps52
 go_wp2_with fail
 refine HL.out.mono ?_
 rintro e w1 ⟨ia,ic,rfl,hO⟩
 have H1:Hid (Own w0 w1 _):=hO
 clear hO HL q0
 go_wp2
 go_loopw [3,22] (fun v3 v22 wr=>∃ j:Nat,j≤n∧v22=.int .i64 j∧∃ a1 c1,v3=.slice a1 j c1∧Own w0 wr (Row 76 2 (.slice a1 j c1) j (cat rcells ((IL.map (x.at σ)).take j))::Row 38 1 (.slice ia n ic) n (irow .u32 IL)::RSX b σ.S x::l)) (fun _ v22 _=>n - (intOf v22).toNat)
 case atStart=>exact ⟨0,Nat.zero_le _,rfl,none,0,rfl,by simpa [cat] using H1.out.nilRow 76 2⟩
 case round =>
  obtain ⟨j,hj,rfl,a1,c1,rfl,hO⟩:=hrel
  have HO:Hid (Own w0 wr _):=hO
  clear H1
  by_cases hlt:j < n
  ·have hlt':(j:Int) < (n:Int):=by omega
   obtain ⟨id,hid⟩:∃ id,IL[j]? = some id:=⟨_,List.getElem?_eq_getElem (by rw [HN.out];exact hlt)⟩
   obtain ⟨g,cp,hv,_⟩:=row_shape hO.two.row (by omega)
   have hia:=(Value.slice.inj hv).1
   subst hia
   have c0:wr.cell? ⟨g,j,none⟩=some (.int .u32 (id:Int)):=by
    rw [hO.two.row.cellAt _ (by omega),getElem?_irow,hid];rfl
   have HTK:Hid ((IL.map (x.at σ)).take (j+1)=(IL.map (x.at σ)).take j++[x.at σ id]):=take_snoc _ j _ (by rw [List.getElem?_map,hid];rfl)
   have HE:Hid (Calls _ _ _ _ _):=HEN.out wr _ j id hO.three hid
   clear hO hv hid HO
   generalize x.at σ id=d at *
   obtain ⟨d1,d2,d3,d4⟩:=d
   simp only at HE
   generalize hdl:d2.length=dl at *
   have HDL:Hid (d2.length=dl):=hdl
   clear hdl
   go_wp2_with fail
   refine HE.out.mono ?_
   rintro e w2 ⟨rfl,hO2⟩
   have hB:=hO2.back3.allocC #[.int .u32 (d1:Int),.slice d3 dl d4] 76
   have e0:=hB.cell 0
   have e1:=hB.cell 1
   simp at e0 e1
   have HB:Hid (Own w0 _ _):=hB
   clear hB hO2 HE c0
   go_wp2_with (at_builtin;refine append1_own rfl _ _ 62 rfl 76 i0 (.agg #[.int .u32 0,.slice none 0 0]) 2 32 Tryz.underlying62 hi hz0 hz1 hz2 rfl (by decide) _ _ _ rfl HB.out.two _ #[.int .u32 (d1:Int),.slice d3 dl d4] (by simp) rfl rfl (by intro u hu;simp at hu;rcases hu with rfl | rfl <;> rfl) (by unfold maxLen;omega) (by omega) ?_)
   intro g4 c4 w4 hO4 hsz
   have H4:Hid (Own w0 w4 (Row 76 2 (.slice (some ⟨g4,0,none⟩) (j+1) c4) (j+1) (cat rcells ((IL.map (x.at σ)).take (j+1)))::Row 38 1 (.slice (some ⟨g,0,none⟩) n ic) n (irow .u32 IL)::RSX b σ.S x::l)):=by
    show Own _ _ _
    rw [HTK.out,cat_append]
    have e2:cat rcells [(d1,d2,d3,d4)]=[.int .u32 (d1:Int),.slice d3 dl d4]:=by
     show [Value.int .u32 (d1:Int),Value.slice d3 d2.length d4]=_
     rw [HDL.out]
    rw [e2];exact hO4.two.tail
   clear hO4 hsz HB e0 e1
   go_wp2
   go_roundw
   case rel=>exact ⟨j+1,by omega,by go_num,_,_,rfl,H4.out⟩
   case measure=>simp [intOf];omega
  ·have hjn:j=n:=by omega
   subst hjn
   have hlt':¬ (j:Int) < (j:Int):=by omega
   clear hO
   go_wp2
   go_ret
   refine ⟨a1,c1,rfl,?_⟩
   have h5:=HO.out
   rw [List.take_of_length_le (by rw [List.length_map,HN.out];exact Nat.le_refl _)] at h5
   exact h5.two.tail
theorem Own.rtabsNew (h:Own w0 w l):Own w0 w (RTabsOn (List.range 64) (fun _=>.slice none 0 0) (fun _=>[])::l):=by
 refine Own.ex_iff.2 ⟨(),?_⟩
 suffices H:∀ is:List Nat,Own w0 w (is.map (fun m=>RTE ((fun _=>.slice none 0 0:Nat→Value) m) ((fun _=>[]:Nat→List REnt) m))++l) from H _
 intro is
 induction is with
 | nil=>exact h
 | cons a is ih=>exact RTE.iff.2 (by simpa [cat] using ih.nilRow 76 2)
def jpair (j k:Nat):Value:=if k % 2=0 then .int .u8 (if k / 2 < j then ((k / 2:Nat):Int) else 0) else .slice none 0 0
def jcells (bs j:Nat):Array Value:=(Value.pointer (some ⟨bs,0,none⟩)::(List.range 128).map (jpair j)).toArray
set_option maxRecDepth 100000 in
theorem jcells_zero (bs:Nat):Tryz.zeroCells186.setIfInBounds 0 (.pointer (some ⟨bs,0,none⟩))=jcells bs 0:=by kernel_rfl
theorem jcells_end (bs:Nat):jcells bs 64=rscells bs (fun _=>.slice none 0 0):=by
 unfold jcells rscells
 have:(List.range 128).map (jpair 64)=(List.range 128).map (rpair (fun _=>.slice none 0 0)):=by
  refine List.map_congr_left (fun k hk=>?_)
  have hk':k < 128:=by simpa using hk
  unfold jpair rpair
  by_cases e:k % 2=0
  ·rw [if_pos e,if_pos e,if_pos (by omega)]
  ·rw [if_neg e,if_neg e]
 rw [this]
theorem jcells_set (bs j:Nat) (hj:j < 64):(jcells bs j).setIfInBounds (1+j*2) (.int .u8 (j:Int))=jcells bs (j+1):=by
 rw [show 1+j*2=j*2+1 by omega]
 unfold jcells
 rw [List.setIfInBounds_toArray,List.set_cons_succ]
 have:((List.range 128).map (jpair j)).set (j*2) (.int .u8 (j:Int))=(List.range 128).map (jpair (j+1)):=by
  apply List.ext_getElem?
  intro i
  rw [List.getElem?_set]
  simp only [List.length_map,List.length_range,List.getElem?_map]
  by_cases c:j*2=i
  ·subst c
   rw [if_pos rfl,if_pos (by omega),List.getElem?_range (by omega)]
   show _=some (jpair _ _)
   unfold jpair
   rw [if_pos (by omega),if_pos (by omega),show j*2 / 2=j by omega]
  ·rw [if_neg c]
   by_cases d:i < 128
   ·rw [List.getElem?_range d]
    show some (jpair _ _)=some (jpair _ _)
    unfold jpair
    by_cases e:i % 2=0
    ·rw [if_pos e,if_pos e]
     by_cases g:i / 2 < j
     ·rw [if_pos g,if_pos (by omega)]
     ·rw [if_neg g,if_neg (by omega)]
    ·rw [if_neg e,if_neg e]
   ·rw [List.getElem?_eq_none (by simp;omega)];rfl
 rw [this]
theorem rnewS (h:Own w0 w l) (n f:Nat) (h1:1≤n) (h2:n≤1024) (h3:1≤f) (h4:f≤4194303) :
  Calls Tryz.prog 41 #[.int .i64 (n:Int),.int .i64 (f:Int)] w fun e w'=>∃ b,e=.returned (.tuple #[.pointer (some ⟨b,0,none⟩),.int .i64 0])∧Own w0 w' (RSto b (Sto.new n f) 0::l):=by
 have HN:Hid (Calls _ _ _ _ _):=rnew_ok w0 w l n f h h1 h2 h3 (by omega)
 have HST:Hid (Stamp (St.new n f) (fun _=>0) 0):=Stamp.new n f h1
 clear h
 go_enter Tryz.func41,Tryz.ntmps41
 go_wp2_with fail
 refine HN.out.mono ?_
 rintro e w1 ⟨bs,rfl,hO⟩
 have k:=hO.allocC (jcells bs 0) 186
 rw [← jcells_zero] at k
 have HK:Hid (Own w0 _ _):=k
 clear hO k HN
 go_wp2
 go_loopw [22] (fun cv wr=>∃ j:Nat,j≤64∧cv=.int .i64 j∧Own w0 wr (Cells w1.heap.size (jcells bs j) 186::RSlots bs (St.new n f) (fun _=>0) 0::l)) (fun cv _=>64 - (intOf cv).toNat)
 case atStart=>exact ⟨0,Nat.zero_le _,rfl,by rw [← jcells_zero];exact HK.out⟩
 case round =>
  obtain ⟨j,hj,rfl,hO⟩:=hrel
  have HO:Hid (Own w0 wr _):=hO
  clear HK
  by_cases hlt:j < 64
  ·have hlt':(j:Int) < 64:=by omega
   have y0:=hO.froz (1+j*2)
   have z0:=hO.cell (1+j*2)
   have hz:∃ u,(jcells bs j)[1+j*2]? = some (.int .u8 u):=by
    rw [show 1+j*2=j*2+1 by omega]
    refine ⟨0,?_⟩
    simp only [jcells,List.getElem?_toArray,List.getElem?_cons_succ,List.getElem?_map]
    rw [List.getElem?_range (by omega)]
    show some (jpair _ _)=_
    unfold jpair
    rw [if_pos (by omega),if_neg (by omega)]
   obtain ⟨u,hu⟩:=hz
   rw [hu] at z0
   have HS:Hid (Own w0 (wr.setCell ⟨w1.heap.size,1+j*2,none⟩ (.int .u8 (j:Int))) (Cells w1.heap.size (jcells bs (j+1)) 186::RSlots bs (St.new n f) (fun _=>0) 0::l)):=by
    have:=hO.setC (1+j*2) (.int .u8 (j:Int))
    rw [jcells_set bs j hlt] at this
    exact this
   clear hO hu
   go_wp2
   go_roundw
   case rel=>exact ⟨j+1,by omega,by go_num,HS.out⟩
   case measure=>simp [intOf];omega
  ·have hj6:j=64:=by omega
   subst hj6
   clear hO
   go_wp2
   go_ret2
   have h5:=HO.out
   rw [jcells_end] at h5
   refine ⟨_,rfl,RSto.mk (σ:=Sto.new n f) (x:=⟨bs,fun _=>.slice none 0 0,fun _=>0,0,fun _=>[]⟩) ⟨HST.out,Nat.le_refl _,fun m hm=>rfl,fun m hm=>Nat.le_refl _⟩ (RSX.iff.2 ?_)⟩
   exact (Own.rtabsNew w0 _ _ h5).back3
end
end Go.Proofs.YtogmdoiecpihdaaGreatDoor
namespace Go.Proofs.YtogmdoiecpihdaaGreatDoor
open Go.RowKit
set_option linter.unusedVariables false
set_option maxHeartbeats 8000000
set_option maxRecDepth 100000
theorem Own.dropA {w0 w:World} {A l:List Thing} (h:Own w0 w (A++l)):Own w0 w l:=by
 induction A with
 | nil=>exact h
 | cons a t ih=>exact ih h.tail
theorem rtwins_any (w0 w:World) (l:List Thing) (h:Own w0 w l) (ae:Option Addr) (n ce:Nat) (L:List EnE) (hQ:∀ w',Own w0 w' l→EntsAt w' ae L) (hn:L.length=n) (hz:esz L≤1000000) :
  Calls Tryz.prog 110 #[.slice ae n ce] w fun e w'=>∃ (ao:Option Addr) (cap:Nat),e=.returned (.slice ao n cap)∧∃ M:List EnE,M.length=n∧evs M=evs L∧Own w0 w' (EntsT ao cap M::l):=by
 obtain ⟨i0,hi,hz0,hz1,hz2⟩:=info3w Tryz.infoEnt
 obtain ⟨i1,hi1,hy0,hy1,hy2⟩:=info_parts Tryz.infoComp
 have HN:Hid (L.length=n):=hn
 have HQ:Hid (∀ w',Own w0 w' l→EntsAt w' ae L):=hQ
 have HC:Hid (∀ x∈L,x.C.length≤1000000):=fun x hx=>by have:=csz_mem hx;unfold esz at hz;omega
 have hl:n≤1000000:=by unfold esz at hz;omega
 have H:Hid (Own w0 w l):=h
 clear h hn hQ hz
 go_enter Tryz.func110,Tryz.ntmps110
 go_wp2
 go_loopw [3,8] (fun vo vi wr=>∃ (j:Nat) (M:List EnE) (ao:Option Addr) (cap:Nat),j≤n∧vi=.int .i64 (j:Int)∧vo=.slice ao j cap∧M.length=j∧evs M=evs (L.take j)∧Own w0 wr (Row 76 2 (.slice ao j cap) j (cat EnE.cs M)::(M.map erow++l))) (fun _ vi _=>n - (intOf vi).toNat)
 case atStart=>exact ⟨0,[],none,0,Nat.zero_le _,rfl,rfl,rfl,rfl,H.out.nilRow _ _⟩
 case round =>
  obtain ⟨j,M,ao,cap,hj,rfl,rfl,hMl,hM,hO⟩:=hrel
  have HM:Hid (M.length=j∧evs M=evs (L.take j)):=⟨hMl,hM⟩
  clear H hMl hM
  by_cases hlt:j < n
  ·have hlt':(j:Int) < (n:Int):=by omega
   obtain ⟨x,hx⟩:∃ x,L[j]? = some x:=⟨_,List.getElem?_eq_getElem (by rw [HN.out];exact hlt)⟩
   obtain ⟨g,o,hg,c0,c1,hcs⟩:=(HQ.out wr hO.tail.dropA).at hx
   have hcl:=HC.out x (List.mem_of_getElem? hx)
   have hB:=hO.allocC #[.int .u32 (x.id:Int),.slice x.ao x.C.length x.cap] 76
   have HTW:Hid (Calls _ _ _ _ _):=twin_any w0 _ _ hB.drew x.ao x.C.length x.cap x.C rfl (hcs.quiet ((Fr.refl _ _).alloc _).drew) hcl
   have HM2:Hid (∀ a c,evs (M++[EnE.mk x.id a c x.C])=evs (L.take (j+1))):=by
    intro a c
    have e:=HM.out.2
    unfold evs at e ⊢
    rw [List.map_append,e,List.take_add_one,hx]
    simp
   subst hg
   obtain ⟨xi,xa,xc,C⟩:=x
   simp only at c0 c1 HTW HM2
   have HB:Hid (Own w0 _ _):=hB
   generalize hcl2:C.length=cl at *
   have HCL:Hid (C.length=cl):=hcl2
   clear hO hB hx hcs hcl2
   go_wp2
   generalize hWg:wr.alloc (.cells #[.int .u32 (xi:Int),.slice xa cl xc] 76)=W1 at *
   generalize wr.heap.size=b5 at *
   clear hWg c0 c1
   have p0:=HB.out.cell 0
   have p1:=HB.out.cell 1
   simp at p0 p1
   go_region_held3 (fun w'=>w'.cell? ⟨b5,0,none⟩=some (.int .u32 (xi:Int))∧w'.cell? ⟨b5,1,none⟩=some (.slice xa cl xc)) (go_keep)
    (first
      | (go_at_call 42;refine HTW.out.mono ?_;rintro e w5 ⟨a5,c5,rfl,h5⟩
         have u0:=h5.two.cell 0
         have u1:=h5.two.cell 1
         simp at u0 u1
         have h5b:=h5.three.alloc (.cells #[.int .u32 (xi:Int),.slice a5 cl c5] 76)
         have h5c:=(h5.litRow #[.int .u32 (xi:Int),.slice a5 cl c5] 76 2 1 (by decide) rfl).row
         have v0:=h5b.three.cell 0
         have v1:=h5b.three.cell 1
         simp at v0 v1
         have H5:Hid (Own w0 _ _):=h5b
         have H5C:Hid (World.ownsRow _ _ _ _ _ _ _):=h5c
         clear h5 h5b h5c)
      | (refine step_allW rfl _ _ 62 rfl 76 i0 (.agg #[.int .u32 0,.slice none 0 0]) 2 32 Tryz.underlying62 hi hz0 hz1 hz2 rfl (by decide) _ _ _ rfl _ _ _ _ rfl H5.out H5C.out (by intro u hu;simp at hu;rcases hu with rfl | rfl <;> rfl) (by unfold maxLen;omega) (by omega) ?_
         intro g6 c6 w6 hO6
         have t0:=hO6.three.cell 0
         have t1:=hO6.three.cell 1
         simp at t0 t1
         have H6:Hid (Own w0 w6 _):=hO6
         clear hO6))
   have H7:Hid (Own w0 w6 (Row 76 2 (.slice g6 (j+1) c6) (j+1) (cat EnE.cs (M++[EnE.mk xi a5 c5 C]))::((M++[EnE.mk xi a5 c5 C]).map erow++l))):=by
    have e1:cat EnE.cs (M++[EnE.mk xi a5 c5 C])=cat EnE.cs M++[.int .u32 (xi:Int),.slice a5 cl c5]:=by
     rw [cat_append]
     congr 1
     simp [cat,EnE.cs,HCL.out]
    have e2:(M++[EnE.mk xi a5 c5 C]).map erow++l=M.map erow++(Row 46 4 (.slice a5 cl c5) cl (ccat C)::l):=by
     simp [erow,HCL.out]
    show Own _ _ _
    rw [e1,e2]
    have h8:=H6.out.three.tail
    exact h8.perm (List.Perm.cons _ List.perm_middle.symm)
   clear H6 H5 H5C HTW HB u0 u1 v0 v1 t0 t1 p0 p1
   go_wp2
   go_roundw
   case rel=>exact ⟨j+1,M++[EnE.mk xi a5 c5 C],g6,c6,by omega,by go_num,rfl,by rw [List.length_append,HM.out.1];rfl,HM2.out a5 c5,H7.out⟩
   case measure=>simp [intOf];omega
  ·have hlt':¬ (j:Int) < (n:Int):=by omega
   have hjn:j=n:=by omega
   subst hjn
   have HF:Hid (evs M=evs L):=by
    have:=HM.out.2
    rw [List.take_of_length_le (by rw [HN.out];exact Nat.le_refl _)] at this
    exact this
   have HE:Hid (Own w0 wr (EntsT ao cap M::l)):=by
    have h1:=hO
    rw [← HM.out.1] at h1
    exact Own.ents h1
   clear hO
   go_wp2
   go_ret
   exact ⟨ao,cap,rfl,M,HM.out.1,HF.out,HE.out⟩
def pkAt:List Thing→Nat→Option Thing
 | [],_=>none
 | a::_,0=>some a
 | _::l,n+1=>pkAt l n
def pks (L:List Thing):List Nat→List Thing
 | []=>[]
 | i::is=>match pkAt L i with
  | some a=>a::pks L is
  | none=>pks L is
def tkT:Nat→List Thing→List Thing
 | 0,_=>[]
 | _,[]=>[]
 | n+1,a::l=>a::tkT n l
def dpT:Nat→List Thing→List Thing
 | 0,l=>l
 | _,[]=>[]
 | n+1,_::l=>dpT n l
theorem tkdp:∀ (n:Nat) (l:List Thing),tkT n l++dpT n l=l
 | 0,l=>rfl
 | n+1,[]=>rfl
 | n+1,a::l=>by show a::(tkT n l++dpT n l)=_;rw [tkdp n l]
theorem pkAt_get:∀ (L:List Thing) (i:Nat),pkAt L i=L[i]?
 | [],i=>by simp [pkAt]
 | a::l,0=>by simp [pkAt]
 | a::l,n+1=>by simp [pkAt,pkAt_get l n]
theorem pks_map (L:List Thing):∀ is:List Nat,pks L is=is.filterMap (fun i=>L[i]?)
 | []=>rfl
 | i::is=>by
  rw [pks,pkAt_get,List.filterMap_cons,pks_map L is]
  cases L[i]? <;> rfl
theorem range_get (L:List Thing):(List.range L.length).filterMap (fun i=>L[i]?)=L:=by
 apply List.ext_getElem?
 intro i
 induction L generalizing i with
 | nil=>simp
 | cons a l ih =>
  rw [List.length_cons,List.range_succ_eq_map,List.filterMap_cons]
  simp only [List.getElem?_cons_zero]
  cases i with
  | zero=>rfl
  | succ i =>
   rw [List.getElem?_cons_succ,List.getElem?_cons_succ,List.filterMap_map]
   have e:((fun i=>(a::l)[i]?) ∘ Nat.succ)=fun i=>l[i]?:=by funext j;simp
   rw [e]
   exact ih i
theorem Own.dropL {w0 w:World} {A B:List Thing} (h:Own w0 w (A++B)):Own w0 w A:=by
 have h2:Own w0 w (B++A):=h.perm List.perm_append_comm
 clear h
 induction B with
 | nil=>exact h2
 | cons b B ih=>exact ih h2.tail
theorem Own.sel {w0 w:World} {L:List Thing} (h:Own w0 w L) (k:Nat) (is:List Nat) (hn:is.Nodup):Own w0 w (pks (tkT k L) is++dpT k L):=by
 rw [← tkdp k L] at h
 generalize dpT k L=D at *
 generalize tkT k L=X at *
 clear L
 rw [pks_map]
 have hp:(is.filterMap (fun i=>X[i]?)++((List.range X.length).filter (fun i=>decide (i ∉ is))).filterMap (fun i=>X[i]?)).Perm X:=by
  have e1:is.filterMap (fun i=>X[i]?)=(is.filter (fun i=>decide (i < X.length))).filterMap (fun i=>X[i]?):=by
   rw [List.filterMap_filter]
   congr 1
   funext i
   by_cases c:i < X.length
   ·simp [c]
   ·simp [c]
  rw [e1,← List.filterMap_append]
  have hq:(is.filter (fun i=>decide (i < X.length))++(List.range X.length).filter (fun i=>decide (i ∉ is))).Perm (List.range X.length):=by
   refine (List.perm_ext_iff_of_nodup ?_ List.nodup_range).2 (fun a=>?_)
   ·rw [List.nodup_append]
    refine ⟨hn.filter _,List.nodup_range.filter _,?_⟩
    rintro a ha b hb rfl
    have h1:=(List.mem_filter.1 ha).1
    have h2:=(List.mem_filter.1 hb).2
    simp at h2
    exact h2 h1
   ·rw [List.mem_append,List.mem_filter,List.mem_filter,List.mem_range]
    by_cases c:a∈is
    ·simp [c]
    ·simp [c]
  have:=hq.filterMap (fun i=>X[i]?)
  rw [range_get] at this
  exact this
 have h2:Own w0 w ((is.filterMap (fun i=>X[i]?)++D)++((List.range X.length).filter (fun i=>decide (i ∉ is))).filterMap (fun i=>X[i]?)):=by
  refine h.perm ((List.Perm.append_right D hp.symm).trans ?_)
  rw [List.append_assoc,List.append_assoc]
  exact List.Perm.append_left _ List.perm_append_comm
 exact h2.dropL
example (w0 w:World) (A B C D:Thing) (l:List Thing) (h:Own w0 w (A::B::C::D::l)):Own w0 w (D::A::C::l):=h.sel 4 [3,0,2] (by decide)
end Go.Proofs.YtogmdoiecpihdaaGreatDoor
namespace Go.Proofs.YtogmdoiecpihdaaGreatDoor
open Go.RowKit Go.Maps
set_option linter.unusedVariables false
set_option maxHeartbeats 8000000
set_option maxRecDepth 100000
theorem one_flat3 (n:Nat) (S:St) (f:Nat→Nat):∀ u∈flat 3 n (one S f),u.oneCell'=true:=by
 intro u hu
 unfold flat at hu
 obtain ⟨k,_,rfl⟩:=List.mem_map.1 hu
 unfold one
 split
 ·rfl
 ·split <;> rfl
theorem rtwin7 (w0 w:World) (l:List Thing) (bs:Nat) (S:St) (f:Nat→Nat) (ck:Nat) (h:Own w0 w (RSlots bs S f ck::l)) (hn:S.n≤1024) (hn1:0 < S.n) :
  Calls Tryz.prog 109 #[.pointer (some ⟨bs,0,none⟩)] w fun e w'=>∃ b,e=.returned (.pointer (some ⟨b,0,none⟩))∧Own w0 w' (RSlots b S f ck::RSlots bs S f ck::l):=by
 obtain ⟨i0,hi,hz0,hz1,hz2⟩:=info_parts Tryz.infoOne
 obtain ⟨⟨g,cp⟩,h⟩:=Own.ex_iff.1 h
 have hO:Own w0 w (Cells bs #[.int .i64 (S.first:Int),.slice (some ⟨g,0,none⟩) S.n cp,.int .i64 (ck:Int)] 239::Row 255 3 (.slice (some ⟨g,0,none⟩) S.n cp) S.n (flat 3 S.n (one S f))::l):=h
 have q0:=hO.cell 0
 have q1:=hO.cell 1
 have q2:=hO.cell 2
 simp at q0 q1 q2
 have hL:=(hO.drew.litRow #[] 255 3 0 (by decide) rfl)
 have HL:Hid (Own w0 _ _):=hL
 have HR:Hid (World.ownsRow _ _ _ _ _ _ _):=hL.three.row
 have p0:=hL.two.cell 0
 have p1:=hL.two.cell 1
 have p2:=hL.two.cell 2
 simp at p0 p1 p2
 have H1:Hid (∀ u∈flat 3 S.n (one S f),u.oneCell'=true):=one_flat3 _ _ _
 have HS:Hid (∀ W a c b,Own w0 W (Cells b #[.int .i64 (S.first:Int),.slice a S.n c,.int .i64 (ck:Int)] 239::Row 255 3 (.slice a S.n c) S.n (flat 3 S.n (one S f))::Cells bs #[.int .i64 (S.first:Int),.slice (some ⟨g,0,none⟩) S.n cp,.int .i64 (ck:Int)] 239::Row 255 3 (.slice (some ⟨g,0,none⟩) S.n cp) S.n (flat 3 S.n (one S f))::l)→0 < S.n→Own w0 W (RSlots b S f ck::RSlots bs S f ck::l)):=by
  intro W a c b hW h0
  obtain ⟨g2,c2,hv,_⟩:=row_shape hW.two.row h0
  obtain ⟨rfl,_,rfl⟩:=Value.slice.inj hv
  have h3:Own w0 W (Cells bs #[.int .i64 (S.first:Int),.slice (some ⟨g,0,none⟩) S.n cp,.int .i64 (ck:Int)] 239::Row 255 3 (.slice (some ⟨g,0,none⟩) S.n cp) S.n (flat 3 S.n (one S f))::(Cells b #[.int .i64 (S.first:Int),.slice (some ⟨g2,0,none⟩) S.n c,.int .i64 (ck:Int)] 239::Row 255 3 (.slice (some ⟨g2,0,none⟩) S.n c) S.n (flat 3 S.n (one S f))::l)):=hW.sel 4 [2,3,0,1] (by decide)
  have h4:Own w0 W (RSlots bs S f ck::Cells b #[.int .i64 (S.first:Int),.slice (some ⟨g2,0,none⟩) S.n c,.int .i64 (ck:Int)] 239::Row 255 3 (.slice (some ⟨g2,0,none⟩) S.n c) S.n (flat 3 S.n (one S f))::l):=Own.ex_iff.2 ⟨(g,cp),h3⟩
  have h5:Own w0 W ([Cells b #[.int .i64 (S.first:Int),.slice (some ⟨g2,0,none⟩) S.n c,.int .i64 (ck:Int)] 239,Row 255 3 (.slice (some ⟨g2,0,none⟩) S.n c) S.n (flat 3 S.n (one S f))]++RSlots bs S f ck::l):=h4.sel 3 [1,2,0] (by decide)
  exact Own.ex_iff.2 ⟨(g2,c),h5⟩
 generalize hxs:flat 3 S.n (one S f)=xs at *
 generalize S.n=n at *
 generalize S.first=fi at *
 clear h hO hL
 go_enter Tryz.func109,Tryz.ntmps109
 go_wp2
 go_region_held3 (fun w'=>w'.cell? ⟨bs,0,none⟩=some (.int .i64 (fi:Int))∧w'.cell? ⟨bs,1,none⟩=some (.slice (some ⟨g,0,none⟩) n cp)∧w'.cell? ⟨bs,2,none⟩=some (.int .i64 (ck:Int))) (go_keep)
  (first
    | (refine step_allW rfl _ _ 237 rfl 255 i0 (.agg #[.int .i64 0,.bool false,.int .i64 0]) 3 24 Tryz.underlying237 hi hz0 hz1 hz2 rfl (by decide) _ _ _ rfl _ _ _ _ rfl HL.out HR.out H1.out (by unfold maxLen;omega) (by omega) ?_
       intro g6 c6 w6 hO6
       have t0:=hO6.two.cell 0
       have t1:=hO6.two.cell 1
       have t2:=hO6.two.cell 2
       simp at t0 t1 t2
       have H6:Hid (Own w0 w6 _):=hO6
       clear hO6))
 all_goals
  have hB:=H6.out.allocC #[.int .i64 (fi:Int),.slice g6 n c6,.int .i64 (ck:Int)] 239
  have HB:Hid (Own w0 (w6.alloc (.cells #[.int .i64 (fi:Int),.slice g6 n c6,.int .i64 (ck:Int)] 239)) (Cells w6.heap.size #[.int .i64 (fi:Int),.slice g6 n c6,.int .i64 (ck:Int)] 239::Row 255 3 (.slice g6 n c6) n xs::Cells bs #[.int .i64 (fi:Int),.slice (some ⟨g,0,none⟩) n cp,.int .i64 (ck:Int)] 239::Row 255 3 (.slice (some ⟨g,0,none⟩) n cp) n xs::l)):=by
   show Own _ _ _
   simpa using hB
  clear hB H6 HL
  go_wp2
  go_ret
  exact ⟨_,rfl,HS.out _ g6 c6 _ HB.out hn1⟩
end Go.Proofs.YtogmdoiecpihdaaGreatDoor
