/- The document's store, with entities of which it is known that they stay where they are. -/
import Derived.Test.YtogmdoiecpihdaaGreatDoorQs39
import Derived.Test.YtogmdoiecpihdaaGreatDoorQs35
import Derived.Deep.RegionLaw
namespace Go.Proofs.YtogmdoiecpihdaaGreatDoor
open Go.RowKit Go.Maps
set_option linter.unusedVariables false
set_option maxHeartbeats 4000000
set_option maxRecDepth 100000
section
variable {w0 w:World} {l:List Thing} {b k K:Nat} {v:Value} {E:List REnt} {L:List Ent} {S:St} {x:RX} {σ:Sto} {is:List Nat} {vv vv':Nat→Value} {EE EE':Nat→List REnt}
theorem RSX.outG {G:List REnt} (h:Own w0 w (RSX b S x::l)) (hk:k < 64) (hG:∀ d∈G,d∈x.E k):Own w0 w (RTaG G b (1+k*2) (rscells x.bs x.v) k ((x.E k).map REnt.e)::RSlots x.bs S x.f x.ck::RTabsOn ((List.range 64).erase k) x.v x.E::l):=by
 have h3:=RSX.iff.1 h
 have h4:=(RTabsOn.pull (k:=k) (by simpa using hk)).1 h3.three
 have h5:=RTE.iff.1 h4
 have e:(rscells x.bs x.v).setIfInBounds (1+k*2+1) (x.v k)=rscells x.bs x.v:=by
  rw [rscells_set _ _ _ hk]
  congr 1
  funext i
  by_cases c:i=k
  ·subst c;exact upd_same _ _ _
  ·exact upd_other _ _ _ c
 refine RTaG.shut (v:=x.v k) (E:=x.E k) rfl hG ⟨rscells_m _ _ _ hk,by rw [rscells_size];omega⟩ ?_
 rw [e]
 refine h5.perm ?_
 refine List.Perm.trans ?_ (List.Perm.swap _ _ _)
 refine List.Perm.cons _ ?_
 have:((x.E k).map rrow++RTabsOn ((List.range 64).erase k) x.v x.E::Cells b (rscells x.bs x.v) 186::RSlots x.bs S x.f x.ck::l).Perm (Cells b (rscells x.bs x.v) 186::((x.E k).map rrow++RTabsOn ((List.range 64).erase k) x.v x.E::RSlots x.bs S x.f x.ck::l)):=by
  have:=List.perm_middle (a:=Cells b (rscells x.bs x.v) 186) (l₁:=(x.E k).map rrow++[RTabsOn ((List.range 64).erase k) x.v x.E]) (l₂:=RSlots x.bs S x.f x.ck::l)
  simpa using this
 refine this.trans (List.Perm.cons _ ((List.Perm.swap _ _ _).append_left _))
theorem RSX.intoG {G:List REnt} {bs ck:Nat} {f:Nat→Nat} (hk:k < 64) (h:Own w0 w (RTaG G b (1+k*2) (rscells bs vv) k L::RSlots bs S f ck::RTabsOn ((List.range 64).erase k) vv EE::l)) :
  ∃ v' E',E'.map REnt.e=L∧(∀ d∈G,d∈E')∧Own w0 w (RSX b S ⟨bs,upd vv k v',f,ck,upd EE k E'⟩::l):=by
 obtain ⟨v',E',hE,hG,h1⟩:=RTaG.open h
 refine ⟨v',E',hE,hG,RSX.iff.2 ?_⟩
 rw [rscells_set _ _ _ hk] at h1
 have h2:Own w0 w (RTE v' E'::RTabsOn ((List.range 64).erase k) vv EE::Cells b (rscells bs (upd vv k v')) 186::RSlots bs S f ck::l):=by
  refine RTE.iff.2 (h1.perm ?_)
  refine (List.Perm.swap _ _ _).trans ?_
  refine List.Perm.cons _ ?_
  have:=List.perm_middle (a:=Cells b (rscells bs (upd vv k v')) 186) (l₁:=E'.map rrow++[RTabsOn ((List.range 64).erase k) vv EE]) (l₂:=RSlots bs S f ck::l)
  have h3:(E'.map rrow++RTabsOn ((List.range 64).erase k) vv EE::Cells b (rscells bs (upd vv k v')) 186::RSlots bs S f ck::l).Perm (Cells b (rscells bs (upd vv k v')) 186::(E'.map rrow++RTabsOn ((List.range 64).erase k) vv EE::RSlots bs S f ck::l)):=by simpa using this
  refine List.Perm.trans (List.Perm.cons _ ((List.Perm.swap _ _ _).append_left _)) h3.symm
 have e1:RTabsOn ((List.range 64).erase k) vv EE=RTabsOn ((List.range 64).erase k) (upd vv k v') (upd EE k E'):=RTabsOn.congr (fun m hm=>⟨(upd_other _ _ _ (but_mem hm)).symm,(upd_other _ _ _ (but_mem hm)).symm⟩)
 rw [e1] at h2
 have h4:Own w0 w (RTE (upd vv k v' k) (upd EE k E' k)::RTabsOn ((List.range 64).erase k) (upd vv k v') (upd EE k E')::Cells b (rscells bs (upd vv k v')) 186::RSlots bs S f ck::l):=by rw [upd_same,upd_same];exact h2
 have h5:=(RTabsOn.pull (k:=k) (by simpa using hk)).2 h4
 refine h5.perm ?_
 exact (List.Perm.swap _ _ _).trans ((List.Perm.swap _ _ _).cons _)
end
def KP (σ:Sto) (x:RX) (G:List REnt):Prop:=∀ d∈G,σ.hom d.1 < 64∧d∈x.E (σ.hom d.1)
def gAt (σ:Sto) (G:List REnt) (m:Nat):List REnt:=G.filter (fun d=>decide (σ.hom d.1=m))
theorem gAt_in {σ:Sto} {x:RX} {G:List REnt} (h:KP σ x G) (m:Nat):∀ d∈gAt σ G m,d∈x.E m:=by
 intro d hd
 obtain ⟨h1,h2⟩:=List.mem_filter.1 hd
 have:=(h d h1).2
 rw [of_decide_eq_true h2] at this
 exact this
theorem gAt_sub {σ:Sto} {G:List REnt} {m:Nat} {d:REnt} (hd:d∈gAt σ G m):d∈G:=(List.mem_filter.1 hd).1
theorem KP.upd {σ σ':Sto} {x x':RX} {G:List REnt} (h:KP σ x G) {m:Nat} {E':List REnt} (hE:∀ d∈gAt σ G m,d∈E') (hx:x'.E=Go.Proofs.YtogmdoiecpihdaaGreatDoor.upd x.E m E') (hh:∀ d∈G,σ'.hom d.1=σ.hom d.1):KP σ' x' G:=by
 intro d hd
 obtain ⟨h1,h2⟩:=h d hd
 rw [hh d hd,hx]
 refine ⟨h1,?_⟩
 by_cases c:σ.hom d.1=m
 ·rw [c,upd_same]
  exact hE d (List.mem_filter.2 ⟨hd,by simp [c]⟩)
 ·rw [upd_other _ _ _ c]
  exact h2
def RStG (G:List REnt) (b:Nat) (σ:Sto) (K:Nat):Thing:=Ex (fun x:RX=>[Fact (RXok σ x K∧KP σ x G),RSX b σ.S x])
section
variable {w0 w:World} {l:List Thing} {b K:Nat} {x:RX} {σ:Sto} {G:List REnt}
theorem RStG.opn (h:Own w0 w (RStG G b σ K::l)):∃ x,RXok σ x K∧KP σ x G∧Own w0 w (RSX b σ.S x::l):=by
 obtain ⟨x,h⟩:=Own.ex_iff.1 h
 have h':Own w0 w (Fact (RXok σ x K∧KP σ x G)::RSX b σ.S x::l):=h
 exact ⟨x,(Own.fact.1 h').1.1,(Own.fact.1 h').1.2,(Own.fact.1 h').2⟩
theorem RStG.mk (hx:RXok σ x K) (hg:KP σ x G) (h:Own w0 w (RSX b σ.S x::l)):Own w0 w (RStG G b σ K::l):=Own.ex_iff.2 ⟨x,Own.fact.2 ⟨⟨hx,hg⟩,h⟩⟩
theorem RStG.less (h:Own w0 w (RStG G b σ K::l)):Own w0 w (RSto b σ K::l):=by
 obtain ⟨x,hx,_,h⟩:=RStG.opn h
 exact RSto.mk hx h
theorem RStG.sub {G':List REnt} (hs:∀ d∈G',d∈G) (h:Own w0 w (RStG G b σ K::l)):Own w0 w (RStG G' b σ K::l):=by
 obtain ⟨x,hx,hg,h⟩:=RStG.opn h
 exact RStG.mk hx (fun d hd=>hg d (hs d hd)) h
theorem RStG.stoK {K':Nat} (h:K≤K') (hO:Own w0 w (RStG G b σ K::l)):Own w0 w (RStG G b σ K'::l):=by
 obtain ⟨x,hx,hg,h2⟩:=RStG.opn hO
 exact RStG.mk (hx.mono h) hg h2
theorem Own.stoKG {K':Nat} (h:K≤K') (hO:Own w0 w (RStG G b σ K::l)):Own w0 w (RStG G b σ K'::l):=RStG.stoK h hO
theorem RStG.cs (h:Own w0 w (RStG G b σ K::l)) {d:REnt} (hd:d∈G):Cs w d.2.2.1 d.2.1:=by
 obtain ⟨x,hx,hg,h⟩:=RStG.opn h
 obtain ⟨h1,h2⟩:=hg d hd
 obtain ⟨r,hr⟩:=List.mem_iff_getElem?.1 h2
 obtain ⟨_,_,_,_,_,_,hc⟩:=RSX.ent w0 w l b σ x h _ r h1 d hr
 exact hc
theorem RStG.all (hx:RXok σ x K) (hσ:σ.Ok) {L:List Nat} (hL:∀ id∈L,σ.S.isLive id=true) (h:Own w0 w (RSX b σ.S x::l)):Own w0 w (RStG (L.map (x.at σ)) b σ K::l):=by
 refine RStG.mk hx (fun d hd=>?_) h
 obtain ⟨id,hid,rfl⟩:=List.mem_map.1 hd
 obtain ⟨_,h1,_,r,_,h2⟩:=hx.at hσ (hL id hid)
 rw [h1]
 exact ⟨(hσ.home (hL id hid)).1,List.mem_of_getElem? h2⟩
end
theorem rtaddG (w0 w:World) (l:List Thing) (b o:Nat) (cur:Array Value) (m:Nat) (L:List Ent) {G:List REnt} (h:Own w0 w (RTaG G b o cur m L::l)) (hT:TOk m L) (id:Nat) (hid:id < 4294967296) (ao:Option Addr) (len cap:Nat) (C:List Cp) (hCl:C.length=len) (hCs:∀ w',Own w0 w' l→Cs w' ao C) (hCk:∀ q∈C,q.k < 256) (hlen:len≤1000000) (hL:L.length≤1000000) :
  Calls Tryz.prog 217 #[.pointer (some ⟨b,o,none⟩),.int .u32 (id:Int),.slice ao len cap] w fun e w'=>e=.returned (.int .i64 ((tadd m L id C).1:Int))∧Own w0 w' (RTaG G b o cur m (tadd m L id C).2::l):=by
 have HCU:Hid (cur[o]? = some (.int .u8 (m:Int))∧o+1 < cur.size):=RTaG.facts h
 obtain ⟨i0,hi,hz0,hz1,hz2⟩:=info_parts Tryz.infoEnt
 have hm:=hT.m64
 have H:Hid (Own w0 w (RTaG G b o cur m L::l)):=h
 have HT:Hid (TOk m L):=hT
 have HCS:Hid (C.length=len∧(∀ w',Own w0 w' l→Cs w' ao C)∧∀ q∈C,q.k < 256):=⟨hCl,hCs,hCk⟩
 have HLS:Hid (Calls _ _ _ _ _):=rlist_any w ao len cap C hCl (hCs w h.tail) hCk hlen
 clear h hT hCl hCs hCk
 obtain ⟨x,hx⟩:∃ x,lst (-1) C=x:=⟨_,rfl⟩
 rw [hx] at HLS
 by_cases hx0:x=0
 ·subst hx0
  have HLST:Hid (lst (-1) C=0):=hx
  have HR:Hid (∀ w',Own w0 w' (RTaG G b o cur m L::l)→Calls Tryz.prog 164 #[.pointer (some ⟨b,o,none⟩),.int .u32 (id:Int)] w' fun e w''=>e=.returned (.int .i64 (pl1 (plc L id)))∧Fr Nobody w' w''):=fun w' h'=>rtrowG w0 w' _ b o cur m L h' HT.out.ap hL id
  have HMK:Hid (∀ w',Own w0 w' (RTaG G b o cur m L::l)→Calls Tryz.prog 218 #[.slice ao len cap] w' fun e w''=>e=.returned (.int .u8 ((msk C:Nat):Int))∧Fr Nobody w' w''):=fun w' h'=>rmask_any w' ao len cap C HCS.out.1 (HCS.out.2.1 w' h'.tail) HCS.out.2.2 hlen
  have HMC:Hid (∀ w',Own w0 w' (RTaG G b o cur m L::l)→w'.cell? ⟨b,o,none⟩=some (.int .u8 (m:Int))):=by
   intro w' h'
   obtain ⟨v,E,_,_,h'⟩:=RTaG.open h'
   have q:=h'.cell o
   rw [tcur_m,HCU.out.1] at q
   exact q
  have hm64:=msk_lt C
  by_cases hmk:msk C=m
  ·rw [hmk] at HMK hm64
   cases hp:plc L id with
   | some r =>
    have HV:Hid (tadd m L id C=(9,L)):=by show _=_;unfold tadd;rw [if_neg (by simp [hx]),if_neg (by simp [hmk]),if_pos (by rw [hp];rfl)]
    rw [hp] at HR
    simp only [pl1] at HR
    have hr0:¬ (r:Int) < 0:=by omega
    have hr1:(0:Int)≤(r:Int):=by omega
    clear hp hx hmk
    go_enter Tryz.func217,Tryz.ntmps217
    go_wp2_with fail
    refine HLS.out.mono ?_
    rintro e w1 ⟨rfl,hf⟩
    have H1:Hid (Own w0 w1 (RTaG G b o cur m L::l)):=H.out.quiet hf
    clear hf HLS H
    have q0:=HMC.out _ H1.out
    go_wp2_with fail
    go_region_with (
     go_at_call 218
     refine (HMK.out _ H1.out.drew).mono ?_
     rintro e w3 ⟨rfl,hf3⟩
     have H3:Hid (Own w0 w3 (RTaG G b o cur m L::l)):=H1.out.drew.quiet hf3
     have q3:=HMC.out _ H3.out
     clear hf3)
    all_goals
     go_wp2_with fail
     refine (HR.out _ H3.out).mono ?_
     rintro e w4 ⟨rfl,hf4⟩
     have H4:Hid (Own w0 w4 (RTaG G b o cur m L::l)):=H3.out.quiet hf4
     clear hf4
     go_wp2
     go_ret
     rw [HV.out]
     exact ⟨rfl,H4.out⟩
   | none =>
    have HV:Hid (tadd m L id C=(0,L++[(id,C)])):=by show _=_;unfold tadd;rw [if_neg (by simp [hx]),if_neg (by simp [hmk]),if_neg (by rw [hp];simp)]
    rw [hp] at HR
    simp only [pl1] at HR
    clear hp hx hmk
    go_enter Tryz.func217,Tryz.ntmps217
    go_wp2_with fail
    refine HLS.out.mono ?_
    rintro e w1 ⟨rfl,hf⟩
    have H1:Hid (Own w0 w1 (RTaG G b o cur m L::l)):=H.out.quiet hf
    clear hf HLS H
    have q0:=HMC.out _ H1.out
    go_wp2_with fail
    go_region_with (
     go_at_call 218
     refine (HMK.out _ H1.out.drew).mono ?_
     rintro e w3 ⟨rfl,hf3⟩
     have H3:Hid (Own w0 w3 (RTaG G b o cur m L::l)):=H1.out.drew.quiet hf3
     have q3:=HMC.out _ H3.out
     clear hf3)
    all_goals
     clear q0 q3 HMK H1
     go_wp2_with fail
     refine (HR.out _ H3.out).mono ?_
     rintro e w4 ⟨rfl,hf4⟩
     obtain ⟨v,E,hE,hGE,hO4⟩:=RTaG.open (H3.out.quiet hf4)
     have HGE:Hid (∀ d∈G,d∈E):=hGE
     clear hGE
     obtain ⟨ae,ce,rfl⟩:=row_any hO4.two.row
     have q1:=hO4.cell (o+1)
     rw [tcur_at HCU.out.2] at q1
     have HEL:Hid (E.map REnt.e=L∧E.length=L.length):=⟨hE,by rw [← hE,List.length_map]⟩
     have hen:E.length≤1000000:=by rw [HEL.out.2];exact hL
     have HTW:Hid (Calls _ _ _ _ _):=twin_any w0 w4.drew _ hO4.drew ao len cap C HCS.out.1 (HCS.out.2.1 _ ((H3.out.quiet hf4).drew.tail)) hlen
     clear hf4 hE HR H3
     generalize hEn:E.length=en at *
     have HEN:Hid (E.length=en):=hEn
     clear hEn hO4
     go_wp2_with fail
     go_region_law (first
      | (refine step_twin rfl (.tmp 32) 39 rfl _ (by first | (simp [Act.eval];done) | simp [Act.eval,Act.put]) (fun v' w'=>∃ a2 c2,v'=.slice a2 len c2∧Own w0 w' (Row 46 4 (.slice a2 len c2) len (ccat C)::Cells b (cur.setIfInBounds (o+1) (.slice ae en ce)) 186::Row 76 2 (.slice ae en ce) en (cat rcells E)::(E.map rrow++l))) (HTW.out.mono fun e w' ⟨a2,c2,h1,h2⟩=>⟨_,h1,a2,c2,rfl,h2⟩) ?_
         rintro v5 w5 ⟨a2,c2,rfl,hO5⟩
         have q5:=hO5.two.cell (o+1)
         rw [tcur_at HCU.out.2] at q5
         obtain ⟨g6,c6,w6,hrun,hO6⟩:=run1_own (P:=Tryz.prog) 62 62 76 i0 (.agg #[.int .u32 0,.slice none 0 0]) 2 32 Tryz.underlying62 hi hz0 hz1 hz2 rfl (by decide) _ en _ hO5.three #[.int .u32 (id:Int),.slice a2 len c2] rfl (by intro u hu;simp at hu;rcases hu with rfl | rfl <;> rfl) (by unfold maxLen;omega) (by omega)
         have hbw:=hO5.two.lt
         have hbn:b≠w5.heap.size:=by omega
         have hbn':w5.heap.size≠b:=by omega
         have HRUN:Hid _:=hrun
         have q6:=hO6.three.cell (o+1)
         have z6:=hO6.three.froz (o+1)
         rw [tcur_at HCU.out.2] at q6
         have HO6:Hid (Own w0 w6 _):=hO6
         clear hO5 hO6 hrun)
      | (refine step_run rfl (.tmp 30) (.tmp 35) 62 62 62 rfl rfl (.slice ae en ce) (.slice (some ⟨w5.heap.size,0,none⟩) 1 1) (.slice (some ⟨g6,0,none⟩) (en+1) c6) w6 (by first | (simp [Act.eval];done) | simp [Act.eval,Act.put]) (by first | (simp [Act.eval];done) | simp [Act.eval,Act.put]) HRUN.out ?_))
     all_goals
      have HFIN:Hid (Own w0 (w6.setCell ⟨b,o+1,none⟩ (.slice (some ⟨g6,0,none⟩) (en+1) c6)) (RTaG G b o cur m (L++[(id,C)])::l)):=by
       have h7:=HO6.out.three.setC (o+1) (.slice (some ⟨g6,0,none⟩) (en+1) c6)
       rw [Array.setIfInBounds_setIfInBounds] at h7
       refine RTaG.shut (v:=.slice (some ⟨g6,0,none⟩) (en+1) c6) (E:=E++[(id,C,a2,c2)]) (by rw [List.map_append,HEL.out.1];rfl) (fun d hd=>List.mem_append_left _ (HGE.out d hd)) HCU.out ?_
       rw [List.length_append,HEN.out,cat_append,List.map_append,List.append_assoc]
       have hcl:=HCS.out.1
       have e2:cat rcells [(id,C,a2,c2)]=[.int .u32 (id:Int),.slice a2 len c2]:=by
        show [Value.int .u32 (id:Int),Value.slice a2 C.length c2]=_
        rw [hcl]
       rw [e2]
       refine h7.perm (List.Perm.cons _ (List.Perm.cons _ ?_))
       have e1:rrow (id,C,a2,c2)=Row 46 4 (.slice a2 len c2) len (ccat C):=by unfold rrow REnt.v;simp only;rw [hcl]
       show (_::(E.map rrow++l)).Perm (E.map rrow++(rrow (id,C,a2,c2)::l))
       rw [e1]
       exact List.perm_middle.symm
      clear HO6
      go_wp2
      go_ret
      rw [HV.out]
      exact ⟨rfl,HFIN.out⟩
  ·have HV:Hid (tadd m L id C=(4,L)):=by show _=_;unfold tadd;rw [if_neg (by simp [hx]),if_pos hmk]
   have hne:((msk C:Int) != (m:Int))=true:=by simp;omega
   clear hx
   generalize msk C=mc at *
   go_enter Tryz.func217,Tryz.ntmps217
   go_wp2_with fail
   refine HLS.out.mono ?_
   rintro e w1 ⟨rfl,hf⟩
   have H1:Hid (Own w0 w1 (RTaG G b o cur m L::l)):=H.out.quiet hf
   clear hf HLS H
   have q0:=HMC.out _ H1.out
   go_wp2_with fail
   go_region_with (
    go_at_call 218
    refine (HMK.out _ H1.out.drew).mono ?_
    rintro e w3 ⟨rfl,hf3⟩
    have H3:Hid (Own w0 w3 (RTaG G b o cur m L::l)):=H1.out.drew.quiet hf3
    have q3:=HMC.out _ H3.out
    clear hf3)
   all_goals
    go_wp2
    go_ret
    rw [HV.out]
    exact ⟨rfl,H3.out⟩
 ·have HV:Hid (tadd m L id C=(x,L)):=by show _=_;unfold tadd;rw [if_pos (by rw [hx];exact hx0),hx]
  have hx1:((x:Int) != 0)=true:=by simpa using hx0
  clear hx
  go_enter Tryz.func217,Tryz.ntmps217
  go_wp2_with fail
  refine HLS.out.mono ?_
  rintro e w1 ⟨rfl,hf⟩
  have H1:Hid (Own w0 w1 (RTaG G b o cur m L::l)):=H.out.quiet hf
  clear hf HLS H
  go_wp2
  go_ret
  rw [HV.out]
  exact ⟨rfl,H1.out⟩
theorem rtremG (w0 w:World) (l:List Thing) (b o:Nat) (cur:Array Value) (m:Nat) (L:List Ent) {G:List REnt} (h:Own w0 w (RTaG G b o cur m L::l)) (hT:TOk m L) (hL:L.length≤1000000) (id r:Nat) (hG:∀ d∈G,d.1≠id) (e:Ent) (hei:e.1=id) (hp:plc L id=some r) (he:L[r]? = some e) :
  Calls Tryz.prog 169 #[.pointer (some ⟨b,o,none⟩),.int .u32 (id:Int)] w fun out w'=>∃ ao cap,out=.returned (.tuple #[.slice ao e.2.length cap,.int .i64 0])∧Own w0 w' (Row 46 4 (.slice ao e.2.length cap) e.2.length (ccat e.2)::RTaG G b o cur m (outr L r)::l):=by
 have HCU:Hid (cur[o]? = some (.int .u8 (m:Int))∧o+1 < cur.size):=RTaG.facts h
 obtain ⟨i0,hi,hz0,hz1,hz2⟩:=info_parts Tryz.infoEnt
 have HR:Hid (Calls _ _ _ _ _):=rtrowG w0 w _ b o cur m L h hT.ap hL id
 rw [hp] at HR
 simp only [pl1] at HR
 have H:Hid (Own w0 w (RTaG G b o cur m L::l)):=h
 have HLE:Hid (L[r]? = some e):=he
 have hrL:=(List.getElem?_eq_some_iff.1 he).1
 have hr0:¬ (r:Int) < 0:=by omega
 clear h hp he hT
 go_enter Tryz.func169,Tryz.ntmps169
 go_wp2_with fail
 refine HR.out.mono ?_
 rintro out w1 ⟨rfl,hf⟩
 obtain ⟨v,E,hE,hGE,hO⟩:=RTaG.open (H.out.quiet hf)
 have HGE:Hid (∀ d∈G,d∈E):=hGE
 have HGI:Hid (∀ d∈G,d.1≠e.1):=fun d hd=>by rw [hei];exact hG d hd
 clear hGE hG hei
 have hlen:E.length=L.length:=by rw [← hE,List.length_map]
 obtain ⟨n,hn⟩:∃ n,E.length=n+1:=⟨E.length - 1,by omega⟩
 rw [hn] at hO
 obtain ⟨g,ce,hvv,_⟩:=row_shape hO.two.row (by omega)
 subst hvv
 obtain ⟨d,hd⟩:∃ d,E[r]? = some d:=⟨_,List.getElem?_eq_getElem (by omega)⟩
 have hee:d.e=e:=by
  have:(E.map REnt.e)[r]? = some d.e:=by rw [List.getElem?_map,hd];rfl
  rw [hE,HLE.out] at this
  exact (Option.some.inj this).symm
 obtain ⟨xl,hxl⟩:∃ x,E[n]? = some x:=⟨_,List.getElem?_eq_getElem (by omega)⟩
 have hcap:=(row_cap hO.two.row).2
 have hO2:=hO.two
 rw [← hn] at hO2
 obtain ⟨_,p2⟩:=ecell hO2 r d hd
 have p1:=hO.cell (o+1)
 rw [tcur_at HCU.out.2] at p1
 have HO:Hid (Own w0 w1 (Cells b (cur.setIfInBounds (o+1) (.slice (some ⟨g,0,none⟩) (n+1) ce)) 186::Row 76 2 (.slice (some ⟨g,0,none⟩) (n+1) ce) (n+1) (cat rcells E)::(E.map rrow++l))):=hO
 have HE:Hid (E.map REnt.e=L∧E.length=n+1∧E[r]? = some d∧E[n]? = some xl∧d.e=e):=⟨hE,hn,hd,hxl,hee⟩
 have hrn:r < n+1:=by omega
 have hrn':(r:Int) < (n:Int)+1:=by omega
 have hn6:n≤1000000:=by omega
 have hcap2:n≤ce:=by omega
 have hcap3:¬ ce=0:=by omega
 have HIN:Hid (∀ w' l',Own w0 w' (Row 76 2 (.slice (some ⟨g,0,none⟩) (n+1) ce) (n+1) (cat rcells E)::l')→∀ i x,E[i]? = some x→w'.cell? ⟨g,i*2,none⟩=some (.int .u32 (x.1:Int))∧w'.cell? ⟨g,i*2+1,none⟩=some (.slice x.2.2.1 x.2.1.length x.2.2.2)):=by
  intro w' l' h' i x hx
  rw [← HE.out.2.1] at h'
  exact ecell h' i x hx
 clear HR hf H hO hO2 hE hn hd hee hxl hlen hrL
 go_wp2
 go_loopw [9,40] (fun lv cv wr=>∃ j:Nat,j≤n∧cv=.int .i64 j∧∃ a1 c1,lv=.slice a1 j c1∧Own w0 wr (Row 76 2 (.slice a1 j c1) j (cat rcells ((outr E r).take j))::Cells b (cur.setIfInBounds (o+1) (.slice (some ⟨g,0,none⟩) (n+1) ce)) 186::Row 76 2 (.slice (some ⟨g,0,none⟩) (n+1) ce) (n+1) (cat rcells E)::(E.map rrow++l))) (fun _ cv _=>n - (intOf cv).toNat)
 case atStart=>exact ⟨0,Nat.zero_le _,rfl,none,0,rfl,by simpa [cat] using HO.out.nilRow 76 2⟩
 case round =>
  obtain ⟨j,hj,rfl,a1,c1,rfl,hO⟩:=hrel
  have H1:Hid (Own w0 wr (Row 76 2 (.slice a1 j c1) j (cat rcells ((outr E r).take j))::Cells b (cur.setIfInBounds (o+1) (.slice (some ⟨g,0,none⟩) (n+1) ce)) 186::Row 76 2 (.slice (some ⟨g,0,none⟩) (n+1) ce) (n+1) (cat rcells E)::(E.map rrow++l))):=hO
  clear HO
  by_cases hlt:j < n
  ·have hlt':(j:Int) < (n:Int):=by omega
   obtain ⟨x,hx⟩:∃ x,E[j]? = some x:=⟨_,List.getElem?_eq_getElem (by rw [HE.out.2.1];omega)⟩
   obtain ⟨s0,s1⟩:=HIN.out _ _ hO.three j x hx
   obtain ⟨t0,t1⟩:=HIN.out _ _ hO.three n xl HE.out.2.2.2.1
   have u1:=hO.two.cell (o+1)
   rw [tcur_at HCU.out.2] at u1
   have hbw:=hO.two.lt
   have hgw:g < wr.heap.size:=(hO.three.row.lt g rfl).2
   have hgn:g≠wr.heap.size:=by omega
   have hgn':wr.heap.size≠g:=by omega
   have hbn:b≠wr.heap.size:=by omega
   have hbn':wr.heap.size≠b:=by omega
   obtain ⟨y,hy⟩:∃ y,(outr E r)[j]? = some y:=⟨_,List.getElem?_eq_getElem (by rw [length_outr _ _ (by rw [HE.out.2.1];omega),HE.out.2.1];omega)⟩
   have hy2:=hy
   rw [outr_at E r j (by rw [HE.out.2.1];omega),HE.out.2.1,if_pos (by omega)] at hy2
   have HTK:Hid ((outr E r).take (j+1)=(outr E r).take j++[y]):=take_snoc _ j y hy
   have HAL:Hid (∀ ob,Own w0 (wr.alloc ob) (Row 76 2 (.slice a1 j c1) j (cat rcells ((outr E r).take j))::Cells b (cur.setIfInBounds (o+1) (.slice (some ⟨g,0,none⟩) (n+1) ce)) 186::Row 76 2 (.slice (some ⟨g,0,none⟩) (n+1) ce) (n+1) (cat rcells E)::(E.map rrow++l))):=fun ob=>H1.out.alloc ob
   clear hO hy
   by_cases hjr:j=r
   ·rw [if_pos hjr] at hy2
    have hyx:y=xl:=by
     have:=HE.out.2.2.2.1
     rw [show n+1 - 1=n by omega,this] at hy2
     exact (Option.some.inj hy2).symm
    have HJR:Hid (j=r):=hjr
    have hjr':((j:Int) == (r:Int))=true:=by rw [hjr];simp
    clear hjr hy2 hx
    subst hyx
    obtain ⟨y1,y2,y3,y4⟩:=y
    obtain ⟨x1,x2,x3,x4⟩:=x
    simp only at s0 s1 t0 t1
    generalize hyl:y2.length=yl at *
    generalize x2.length=xl2 at *
    have HYL:Hid (y2.length=yl):=hyl
    clear hyl
    go_wp2_with (at_builtin;refine append1_own rfl _ _ 62 rfl 76 i0 (.agg #[.int .u32 0,.slice none 0 0]) 2 32 Tryz.underlying62 hi hz0 hz1 hz2 rfl (by decide) _ _ _ rfl (HAL.out _) _ #[.int .u32 (y1:Int),.slice y3 yl y4] (by simp) rfl rfl (by intro u hu;simp at hu;rcases hu with rfl | rfl <;> rfl) (by unfold maxLen;omega) (by omega) ?_)
    intro g4 c4 w4 hO4 hsz
    have H4:Hid (Own w0 w4 (Row 76 2 (.slice (some ⟨g4,0,none⟩) (j+1) c4) (j+1) (cat rcells ((outr E r).take (j+1)))::Cells b (cur.setIfInBounds (o+1) (.slice (some ⟨g,0,none⟩) (n+1) ce)) 186::Row 76 2 (.slice (some ⟨g,0,none⟩) (n+1) ce) (n+1) (cat rcells E)::(E.map rrow++l))):=by
     show Own _ _ _
     rw [HTK.out,cat_append]
     have e2:cat rcells [(y1,y2,y3,y4)]=[.int .u32 (y1:Int),.slice y3 yl y4]:=by
      show [Value.int .u32 (y1:Int),Value.slice y3 y2.length y4]=_
      rw [HYL.out]
     rw [e2];exact hO4
    clear hO4 hsz H1 HAL s0 s1 t0 t1 u1
    go_wp2
    go_roundw
    case rel=>exact ⟨j+1,by omega,by go_num,_,_,rfl,H4.out⟩
    case measure=>simp [intOf];omega
   ·rw [if_neg hjr,hx] at hy2
    have hyx:x=y:=Option.some.inj hy2
    have hjr':((j:Int) == (r:Int))=false:=by rw [beq_eq_false_iff_ne];omega
    clear hy2 hx
    subst hyx
    obtain ⟨y1,y2,y3,y4⟩:=x
    simp only at s0 s1
    generalize hyl:y2.length=yl at *
    have HYL:Hid (y2.length=yl):=hyl
    clear hyl t0 t1
    go_wp2_with (at_builtin;refine append1_own rfl _ _ 62 rfl 76 i0 (.agg #[.int .u32 0,.slice none 0 0]) 2 32 Tryz.underlying62 hi hz0 hz1 hz2 rfl (by decide) _ _ _ rfl (HAL.out _) _ #[.int .u32 (y1:Int),.slice y3 yl y4] (by simp) rfl rfl (by intro u hu;simp at hu;rcases hu with rfl | rfl <;> rfl) (by unfold maxLen;omega) (by omega) ?_)
    intro g4 c4 w4 hO4 hsz
    have H4:Hid (Own w0 w4 (Row 76 2 (.slice (some ⟨g4,0,none⟩) (j+1) c4) (j+1) (cat rcells ((outr E r).take (j+1)))::Cells b (cur.setIfInBounds (o+1) (.slice (some ⟨g,0,none⟩) (n+1) ce)) 186::Row 76 2 (.slice (some ⟨g,0,none⟩) (n+1) ce) (n+1) (cat rcells E)::(E.map rrow++l))):=by
     show Own _ _ _
     rw [HTK.out,cat_append]
     have e2:cat rcells [(y1,y2,y3,y4)]=[.int .u32 (y1:Int),.slice y3 yl y4]:=by
      show [Value.int .u32 (y1:Int),Value.slice y3 y2.length y4]=_
      rw [HYL.out]
     rw [e2];exact hO4
    clear hO4 hsz H1 HAL s0 s1 u1
    go_wp2
    go_roundw
    case rel=>exact ⟨j+1,by omega,by go_num,_,_,rfl,H4.out⟩
    case measure=>simp [intOf];omega
  ·have hjn:j=n:=by omega
   subst hjn
   have hlt':¬ (j:Int) < (j:Int):=by omega
   have u1:=hO.two.cell (o+1)
   have v1:=hO.two.froz (o+1)
   rw [tcur_at HCU.out.2] at u1
   have HFIN:Hid (Own w0 (wr.setCell ⟨b,o+1,none⟩ (.slice a1 j c1)) (Row 46 4 (.slice d.2.2.1 e.2.length d.2.2.2) e.2.length (ccat e.2)::RTaG G b o cur m (outr L r)::l)):=by
    have hlo:(outr E r).length=j:=by rw [length_outr _ _ (by rw [HE.out.2.1];omega),HE.out.2.1];rfl
    have h1:=hO.two.setC (o+1) (.slice a1 j c1)
    rw [Array.setIfInBounds_setIfInBounds] at h1
    rw [List.take_of_length_le (by rw [hlo];exact Nat.le_refl _)] at h1
    have h2:=h1.three.tail
    have h3:Own w0 (wr.setCell ⟨b,o+1,none⟩ (.slice a1 j c1)) (rrow d::Cells b (cur.setIfInBounds (o+1) (.slice a1 j c1)) 186::Row 76 2 (.slice a1 j c1) j (cat rcells (outr E r))::((outr E r).map rrow++l)):=by
     refine h2.perm ?_
     have hpm:=((outr_perm E r d HE.out.2.2.1).map rrow).append_right l
     refine ((hpm.cons _).cons _).trans ?_
     exact (List.perm_middle (l₁:=[Cells b (cur.setIfInBounds (o+1) (.slice a1 j c1)) 186,Row 76 2 (.slice a1 j c1) j (cat rcells (outr E r))]))
    have h4:Own w0 (wr.setCell ⟨b,o+1,none⟩ (.slice a1 j c1)) (RTaG G b o cur m (outr L r)::rrow d::l):=by
     refine RTaG.shut (v:=.slice a1 j c1) (E:=outr E r) (by rw [map_outr _ _ _ (by rw [HE.out.2.1];omega),HE.out.1]) (fun d3 hd3=>mem_outr3 HE.out.2.2.1 (HGE.out d3 hd3) (fun hh=>HGI.out d3 hd3 (by rw [hh,← HE.out.2.2.2.2];rfl))) HCU.out ?_
     rw [hlo]
     refine h3.perm ?_
     refine ((List.Perm.swap _ _ _).trans ((List.Perm.swap _ _ _).cons _)).trans ?_
     exact ((List.perm_middle.symm).cons _).cons _
    have hde:=HE.out.2.2.2.2
    subst hde
    exact h4.two
   have HDE:Hid (d.e=e):=HE.out.2.2.2.2
   have hdl:d.2.1.length=e.2.length:=by rw [← HDE.out];rfl
   rw [hdl] at p2
   clear hO
   go_wp2
   go_ret2
   exact ⟨_,_,rfl,HFIN.out⟩
end Go.Proofs.YtogmdoiecpihdaaGreatDoor
