/- Set. -/
import Derived.Test.YtogmdoiecpihdaaGreatDoorQs41
import Derived.Deep.RegionWith
import Derived.Test.YtogmdoiecpihdaaGreatDoorQs40
import Derived.Test.YtogmdoiecpihdaaGreatDoorQs24
namespace Go.Proofs.YtogmdoiecpihdaaGreatDoor
open Go.RowKit Go.Maps
set_option linter.unusedVariables false
set_option maxHeartbeats 4000000
set_option maxRecDepth 100000
theorem rtsetG (w0 w:World) (l:List Thing) (b o:Nat) (cur:Array Value) (m:Nat) (L:List Ent) {G:List REnt} (h:Own w0 w (RTaG G b o cur m L::l)) (hT:TOk m L) (id:Nat) (hG:∀ d∈G,d.1≠id) (hid:id < 4294967296) (q:Cp) (hk:q.k < 256) (hL:L.length≤1000000) :
  Calls Tryz.prog 168 #[.pointer (some ⟨b,o,none⟩),.int .u32 (id:Int),q.ag] w fun e w'=>e=.returned (.int .i64 ((tset m L id q).1:Int))∧Own w0 w' (RTaG G b o cur m (tset m L id q).2::l):=by
 have HCU:Hid (cur[o]? = some (.int .u8 (m:Int))∧o+1 < cur.size):=RTaG.facts h
 have hm:=hT.m64
 have hA:=h.allocC #[.int .u8 (q.k:Int),.int .i32 q.a,.int .i32 q.b,.int .i32 q.c] 46
 have z0:=hA.cell 0
 have z1:=hA.cell 1
 have z2:=hA.cell 2
 have z3:=hA.cell 3
 simp at z0 z1 z2 z3
 have HC:Hid (Calls _ _ _ _ _):=rcheck3 (w.alloc (.cells #[.int .u8 (q.k:Int),.int .i32 q.a,.int .i32 q.b,.int .i32 q.c] 46)) q.k hk q.a q.b q.c
 have HA:Hid (Own w0 _ (Cells w.heap.size #[.int .u8 (q.k:Int),.int .i32 q.a,.int .i32 q.b,.int .i32 q.c] 46::RTaG G b o cur m L::l)):=hA
 have HQ:Hid (q.chk=chk q.k (f3 q.a q.b q.c)):=rfl
 clear h hA
 unfold Cp.ag
 obtain ⟨x,hx⟩:∃ x,q.chk=x:=⟨_,rfl⟩
 have hx5:x≤5:=by rw [← hx];exact chk_lt q
 rw [← HQ.out,hx] at HC
 by_cases hx0:x=0
 ·subst hx0
  have HGT:Hid (∀ w',Own w0 w' (RTaG G b o cur m L::Cells w.heap.size #[.int .u8 (q.k:Int),.int .i32 q.a,.int .i32 q.b,.int .i32 q.c] 46::l)→Calls Tryz.prog 215 #[.pointer (some ⟨b,o,none⟩),.int .u32 (id:Int),.int .u8 (q.k:Int)] w' fun e w''=>e=.returned (.tuple #[(tget m L id q.k).2.ag,.int .i64 ((tget m L id q.k).1:Int)])∧Own w0 w'' (RTaG G b o cur m L::Cells w.heap.size #[.int .u8 (q.k:Int),.int .i32 q.a,.int .i32 q.b,.int .i32 q.c] 46::l)):=fun w' h'=>rtgetG w0 w' _ b o cur m L h' hT hL id q.k hk
  have hbad:∀ cd:Nat,cd=7∨cd=10→tset m L id q=(cd,L)∧tget m L id q.k=(cd,⟨0,0,0,0⟩)→Calls Tryz.prog 168 #[.pointer (some ⟨b,o,none⟩),.int .u32 (id:Int),.agg #[.int .u8 (q.k:Int),.int .i32 q.a,.int .i32 q.b,.int .i32 q.c]] w fun e w'=>e=.returned (.int .i64 ((tset m L id q).1:Int))∧Own w0 w' (RTaG G b o cur m (tset m L id q).2::l):=by
   rintro cd hcd ⟨e1,e2⟩
   have HV:Hid (tset m L id q=(cd,L)):=e1
   rw [e2] at HGT
   simp only [Cp.ag] at HGT
   have hcd0:((cd:Int) != 0)=true:=by rw [bne_iff_ne];omega
   clear e1 e2 hx HQ
   obtain ⟨qk,qa,qb,qc⟩:=q
   simp only at z0 z1 z2 z3 HC HGT HA hk ⊢
   go_enter Tryz.func168,Tryz.ntmps168
   go_wp2_with fail
   refine HC.out.mono ?_
   rintro e w1 ⟨rfl,hf⟩
   have H1:Hid (Own w0 w1 _):=HA.out.quiet hf
   have y0:=(HA.out.quiet hf).cell 0
   simp at y0
   clear hf HC z0 z1 z2 z3
   go_wp2_with fail
   refine (HGT.out _ H1.out.two).mono ?_
   rintro e w2 ⟨rfl,hO2⟩
   have H2:Hid (Own w0 w2 _):=hO2
   clear hO2 H1 y0 HGT
   go_wp2
   go_ret
   rw [HV.out]
   exact ⟨rfl,(H2.out.two.tail).alloc _⟩
  cases hp:plc L id with
  | none=>exact hbad 7 (.inl rfl) (tset_none hx hp)
  | some r =>
   cases hb:bt m q.k with
   | false=>exact hbad 10 (.inr rfl) (tset_no hx hp hb)
   | true =>
    clear hbad
    obtain ⟨d,hd,hdi⟩:=(plc_some hT.ap id r).1 hp
    obtain ⟨did,C⟩:=d
    simp only at hdi
    subst hdi
    have hok:=hT.ok _ (List.mem_of_getElem? hd)
    have hC6:C.length≤6:=hT.c6 hd
    have hCk:∀ y∈C,y.k < 256:=fun y hy=>by have:=chk_k ((lst_ok hok.1).2 y hy).2;omega
    have hin:insc C q=setc C q:=insc_set (lst_ok hok.1).1 q (hasK_bt hok.2 hm hb)
    have HV:Hid (tset m L did q=(0,L.set r (did,insc C q))):=by show _=_;unfold tset;rw [if_neg (by simp [hx]),hp];simp [hb,hd,hin]
    have hrL:=(List.getElem?_eq_some_iff.1 hd).1
    have hg0:∃ y,tget m L did q.k=(0,y):=by unfold tget;rw [hp];simp [hb]
    obtain ⟨y,hy⟩:=hg0
    rw [hy] at HGT
    simp only [Cp.ag] at HGT
    have HRW:Hid (∀ w' l',Own w0 w' (RTaG G b o cur m L::l')→Calls Tryz.prog 164 #[.pointer (some ⟨b,o,none⟩),.int .u32 (did:Int)] w' fun e w''=>e=.returned (.int .i64 (r:Int))∧Fr Nobody w' w''):=fun w' l' h'=>by have:=rtrowG w0 w' l' b o cur m L h' hT.ap hL did;rw [hp] at this;exact this
    have HLD:Hid (L[r]? = some (did,C)):=hd
    have hr0:¬ (r:Int) < 0:=by omega
    clear hx HQ hy hp hd hb hin hok hT
    obtain ⟨qk,qa,qb,qc⟩:=q
    obtain ⟨yk,ya,yb,yc⟩:=y
    simp only at z0 z1 z2 z3 HC HGT HA hk ⊢
    go_enter Tryz.func168,Tryz.ntmps168
    go_wp2_with fail
    refine HC.out.mono ?_
    rintro e w1 ⟨rfl,hf⟩
    have H1:Hid (Own w0 w1 _):=HA.out.quiet hf
    have y0:=(HA.out.quiet hf).cell 0
    simp at y0
    clear hf HC z0 z1 z2 z3 HA
    go_wp2_with fail
    refine (HGT.out _ H1.out.two).mono ?_
    rintro e w2 ⟨rfl,hO2⟩
    have H2:Hid (Own w0 (w2.alloc (.cells #[.int .u8 (yk:Int),.int .i32 ya,.int .i32 yb,.int .i32 yc] 46)) (RTaG G b o cur m L::Cells w.heap.size #[.int .u8 (qk:Int),.int .i32 qa,.int .i32 qb,.int .i32 qc] 46::l)):=hO2.alloc _
    clear hO2 H1 y0 HGT
    go_wp2_with fail
    refine (HRW.out _ _ H2.out).mono ?_
    rintro e w3 ⟨rfl,hf3⟩
    have hO3:=(H2.out.quiet hf3).drew
    obtain ⟨v,E,hE,hGE,hO⟩:=RTaG.open hO3
    have HGE:Hid (∀ d∈G,d∈E):=hGE
    clear hGE
    have hlen:E.length=L.length:=by rw [← hE,List.length_map]
    obtain ⟨g,ce,hvv,_⟩:=row_shape hO.two.row (by omega)
    subst hvv
    obtain ⟨d,hd⟩:∃ d,E[r]? = some d:=⟨_,List.getElem?_eq_getElem (by omega)⟩
    have hee:d.e=(did,C):=by
     have:(E.map REnt.e)[r]? = some d.e:=by rw [List.getElem?_map,hd];rfl
     rw [hE,HLD.out] at this
     exact (Option.some.inj this).symm
    obtain ⟨d1,d2,d3,d4⟩:=d
    have e1:d1=did:=(Prod.mk.inj hee).1
    have e2:d2=C:=(Prod.mk.inj hee).2
    subst e1 e2
    have HGI:Hid (∀ d∈G,d.1≠d1):=hG
    clear hG
    obtain ⟨_,p2⟩:=ecell hO.two r _ hd
    simp only at p2
    have p1:=hO.cell (o+1)
    rw [tcur_at HCU.out.2] at p1
    have hbx:∀ w' l2,Own w0 w' (Cells b (cur.setIfInBounds (o+1) (.slice (some ⟨g,0,none⟩) E.length ce)) 186::Row 76 2 (.slice (some ⟨g,0,none⟩) E.length ce) E.length (cat rcells E)::(E.map rrow++(Cells w.heap.size #[.int .u8 (qk:Int),.int .i32 qa,.int .i32 qb,.int .i32 qc] 46::l2)))→Own w0 w' (Cells w.heap.size #[.int .u8 (qk:Int),.int .i32 qa,.int .i32 qb,.int .i32 qc] 46::Cells b (cur.setIfInBounds (o+1) (.slice (some ⟨g,0,none⟩) E.length ce)) 186::Row 76 2 (.slice (some ⟨g,0,none⟩) E.length ce) E.length (cat rcells E)::(E.map rrow++l2)):=by
     intro w' l2 h'
     refine h'.perm ?_
     exact (List.perm_middle (l₁:=Cells b (cur.setIfInBounds (o+1) (.slice (some ⟨g,0,none⟩) E.length ce)) 186::Row 76 2 (.slice (some ⟨g,0,none⟩) E.length ce) E.length (cat rcells E)::E.map rrow) (l₂:=l2))
    have hB:=hbx _ _ hO
    have u0:=hB.cell 0
    have u1:=hB.cell 1
    have u2:=hB.cell 2
    have u3:=hB.cell 3
    simp at u0 u1 u2 u3
    have HWI:Hid (Calls _ _ _ _ _):=rwith_any w0 _ _ hO d3 d2.length d4 d2 rfl (fun w'' h''=>Own.rcs (Own.pick r _ hd h'') rfl) hCk (by omega) ⟨qk,qa,qb,qc⟩ hk
    simp only [Cp.ag] at HWI
    have HES:Hid (E.map REnt.e=L∧E[r]? = some (d1,d2,d3,d4)):=⟨hE,hd⟩
    have hen:r < E.length:=by omega
    have hen':(r:Int) < (E.length:Int):=by omega
    obtain ⟨I,hI⟩:∃ I,I=insc d2 ⟨qk,qa,qb,qc⟩:=⟨_,rfl⟩
    rw [← hI] at HWI HV
    have HFI:Hid (∀ w' a5 c5,Own w0 w' (Row 46 4 (.slice a5 I.length c5) I.length (ccat I)::Cells b (cur.setIfInBounds (o+1) (.slice (some ⟨g,0,none⟩) E.length ce)) 186::Row 76 2 (.slice (some ⟨g,0,none⟩) E.length ce) E.length (cat rcells E)::(E.map rrow++(Cells w.heap.size #[.int .u8 (qk:Int),.int .i32 qa,.int .i32 qb,.int .i32 qc] 46::l)))→Own w0 (w'.setCell ⟨g,r*2+1,none⟩ (.slice a5 I.length c5)) (RTaG G b o cur m (L.set r (d1,I))::l)):=by
     intro w' a5 c5 h5
     have h6:=(h5.three.setR (r*2+1) (.slice a5 I.length c5))
     have e3:=cat_set2 E r _ (d1,I,a5,c5) HES.out.2 rfl
     have e4:(cat rcells E).set (r*2+1) (.slice a5 I.length c5)=cat rcells (E.set r (d1,I,a5,c5)):=e3.symm
     rw [e4] at h6
     have h7:Own w0 (w'.setCell ⟨g,r*2+1,none⟩ (.slice a5 I.length c5)) (Cells b (cur.setIfInBounds (o+1) (.slice (some ⟨g,0,none⟩) E.length ce)) 186::Row 76 2 (.slice (some ⟨g,0,none⟩) E.length ce) E.length (cat rcells (E.set r (d1,I,a5,c5)))::(E.map rrow++(Row 46 4 (.slice a5 I.length c5) I.length (ccat I)::Cells w.heap.size #[.int .u8 (qk:Int),.int .i32 qa,.int .i32 qb,.int .i32 qc] 46::l))):=by
      refine h6.three.perm ?_
      refine List.Perm.cons _ (List.Perm.cons _ ?_)
      exact List.perm_middle.symm
     have h8:=(Own.pick r _ HES.out.2 h7).tail
     refine RTaG.shut (v:=.slice (some ⟨g,0,none⟩) E.length ce) (E:=E.set r (d1,I,a5,c5)) (by rw [List.map_set,HES.out.1];rfl) (fun d hd=>mem_set2 HES.out.2 (HGE.out d hd) (fun hh=>HGI.out d hd (by rw [hh]))) HCU.out ?_
     rw [List.length_set]
     refine Own.unpick (E:=E) r (d1,I,a5,c5) (by rw [List.getElem?_set,if_pos rfl,if_pos hen]) (List.eraseIdx_set_eq) ?_
     have h9:Own w0 (w'.setCell ⟨g,r*2+1,none⟩ (.slice a5 I.length c5)) (Row 46 4 (.slice a5 I.length c5) I.length (ccat I)::Cells b (cur.setIfInBounds (o+1) (.slice (some ⟨g,0,none⟩) E.length ce)) 186::Row 76 2 (.slice (some ⟨g,0,none⟩) E.length ce) E.length (cat rcells (E.set r (d1,I,a5,c5)))::((E.eraseIdx r).map rrow++(Cells w.heap.size #[.int .u8 (qk:Int),.int .i32 qa,.int .i32 qb,.int .i32 qc] 46::l))):=by
      refine h8.perm ?_
      exact (List.perm_middle (l₁:=Cells b (cur.setIfInBounds (o+1) (.slice (some ⟨g,0,none⟩) E.length ce)) 186::Row 76 2 (.slice (some ⟨g,0,none⟩) E.length ce) E.length (cat rcells (E.set r (d1,I,a5,c5)))::(E.eraseIdx r).map rrow))
     have h10:Own w0 (w'.setCell ⟨g,r*2+1,none⟩ (.slice a5 I.length c5)) (Cells w.heap.size #[.int .u8 (qk:Int),.int .i32 qa,.int .i32 qb,.int .i32 qc] 46::Row 46 4 (.slice a5 I.length c5) I.length (ccat I)::Cells b (cur.setIfInBounds (o+1) (.slice (some ⟨g,0,none⟩) E.length ce)) 186::Row 76 2 (.slice (some ⟨g,0,none⟩) E.length ce) E.length (cat rcells (E.set r (d1,I,a5,c5)))::((E.eraseIdx r).map rrow++l)):=by
      refine h9.perm ?_
      exact (List.perm_middle (l₁:=Row 46 4 (.slice a5 I.length c5) I.length (ccat I)::Cells b (cur.setIfInBounds (o+1) (.slice (some ⟨g,0,none⟩) E.length ce)) 186::Row 76 2 (.slice (some ⟨g,0,none⟩) E.length ce) E.length (cat rcells (E.set r (d1,I,a5,c5)))::(E.eraseIdx r).map rrow))
     exact h10.tail
    have HCF:Hid (∀ w' a5 c5,Own w0 w' (Row 46 4 (.slice a5 I.length c5) I.length (ccat I)::Cells b (cur.setIfInBounds (o+1) (.slice (some ⟨g,0,none⟩) E.length ce)) 186::Row 76 2 (.slice (some ⟨g,0,none⟩) E.length ce) E.length (cat rcells E)::(E.map rrow++(Cells w.heap.size #[.int .u8 (qk:Int),.int .i32 qa,.int .i32 qb,.int .i32 qc] 46::l)))→w'.cell? ⟨b,o+1,none⟩=some (.slice (some ⟨g,0,none⟩) E.length ce)∧w'.cell? ⟨g,r*2+1,none⟩=some (.slice d3 d2.length d4)∧w'.frozen? ⟨g,r*2+1,none⟩=false):=by
     intro w' a5 c5 h5
     have t1:=h5.two.cell (o+1)
     rw [tcur_at HCU.out.2] at t1
     have t2:=(ecell h5.three r _ HES.out.2).2
     exact ⟨t1,t2,h5.three.row.frozenAt _⟩
    clear hO hB hO3 hf3 hE hd hee hI hbx HRW HLD H2 hlen
    generalize E.length=en at *
    generalize I.length=il at *
    generalize d2.length=dl at *
    go_wp2_with fail
    go_region_with (
     go_at_call 213
     refine HWI.out.mono ?_
     rintro e w5 ⟨a5,c5,rfl,hO5⟩
     obtain ⟨t1,t2,t3⟩:=HCF.out _ _ _ hO5
     have HF5:Hid (Own w0 _ (RTaG G b o cur m (L.set r (d1,I))::l)):=HFI.out _ _ _ hO5
     clear hO5)
    all_goals
     go_wp2
     go_ret
     rw [HV.out]
     exact ⟨rfl,HF5.out⟩
 ·have HV:Hid (tset m L id q=(x,L)):=by show _=_;unfold tset;rw [if_pos (by rw [hx];exact hx0),hx]
  have hx1:((x:Int) != 0)=true:=by simpa using hx0
  clear hx HQ
  obtain ⟨qk,qa,qb,qc⟩:=q
  simp only at z0 z1 z2 z3 HC HA hk ⊢
  go_enter Tryz.func168,Tryz.ntmps168
  go_wp2_with fail
  refine HC.out.mono ?_
  rintro e w1 ⟨rfl,hf⟩
  have H1:Hid (Own w0 w1 _):=HA.out.quiet hf
  clear hf HC z0 z1 z2 z3
  go_wp2
  go_ret
  rw [HV.out]
  exact ⟨rfl,H1.out.tail⟩
theorem rgetG (w0 w:World) (l:List Thing) (b:Nat) (σ:Sto) (K:Nat) {G:List REnt} (h:Own w0 w (RStG G b σ K::l)) (hσ:σ.Ok) (hK:K≤1000000) (id:Nat) (k:Nat) (hk:k < 256) :
  Calls Tryz.prog 167 #[.pointer (some ⟨b,0,none⟩),.int .u32 (id:Int),.int .u8 (k:Int)] w fun e w'=>e=.returned (.tuple #[(σ.get id k).2.ag,.int .i64 ((σ.get id k).1:Int)])∧Own w0 w' (RStG G b σ K::l):=by
 obtain ⟨x,hx,hgx,h⟩:=RStG.opn h
 have HKP:Hid (KP σ x G):=hgx
 clear hgx
 have HX:Hid (RXok σ x K):=hx
 have hA:=(h.allocC #[.int .u8 0,.int .i32 0,.int .i32 0,.int .i32 0] 46).two
 cases hl:σ.S.isLive id with
 | false =>
  have HV:Hid (σ.get id k=(7,⟨0,0,0,0⟩)):=by show _=_;unfold Sto.get;rw [hl];rfl
  have HE:Hid (Calls _ _ _ _ _):=rentNo w0 _ _ b σ x K hA hx hσ (by omega) id hl
  clear h hA hσ hl hx
  go_enter Tryz.func167,Tryz.ntmps167
  go_wp2_with fail
  refine HE.out.mono ?_
  rintro e w1 ⟨rfl,hO⟩
  have hB:=(hO.alloc (.cells #[.int .u32 0,.slice none 0 0] 76)).two
  have z0:=hB.cell 0
  have z1:=hB.cell 1
  have z2:=hB.cell 2
  have z3:=hB.cell 3
  simp at z0 z1 z2 z3
  have y0:=hB.froz 0
  have y1:=hB.froz 1
  have y2:=hB.froz 2
  have y3:=hB.froz 3
  have hne1:w1.heap.size≠w.heap.size:=by have:=hO.two.lt;omega
  have hne2:w.heap.size≠w1.heap.size:=fun q=>hne1 q.symm
  have HF:Hid (Own w0 _ _):=(((hB.setC 0 (.int .u8 0)).setC 1 (.int .i32 0)).setC 2 (.int .i32 0)).setC 3 (.int .i32 0)
  clear hO hB HE
  go_wp2
  (try simp only [Exit.inBlock,Exit.then])
  refine bodyPost_ret (v:=.tuple #[.agg #[.int .u8 0,.int .i32 0,.int .i32 0,.int .i32 0],.int .i64 7]) ?_ rfl ⟨by rw [HV.out];rfl,RStG.mk HX.out HKP.out HF.out.tail⟩
  rw [results_cell_tmp rfl]
  have r0:=HF.out.cell 0
  have r1:=HF.out.cell 1
  have r2:=HF.out.cell 2
  have r3:=HF.out.cell 3
  simp at r0 r1 r2 r3
  go_simp
 | true =>
  obtain ⟨r,d,hr,hd,hdi,he⟩:=hx.row hσ hl
  obtain ⟨h6,_⟩:=hσ.home hl
  have hT:=hσ.t _ h6
  have HE:Hid (Calls _ _ _ _ _):=rent w0 _ _ b σ x K hA hx hσ (by omega) id hl r hr d hd
  have hgt:∀ kk,σ.get id kk=tget (σ.hom id) (σ.T (σ.hom id)) id kk:=fun kk=>by unfold Sto.get;rw [hl];rfl
  have HG:Hid (∀ i q,d.2.1[i]? = some q→∀ kk,q.k=kk→σ.get id kk=(0,q)):=fun i q hq kk hk=>by rw [hgt];exact tget_has hT hr he hq hk
  have HG2:Hid (hasK d.2.1 k=false→σ.get id k=(10,⟨0,0,0,0⟩)):=fun h=>by rw [hgt];exact tget_not hT hr he h
  have hCk:∀ q∈d.2.1,q.k < 256:=fun q hq=>by have:=chk_k ((lst_ok (hT.ok _ (List.mem_of_getElem? he)).1).2 q hq).2;omega
  have hC6:d.2.1.length≤6:=hT.c6 he
  have HCS:Hid (∀ w' l',Own w0 w' (RSX b σ.S x::l')→Cs w' d.2.2.1 d.2.1):=fun w' l' h'=>by obtain ⟨_,_,_,_,_,_,hc⟩:=RSX.ent w0 w' l' b σ x h' _ r h6 d hd;exact hc
  clear h hA hσ hl hx hr hd hdi he h6 hT hgt
  obtain ⟨d1,d2,d3,d4⟩:=d
  simp only at HE HG HG2 hCk hC6 HCS
  generalize hdl:d2.length=dl at *
  go_enter Tryz.func167,Tryz.ntmps167
  go_wp2_with fail
  refine HE.out.mono ?_
  rintro e w1 ⟨rfl,hO⟩
  have hB:=(hO.allocC #[.int .u32 (d1:Int),.slice d3 dl d4] 76)
  have e1:=hB.cell 1
  simp at e1
  have hcs:=HCS.out _ _ hB.two
  have HFD:Hid (Calls _ _ _ _ _):=find_any _ d3 dl d4 d2 hdl hcs hCk (by omega) k hk
  have hne1:w1.heap.size≠w.heap.size:=by have:=hO.two.lt;omega
  have hne2:w.heap.size≠w1.heap.size:=fun q=>hne1 q.symm
  have HB:Hid (Own w0 _ (Cells w1.heap.size #[.int .u32 (d1:Int),.slice d3 dl d4] 76::RSX b σ.S x::Cells w.heap.size #[.int .u8 0,.int .i32 0,.int .i32 0,.int .i32 0] 46::l)):=hB
  clear hO hB HE hcs
  go_wp2_with fail
  refine HFD.out.mono ?_
  rintro e w2 ⟨r2,rfl,hf2,hcase⟩
  have hO:=HB.out.quiet hf2
  have HC2:Hid (Cs w2 d3 d2):=HCS.out _ _ hO.two
  have f1:=hO.cell 1
  simp at f1
  have hD:=hO.three
  have z0:=hD.cell 0
  have z1:=hD.cell 1
  have z2:=hD.cell 2
  have z3:=hD.cell 3
  simp at z0 z1 z2 z3
  have y0:=hD.froz 0
  have y1:=hD.froz 1
  have y2:=hD.froz 2
  have y3:=hD.froz 3
  have H2:Hid (Own w0 w2 _):=hD
  clear hf2 hO hD HFD HB e1
  rcases hcase with ⟨rfl,hno⟩ | ⟨i,rfl,q,hq,hqk,_⟩
  ·have HV:Hid (σ.get id k=(10,⟨0,0,0,0⟩)):=HG2.out hno
   have HF:Hid (Own w0 _ _):=(((H2.out.setC 0 (.int .u8 0)).setC 1 (.int .i32 0)).setC 2 (.int .i32 0)).setC 3 (.int .i32 0)
   clear hno
   go_wp2
   (try simp only [Exit.inBlock,Exit.then])
   refine bodyPost_ret (v:=.tuple #[.agg #[.int .u8 0,.int .i32 0,.int .i32 0,.int .i32 0],.int .i64 10]) ?_ rfl ⟨by rw [HV.out];rfl,RStG.mk HX.out HKP.out HF.out.tail.tail⟩
   rw [results_cell_tmp rfl]
   have r0:=HF.out.cell 0
   have r1:=HF.out.cell 1
   have r2:=HF.out.cell 2
   have r3:=HF.out.cell 3
   simp at r0 r1 r2 r3
   go_simp
  ·have HV:Hid (σ.get id k=(0,q)):=HG.out i q hq k hqk
   obtain ⟨gc,oc,hac,_,x0,x1,x2,x3⟩:=HC2.out.at i q hq
   subst hac
   have hic:i < dl:=by rw [← hdl];exact (List.getElem?_eq_some_iff.1 hq).1
   have hic':(i:Int) < (dl:Int):=by omega
   have hi0:¬ (i:Int) < 0:=by omega
   clear hq hdl
   obtain ⟨qk,qa,qb,qc⟩:=q
   simp only at x0 x1 x2 x3
   have HF:Hid (Own w0 _ _):=(((H2.out.setC 0 (.int .u8 (qk:Int))).setC 1 (.int .i32 qa)).setC 2 (.int .i32 qb)).setC 3 (.int .i32 qc)
   clear hqk
   go_wp2
   (try simp only [Exit.inBlock,Exit.then])
   refine bodyPost_ret (v:=.tuple #[.agg #[.int .u8 (qk:Int),.int .i32 qa,.int .i32 qb,.int .i32 qc],.int .i64 0]) ?_ rfl ⟨by rw [HV.out];rfl,RStG.mk HX.out HKP.out HF.out.tail.tail⟩
   rw [results_cell_tmp rfl]
   have r0:=HF.out.cell 0
   have r1:=HF.out.cell 1
   have r2:=HF.out.cell 2
   have r3:=HF.out.cell 3
   simp at r0 r1 r2 r3
   go_simp
theorem rsetG (w0 w:World) (l:List Thing) (b:Nat) (σ:Sto) (K:Nat) {G:List REnt} (h:Own w0 w (RStG G b σ K::l)) (hσ:σ.Ok) (id:Nat) (hG:∀ d∈G,d.1≠id) (hid:id < 4294967296) (q:Cp) (hk:q.k < 256) (hK:K < 1000000) :
  Calls Tryz.prog 113 #[.pointer (some ⟨b,0,none⟩),.int .u32 (id:Int),q.ag] w fun e w'=>e=.returned (.int .i64 (σ.set id q).1)∧Own w0 w' (RStG G b (σ.set id q).2 K::l):=by
 have hA:=h.allocC #[.int .u8 (q.k:Int),.int .i32 q.a,.int .i32 q.b,.int .i32 q.c] 46
 have z0:=hA.cell 0
 have z1:=hA.cell 1
 have z2:=hA.cell 2
 have z3:=hA.cell 3
 simp at z0 z1 z2 z3
 have HC:Hid (Calls _ _ _ _ _):=rcheck3 (w.alloc (.cells #[.int .u8 (q.k:Int),.int .i32 q.a,.int .i32 q.b,.int .i32 q.c] 46)) q.k hk q.a q.b q.c
 have HA:Hid (Own w0 _ (Cells w.heap.size #[.int .u8 (q.k:Int),.int .i32 q.a,.int .i32 q.b,.int .i32 q.c] 46::RStG G b σ K::l)):=hA
 have HQ:Hid (q.chk=chk q.k (f3 q.a q.b q.c)):=rfl
 clear h hA
 unfold Cp.ag
 obtain ⟨x,hx⟩:∃ x,q.chk=x:=⟨_,rfl⟩
 rw [← HQ.out,hx] at HC
 by_cases hx0:x=0
 ·subst hx0
  have HGT:Hid (∀ w',Own w0 w' (RStG G b σ K::Cells w.heap.size #[.int .u8 (q.k:Int),.int .i32 q.a,.int .i32 q.b,.int .i32 q.c] 46::l)→Calls Tryz.prog 167 #[.pointer (some ⟨b,0,none⟩),.int .u32 (id:Int),.int .u8 (q.k:Int)] w' fun e w''=>e=.returned (.tuple #[(σ.get id q.k).2.ag,.int .i64 ((σ.get id q.k).1:Int)])∧Own w0 w'' (RStG G b σ K::Cells w.heap.size #[.int .u8 (q.k:Int),.int .i32 q.a,.int .i32 q.b,.int .i32 q.c] 46::l)):=fun w' h'=>rgetG w0 w' _ b σ K h' hσ (by omega) id q.k hk
  have hcode:=Sto.get_code (id:=id) hσ q.k
  obtain ⟨⟨cd,y⟩,hy⟩:∃ p,σ.get id q.k=p:=⟨_,rfl⟩
  rw [hy] at hcode HGT
  simp only at hcode HGT
  by_cases hcd:cd=0
  ·subst hcd
   have hl:σ.S.isLive id=true:=by
    cases hl:σ.S.isLive id with
    | true=>rfl
    | false=>rw [hl] at hcode;simp at hcode
   have hh:hasK (σ.cps id) q.k=true:=by
    cases hh:hasK (σ.cps id) q.k with
    | true=>rfl
    | false=>rw [hl,hh] at hcode;simp at hcode
   obtain ⟨r,C,hr,he,hlC,_,h6⟩:=hσ.ent hl
   have HV:Hid (σ.set id q=(0,{ σ with T:=upd σ.T (σ.hom id) ((σ.T (σ.hom id)).set r (id,setc C q)) })):=by
    show _=_
    unfold Sto.set
    rw [if_neg (by simp [hx]),if_neg (by simp [hl]),if_neg (by simp [hh]),hr,Sto.cps_of hr he]
    rfl
   rw [Sto.cps_of hr he] at hh
   have htset:tset (σ.hom id) (σ.T (σ.hom id)) id q=(0,(σ.T (σ.hom id)).set r (id,setc C q)):=by
    unfold tset
    rw [if_neg (by simp [hx]),hr]
    simp only
    rw [if_pos (by rw [hasK_hom hσ hl he];exact hh),he]
    rfl
   have HFD:Hid (∀ w' l',Own w0 w' (RStG G b σ K::l')→Calls Tryz.prog 163 #[.pointer (some ⟨b,0,none⟩),.int .u32 (id:Int)] w' fun e w''=>e=.returned (.pointer (some ⟨b,1+σ.hom id*2,none⟩))∧Fr Nobody w' w''):=fun w' l' h'=>rfindS w0 w' l' b σ K (RStG.less h') hσ (by omega) id hl
   have HST:Hid (∀ w' l',Own w0 w' (RStG G b σ K::l')→Calls Tryz.prog 168 #[.pointer (some ⟨b,1+σ.hom id*2,none⟩),.int .u32 (id:Int),q.ag] w' fun e w''=>e=.returned (.int .i64 0)∧Own w0 w'' (RStG G b (σ.set id q).2 K::l')):=by
    intro w' l' h'
    obtain ⟨x,hx',hgx,h'⟩:=RStG.opn h'
    have h2:=RSX.outG (G:=gAt σ G (σ.hom id)) h' h6 (gAt_in hgx _)
    rw [hx'.E _ h6] at h2
    refine (rtsetG w0 w' _ b _ _ _ _ h2 (hσ.t _ h6) id (fun d hd=>hG d (gAt_sub hd)) hid q hk (by have:=hx'.len _ h6;omega)).mono ?_
    rintro e w'' ⟨rfl,h3⟩
    rw [htset] at h3 ⊢
    obtain ⟨v',E',hE,hGE,h4⟩:=RSX.intoG h6 h3
    rw [HV.out]
    refine ⟨rfl,RStG.mk (σ:={ σ with T:=upd σ.T (σ.hom id) ((σ.T (σ.hom id)).set r (id,setc C q)) }) (hx'.upd h6 hE ?_) (KP.upd hgx hGE rfl (fun _ _=>rfl)) h4⟩
    rw [List.length_set];exact hx'.len _ h6
   clear hx HQ hy hr he hl hh htset hσ hlC h6 hcode
   generalize σ.hom id=m at *
   obtain ⟨qk,qa,qb,qc⟩:=q
   obtain ⟨yk,ya,yb,yc⟩:=y
   simp only [Cp.ag] at z0 z1 z2 z3 HC HGT HA hk HST ⊢
   go_enter Tryz.func113,Tryz.ntmps113
   go_wp2_with fail
   refine HC.out.mono ?_
   rintro e w1 ⟨rfl,hf⟩
   have H1:Hid (Own w0 w1 _):=HA.out.quiet hf
   have y0:=(HA.out.quiet hf).cell 0
   simp at y0
   clear hf HC z0 z1 z2 z3 HA
   go_wp2_with fail
   refine (HGT.out _ H1.out.two).mono ?_
   rintro e w2 ⟨rfl,hO2⟩
   have hO3:=(hO2.alloc (.cells #[.int .u8 (yk:Int),.int .i32 ya,.int .i32 yb,.int .i32 yc] 46)).drew
   have u0:=hO3.two.cell 0
   have u1:=hO3.two.cell 1
   have u2:=hO3.two.cell 2
   have u3:=hO3.two.cell 3
   simp at u0 u1 u2 u3
   have H2:Hid (Own w0 _ (RStG G b σ K::Cells w.heap.size #[.int .u8 (qk:Int),.int .i32 qa,.int .i32 qb,.int .i32 qc] 46::l)):=hO3
   clear hO2 hO3 H1 y0 HGT
   go_wp2_with fail
   go_region_with (first
    | (go_at_call 163
       refine (HFD.out _ _ H2.out).mono ?_
       rintro e w3 ⟨rfl,hf3⟩
       have hO3:=H2.out.quiet hf3
       have v0:=hO3.two.cell 0
       have v1:=hO3.two.cell 1
       have v2:=hO3.two.cell 2
       have v3:=hO3.two.cell 3
       simp at v0 v1 v2 v3
       have H3:Hid (Own w0 w3 _):=hO3
       clear hO3 hf3)
    | (go_at_call 168
       refine (HST.out _ _ H3.out).mono ?_
       rintro e w4 ⟨rfl,hO4⟩
       have H4:Hid (Own w0 w4 _):=hO4
       clear hO4))
   all_goals
    go_wp2
    go_ret
    rw [HV.out] at H4 ⊢
    exact ⟨rfl,H4.out.two.tail⟩
  ·have hy0:y=⟨0,0,0,0⟩:=by
    have:=Sto.get_bad (id:=id) hσ q.k (by rw [hy];exact hcd)
    rw [hy] at this;exact this
   subst hy0
   have HV:Hid (σ.set id q=((cd:Int),σ)):=by
    show _=_
    unfold Sto.set
    rw [if_neg (by simp [hx])]
    split at hcode
    ·rename_i hl;rw [if_pos hl,hcode];rfl
    ·rename_i hl
     rw [if_neg hl]
     split at hcode
     ·rename_i hh;rw [if_pos hh,hcode];rfl
     ·exact absurd hcode hcd
   have hcd0:((cd:Int) != 0)=true:=by rw [bne_iff_ne];omega
   clear hx HQ hy hcode hσ
   obtain ⟨qk,qa,qb,qc⟩:=q
   simp only [Cp.ag] at z0 z1 z2 z3 HC HGT HA hk ⊢
   go_enter Tryz.func113,Tryz.ntmps113
   go_wp2_with fail
   refine HC.out.mono ?_
   rintro e w1 ⟨rfl,hf⟩
   have H1:Hid (Own w0 w1 _):=HA.out.quiet hf
   have y0:=(HA.out.quiet hf).cell 0
   simp at y0
   clear hf HC z0 z1 z2 z3
   go_wp2_with fail
   refine (HGT.out _ H1.out.two).mono ?_
   rintro e w2 ⟨rfl,hO2⟩
   have H2:Hid (Own w0 w2 _):=hO2
   clear hO2 H1 y0 HGT
   go_wp2
   go_ret
   rw [HV.out]
   exact ⟨rfl,(H2.out.two.tail).alloc _⟩
 ·have HV:Hid (σ.set id q=((x:Int),σ)):=by show _=_;unfold Sto.set;rw [if_pos (by rw [hx];exact hx0),hx]
  have hx1:((x:Int) != 0)=true:=by simpa using hx0
  clear hx HQ hσ
  obtain ⟨qk,qa,qb,qc⟩:=q
  simp only at z0 z1 z2 z3 HC HA hk ⊢
  go_enter Tryz.func113,Tryz.ntmps113
  go_wp2_with fail
  refine HC.out.mono ?_
  rintro e w1 ⟨rfl,hf⟩
  have H1:Hid (Own w0 w1 _):=HA.out.quiet hf
  clear hf HC z0 z1 z2 z3
  go_wp2
  go_ret
  rw [HV.out]
  exact ⟨rfl,H1.out.tail⟩
theorem fit_one1 {C:List Cp} (hC:∀ q∈C,q.k < 6) (k:Nat):fitb (2 ^ k) 0 (msk C)=hasK C k:=by
 rw [hasK_tb1 hC]
 unfold fitb
 simp only [Nat.and_zero,decide_true,Bool.and_true]
 have e:msk C &&& 2 ^ k=if (msk C).testBit k then 2 ^ k else 0:=by
  apply Nat.eq_of_testBit_eq
  intro i
  rw [Nat.testBit_and,Nat.testBit_two_pow]
  by_cases hki:k=i
  ·subst hki
   cases h:(msk C).testBit k <;> simp
  ·cases h:(msk C).testBit k <;> simp [hki]
 rw [e]
 cases h:(msk C).testBit k
 ·have:=Nat.two_pow_pos k
  simp
  omega
 ·simp
theorem cps61 {σ:Sto} (hσ:σ.Ok) {id:Nat} (hl:σ.S.isLive id=true):lst (-1) (σ.cps id)=0∧∀ q∈σ.cps id,q.k < 6:=by
 obtain ⟨r,C,hr,he,hlC,_⟩:=hσ.ent hl
 rw [Sto.cps_of hr he]
 exact ⟨hlC,fun q hq=>chk_k ((lst_ok hlC).2 q hq).2⟩
theorem find_one1 {σ:Sto} (hσ:σ.Ok) (k:Nat):σ.find (2 ^ k) 0=σ.S.list.filter (fun id=>hasK (σ.cps id) k):=by
 unfold Sto.find
 refine List.filter_congr (fun id hid=>?_)
 rw [fit_one1 (cps61 hσ (St.list_iv1 hσ.s hid).1).2]
theorem Sto.set_oth {σ:Sto} (h:σ.Ok) (id:Nat) (c:Cp) {x:Nat} (hx:σ.S.isLive x=true) (hne:x≠id):(σ.set id c).2.cps x=σ.cps x:=by
 by_cases hc:c.chk=0
 ·cases hl:σ.S.isLive id with
  | false=>unfold Sto.set;rw [if_neg (by simp [hc]),if_pos (by simp [hl])]
  | true =>
   cases hh:hasK (σ.cps id) c.k with
   | false=>unfold Sto.set;rw [if_neg (by simp [hc]),if_neg (by simp [hl]),if_pos (by simp [hh])]
   | true=>rw [Sto.set_cps h hc hl hh hx,if_neg hne]
 ·unfold Sto.set;rw [if_pos hc]
theorem Sto.ag_oth {σ:Sto} (h:σ.Ok) {id x:Nat} (hl:σ.S.isLive id=true) (hx:σ.S.isLive x=true) (hne:x≠id):(σ.ag id).2.cps x=σ.cps x:=by
 unfold Sto.ag
 split
 ·exact (Sto.despawn_live h hl hx hne).2
 ·exact Sto.set_oth h _ _ hx hne
theorem Sto.ags_oth {σ:Sto} (h:σ.Ok) (L:List Nat):L.Nodup→(∀ x∈L,σ.S.isLive x=true)→∀ x,σ.S.isLive x=true→x ∉ L→(σ.ags L).1.cps x=σ.cps x:=by
 refine snoc_ind (P:=fun L=>L.Nodup→(∀ x∈L,σ.S.isLive x=true)→∀ x,σ.S.isLive x=true→x ∉ L→(σ.ags L).1.cps x=σ.cps x) (fun _ _ x _ _=>rfl) ?_ L
 intro L id ih hnd hlv x hx hxn
 rw [List.nodup_append] at hnd
 have hlv':∀ x∈L,σ.S.isLive x=true:=fun x hx=>hlv x (by simp [hx])
 obtain ⟨i1,i3,_⟩:=Sto.ags_inv h L hnd.1 hlv'
 have hid:id ∉ L:=fun hm=>hnd.2.2 id hm id (by simp) rfl
 rw [Sto.ags_snoc]
 have hxL:x ∉ L:=fun hm=>hxn (by simp [hm])
 simp only
 rw [Sto.ag_oth i1 (i3 id (hlv id (by simp)) hid).1 (i3 x hx hxL).1 (fun hh=>hxn (by simp [hh]))]
 exact ih hnd.1 hlv' x hx hxL
theorem gv_is {σ:Sto} (hσ:σ.Ok) {id:Nat} (hl:σ.S.isLive id=true) {q:Cp} (hq:q∈σ.cps id):σ.gv id q.k=q∧q.chk=0:=by
 obtain ⟨r,C,hr,he,hlC,_⟩:=hσ.ent hl
 have hc:=Sto.cps_of hr he
 rw [hc] at hq
 refine ⟨?_,(lst_ok hlC).2 q hq |>.2⟩
 unfold Sto.gv
 rw [hc,if_pos ((hasK_iff C q.k).2 ⟨q,hq,rfl⟩),fv_of hlC hq]
 rfl
theorem not_take {X:List Nat} (hnd:X.Nodup) {j id:Nat} (hd:X[j]? = some id):id ∉ X.take j:=by
 intro hm
 obtain ⟨i,hi'⟩:=List.mem_iff_getElem?.1 hm
 rw [List.getElem?_take] at hi'
 split at hi'
 ·rename_i hij
  unfold List.Nodup at hnd
  rw [List.pairwise_iff_getElem] at hnd
  obtain ⟨p1,p2⟩:=List.getElem?_eq_some_iff.1 hi'
  obtain ⟨p3,p4⟩:=List.getElem?_eq_some_iff.1 hd
  exact hnd i j p1 p3 hij (by rw [p2,p4])
 ·cases hi'
theorem not_drop {X:List Nat} (hnd:X.Nodup) {j id:Nat} (hd:X[j]? = some id):id ∉ X.drop (j+1):=by
 intro hm
 obtain ⟨i,hi'⟩:=List.mem_iff_getElem?.1 hm
 rw [List.getElem?_drop] at hi'
 unfold List.Nodup at hnd
 rw [List.pairwise_iff_getElem] at hnd
 obtain ⟨p1,p2⟩:=List.getElem?_eq_some_iff.1 hi'
 obtain ⟨p3,p4⟩:=List.getElem?_eq_some_iff.1 hd
 exact hnd j (j+1+i) p3 p1 (by omega) (by rw [p2,p4])
theorem drop_at {α:Type} {L:List α} {j:Nat} {d:α} (hd:L[j]? = some d):d∈L.drop j:=List.mem_of_getElem? (i:=0) (by rw [List.getElem?_drop];exact hd)
theorem drop_sub {α:Type} {L:List α} {j:Nat}:∀ d∈L.drop (j+1),d∈L.drop j:=by
 intro d hd
 obtain ⟨i,hi⟩:=List.mem_iff_getElem?.1 hd
 rw [List.getElem?_drop] at hi
 exact List.mem_of_getElem? (i:=i+1) (by rw [List.getElem?_drop];rw [show j+(i+1)=j+1+i by omega];exact hi)
theorem life_0 {q:Cp} (hk:q.k=2) (h:q.chk=0):q.b=0∧q.c=0:=by
 unfold Cp.chk chk at h
 rw [if_neg (by omega)] at h
 split at h
 ·cases h
 ·rename_i hs
  have hs':stray q.k (f3 q.a q.b q.c)=false:=by simpa using hs
  rw [hk] at hs'
  simpa [stray,cnt,kinds,f3,List.range,List.range.loop] using hs'
end Go.Proofs.YtogmdoiecpihdaaGreatDoor
