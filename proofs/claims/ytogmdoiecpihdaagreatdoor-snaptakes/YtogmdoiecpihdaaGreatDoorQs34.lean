/- The document's store: Get, Set, turn, Add, Remove. -/
import Derived.Test.YtogmdoiecpihdaaGreatDoorQs28
import Derived.Test.YtogmdoiecpihdaaGreatDoorQs33
namespace Go.Proofs.YtogmdoiecpihdaaGreatDoor
open Go.RowKit Go.Maps
set_option linter.unusedVariables false
set_option maxHeartbeats 4000000
set_option maxRecDepth 100000
def Sto.get (σ:Sto) (id k:Nat):Nat × Cp:=if σ.S.isLive id then tget (σ.hom id) (σ.T (σ.hom id)) id k else (7,⟨0,0,0,0⟩)
theorem insc_insw {C:List Cp} {c:Cp} (h:hasK C c.k=false):insc C c=insw C c:=by
 unfold insc insw
 congr 2
 refine List.filter_eq_self.2 (fun q hq=>?_)
 have hm:q∈C:=(List.dropWhile_suffix _).subset hq
 simp only [ne_eq,decide_not,Bool.not_eq_eq_eq_not,Bool.not_true,decide_eq_false_iff_not]
 intro he
 have:hasK C c.k=true:=(hasK_iff C c.k).2 ⟨q,hm,he⟩
 rw [h] at this;cases this
theorem hasK_hom {σ:Sto} {id r:Nat} {C:List Cp} (hσ:σ.Ok) (hl:σ.S.isLive id=true) (he:(σ.T (σ.hom id))[r]? = some (id,C)) (k:Nat):bt (σ.hom id) k=hasK C k:=by
 obtain ⟨h6,_⟩:=hσ.home hl
 obtain ⟨h1,h2⟩:=(hσ.t _ h6).ok _ (List.mem_of_getElem? he)
 simp only at h1 h2
 by_cases hk:k < 6
 ·rw [← h2];exact bt_msk C k hk
 ·cases hb:bt (σ.hom id) k with
  | true=>exact (hasK_bt h2 h6 hb).symm
  | false =>
   cases hh:hasK C k with
   | false=>rfl
   | true =>
    obtain ⟨q,hq,hqk⟩:=(hasK_iff C k).1 hh
    have:=chk_k ((lst_ok h1).2 q hq).2
    omega
theorem Sto.get_code {σ:Sto} {id:Nat} (hσ:σ.Ok) (k:Nat):(σ.get id k).1=if σ.S.isLive id=false then 7 else if hasK (σ.cps id) k=false then 10 else 0:=by
 unfold Sto.get
 cases hl:σ.S.isLive id with
 | false=>rfl
 | true =>
  obtain ⟨r,C,hr,he,_⟩:=hσ.ent hl
  simp only [if_true,Bool.true_eq_false,if_false]
  rw [Sto.cps_of hr he,← hasK_hom hσ hl he]
  unfold tget
  rw [hr]
  simp only
  cases bt (σ.hom id) k <;> simp
theorem Sto.get_bad {σ:Sto} {id:Nat} (hσ:σ.Ok) (k:Nat) (h:(σ.get id k).1≠0):(σ.get id k).2=⟨0,0,0,0⟩:=by
 unfold Sto.get at h ⊢
 split at h
 ·rename_i hl
  rw [if_pos hl]
  unfold tget at h ⊢
  split at h
  ·rfl
  ·rename_i r hp
   split at h
   ·exact absurd rfl h
   ·rename_i hb;rw [if_neg hb]
 ·rename_i hl
  rw [if_neg hl]
section
variable (w0 w:World) (l:List Thing) (b:Nat) (σ:Sto) (K:Nat)
theorem rfindS (h:Own w0 w (RSto b σ K::l)) (hσ:σ.Ok) (hK:K≤1000000) (id:Nat) (hl:σ.S.isLive id=true) :
  Calls Tryz.prog 163 #[.pointer (some ⟨b,0,none⟩),.int .u32 (id:Int)] w fun e w'=>e=.returned (.pointer (some ⟨b,1+σ.hom id*2,none⟩))∧Fr Nobody w w':=by
 obtain ⟨x,hx,h'⟩:=RSto.opn h
 obtain ⟨hw,h6⟩:=whr_live hσ hl
 have:=rfind w0 w l b σ x K h' hx hσ.t hK id _ hw
 rw [if_pos h6] at this
 exact this
theorem rgetS (h:Own w0 w (RSto b σ K::l)) (hσ:σ.Ok) (hK:K≤1000000) (id:Nat) (k:Nat) (hk:k < 256) :
  Calls Tryz.prog 167 #[.pointer (some ⟨b,0,none⟩),.int .u32 (id:Int),.int .u8 (k:Int)] w fun e w'=>e=.returned (.tuple #[(σ.get id k).2.ag,.int .i64 ((σ.get id k).1:Int)])∧Own w0 w' (RSto b σ K::l):=by
 obtain ⟨x,hx,h⟩:=RSto.opn h
 have HX:Hid (RXok σ x K):=hx
 have hA:=(h.allocC #[.int .u8 0,.int .i32 0,.int .i32 0,.int .i32 0] 46).two
 cases hl:σ.S.isLive id with
 | false =>
  have HV:Hid (σ.get id k=(7,⟨0,0,0,0⟩)):=by show _=_;unfold Sto.get;rw [hl];rfl
  have HE:Hid (Calls _ _ _ _ _):=rentNo w0 _ _ b σ x K hA hx hσ (by omega) id hl
  clear h hA hσ hl hx
  go_enter Tryz.func167,Tryz.ntmps167
  go_wp2_with fail
  refine HE.out.mono ?_
  rintro e w1 ⟨rfl,hO⟩
  have hB:=(hO.alloc (.cells #[.int .u32 0,.slice none 0 0] 76)).two
  have z0:=hB.cell 0
  have z1:=hB.cell 1
  have z2:=hB.cell 2
  have z3:=hB.cell 3
  simp at z0 z1 z2 z3
  have y0:=hB.froz 0
  have y1:=hB.froz 1
  have y2:=hB.froz 2
  have y3:=hB.froz 3
  have hne1:w1.heap.size≠w.heap.size:=by have:=hO.two.lt;omega
  have hne2:w.heap.size≠w1.heap.size:=fun q=>hne1 q.symm
  have HF:Hid (Own w0 _ _):=(((hB.setC 0 (.int .u8 0)).setC 1 (.int .i32 0)).setC 2 (.int .i32 0)).setC 3 (.int .i32 0)
  clear hO hB HE
  go_wp2
  (try simp only [Exit.inBlock,Exit.then])
  refine bodyPost_ret (v:=.tuple #[.agg #[.int .u8 0,.int .i32 0,.int .i32 0,.int .i32 0],.int .i64 7]) ?_ rfl ⟨by rw [HV.out];rfl,RSto.mk HX.out HF.out.tail⟩
  rw [results_cell_tmp rfl]
  have r0:=HF.out.cell 0
  have r1:=HF.out.cell 1
  have r2:=HF.out.cell 2
  have r3:=HF.out.cell 3
  simp at r0 r1 r2 r3
  go_simp
 | true =>
  obtain ⟨r,d,hr,hd,hdi,he⟩:=hx.row hσ hl
  obtain ⟨h6,_⟩:=hσ.home hl
  have hT:=hσ.t _ h6
  have HE:Hid (Calls _ _ _ _ _):=rent w0 _ _ b σ x K hA hx hσ (by omega) id hl r hr d hd
  have hgt:∀ kk,σ.get id kk=tget (σ.hom id) (σ.T (σ.hom id)) id kk:=fun kk=>by unfold Sto.get;rw [hl];rfl
  have HG:Hid (∀ i q,d.2.1[i]? = some q→∀ kk,q.k=kk→σ.get id kk=(0,q)):=fun i q hq kk hk=>by rw [hgt];exact tget_has hT hr he hq hk
  have HG2:Hid (hasK d.2.1 k=false→σ.get id k=(10,⟨0,0,0,0⟩)):=fun h=>by rw [hgt];exact tget_not hT hr he h
  have hCk:∀ q∈d.2.1,q.k < 256:=fun q hq=>by have:=chk_k ((lst_ok (hT.ok _ (List.mem_of_getElem? he)).1).2 q hq).2;omega
  have hC6:d.2.1.length≤6:=hT.c6 he
  have HCS:Hid (∀ w' l',Own w0 w' (RSX b σ.S x::l')→Cs w' d.2.2.1 d.2.1):=fun w' l' h'=>by obtain ⟨_,_,_,_,_,_,hc⟩:=RSX.ent w0 w' l' b σ x h' _ r h6 d hd;exact hc
  clear h hA hσ hl hx hr hd hdi he h6 hT hgt
  obtain ⟨d1,d2,d3,d4⟩:=d
  simp only at HE HG HG2 hCk hC6 HCS
  generalize hdl:d2.length=dl at *
  go_enter Tryz.func167,Tryz.ntmps167
  go_wp2_with fail
  refine HE.out.mono ?_
  rintro e w1 ⟨rfl,hO⟩
  have hB:=(hO.allocC #[.int .u32 (d1:Int),.slice d3 dl d4] 76)
  have e1:=hB.cell 1
  simp at e1
  have hcs:=HCS.out _ _ hB.two
  have HFD:Hid (Calls _ _ _ _ _):=find_any _ d3 dl d4 d2 hdl hcs hCk (by omega) k hk
  have hne1:w1.heap.size≠w.heap.size:=by have:=hO.two.lt;omega
  have hne2:w.heap.size≠w1.heap.size:=fun q=>hne1 q.symm
  have HB:Hid (Own w0 _ (Cells w1.heap.size #[.int .u32 (d1:Int),.slice d3 dl d4] 76::RSX b σ.S x::Cells w.heap.size #[.int .u8 0,.int .i32 0,.int .i32 0,.int .i32 0] 46::l)):=hB
  clear hO hB HE hcs
  go_wp2_with fail
  refine HFD.out.mono ?_
  rintro e w2 ⟨r2,rfl,hf2,hcase⟩
  have hO:=HB.out.quiet hf2
  have HC2:Hid (Cs w2 d3 d2):=HCS.out _ _ hO.two
  have f1:=hO.cell 1
  simp at f1
  have hD:=hO.three
  have z0:=hD.cell 0
  have z1:=hD.cell 1
  have z2:=hD.cell 2
  have z3:=hD.cell 3
  simp at z0 z1 z2 z3
  have y0:=hD.froz 0
  have y1:=hD.froz 1
  have y2:=hD.froz 2
  have y3:=hD.froz 3
  have H2:Hid (Own w0 w2 _):=hD
  clear hf2 hO hD HFD HB e1
  rcases hcase with ⟨rfl,hno⟩ | ⟨i,rfl,q,hq,hqk,_⟩
  ·have HV:Hid (σ.get id k=(10,⟨0,0,0,0⟩)):=HG2.out hno
   have HF:Hid (Own w0 _ _):=(((H2.out.setC 0 (.int .u8 0)).setC 1 (.int .i32 0)).setC 2 (.int .i32 0)).setC 3 (.int .i32 0)
   clear hno
   go_wp2
   (try simp only [Exit.inBlock,Exit.then])
   refine bodyPost_ret (v:=.tuple #[.agg #[.int .u8 0,.int .i32 0,.int .i32 0,.int .i32 0],.int .i64 10]) ?_ rfl ⟨by rw [HV.out];rfl,RSto.mk HX.out HF.out.tail.tail⟩
   rw [results_cell_tmp rfl]
   have r0:=HF.out.cell 0
   have r1:=HF.out.cell 1
   have r2:=HF.out.cell 2
   have r3:=HF.out.cell 3
   simp at r0 r1 r2 r3
   go_simp
  ·have HV:Hid (σ.get id k=(0,q)):=HG.out i q hq k hqk
   obtain ⟨gc,oc,hac,_,x0,x1,x2,x3⟩:=HC2.out.at i q hq
   subst hac
   have hic:i < dl:=by rw [← hdl];exact (List.getElem?_eq_some_iff.1 hq).1
   have hic':(i:Int) < (dl:Int):=by omega
   have hi0:¬ (i:Int) < 0:=by omega
   clear hq hdl
   obtain ⟨qk,qa,qb,qc⟩:=q
   simp only at x0 x1 x2 x3
   have HF:Hid (Own w0 _ _):=(((H2.out.setC 0 (.int .u8 (qk:Int))).setC 1 (.int .i32 qa)).setC 2 (.int .i32 qb)).setC 3 (.int .i32 qc)
   clear hqk
   go_wp2
   (try simp only [Exit.inBlock,Exit.then])
   refine bodyPost_ret (v:=.tuple #[.agg #[.int .u8 (qk:Int),.int .i32 qa,.int .i32 qb,.int .i32 qc],.int .i64 0]) ?_ rfl ⟨by rw [HV.out];rfl,RSto.mk HX.out HF.out.tail.tail⟩
   rw [results_cell_tmp rfl]
   have r0:=HF.out.cell 0
   have r1:=HF.out.cell 1
   have r2:=HF.out.cell 2
   have r3:=HF.out.cell 3
   simp at r0 r1 r2 r3
   go_simp
theorem rsetS (h:Own w0 w (RSto b σ K::l)) (hσ:σ.Ok) (id:Nat) (hid:id < 4294967296) (q:Cp) (hk:q.k < 256) (hK:K < 1000000) :
  Calls Tryz.prog 113 #[.pointer (some ⟨b,0,none⟩),.int .u32 (id:Int),q.ag] w fun e w'=>e=.returned (.int .i64 (σ.set id q).1)∧Own w0 w' (RSto b (σ.set id q).2 K::l):=by
 have hA:=h.allocC #[.int .u8 (q.k:Int),.int .i32 q.a,.int .i32 q.b,.int .i32 q.c] 46
 have z0:=hA.cell 0
 have z1:=hA.cell 1
 have z2:=hA.cell 2
 have z3:=hA.cell 3
 simp at z0 z1 z2 z3
 have HC:Hid (Calls _ _ _ _ _):=rcheck3 (w.alloc (.cells #[.int .u8 (q.k:Int),.int .i32 q.a,.int .i32 q.b,.int .i32 q.c] 46)) q.k hk q.a q.b q.c
 have HA:Hid (Own w0 _ (Cells w.heap.size #[.int .u8 (q.k:Int),.int .i32 q.a,.int .i32 q.b,.int .i32 q.c] 46::RSto b σ K::l)):=hA
 have HQ:Hid (q.chk=chk q.k (f3 q.a q.b q.c)):=rfl
 clear h hA
 unfold Cp.ag
 obtain ⟨x,hx⟩:∃ x,q.chk=x:=⟨_,rfl⟩
 rw [← HQ.out,hx] at HC
 by_cases hx0:x=0
 ·subst hx0
  have HGT:Hid (∀ w',Own w0 w' (RSto b σ K::Cells w.heap.size #[.int .u8 (q.k:Int),.int .i32 q.a,.int .i32 q.b,.int .i32 q.c] 46::l)→Calls Tryz.prog 167 #[.pointer (some ⟨b,0,none⟩),.int .u32 (id:Int),.int .u8 (q.k:Int)] w' fun e w''=>e=.returned (.tuple #[(σ.get id q.k).2.ag,.int .i64 ((σ.get id q.k).1:Int)])∧Own w0 w'' (RSto b σ K::Cells w.heap.size #[.int .u8 (q.k:Int),.int .i32 q.a,.int .i32 q.b,.int .i32 q.c] 46::l)):=fun w' h'=>rgetS w0 w' _ b σ K h' hσ (by omega) id q.k hk
  have hcode:=Sto.get_code (id:=id) hσ q.k
  obtain ⟨⟨cd,y⟩,hy⟩:∃ p,σ.get id q.k=p:=⟨_,rfl⟩
  rw [hy] at hcode HGT
  simp only at hcode HGT
  by_cases hcd:cd=0
  ·subst hcd
   have hl:σ.S.isLive id=true:=by
    cases hl:σ.S.isLive id with
    | true=>rfl
    | false=>rw [hl] at hcode;simp at hcode
   have hh:hasK (σ.cps id) q.k=true:=by
    cases hh:hasK (σ.cps id) q.k with
    | true=>rfl
    | false=>rw [hl,hh] at hcode;simp at hcode
   obtain ⟨r,C,hr,he,hlC,_,h6⟩:=hσ.ent hl
   have HV:Hid (σ.set id q=(0,{ σ with T:=upd σ.T (σ.hom id) ((σ.T (σ.hom id)).set r (id,setc C q)) })):=by
    show _=_
    unfold Sto.set
    rw [if_neg (by simp [hx]),if_neg (by simp [hl]),if_neg (by simp [hh]),hr,Sto.cps_of hr he]
    rfl
   rw [Sto.cps_of hr he] at hh
   have htset:tset (σ.hom id) (σ.T (σ.hom id)) id q=(0,(σ.T (σ.hom id)).set r (id,setc C q)):=by
    unfold tset
    rw [if_neg (by simp [hx]),hr]
    simp only
    rw [if_pos (by rw [hasK_hom hσ hl he];exact hh),he]
    rfl
   have HFD:Hid (∀ w' l',Own w0 w' (RSto b σ K::l')→Calls Tryz.prog 163 #[.pointer (some ⟨b,0,none⟩),.int .u32 (id:Int)] w' fun e w''=>e=.returned (.pointer (some ⟨b,1+σ.hom id*2,none⟩))∧Fr Nobody w' w''):=fun w' l' h'=>rfindS w0 w' l' b σ K h' hσ (by omega) id hl
   have HST:Hid (∀ w' l',Own w0 w' (RSto b σ K::l')→Calls Tryz.prog 168 #[.pointer (some ⟨b,1+σ.hom id*2,none⟩),.int .u32 (id:Int),q.ag] w' fun e w''=>e=.returned (.int .i64 0)∧Own w0 w'' (RSto b (σ.set id q).2 K::l')):=by
    intro w' l' h'
    obtain ⟨x,hx',h'⟩:=RSto.opn h'
    have h2:=RSX.out h' h6
    rw [hx'.E _ h6] at h2
    refine (rtsetC w0 w' _ b _ _ _ _ h2 (hσ.t _ h6) id hid q hk (by have:=hx'.len _ h6;omega)).mono ?_
    rintro e w'' ⟨rfl,h3⟩
    rw [htset] at h3 ⊢
    obtain ⟨v',E',hE,h4⟩:=RSX.into h6 h3
    rw [HV.out]
    refine ⟨rfl,RSto.mk (σ:={ σ with T:=upd σ.T (σ.hom id) ((σ.T (σ.hom id)).set r (id,setc C q)) }) (hx'.upd h6 hE ?_) h4⟩
    rw [List.length_set];exact hx'.len _ h6
   clear hx HQ hy hr he hl hh htset hσ hlC h6 hcode
   generalize σ.hom id=m at *
   obtain ⟨qk,qa,qb,qc⟩:=q
   obtain ⟨yk,ya,yb,yc⟩:=y
   simp only [Cp.ag] at z0 z1 z2 z3 HC HGT HA hk HST ⊢
   go_enter Tryz.func113,Tryz.ntmps113
   go_wp2_with fail
   refine HC.out.mono ?_
   rintro e w1 ⟨rfl,hf⟩
   have H1:Hid (Own w0 w1 _):=HA.out.quiet hf
   have y0:=(HA.out.quiet hf).cell 0
   simp at y0
   clear hf HC z0 z1 z2 z3 HA
   go_wp2_with fail
   refine (HGT.out _ H1.out.two).mono ?_
   rintro e w2 ⟨rfl,hO2⟩
   have hO3:=(hO2.alloc (.cells #[.int .u8 (yk:Int),.int .i32 ya,.int .i32 yb,.int .i32 yc] 46)).drew
   have u0:=hO3.two.cell 0
   have u1:=hO3.two.cell 1
   have u2:=hO3.two.cell 2
   have u3:=hO3.two.cell 3
   simp at u0 u1 u2 u3
   have H2:Hid (Own w0 _ (RSto b σ K::Cells w.heap.size #[.int .u8 (qk:Int),.int .i32 qa,.int .i32 qb,.int .i32 qc] 46::l)):=hO3
   clear hO2 hO3 H1 y0 HGT
   go_wp2_with fail
   go_region_with (first
    | (go_at_call 163
       refine (HFD.out _ _ H2.out).mono ?_
       rintro e w3 ⟨rfl,hf3⟩
       have hO3:=H2.out.quiet hf3
       have v0:=hO3.two.cell 0
       have v1:=hO3.two.cell 1
       have v2:=hO3.two.cell 2
       have v3:=hO3.two.cell 3
       simp at v0 v1 v2 v3
       have H3:Hid (Own w0 w3 _):=hO3
       clear hO3 hf3)
    | (go_at_call 168
       refine (HST.out _ _ H3.out).mono ?_
       rintro e w4 ⟨rfl,hO4⟩
       have H4:Hid (Own w0 w4 _):=hO4
       clear hO4))
   all_goals
    go_wp2
    go_ret
    rw [HV.out] at H4 ⊢
    exact ⟨rfl,H4.out.two.tail⟩
  ·have hy0:y=⟨0,0,0,0⟩:=by
    have:=Sto.get_bad (id:=id) hσ q.k (by rw [hy];exact hcd)
    rw [hy] at this;exact this
   subst hy0
   have HV:Hid (σ.set id q=((cd:Int),σ)):=by
    show _=_
    unfold Sto.set
    rw [if_neg (by simp [hx])]
    split at hcode
    ·rename_i hl;rw [if_pos hl,hcode];rfl
    ·rename_i hl
     rw [if_neg hl]
     split at hcode
     ·rename_i hh;rw [if_pos hh,hcode];rfl
     ·exact absurd hcode hcd
   have hcd0:((cd:Int) != 0)=true:=by rw [bne_iff_ne];omega
   clear hx HQ hy hcode hσ
   obtain ⟨qk,qa,qb,qc⟩:=q
   simp only [Cp.ag] at z0 z1 z2 z3 HC HGT HA hk ⊢
   go_enter Tryz.func113,Tryz.ntmps113
   go_wp2_with fail
   refine HC.out.mono ?_
   rintro e w1 ⟨rfl,hf⟩
   have H1:Hid (Own w0 w1 _):=HA.out.quiet hf
   have y0:=(HA.out.quiet hf).cell 0
   simp at y0
   clear hf HC z0 z1 z2 z3
   go_wp2_with fail
   refine (HGT.out _ H1.out.two).mono ?_
   rintro e w2 ⟨rfl,hO2⟩
   have H2:Hid (Own w0 w2 _):=hO2
   clear hO2 H1 y0 HGT
   go_wp2
   go_ret
   rw [HV.out]
   exact ⟨rfl,(H2.out.two.tail).alloc _⟩
 ·have HV:Hid (σ.set id q=((x:Int),σ)):=by show _=_;unfold Sto.set;rw [if_pos (by rw [hx];exact hx0),hx]
  have hx1:((x:Int) != 0)=true:=by simpa using hx0
  clear hx HQ hσ
  obtain ⟨qk,qa,qb,qc⟩:=q
  simp only at z0 z1 z2 z3 HC HA hk ⊢
  go_enter Tryz.func113,Tryz.ntmps113
  go_wp2_with fail
  refine HC.out.mono ?_
  rintro e w1 ⟨rfl,hf⟩
  have H1:Hid (Own w0 w1 _):=HA.out.quiet hf
  clear hf HC z0 z1 z2 z3
  go_wp2
  go_ret
  rw [HV.out]
  exact ⟨rfl,H1.out.tail⟩
end
section
variable (w0 w:World) (l:List Thing) (b:Nat) (σ:Sto) (K:Nat)
theorem rturn (h:Own w0 w (RSto b σ K::l)) (hσ:σ.Ok) (id:Nat) (hid:id < 4294967296) (hl:σ.S.isLive id=true) (ao:Option Addr) (len cap:Nat) (C:List Cp) (hCl:C.length=len) (hCs:∀ w',Own w0 w' l→Cs w' ao C) (h0:lst (-1) C=0) (hlen:len≤1000000) (hK:K < 1000000) :
  Calls Tryz.prog 212 #[.pointer (some ⟨b,0,none⟩),.int .u32 (id:Int),.slice ao len cap] w fun e w'=>e=.returned (.tuple #[])∧Own w0 w' (RSto b (σ.turn id C) (K+1)::l):=by
 obtain ⟨r,D,hr,he,_,_,h6⟩:=hσ.ent hl
 have HV:Hid (σ.turn id C=(σ.out (σ.hom id) r).put id C):=by show _=_;unfold Sto.turn;rw [hr];rfl
 have HFD:Hid (Calls _ _ _ _ _):=rfindS w0 w l b σ K h hσ (by omega) id hl
 have HDR:Hid (∀ w',Own w0 w' (RSto b σ K::l)→Calls Tryz.prog 169 #[.pointer (some ⟨b,1+σ.hom id*2,none⟩),.int .u32 (id:Int)] w' fun out w''=>∃ ao cap,out=.returned (.tuple #[.slice ao D.length cap,.int .i64 0])∧Own w0 w'' (RSto b (σ.out (σ.hom id) r) K::l)):=fun w' h''=>rdrop w0 w' l b σ K h'' hσ (by omega) id hl r D hr he
 have hL:=hσ.out hl hr
 have hCk:∀ q∈C,q.k < 256:=fun q hq=>by have:=chk_k ((lst_ok h0).2 q hq).2;omega
 have HPU:Hid (∀ w',Own w0 w' (RSto b (σ.out (σ.hom id) r) K::l)→Calls Tryz.prog 172 #[.pointer (some ⟨b,0,none⟩),.int .u32 (id:Int),.slice ao len cap] w' fun e w''=>e=.returned (.tuple #[])∧Own w0 w'' (RSto b ((σ.out (σ.hom id) r).put id C) (K+1)::l)):=fun w' h'=>rputS w0 w' l b _ K h' id hid ao len cap C hCl hCs hCk hlen h0 (hL.t _ (msk64 C)) (hL.none (msk64 C)) hK
 have H:Hid (Own w0 w _):=h
 clear h hσ hl hr he h6 hL hCk hCs
 generalize σ.hom id=m at *
 generalize D.length=dl at *
 go_enter Tryz.func212,Tryz.ntmps212
 go_wp2_with fail
 refine HFD.out.mono ?_
 rintro e w1 ⟨rfl,hf⟩
 have H1:Hid (Own w0 w1 _):=H.out.quiet hf
 clear hf HFD H
 go_wp2_with fail
 refine (HDR.out _ H1.out).mono ?_
 rintro e w2 ⟨a2,c2,rfl,hO⟩
 have H2:Hid (Own w0 w2 _):=hO
 clear hO H1 HDR
 go_wp2_with fail
 refine (HPU.out _ H2.out).mono ?_
 rintro e w3 ⟨rfl,hO⟩
 have H3:Hid (Own w0 w3 _):=hO
 clear hO
 go_wp2
 go_end0
 rw [HV.out]
 exact ⟨rfl,H3.out⟩
theorem raddS (h:Own w0 w (RSto b σ K::l)) (hσ:σ.Ok) (id:Nat) (hid:id < 4294967296) (q:Cp) (hk:q.k < 256) (hK:K < 1000000) :
  Calls Tryz.prog 165 #[.pointer (some ⟨b,0,none⟩),.int .u32 (id:Int),q.ag] w fun e w'=>e=.returned (.int .i64 (σ.add id q).1)∧Own w0 w' (RSto b (σ.add id q).2 (K+1)::l):=by
 have hA:=h.allocC #[.int .u8 (q.k:Int),.int .i32 q.a,.int .i32 q.b,.int .i32 q.c] 46
 have z0:=hA.cell 0
 have z1:=hA.cell 1
 have z2:=hA.cell 2
 have z3:=hA.cell 3
 simp at z0 z1 z2 z3
 have HC:Hid (Calls _ _ _ _ _):=rcheck3 (w.alloc (.cells #[.int .u8 (q.k:Int),.int .i32 q.a,.int .i32 q.b,.int .i32 q.c] 46)) q.k hk q.a q.b q.c
 have HA:Hid (Own w0 _ (Cells w.heap.size #[.int .u8 (q.k:Int),.int .i32 q.a,.int .i32 q.b,.int .i32 q.c] 46::RSto b σ K::l)):=hA
 have HQ:Hid (q.chk=chk q.k (f3 q.a q.b q.c)):=rfl
 clear h hA
 unfold Cp.ag
 obtain ⟨x,hx⟩:∃ x,q.chk=x:=⟨_,rfl⟩
 rw [← HQ.out,hx] at HC
 by_cases hx0:x=0
 ·subst hx0
  cases hl:σ.S.isLive id with
  | false =>
   have HV:Hid (σ.add id q=(7,σ)):=by show _=_;unfold Sto.add;rw [if_neg (by simp [hx]),if_pos hl]
   have HE:Hid (∀ w' l',Own w0 w' (RSto b σ K::l')→Calls Tryz.prog 108 #[.pointer (some ⟨b,0,none⟩),.int .u32 (id:Int)] w' fun e w''=>e=.returned (.tuple #[.agg #[.int .u32 0,.slice none 0 0],.int .i64 7])∧Own w0 w'' (RSto b σ K::l')):=by
    intro w' l' h'
    obtain ⟨x,hx',h'⟩:=RSto.opn h'
    refine (rentNo w0 w' l' b σ x K h' hx' hσ (by omega) id hl).mono ?_
    rintro e w'' ⟨rfl,h2⟩
    exact ⟨rfl,RSto.mk hx' h2⟩
   clear hx HQ hσ hl
   obtain ⟨qk,qa,qb,qc⟩:=q
   simp only at z0 z1 z2 z3 HC HA hk ⊢
   go_enter Tryz.func165,Tryz.ntmps165
   go_wp2_with fail
   refine HC.out.mono ?_
   rintro e w1 ⟨rfl,hf⟩
   have H1:Hid (Own w0 w1 _):=HA.out.quiet hf
   clear hf HC z0 z1 z2 z3
   go_wp2_with fail
   refine (HE.out _ _ H1.out.two).mono ?_
   rintro e w2 ⟨rfl,hO2⟩
   have H2:Hid (Own w0 w2 _):=hO2
   clear hO2 H1 HE
   go_wp2
   go_ret
   rw [HV.out]
   exact ⟨rfl,((H2.out.two.tail).alloc _).rstoK (Nat.le_succ K)⟩
  | true =>
   obtain ⟨r,C,hr,he,hlC,_,h6⟩:=hσ.ent hl
   have hcps:=Sto.cps_of hr he
   have hC6:C.length≤6:=(hσ.t _ h6).c6 he
   have hCk:∀ q∈C,q.k < 256:=fun q hq=>by have:=chk_k ((lst_ok hlC).2 q hq).2;omega
   have HE:Hid (∀ w' l',Own w0 w' (RSto b σ K::l')→Calls Tryz.prog 108 #[.pointer (some ⟨b,0,none⟩),.int .u32 (id:Int)] w' fun e w''=>∃ y ae ce,RXok σ y K∧(∀ w3 l3,Own w0 w3 (RSX b σ.S y::l3)→Cs w3 ae C)∧e=.returned (.tuple #[.agg #[.int .u32 (id:Int),.slice ae C.length ce],.int .i64 0])∧Own w0 w'' (RSX b σ.S y::l')):=by
    intro w' l' h'
    obtain ⟨y,hy,h'⟩:=RSto.opn h'
    obtain ⟨r',d,hr',hd,hdi,he'⟩:=hy.row hσ hl
    have hrr:r'=r:=Option.some.inj (hr'.symm.trans hr)
    subst hrr
    have hCC:d.2.1=C:=by rw [he] at he';exact (Prod.mk.inj (Option.some.inj he')).2.symm
    refine (rent w0 w' l' b σ y K h' hy hσ (by omega) id hl r' hr d hd).mono ?_
    rintro e w'' ⟨rfl,h2⟩
    refine ⟨y,d.2.2.1,d.2.2.2,hy,fun w3 l3 h3=>?_,by rw [hdi,hCC],h2⟩
    obtain ⟨_,_,_,_,_,_,hc⟩:=RSX.ent w0 w3 l3 b σ y h3 _ r' h6 d hd
    rw [hCC] at hc
    exact hc
   cases hh:hasK C q.k with
   | true =>
    have HV:Hid (σ.add id q=(9,σ)):=by show _=_;unfold Sto.add;rw [if_neg (by simp [hx]),if_neg (by simp [hl]),hcps,if_pos hh]
    have HHK:Hid (hasK C q.k=true):=hh
    clear hx HQ hσ hl hr he hlC h6 hcps hh
    obtain ⟨qk,qa,qb,qc⟩:=q
    simp only at z0 z1 z2 z3 HC HA hk HHK ⊢
    generalize hcl:C.length=cl at *
    go_enter Tryz.func165,Tryz.ntmps165
    go_wp2_with fail
    refine HC.out.mono ?_
    rintro e w1 ⟨rfl,hf⟩
    have H1:Hid (Own w0 w1 _):=HA.out.quiet hf
    clear hf HC z0 z1 z2 z3
    go_wp2_with fail
    refine (HE.out _ _ H1.out.two).mono ?_
    rintro e w2 ⟨y,ae,ce,hy,hcs,rfl,hO2⟩
    have hO3:=hO2.allocC #[.int .u32 (id:Int),.slice ae cl ce] 76
    have e1:=hO3.cell 1
    have f0:=hO3.three.cell 0
    simp at e1 f0
    have HFN:Hid (Calls _ _ _ _ _):=find_any _ ae cl ce C hcl (hcs _ _ hO3.two) hCk (by omega) qk hk
    have HY:Hid (RXok σ y K):=hy
    have H3:Hid (Own w0 _ _):=hO3
    have hne1:w2.heap.size≠w.heap.size:=by have:=hO2.two.lt;omega
    have hne2:w.heap.size≠w2.heap.size:=fun q=>hne1 q.symm
    clear hO2 hO3 hcs hy H1 HE
    go_wp2_with fail
    refine HFN.out.mono ?_
    rintro e w4 ⟨r2,rfl,hf2,hcase⟩
    have H4:Hid (Own w0 w4 _):=H3.out.quiet hf2
    clear hf2 HFN H3 e1 f0
    rcases hcase with ⟨rfl,hno⟩ | ⟨i,rfl,q,hq,hqk,_⟩
    ·rw [HHK.out] at hno;cases hno
    ·have hi0:(0:Int)≤(i:Int):=by omega
     clear hq hqk
     go_wp2
     go_ret
     rw [HV.out]
     exact ⟨rfl,(RSto.mk HY.out H4.out.tail.two.tail).rstoK (Nat.le_succ K)⟩
   | false =>
    have hins:=insc_insw hh
    have hl2:=insw_ok hlC hx hh
    have hln:=insw_len C q
    have HV:Hid (σ.add id q=(0,σ.turn id (insw C q))):=by show _=_;unfold Sto.add;rw [if_neg (by simp [hx]),if_neg (by simp [hl]),hcps,if_neg (by simp [hh])]
    have HTU:Hid (∀ w' l' ao cap,Own w0 w' (RSto b σ K::Row 46 4 (.slice ao (C.length+1) cap) (C.length+1) (ccat (insw C q))::l')→Calls Tryz.prog 212 #[.pointer (some ⟨b,0,none⟩),.int .u32 (id:Int),.slice ao (C.length+1) cap] w' fun e w''=>e=.returned (.tuple #[])∧Own w0 w'' (RSto b (σ.turn id (insw C q)) (K+1)::Row 46 4 (.slice ao (C.length+1) cap) (C.length+1) (ccat (insw C q))::l')):=fun w' l' ao cap h'=>rturn w0 w' _ b σ K h' hσ id hid hl ao _ cap (insw C q) hln (fun w'' h''=>Own.rcs h'' hln) hl2 (by omega) hK
    have HWI:Hid (∀ w' l' ae ce,Own w0 w' l'→(∀ w3,Own w0 w3 l'→Cs w3 ae C)→Calls Tryz.prog 213 #[.slice ae C.length ce,q.ag] w' fun e w''=>∃ ao cap,e=.returned (.slice ao (C.length+1) cap)∧Own w0 w'' (Row 46 4 (.slice ao (C.length+1) cap) (C.length+1) (ccat (insw C q))::l')):=by
     intro w' l' ae ce h' hc
     have:=rwith_any w0 w' l' h' ae C.length ce C rfl hc hCk (by omega) q hk
     rw [hins,hln] at this
     exact this
    have HHK:Hid (hasK C q.k=false):=hh
    clear hx HQ hσ hl hr he hlC h6 hcps hh hins hl2 hln
    generalize insw C q=I at *
    obtain ⟨qk,qa,qb,qc⟩:=q
    simp only [Cp.ag] at z0 z1 z2 z3 HC HA hk HHK HWI ⊢
    generalize hcl:C.length=cl at *
    go_enter Tryz.func165,Tryz.ntmps165
    go_wp2_with fail
    refine HC.out.mono ?_
    rintro e w1 ⟨rfl,hf⟩
    have H1:Hid (Own w0 w1 _):=HA.out.quiet hf
    clear hf HC z0 z1 z2 z3
    go_wp2_with fail
    refine (HE.out _ _ H1.out.two).mono ?_
    rintro e w2 ⟨y,ae,ce,hy,hcs,rfl,hO2⟩
    have hO3:=hO2.allocC #[.int .u32 (id:Int),.slice ae cl ce] 76
    have e1:=hO3.cell 1
    have f0:=hO3.three.cell 0
    simp at e1 f0
    have HFN:Hid (Calls _ _ _ _ _):=find_any _ ae cl ce C hcl (hcs _ _ hO3.two) hCk (by omega) qk hk
    have HY:Hid (RXok σ y K):=hy
    have HCY:Hid (∀ w3 l3,Own w0 w3 (RSX b σ.S y::l3)→Cs w3 ae C):=hcs
    have H3:Hid (Own w0 _ _):=hO3
    have hne1:w2.heap.size≠w.heap.size:=by have:=hO2.two.lt;omega
    have hne2:w.heap.size≠w2.heap.size:=fun q=>hne1 q.symm
    clear hO2 hO3 hcs hy H1 HE
    go_wp2_with fail
    refine HFN.out.mono ?_
    rintro e w4 ⟨r2,rfl,hf2,hcase⟩
    have hO4:=H3.out.quiet hf2
    have e1:=hO4.cell 1
    have f0:=hO4.three.cell 0
    have f1:=hO4.three.cell 1
    have f2:=hO4.three.cell 2
    have f3:=hO4.three.cell 3
    simp at e1 f0 f1 f2 f3
    have HWI4:Hid (Calls _ _ _ _ _):=HWI.out w4 _ ae ce hO4 (fun w3 h3=>HCY.out _ _ h3.two)
    clear hf2 HFN H3 hO4
    rcases hcase with ⟨rfl,hno⟩ | ⟨i,rfl,q,hq,hqk,hyes⟩
    ·clear hno
     go_wp2_with fail
     refine HWI4.out.mono ?_
     rintro e w5 ⟨a5,c5,rfl,hO5⟩
     have H5:Hid (Own w0 w5 (RSto b σ K::Row 46 4 (.slice a5 (cl+1) c5) (cl+1) (ccat I)::Cells w2.heap.size #[.int .u32 (id:Int),.slice ae cl ce] 76::Cells w.heap.size #[.int .u8 (qk:Int),.int .i32 qa,.int .i32 qb,.int .i32 qc] 46::l)):=by
      exact RSto.mk HY.out hO5.three
     clear hO5 HWI4 e1 f0 f1 f2 f3
     go_wp2_with fail
     refine (HTU.out _ _ _ _ H5.out).mono ?_
     rintro e w6 ⟨rfl,hO6⟩
     have H6:Hid (Own w0 w6 _):=hO6
     clear hO6
     go_wp2
     go_ret
     rw [HV.out]
     exact ⟨rfl,(H6.out.two.tail.two.tail).two.tail⟩
    ·rw [HHK.out] at hyes;cases hyes
 ·have HV:Hid (σ.add id q=((x:Int),σ)):=by show _=_;unfold Sto.add;rw [if_pos (by rw [hx];exact hx0),hx]
  have hx1:((x:Int) != 0)=true:=by simpa using hx0
  clear hx HQ hσ
  obtain ⟨qk,qa,qb,qc⟩:=q
  simp only at z0 z1 z2 z3 HC HA hk ⊢
  go_enter Tryz.func165,Tryz.ntmps165
  go_wp2_with fail
  refine HC.out.mono ?_
  rintro e w1 ⟨rfl,hf⟩
  have H1:Hid (Own w0 w1 _):=HA.out.quiet hf
  clear hf HC z0 z1 z2 z3
  go_wp2
  go_ret
  rw [HV.out]
  exact ⟨rfl,(H1.out.tail).rstoK (Nat.le_succ K)⟩
end
end Go.Proofs.YtogmdoiecpihdaaGreatDoor
