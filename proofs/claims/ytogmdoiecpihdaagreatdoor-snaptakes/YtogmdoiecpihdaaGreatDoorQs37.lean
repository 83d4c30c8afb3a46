/- The document's Get: a component of an entity of a list. -/
import Derived.Test.YtogmdoiecpihdaaGreatDoorQs36
import Derived.Test.YtogmdoiecpihdaaGreatDoorQs26
namespace Go.Proofs.YtogmdoiecpihdaaGreatDoor
open Go.RowKit
set_option linter.unusedVariables false
set_option maxHeartbeats 8000000
set_option maxRecDepth 100000
def getE (L:List EnE) (id k:Nat):Option Cp:=L.findSome? (fun x=>if x.id=id then fst x.C k else none)
def gag (o:Option Cp):Value:=.tuple #[(o.getD ⟨0,0,0,0⟩).ag,.bool o.isSome]
theorem fst_one {A:List Cp} (hA:A.Pairwise (fun x y=>x.k < y.k)) {x:Cp} (hx:x∈A):fst A x.k=some x:=by
 cases h:fst A x.k with
 | none =>
  unfold fst at h
  rw [List.find?_eq_none] at h
  exact absurd (by simp) (h x hx)
 | some y =>
  unfold fst at h
  have h1:=List.mem_of_find?_eq_some h
  have h2:=List.find?_some h
  rw [pw_inj hA h1 hx (by simpa using h2)]
theorem fst_no {A:List Cp} {k:Nat} (h:hasK A k=false):fst A k=none:=by
 unfold fst
 rw [List.find?_eq_none]
 intro x hx he
 have:=hasK_true hx
 rw [show x.k=k by simpa using he,h] at this
 cases this
theorem getE_take {L:List EnE} {id k j:Nat} {x:EnE} (hx:L[j]? = some x) (hn:getE (L.take j) id k=none):getE (L.take (j+1)) id k=if x.id=id then fst x.C k else none:=by
 unfold getE at hn ⊢
 rw [List.take_add_one,hx,List.findSome?_append,hn]
 simp
theorem getE_all {L:List EnE} {id k j:Nat} {c:Cp} (h:getE (L.take j) id k=some c):getE L id k=some c:=by
 unfold getE at h ⊢
 rw [← List.take_append_drop j L,List.findSome?_append,h]
 rfl
theorem rget15 (w:World) (ao:Option Addr) (n cap:Nat) (L:List EnE) (hn:L.length=n) (h:EntsAt w ao L) (hI:EIn L) (hP:∀ x∈L,x.C.Pairwise (fun x y=>x.k < y.k)) (hl:n≤1000000) (hc:∀ x∈L,x.C.length≤1000000) (id k:Nat) (hk:k < 256) :
  Calls Tryz.prog 58 #[.slice ao n cap,.int .u32 (id:Int),.int .u8 (k:Int)] w fun e w'=>e=.returned (gag (getE L id k))∧Fr Nobody w w':=by
 have HL:Hid (L.length=n∧EntsAt w ao L∧EIn L∧(∀ x∈L,x.C.Pairwise (fun x y=>x.k < y.k))∧∀ x∈L,x.C.length≤1000000):=⟨hn,h,hI,hP,hc⟩
 have HA:Hid (Own w _ _):=(Own.start w).allocC #[.int .u8 0,.int .i32 0,.int .i32 0,.int .i32 0] 46
 clear hn h hI hP hc
 go_enter Tryz.func58,Tryz.ntmps58
 go_wp2
 generalize w.alloc (.cells #[.int .u8 0,.int .i32 0,.int .i32 0,.int .i32 0] 46)=W1 at *
 generalize w.heap.size=b0 at *
 refine wp_loop (fun a' wr=>∃ (j:Nat),a'={ tmps:=#[.slice ao n cap,.int .u32 (id:Int),.int .u8 (k:Int),gf a' 3,gf a' 4,gf a' 5,.pointer (some ⟨b0,0,none⟩),.bool false,gf a' 8,gf a' 9,gf a' 10,.slice ao n cap,.int .i64 (n:Int),.int .i64 (j:Int),gf a' 14,gf a' 15,gf a' 16,gf a' 17,gf a' 18,gf a' 19,gf a' 20,gf a' 21,gf a' 22,gf a' 23,gf a' 24,gf a' 25,gf a' 26,gf a' 27,gf a' 28,gf a' 29,gf a' 30,gf a' 31,gf a' 32,gf a' 33],defers:=[] }∧j≤n∧getE (L.take j) id k=none∧Own w wr [Cells b0 #[.int .u8 0,.int .i32 0,.int .i32 0,.int .i32 0] 46]) (fun a' _=>n - (intOf (a'.tmps.getD 13 undef)).toNat) ?_ ?_
 ·exact ⟨0,rfl,Nat.zero_le _,rfl,HA.out⟩
 ·intro a' wr hI
  obtain ⟨j,hact,hj,hg,hO⟩:=hI
  obtain ⟨u,hu⟩:∃ u:Nat→Value,∀ k,gf a' k=u k:=⟨_,fun _=>rfl⟩
  simp only [hu] at hact
  clear hu
  subst hact
  have HG:Hid (getE (L.take j) id k=none):=hg
  clear HA hg
  by_cases hlt:j < n
  ·have hlt':(j:Int) < (n:Int):=by omega
   obtain ⟨x,hx⟩:∃ x,L[j]? = some x:=⟨_,List.getElem?_eq_getElem (by rw [HL.out.1];exact hlt)⟩
   obtain ⟨g,o,hao,c0,c1,_⟩:=(HL.out.2.1.quiet hO.fr).at hx
   subst hao
   have hmx:=List.mem_of_getElem? hx
   have HT:Hid (getE (L.take (j+1)) id k=if x.id=id then fst x.C k else none):=getE_take hx HG.out
   have hB:=(hO.allocC #[.int .u32 (x.id:Int),.slice x.ao x.C.length x.cap] 76)
   by_cases hid:x.id=id
   ·have hid':((x.id:Int) == (id:Int))=true:=by rw [hid];simp
    have HFD:Hid (Calls _ _ _ _ _):=find_any _ x.ao x.C.length x.cap x.C rfl ((HL.out.2.1.2 x hmx).quiet hB.fr) (HL.out.2.2.1 x hmx).2 (HL.out.2.2.2.2 x hmx) k hk
    have HCS:Hid (∀ W,Fr Nobody w W→Cs W x.ao x.C):=fun W hW=>(HL.out.2.1.2 x hmx).quiet hW
    have HPW:Hid (x.C.Pairwise (fun x y=>x.k < y.k)):=HL.out.2.2.2.1 x hmx
    have HTT:Hid (getE (L.take (j+1)) id k=fst x.C k):=by show _=_;rw [HT.out,if_pos hid]
    have HB:Hid (Own w _ _):=hB
    clear hO hB hx hmx HT hid
    obtain ⟨xi,xa,xc,C⟩:=x
    simp only at c0 c1 hid' HFD HCS HPW HTT
    generalize hcl:C.length=cl at *
    have HCL:Hid (C.length=cl):=hcl
    clear hcl
    go_wp2_with fail
    refine HFD.out.mono ?_
    rintro e w2 ⟨r,rfl,hf2,hcase⟩
    have hO2:=HB.out.quiet hf2
    have f1:=hO2.cell 1
    simp at f1
    have hO3:=hO2.two
    have z0:=hO3.cell 0
    have z1:=hO3.cell 1
    have z2:=hO3.cell 2
    have z3:=hO3.cell 3
    simp at z0 z1 z2 z3
    have y0:=hO3.froz 0
    have y1:=hO3.froz 1
    have y2:=hO3.froz 2
    have y3:=hO3.froz 3
    have HO:Hid (Own w w2 _):=hO3
    have H2:Hid (Own w w2 _):=hO3
    clear hO2 hO3 HFD HB hf2 c0 c1
    rcases hcase with ⟨rfl,hno⟩ | ⟨i,rfl,q,hq,hqk,_⟩
    ·have HN:Hid (getE (L.take (j+1)) id k=none):=by show _=_;rw [HTT.out,fst_no hno]
     clear hno
     go_wp2
     exact ⟨⟨j+1,rfl,by omega,HN.out,HO.out.two.tail⟩,by simp [intOf];omega⟩
    ·obtain ⟨gc,oc,hac,_,x0,x1,x2,x3⟩:=(HCS.out _ HO.out.fr).at i q hq
     subst hac
     have hic:i < cl:=by rw [← HCL.out];exact (List.getElem?_eq_some_iff.1 hq).1
     have hic':(i:Int) < (cl:Int):=by omega
     have hi0:¬ (i:Int) < 0:=by omega
     have HV:Hid (getE L id k=some q):=getE_all (by rw [HTT.out,← hqk];exact fst_one HPW.out (List.mem_of_getElem? hq))
     clear hq hqk
     obtain ⟨qk,qa,qb,qc⟩:=q
     simp only at x0 x1 x2 x3
     have HF:Hid (Own w _ _):=(((H2.out.setC 0 (.int .u8 (qk:Int))).setC 1 (.int .i32 qa)).setC 2 (.int .i32 qb)).setC 3 (.int .i32 qc)
     go_wp2
     (try simp only [Exit.inBlock,Exit.then])
     refine bodyPost_ret (v:=.tuple #[.agg #[.int .u8 (qk:Int),.int .i32 qa,.int .i32 qb,.int .i32 qc],.bool true]) ?_ rfl ⟨by rw [HV.out];rfl,HF.out.fr⟩
     rw [results_cell_tmp rfl]
     have r0:=HF.out.cell 0
     have r1:=HF.out.cell 1
     have r2:=HF.out.cell 2
     have r3:=HF.out.cell 3
     simp at r0 r1 r2 r3
     go_simp
   ·have hid':((x.id:Int) == (id:Int))=false:=by simp;omega
    have HN:Hid (getE (L.take (j+1)) id k=none):=by show _=_;rw [HT.out,if_neg hid]
    have HB:Hid (Own w _ _):=hB
    clear hO hB hx hmx HT hid
    obtain ⟨xi,xa,xc,C⟩:=x
    simp only at c0 c1 hid'
    generalize hcl:C.length=cl at *
    go_wp2
    exact ⟨⟨j+1,rfl,by omega,HN.out,HB.out.tail⟩,by simp [intOf];omega⟩
  ·have hlt':¬ (j:Int) < (n:Int):=by omega
   have HV:Hid (getE L id k=none):=by
    have:=HG.out
    rw [List.take_of_length_le (by rw [HL.out.1];omega)] at this
    exact this
   have z0:=hO.cell 0
   have z1:=hO.cell 1
   have z2:=hO.cell 2
   have z3:=hO.cell 3
   simp at z0 z1 z2 z3
   have y0:=hO.froz 0
   have y1:=hO.froz 1
   have y2:=hO.froz 2
   have y3:=hO.froz 3
   have HO:Hid (Own w wr _):=hO
   clear hO HG
   have HF:Hid (Own w _ _):=(((HO.out.setC 0 (.int .u8 0)).setC 1 (.int .i32 0)).setC 2 (.int .i32 0)).setC 3 (.int .i32 0)
   go_wp2
   (try simp only [Exit.inBlock,Exit.then])
   refine bodyPost_ret (v:=.tuple #[.agg #[.int .u8 0,.int .i32 0,.int .i32 0,.int .i32 0],.bool false]) ?_ rfl ⟨by rw [HV.out];rfl,HF.out.fr⟩
   rw [results_cell_tmp rfl]
   have r0:=HF.out.cell 0
   have r1:=HF.out.cell 1
   have r2:=HF.out.cell 2
   have r3:=HF.out.cell 3
   simp at r0 r1 r2 r3
   go_simp
end Go.Proofs.YtogmdoiecpihdaaGreatDoor
namespace Go.Proofs.YtogmdoiecpihdaaGreatDoor
open Go.RowKit Go.Maps
set_option linter.unusedVariables false
set_option maxHeartbeats 8000000
set_option maxRecDepth 100000
def ins:List PlE→PlE→List PlE
 | [],p=>[p]
 | x::t,p=>if p.id < x.id then p::x::t else x::ins t p
def pstep (p:PlE) (s:List PlE × Bool) (x:PlE):List PlE × Bool:=if s.2=false∧p.id < x.id then (s.1++[p,x],true) else (s.1++[x],s.2)
def pfold (p:PlE) (P:List PlE):List PlE × Bool:=P.foldl (pstep p) ([],false)
theorem pfold_snoc (p:PlE) (P:List PlE) (x:PlE):pfold p (P++[x])=pstep p (pfold p P) x:=by unfold pfold;rw [List.foldl_append];rfl
theorem pfold_done (p:PlE):∀ (P o:List PlE),P.foldl (pstep p) (o,true)=(o++P,true)
 | [],o=>by simp
 | x::P,o=>by
  rw [List.foldl_cons]
  have:pstep p (o,true) x=(o++[x],true):=by simp [pstep]
  rw [this,pfold_done p P]
  simp
theorem pfold_ins (p:PlE):∀ (P o:List PlE),(let r:=P.foldl (pstep p) (o,false);if r.2=true then r.1 else r.1++[p])=o++ins P p
 | [],o=>by simp [ins]
 | x::P,o=>by
  rw [List.foldl_cons]
  by_cases c:p.id < x.id
  ·have:pstep p (o,false) x=(o++[p,x],true):=by simp [pstep,c]
   rw [this,pfold_done]
   simp [ins,c]
  ·have:pstep p (o,false) x=(o++[x],false):=by simp [pstep,c]
   rw [this]
   have:=pfold_ins p P (o++[x])
   rw [this]
   simp [ins,c]
theorem pfold_end (p:PlE) (P:List PlE):(if (pfold p P).2=true then (pfold p P).1 else (pfold p P).1++[p])=ins P p:=by
 unfold pfold
 simpa using pfold_ins p P []
theorem ins_perm (p:PlE):∀ P:List PlE,(ins P p).Perm (p::P)
 | []=>List.Perm.refl _
 | x::P=>by
  unfold ins
  split
  ·exact List.Perm.refl _
  ·exact ((ins_perm p P).cons x).trans (List.Perm.swap _ _ _)
theorem ins_up (p:PlE):∀ P:List PlE,P.Pairwise (fun a b=>a.id < b.id)→(∀ x∈P,x.id≠p.id)→(ins P p).Pairwise (fun a b=>a.id < b.id)
 | [],_,_=>by simp [ins]
 | x::P,h,hn=>by
  obtain ⟨h1,h2⟩:=List.pairwise_cons.1 h
  have hx:=hn x List.mem_cons_self
  unfold ins
  split
  ·rename_i c
   refine List.pairwise_cons.2 ⟨fun y hy=>?_,h⟩
   rcases List.mem_cons.1 hy with rfl | hy
   ·exact c
   ·have:=h1 y hy;omega
  ·rename_i c
   refine List.pairwise_cons.2 ⟨fun y hy=>?_,ins_up p P h2 (fun y hy=>hn y (List.mem_cons_of_mem _ hy))⟩
   rcases List.mem_cons.1 ((ins_perm p P).mem_iff.1 hy) with rfl | hy
   ·omega
   ·exact h1 y hy
theorem pfold_len (p:PlE) (P:List PlE):(pfold p P).1.length=P.length+(if (pfold p P).2=true then 1 else 0):=by
 have key:∀ (P:List PlE) (s:List PlE × Bool),(P.foldl (pstep p) s).1.length+(if s.2=true then 1 else 0)=s.1.length+P.length+(if (P.foldl (pstep p) s).2=true then 1 else 0):=by
  intro P
  induction P with
  | nil=>intro s;rfl
  | cons x P ih =>
   intro s
   rw [List.foldl_cons]
   have:=ih (pstep p s x)
   obtain ⟨o,d⟩:=s
   by_cases c:d=false∧p.id < x.id
   ·have e:pstep p (o,d) x=(o++[p,x],true):=by unfold pstep;rw [if_pos c]
    rw [e] at this ⊢
    obtain ⟨rfl,_⟩:=c
    simp at this ⊢
    omega
   ·have e:pstep p (o,d) x=(o++[x],d):=by unfold pstep;rw [if_neg c]
    rw [e] at this ⊢
    simp at this ⊢
    omega
 have:=key P ([],false)
 unfold pfold
 simp at this
 omega
def PlsAt (w:World) (ao:Option Addr) (L:List PlE):Prop:=L=[]∨∃ g o,ao=some ⟨g,o,none⟩∧∀ (j:Nat) x,L[j]? = some x→w.cell? ⟨g,o+j*4,none⟩=some (.int .u32 (x.id:Int))∧w.cell? ⟨g,o+j*4+1,none⟩=some (.bool x.on)∧w.cell? ⟨g,o+j*4+2,none⟩=some (.int .i32 x.x)∧w.cell? ⟨g,o+j*4+3,none⟩=some (.int .i32 x.y)
theorem PlsAt.quiet {w w':World} {ao:Option Addr} {L:List PlE} (h:PlsAt w ao L) (hf:Fr Nobody w w'):PlsAt w' ao L:=by
 rcases h with h | ⟨g,o,ha,hc⟩
 ·exact .inl h
 ·refine .inr ⟨g,o,ha,fun j x hx=>?_⟩
  obtain ⟨h0,h1,h2,h3⟩:=hc j x hx
  have hb:=World.block_lt_of_cell? w _ h0
  exact ⟨(hf.cell (p:=⟨g,o+j*4,none⟩) hb id).trans h0,(hf.cell (p:=⟨g,o+j*4+1,none⟩) hb id).trans h1,(hf.cell (p:=⟨g,o+j*4+2,none⟩) hb id).trans h2,(hf.cell (p:=⟨g,o+j*4+3,none⟩) hb id).trans h3⟩
theorem PlsAt.at {w:World} {ao:Option Addr} {L:List PlE} (h:PlsAt w ao L) {j:Nat} {x:PlE} (hx:L[j]? = some x):∃ g o,ao=some ⟨g,o,none⟩∧w.cell? ⟨g,o+j*4,none⟩=some (.int .u32 (x.id:Int))∧w.cell? ⟨g,o+j*4+1,none⟩=some (.bool x.on)∧w.cell? ⟨g,o+j*4+2,none⟩=some (.int .i32 x.x)∧w.cell? ⟨g,o+j*4+3,none⟩=some (.int .i32 x.y):=by
 rcases h with h | ⟨g,o,ha,hc⟩
 ·subst h;simp at hx
 ·exact ⟨g,o,ha,hc j x hx⟩
theorem pls_row {w:World} {e:TypeId} {ao:Option Addr} {n cap:Nat} {L:List PlE} (h:w.ownsRow 0 e 4 (.slice ao n cap) n (cat PlE.cs L)) (hn:L.length=n):PlsAt w ao L:=by
 subst hn
 rcases Nat.eq_zero_or_pos L.length with h0 | h0
 ·exact .inl (List.eq_nil_of_length_eq_zero h0)
 ·obtain ⟨g,c,hv,_⟩:=row_shape h h0
  have ha:=(Value.slice.inj hv).1
  subst ha
  have hl:∀ x:PlE,(PlE.cs x).length=4:=fun _=>rfl
  refine .inr ⟨g,0,rfl,fun j p hp=>?_⟩
  have hj:=(List.getElem?_eq_some_iff.1 hp).1
  rw [Nat.zero_add]
  refine ⟨?_,?_,?_,?_⟩
  ·rw [h.cellAt _ (by omega)];exact (cat_at PlE.cs 4 hl L j 0 p hp (by decide)).trans rfl
  ·rw [h.cellAt _ (by omega)];exact (cat_at PlE.cs 4 hl L j 1 p hp (by decide)).trans rfl
  ·rw [h.cellAt _ (by omega)];exact (cat_at PlE.cs 4 hl L j 2 p hp (by decide)).trans rfl
  ·rw [h.cellAt _ (by omega)];exact (cat_at PlE.cs 4 hl L j 3 p hp (by decide)).trans rfl
theorem Tryz.infoRPl:(Tryz.prog.info? 126).map (fun i=>(i.zero,i.size,i.bytes))=some (some (.agg #[.int .u32 0,.bool false,.int .i32 0,.int .i32 0]),4,16):=by kernel_rfl
theorem cat_snoc1 (L:List PlE) (p:PlE):cat PlE.cs (L++[p])=cat PlE.cs L++[.int .u32 (p.id:Int),.bool p.on,.int .i32 p.x,.int .i32 p.y]:=by rw [cat_append];rfl
theorem rput15 (w0 w:World) (l:List Thing) (h:Own w0 w l) (pa:Option Addr) (n pc:Nat) (P:List PlE) (hn:P.length=n) (hP:∀ w',Own w0 w' l→PlsAt w' pa P) (hn2:n≤100000) (pi:Nat) (po:Bool) (px py:Int) (pp:PlE) (hpp:pp=⟨pi,po,px,py⟩) :
  Calls Tryz.prog 60 #[.slice pa n pc,.agg #[.int .u32 (pi:Int),.bool po,.int .i32 px,.int .i32 py]] w fun e w'=>∃ ao cap,e=.returned (.slice ao (n+1) cap)∧Own w0 w' (Row 126 4 (.slice ao (n+1) cap) (n+1) (cat PlE.cs (ins P pp))::l):=by
 obtain ⟨i0,hi,hz0,hz1,hz2⟩:=info3w Tryz.infoRPl
 have HP:Hid (P.length=n∧∀ w',Own w0 w' l→PlsAt w' pa P):=⟨hn,hP⟩
 have HIN:Hid (∀ d out,pfold pp P=(out,d)→(if d=true then out else out++[pp])=ins P pp∧out.length=n+(if d=true then 1 else 0)):=fun d out e=>by
  have h1:=pfold_end pp P
  have h2:=pfold_len pp P
  rw [e,hn] at h2
  rw [e] at h1
  exact ⟨h1,h2⟩
 have HLN:Hid (∀ j out d,pfold pp (P.take j)=(out,d)→out.length≤j+1):=fun j out d e=>by
  have h2:=pfold_len pp (P.take j)
  rw [e] at h2
  have h3:(P.take j).length≤j:=by rw [List.length_take];exact Nat.min_le_left _ _
  have h4:(if (out,d).2=true then 1 else 0)≤1:=by split <;> omega
  simp only at h2 h4
  omega
 have HST:Hid (∀ j x,P[j]? = some x→pfold pp (P.take (j+1))=pstep pp (pfold pp (P.take j)) x):=fun j x hx=>by
  rw [List.take_add_one,hx]
  exact pfold_snoc _ _ _
 have hB:=h.allocC #[.int .u32 (pi:Int),.bool po,.int .i32 px,.int .i32 py] 126
 have HB:Hid (Own w0 _ _):=hB.nilRow 126 4
 have HSN:Hid (∀ (L:List PlE) (y:PlE),cat PlE.cs (L++[y])=cat PlE.cs L++[.int .u32 (y.id:Int),.bool y.on,.int .i32 y.x,.int .i32 y.y]):=cat_snoc1
 have HPP:Hid (pp=⟨pi,po,px,py⟩):=hpp
 clear h hn hP hB hpp
 go_enter Tryz.func60,Tryz.ntmps60
 go_wp2
 generalize hW1:w.alloc (.cells #[.int .u32 (pi:Int),.bool po,.int .i32 px,.int .i32 py] 126)=W1 at *
 generalize w.heap.size=bp at *
 clear hW1
 refine wp_loop (fun a' wr=>∃ (j on oc:Nat) (oa:Option Addr) (d:Bool) (out:List PlE),a'={ tmps:=#[gf a' 0,gf a' 1,gf a' 2,.pointer (some ⟨bp,0,none⟩),gf a' 4,.slice oa on oc,.bool d,gf a' 7,gf a' 8,.slice pa n pc,.int .i64 (n:Int),.int .i64 (j:Int),gf a' 12,gf a' 13,gf a' 14,gf a' 15,gf a' 16,gf a' 17,gf a' 18,gf a' 19,gf a' 20,gf a' 21,gf a' 22,gf a' 23,gf a' 24,gf a' 25,gf a' 26,gf a' 27,gf a' 28,gf a' 29,gf a' 30,gf a' 31,gf a' 32,gf a' 33,gf a' 34,gf a' 35,gf a' 36,gf a' 37,gf a' 38,gf a' 39],defers:=[] }∧j≤n∧pfold pp (P.take j)=(out,d)∧out.length=on∧Own w0 wr (Row 126 4 (.slice oa on oc) on (cat PlE.cs out)::Cells bp #[.int .u32 (pi:Int),.bool po,.int .i32 px,.int .i32 py] 126::l)) (fun a' _=>n - (intOf (a'.tmps.getD 11 undef)).toNat) ?_ ?_
 ·exact ⟨0,0,0,none,false,[],rfl,Nat.zero_le _,rfl,rfl,HB.out⟩
 ·intro a' wr hI
  obtain ⟨j,on,oc,oa,d,out,hact,hj,hf,hol,hO⟩:=hI
  obtain ⟨u,hu⟩:∃ u:Nat→Value,∀ k,gf a' k=u k:=⟨_,fun _=>rfl⟩
  simp only [hu] at hact
  clear hu
  subst hact
  have hon:on≤j+1:=by rw [← hol];exact HLN.out j out d hf
  have HF:Hid (pfold pp (P.take j)=(out,d)∧out.length=on):=⟨hf,hol⟩
  clear HB hf hol
  by_cases hlt:j < n
  ·have hlt':(j:Int) < (n:Int):=by omega
   obtain ⟨x,hx⟩:∃ x,P[j]? = some x:=⟨_,List.getElem?_eq_getElem (by rw [HP.out.1];exact hlt)⟩
   obtain ⟨g,o,hpa,c0,c1,c2,c3⟩:=(HP.out.2 wr hO.tail.tail).at hx
   subst hpa
   have hst:=HST.out j x hx
   rw [HF.out.1] at hst
   obtain ⟨xi,xo,xx,xy⟩:=x
   simp only at c0 c1 c2 c3
   have hA:=hO.allocC #[.int .u32 (xi:Int),.bool xo,.int .i32 xx,.int .i32 xy] 126
   have p0:=hA.three.cell 0
   have p1:=hA.three.cell 1
   have p2:=hA.three.cell 2
   have p3:=hA.three.cell 3
   simp at p0 p1 p2 p3
   have HA:Hid (Own w0 _ _):=hA.two
   clear hO hA hx
   by_cases c:d=false∧pi < xi
   ·obtain ⟨rfl,c2'⟩:=c
    have e:pstep pp (out,false) ⟨xi,xo,xx,xy⟩=(out++[pp,⟨xi,xo,xx,xy⟩],true):=by unfold pstep;rw [if_pos ⟨rfl,by rw [HPP.out];exact c2'⟩]
    have HS2:Hid (pfold pp (P.take (j+1))=(out++[pp]++[⟨xi,xo,xx,xy⟩],true)):=by show _=_;rw [hst,e];simp
    have hlt2:(pi:Int) < (xi:Int):=by omega
    clear hst e
    go_wp2_with (at_builtin;refine append1_own rfl _ _ 107 rfl 126 i0 (.agg #[.int .u32 0,.bool false,.int .i32 0,.int .i32 0]) 4 16 Tryz.underlying107 hi hz0 hz1 hz2 rfl (by decide) _ _ _ rfl HA.out _ #[.int .u32 (pi:Int),.bool po,.int .i32 px,.int .i32 py] (by simp) rfl rfl (by intro u hu;simp at hu;rcases hu with rfl | rfl | rfl | rfl <;> rfl) (by unfold maxLen;omega) (by omega) ?_)
    intro g4 c4 w4 hO4 hsz
    have hC:=hO4.two
    have x0:=hC.cell 0
    have x1:=hC.cell 1
    have x2:=hC.cell 2
    have x3:=hC.cell 3
    simp at x0 x1 x2 x3
    have HO4:Hid (Own w0 w4 _):=hO4
    clear hO4 hsz hC HA p0 p1 p2 p3 c0 c1 c2 c3
    go_wp2_with (at_builtin;refine append1_own rfl _ _ 107 rfl 126 i0 (.agg #[.int .u32 0,.bool false,.int .i32 0,.int .i32 0]) 4 16 Tryz.underlying107 hi hz0 hz1 hz2 rfl (by decide) _ _ _ rfl HO4.out _ #[.int .u32 (xi:Int),.bool xo,.int .i32 xx,.int .i32 xy] (by simp) rfl rfl (by intro u hu;simp at hu;rcases hu with rfl | rfl | rfl | rfl <;> rfl) (by unfold maxLen;omega) (by omega) ?_)
    intro g5 c5 w5 hO5 hsz
    have HO5:Hid (Own w0 w5 (Row 126 4 (.slice (some ⟨g5,0,none⟩) (on+1+1) c5) (on+1+1) (cat PlE.cs (out++[pp]++[⟨xi,xo,xx,xy⟩]))::Cells bp #[.int .u32 (pi:Int),.bool po,.int .i32 px,.int .i32 py] 126::l)):=by
     show Own _ _ _
     rw [HSN.out,HSN.out,HPP.out]
     simpa using hO5.two.tail
    clear hO5 hsz HO4 x0 x1 x2 x3
    go_wp2
    exact ⟨⟨j+1,on+1+1,c5,_,true,_,rfl,by omega,HS2.out,by rw [List.length_append,List.length_append,HF.out.2];rfl,HO5.out⟩,by simp [intOf];omega⟩
   ·have e:pstep pp (out,d) ⟨xi,xo,xx,xy⟩=(out++[⟨xi,xo,xx,xy⟩],d):=by unfold pstep;rw [if_neg (by rw [HPP.out];exact c)]
    have HS2:Hid (pfold pp (P.take (j+1))=(out++[⟨xi,xo,xx,xy⟩],d)):=by show _=_;rw [hst,e]
    clear hst e
    cases d with
    | true =>
     clear c
     go_wp2_with (at_builtin;refine append1_own rfl _ _ 107 rfl 126 i0 (.agg #[.int .u32 0,.bool false,.int .i32 0,.int .i32 0]) 4 16 Tryz.underlying107 hi hz0 hz1 hz2 rfl (by decide) _ _ _ rfl HA.out _ #[.int .u32 (xi:Int),.bool xo,.int .i32 xx,.int .i32 xy] (by simp) rfl rfl (by intro u hu;simp at hu;rcases hu with rfl | rfl | rfl | rfl <;> rfl) (by unfold maxLen;omega) (by omega) ?_)
     intro g5 c5 w5 hO5 hsz
     have HO5:Hid (Own w0 w5 (Row 126 4 (.slice (some ⟨g5,0,none⟩) (on+1) c5) (on+1) (cat PlE.cs (out++[⟨xi,xo,xx,xy⟩]))::Cells bp #[.int .u32 (pi:Int),.bool po,.int .i32 px,.int .i32 py] 126::l)):=by
      show Own _ _ _
      rw [HSN.out]
      exact hO5.two.tail
     clear hO5 hsz HA p0 p1 p2 p3
     go_wp2
     exact ⟨⟨j+1,on+1,c5,_,true,_,rfl,by omega,HS2.out,by rw [List.length_append,HF.out.2];rfl,HO5.out⟩,by simp [intOf];omega⟩
    | false =>
     have hlt2:¬ (pi:Int) < (xi:Int):=fun q=>c ⟨rfl,by omega⟩
     clear c
     go_wp2_with (at_builtin;refine append1_own rfl _ _ 107 rfl 126 i0 (.agg #[.int .u32 0,.bool false,.int .i32 0,.int .i32 0]) 4 16 Tryz.underlying107 hi hz0 hz1 hz2 rfl (by decide) _ _ _ rfl HA.out _ #[.int .u32 (xi:Int),.bool xo,.int .i32 xx,.int .i32 xy] (by simp) rfl rfl (by intro u hu;simp at hu;rcases hu with rfl | rfl | rfl | rfl <;> rfl) (by unfold maxLen;omega) (by omega) ?_)
     intro g5 c5 w5 hO5 hsz
     have HO5:Hid (Own w0 w5 (Row 126 4 (.slice (some ⟨g5,0,none⟩) (on+1) c5) (on+1) (cat PlE.cs (out++[⟨xi,xo,xx,xy⟩]))::Cells bp #[.int .u32 (pi:Int),.bool po,.int .i32 px,.int .i32 py] 126::l)):=by
      show Own _ _ _
      rw [HSN.out]
      exact hO5.two.tail
     clear hO5 hsz HA p0 p1 p2 p3
     go_wp2
     exact ⟨⟨j+1,on+1,c5,_,false,_,rfl,by omega,HS2.out,by rw [List.length_append,HF.out.2];rfl,HO5.out⟩,by simp [intOf];omega⟩
  ·have hlt':¬ (j:Int) < (n:Int):=by omega
   have hff:=HF.out.1
   rw [List.take_of_length_le (by rw [HP.out.1];omega)] at hff
   obtain ⟨hi1,hi2⟩:=HIN.out d out hff
   have hol:=HF.out.2
   have HO:Hid (Own w0 wr _):=hO
   have q0:=hO.two.cell 0
   have q1:=hO.two.cell 1
   have q2:=hO.two.cell 2
   have q3:=hO.two.cell 3
   simp at q0 q1 q2 q3
   clear hO hff
   cases d with
   | true =>
    rw [if_pos rfl] at hi1 hi2
    have HI:Hid (out=ins P pp∧on=n+1):=⟨hi1,by omega⟩
    clear hi1 hi2 hol
    go_wp2
    go_ret
    rw [← HI.out.1,← HI.out.2]
    exact ⟨oa,oc,rfl,HO.out.two.tail⟩
   | false =>
    rw [if_neg (by decide)] at hi1 hi2
    have HI:Hid (out++[pp]=ins P pp∧on=n):=⟨hi1,by omega⟩
    clear hi1 hi2 hol
    go_wp2_with (at_builtin;refine append1_own rfl _ _ 107 rfl 126 i0 (.agg #[.int .u32 0,.bool false,.int .i32 0,.int .i32 0]) 4 16 Tryz.underlying107 hi hz0 hz1 hz2 rfl (by decide) _ _ _ rfl HO.out _ #[.int .u32 (pi:Int),.bool po,.int .i32 px,.int .i32 py] (by simp) rfl rfl (by intro u hu;simp at hu;rcases hu with rfl | rfl | rfl | rfl <;> rfl) (by unfold maxLen;omega) (by omega) ?_)
    intro g5 c5 w5 hO5 hsz
    have HO5:Hid (Own w0 w5 (Row 126 4 (.slice (some ⟨g5,0,none⟩) (on+1) c5) (on+1) (cat PlE.cs (out++[pp]))::Cells bp #[.int .u32 (pi:Int),.bool po,.int .i32 px,.int .i32 py] 126::l)):=by
     show Own _ _ _
     rw [HSN.out,HPP.out]
     exact hO5
    clear hO5 hsz HO q0 q1 q2 q3
    go_wp2
    go_ret
    rw [← HI.out.1,← HI.out.2]
    exact ⟨_,c5,rfl,HO5.out.two.tail⟩
end Go.Proofs.YtogmdoiecpihdaaGreatDoor
