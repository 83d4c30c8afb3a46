/- The sort of no places; the sort of any. -/
import Derived.Test.YtogmdoiecpihdaaGreatDoorQs17
import Derived.Test.YtogmdoiecpihdaaGreatDoorQs01
import Derived.RangeFuncNested
import Derived.RangeFuncBound
import Derived.RangeFuncCalls
import Derived.RangeFuncLeaves
import Derived.Shelf.Abstract
import Derived.Shelf.RegionOpen
import Derived.WalkKit
import Derived.OwnWalkIn
import Derived.TacticsInMore
import Derived.LoopNIn
import Derived.LoopIn
import Derived.Test.YtogmdoiecpihdaaGreatDoorQs15
import Derived.Test.YtogmdoiecpihdaaGreatDoorQs10
namespace Go.Proofs.YtogmdoiecpihdaaGreatDoor
open Go.RowKit Go.Shelf
set_option linter.unusedVariables false
set_option maxHeartbeats 4000000
set_option maxRecDepth 100000
theorem insW_nil (w:World) (f:Value):Calls Tryz.prog 204 #[.slice none 0 0,.int .i64 0,.int .i64 0,f] w fun e w'=>e=.returned (.tuple #[])∧w'=w:=by
 go_enter Tryz.func204,Tryz.ntmps204
 go_wp2
 go_loopw [8] (fun v wr=>v=.int .i64 1∧wr=w) (fun _ _=>0)
 case atStart=>exact ⟨rfl,rfl⟩
 case round =>
  obtain ⟨rfl,rfl⟩:=hrel
  go_wp2
  go_end0
  exact ⟨rfl,rfl⟩
theorem pdqW_nil (w:World) (lim:Nat) (f:Value):Calls Tryz.prog 161 #[.slice none 0 0,.int .i64 0,.int .i64 0,.int .i64 (lim:Int),f] w fun e w'=>e=.returned (.tuple #[])∧w'=w:=by
 have H:Hid (Calls _ _ _ _ _):=insW_nil w f
 go_enter Tryz.func161,Tryz.ntmps161
 go_wp2
 go_loopw [1,2,3,10,11] (fun v1 v2 v3 v8 v9 wr=>v1=.int .i64 0∧v2=.int .i64 0∧wr=w) (fun _ _ _ _ _ _=>0)
 case atStart=>exact ⟨rfl,rfl,rfl⟩
 case round =>
  obtain ⟨rfl,rfl,rfl⟩:=hrel
  go_wp2_with fail
  refine H.out.mono ?_
  rintro e w1 ⟨rfl,rfl⟩
  go_wp2
  refine bodyPost_ret (results_none rfl _ _ _) rfl ?_
  exact ⟨rfl,rfl⟩
theorem sortW_nil (w:World) (f:Value):Calls Tryz.prog 105 #[.slice none 0 0,f] w fun e w'=>e=.returned (.tuple #[])∧w'=w:=by
 have HB:Hid (Calls Tryz.prog 135 #[.int .u64 0] w fun e w'=>e=.returned (.int .i64 ((Lib.bitLen 0:Nat):Int))∧w'=w):=by
  have h:=Any.bits_Len (SlLaysF0.n15.bits (P:=Tryz.prog) (ρ:=sortPl_ren) { sortPl with }) (0:Int) w (by omega) (by omega)
  exact h
 have HP:Hid (Calls _ _ _ _ _):=pdqW_nil w (Lib.bitLen 0) f
 generalize Lib.bitLen 0=lim at *
 go_enter Tryz.func105,Tryz.ntmps105
 go_wp2_with fail
 refine HB.out.mono ?_
 rintro e w1 ⟨rfl,rfl⟩
 go_wp2_with fail
 refine HP.out.mono ?_
 rintro e w1 ⟨rfl,rfl⟩
 go_wp2
 go_end0
 exact ⟨rfl,rfl⟩
theorem sort_any (w0 w:World) (l:List Thing) (ao:Option Addr) (cap:Nat) (L:List PlE) (h:Own w0 w (Row 92 4 (.slice ao L.length cap) L.length (cat PlE.cs L)::l)) (hsz:L.length < 1000000000) :
  Calls Tryz.prog 105 #[.slice ao L.length cap,.func (.func 106) #[] #[]] w fun e w'=>e=.returned (.tuple #[])∧∃ L',L'.Perm L∧L'.Pairwise (fun a b=>a.id≤b.id)∧Own w0 w' (Row 92 4 (.slice ao L.length cap) L.length (cat PlE.cs L')::l):=by
 rcases h.row.2 with ⟨hv,hn⟩ | ⟨g,cap',cur,hv,_⟩
 ·have hL:L=[]:=List.eq_nil_of_length_eq_zero hn
  subst hL
  simp only [List.length_nil,Value.slice.injEq] at hv
  obtain ⟨rfl,_,rfl⟩:=hv
  refine (sortW_nil w _).mono ?_
  rintro e w' ⟨rfl,rfl⟩
  exact ⟨rfl,[],List.Perm.refl _,List.Pairwise.nil,h⟩
 ·have hva:=(Value.slice.inj hv).1
  subst hva
  exact sortPl_ok w0 w l g cap L h hsz
end Go.Proofs.YtogmdoiecpihdaaGreatDoor
namespace Go.Proofs.YtogmdoiecpihdaaGreatDoor
open Go.RowKit
set_option linter.unusedVariables false
set_option maxHeartbeats 4000000
def Objt (k:Nat) (o:Obj):Thing where
 is:=fun w A=>w.heap[k]? = some o∧∀ j,A j ↔ j=k
 lt:=by
  rintro w A j ⟨h,hA⟩ a
  rw [(hA j).1 a];exact (Array.getElem?_eq_some_iff.1 h).1
 keep:=by
  rintro w w' A B ⟨h,hA⟩ hf hn
  exact ⟨(hf.block k (Array.getElem?_eq_some_iff.1 h).1 (hn k ((hA k).2 rfl))).trans h,hA⟩
section
variable {w0 w:World} {l A T B:List Thing} {P:Thing} {k:Nat} {o:Obj}
theorem Own.objt (h:Own w0 w (Objt k o::l)):w.heap[k]? = some o:=by
 obtain ⟨_,⟨_,_,hB,_⟩,_⟩:=h
 exact hB.1
theorem Own.putO (h:Own w0 w (Objt k o::l)) (o':Obj):Own w0 (w.putObj k o') (Objt k o'::l):=by
 have hk:=(Array.getElem?_eq_some_iff.1 h.objt).1
 obtain ⟨A,⟨_,hA⟩,_,hact⟩:=h.act
 refine hact _ (Objt k o') (fun j=>j=k) ⟨World.putObj_heap_same hk,fun j=>Iff.rfl⟩ ?_ (fun j hj=>.inl ((hA j).2 hj))
 have g:=grownBy_putObj' w k o'
 exact ⟨g.os,g.tape,g.output,g.size,fun j hj hn=>g.block j hj (fun e=>hn ((hA j).2 (by cases e;rfl)))⟩
theorem Own.allocO (h:Own w0 w l) (o:Obj):Own w0 (w.alloc o) (Objt w.heap.size o::l) :=
 h.new (Objt w.heap.size o) (fun j=>j=w.heap.size) ⟨World.alloc_heap_new w o,fun j=>Iff.rfl⟩ ((Fr.refl _ _).alloc o) (fun j hj=>by omega)
theorem pull_perm:(A++(T++P::B)).Perm (P::(A++(T++B))):=by
 rw [← List.append_assoc,← List.append_assoc];exact List.perm_middle
theorem Own.pull (h:Own w0 w (A++(T++P::B))):Own w0 w (P::(A++(T++B))):=h.perm pull_perm
theorem Own.push (h:Own w0 w (P::(A++(T++B)))):Own w0 w (A++(T++P::B)):=h.perm pull_perm.symm
end
def Seq {α:Type} (n:Nat) (P:Program) (gf:Nat) (lb:Array Value) (w0:World) (encs:α→Array Value) (X Y:List α→List Thing) (G S Sp:List α→Prop):Prop :=
 ∀ (l:Nat) (R R2:List Thing) (W:World),
  (∀ (pre:List α) (x:α) (W1:World) (T:List Thing),G (pre++[x])→Own w0 W1 (X pre++(T++R))→YieldAt Fence.wide (n - 1) P l (encs x) W1 fun e W' =>
    (e=.returned (.bool true)∧Own w0 W' (X (pre++[x])++(T++R)))∨(e=.returned (.bool false)∧Own w0 W' (Y (pre++[x])++(T++R2)))) →
  Own w0 W (X []++R) →
  CallsIn Fence.wide n P gf (#[.func (.yield l) #[] #[]]++lb) W fun e W'=>(∃ v,e=.returned v)∧((∃ xs,S xs∧Own w0 W' (X xs++R))∨∃ pre,Sp pre∧Own w0 W' (Y pre++R2))
def roundQ {α:Type} (w0:World) (X Y:List α→List Thing) (c0:Code) (xs:List α) (R:List Thing):Exit→Act→World→Prop
 | .normal,_,W'=>Own w0 W' (X xs++R)
 | .exit id,_,W'=>c0=.exit id∧Own w0 W' (Y xs++R)
 | _,_,_=>False
theorem range_things {α:Type} {n:Nat} {P:Program} {g:Operand} {ps:Array Tmp} {assign body:Code} {Q:Exit→Act→World→Prop} {a:Act} {w:World}
  {gf:Nat} {lb:Array Value} (hg:a.eval g=.func (.func gf) #[] lb) (eg:∀ args w,(callFunc gf args).run P w=.ok (.enter gf args) w)
  {w0:World} {encs:α→Array Value} (X Y:List α→List Thing) (c0:Code) {G S Sp:List α→Prop} (hseq:Seq (n - 1) P gf lb w0 encs X Y G S Sp) (hps:∀ x,(encs x).size=ps.size) (h0:Own w0 w (X [])) (a₁:α→Act)
  (hassign:∀ (l:Nat) (x:α) (W:World) (K:Act→World→Prop),K (a₁ x) W →
    assign.wpIn (Fence.wide.inRound l) (n - 1 - 1) P (Exit.then K (fun _ _ _=>False)) { tmps:=(ps.zip (encs x)).foldl (fun t (p,v)=>t.setIfInBounds p v) a.tmps,defers:=[] } W)
  (hbody:∀ (l:Nat) (pre:List α) (x:α) (W:World) (R:List Thing),G (pre++[x])→Own w0 W (X pre++R)→body.wpIn (Fence.wide.inRound l) (n - 1 - 1) P (roundQ w0 X Y c0 (pre++[x]) R) (a₁ x) W)
  (hdone:∀ (D:Nat) (xs:List α) (W:World),S xs→Own w0 W (Objt D (.deferred (some []))::X xs)→Q .normal { a with defers:={ target:=.collected D,args:=#[] }::a.defers } W)
  (hstop:∀ (D:Nat) (pre:List α) (W:World),Sp pre→Own w0 W (Objt D (.deferred (some []))::Y pre)→c0.wpIn Fence.wide n P Q { a with defers:={ target:=.collected D,args:=#[] }::a.defers } W) :
  (Code.rangeFunc g ps assign body).wpIn Fence.wide n P Q a w:=by
 refine wpIn_rangeFunc ?_
 intro fn hfn
 obtain ⟨rec,hrec⟩:∃ rec:LoopState→Option Code→Loop,rec=fun st pe=>{ state:=st,pending:=pe,fn,tmps:=a.tmps,params:=ps,assign,body,defers:=w.heap.size }:=⟨_,rfl⟩
 obtain ⟨W1,hW1⟩:∃ W1,(w.alloc (.deferred (some []))).alloc (.loop (rec .ready none))=W1:=⟨_,rfl⟩
 have hO1:Own w0 W1 (X []++([]++[Objt (w.heap.size+1) (.loop (rec .ready none)),Objt w.heap.size (.deferred (some []))])):=by
  have h1:=(h0.allocO (.deferred (some []))).allocO (.loop (rec .ready none))
  rw [World.size_alloc,hW1] at h1
  exact h1.perm (List.perm_append_comm (l₁:=[_,_]))
 refine ⟨w.heap.size+1,[{ target:=.collected w.heap.size,args:=#[] }],W1,{ target:=.fn (.func gf) lb,args:=#[.func (.yield (w.heap.size+1)) #[] #[]] },W1,gf,
  #[.func (.yield (w.heap.size+1)) #[] #[]]++lb,W1,?_,?_,fun _ _=>trivial,?_,(fun h=>nomatch h),?_⟩
 ·rw [← hW1,hrec];exact run_enterLoop_outer _ _ _ _ _
 ·simp only [resolve,hg]
  simp [go_sem]
 ·simp [invoke,go_sem,eg]
 ·refine (hseq (w.heap.size+1) [Objt (w.heap.size+1) (.loop (rec .ready none)),Objt w.heap.size (.deferred (some []))] [Objt (w.heap.size+1) (.loop (rec .done (some c0))),Objt w.heap.size (.deferred (some []))] W1 ?_ hO1).mono ?_
  ·intro pre x W T hG hO
   have h1:=hO.pull
   have hl:=h1.objt
   have hy:=run_yield (P:=P) (args:=encs x) hl (by rw [hrec];exact hps x)
   rw [hrec] at hy
   refine ⟨fn,_,assign,body,hy,roundIn_of_wpIn trivial (hassign _ x W _ ⟨_,run_beginRound hl (by rw [hrec]),?_⟩)⟩
   have h2:=(h1.putO (.loop { rec .ready none with state:=.busy })).push
   refine wpIn_mono (hbody _ pre x _ _ hG h2) ?_
   rintro e a3 W3 hp
   cases e with
   | normal =>
    have h3:=Own.pull (show Own w0 W3 (X (pre++[x])++(T++[Objt (w.heap.size+1) (.loop { rec .ready none with state:=.busy }),Objt w.heap.size (.deferred (some []))])) from hp)
    have hr:=run_endRound (P:=P) none h3.objt
    refine ⟨_,_,hr,.inl ⟨rfl,?_⟩⟩
    have h4:=(h3.putO (.loop { rec .ready none with state:=.ready,pending:=none })).push
    rw [hrec] at h4 ⊢
    exact h4
   | exit id =>
    obtain ⟨hc,hp⟩:=hp
    have h3:=Own.pull (show Own w0 W3 (Y (pre++[x])++(T++[Objt (w.heap.size+1) (.loop { rec .ready none with state:=.busy }),Objt w.heap.size (.deferred (some []))])) from hp)
    have hr:=run_endRound (P:=P) (some (.exit id)) h3.objt
    refine ⟨_,_,hr,.inr ⟨rfl,?_⟩⟩
    have h4:=(h3.putO (.loop { rec .ready none with state:=.done,pending:=some (.exit id) })).push
    rw [hrec] at h4 ⊢
    rw [hc]
    exact h4
   | ret=>exact hp.elim
   | goto t=>exact hp.elim
   | panic ch=>exact hp.elim
   | outgrown=>exact hp.elim
  ·rintro e W2 ⟨⟨v,rfl⟩,(⟨xs,hS,hO⟩ | ⟨pre,hSp,hO⟩)⟩
   ·have h3:=Own.pull (T:=[]) hO
    have hr:=run_endLoop (P:=P) h3.objt (by rw [hrec];simp)
    refine ⟨none,_,by rw [hrec] at hr;exact hr,hdone w.heap.size xs _ hS ?_⟩
    have h4:=(h3.putO (.loop { rec .ready none with state:=.exhausted })).tail
    rw [hrec] at h4
    exact h4.perm (List.perm_append_comm (l₂:=[_]))
   ·have h3:=Own.pull (T:=[]) hO
    have hr:=run_endLoop (P:=P) h3.objt (by rw [hrec];simp)
    refine ⟨some c0,_,by rw [hrec] at hr;exact hr,hstop w.heap.size pre _ hSp ?_⟩
    have h4:=(h3.putO (.loop { rec .done (some c0) with state:=.exhausted })).tail
    rw [hrec] at h4
    exact h4.perm (List.perm_append_comm (l₂:=[_]))
end Go.Proofs.YtogmdoiecpihdaaGreatDoor
namespace Go.Proofs.YtogmdoiecpihdaaGreatDoor
open Go.RowKit Go.Maps Go.Shelf
set_option linter.unusedVariables false
set_option maxHeartbeats 4000000
set_option maxRecDepth 100000
attribute [local go_sem] Oper.semAt_some
theorem list_len2 {S:St} (hS:S.Ok):S.list.length≤1024:=by
 rw [St.list_length hS,hS.live]
 have h1:=List.count_le_length (a:=true) (l:=S.used)
 have h2:=hS.ul
 have h3:=hS.le
 have h4:=hS.n2
 omega
theorem lst_len6 {C:List Cp} (h:lst (-1) C=0):C.length≤6:=by
 rw [← comps_of h rfl,List.length_map]
 exact Nat.le_trans (List.length_filter_le _ _) (by simp)
theorem Own.rcs2 {w0 w:World} {l:List Thing} {ao:Option Addr} {cap n:Nat} {L:List Cp} (h:Own w0 w (Row 46 4 (.slice ao n cap) n (ccat L)::l)) (hn:L.length=n):Cs w ao L:=Own.cs (h.view (by decide)) hn
def fitb (a n m:Nat):Bool:=decide (m &&& a=a) && decide (m &&& n=0)
def Sto.find (σ:Sto) (a n:Nat):List Nat:=σ.S.list.filter (fun id=>fitb a n (msk (σ.cps id)))
def boxes (B:Nat) (p:Option Addr) (a n:Nat) (Z:List Thing):List Thing:=Cells B #[.pointer p] 95::Cells (B+1) #[.int .u8 (a:Int)] 5::Cells (B+2) #[.int .u8 (n:Int)] 5::Z
theorem fitting_ok (w0 w:World) (l:List Thing) (h:Own w0 w l) (p:Option Addr) (a n:Nat) :
  Calls Tryz.prog 150 #[.pointer p,.int .u8 (a:Int),.int .u8 (n:Int)] w fun e w'=>e=.returned (.func (.func 193) #[] #[.pointer (some ⟨w.heap.size,0,none⟩),.pointer (some ⟨w.heap.size+1,0,none⟩),.pointer (some ⟨w.heap.size+2,0,none⟩)])∧Own w0 w' (boxes w.heap.size p a n l)∧w'.heap.size=w.heap.size+3:=by
 have H:Hid (Own w0 _ _):=((h.allocC #[.pointer p] 95).allocC #[.int .u8 (a:Int)] 5).allocC #[.int .u8 (n:Int)] 5
 clear h
 go_enter Tryz.func150,Tryz.ntmps150
 go_wp2
 go_ret
 refine ⟨rfl,?_,by simp⟩
 have h:=H.out
 simp only [World.size_alloc] at h
 exact h.three.in23
theorem fit_seq (w0:World) (b:Nat) (σ:Sto) (K:Nat) (hσ:σ.Ok) (hK:K≤1000000) (hLV:∀ id∈σ.S.list,σ.S.isLive id=true∧id < 4294967296) (B a n:Nat) (ha8:a < 256) (hn8:n < 256) (Z Y:List Nat→List Thing) (ht:Tab w0) (hM:∀ (w:World) (ao:Option Addr) (len cap:Nat) (C:List Cp),C.length=len→Cs w ao C→(∀ q∈C,q.k < 256)→len≤1000000→Calls Tryz.prog 194 #[.slice ao len cap] w fun e w'=>e=.returned (.int .u8 ((msk C:Nat):Int))∧Fr Nobody w w') :
  Seq 3 Tryz.prog 193 #[.pointer (some ⟨B,0,none⟩),.pointer (some ⟨B+1,0,none⟩),.pointer (some ⟨B+2,0,none⟩)] w0 (fun id:Nat=>#[.int .u32 (id:Int)]) (fun pre=>boxes B (some ⟨b,0,none⟩) a n (Store b σ K::Z pre)) Y (fun xs=>xs <+: σ.find a n) (fun xs=>xs=σ.find a n) (fun xs=>xs <+: σ.find a n):=by
 intro l R R2 W hY hO
 have HY:Hid _:=hY
 have HL:Hid (Calls _ _ _ _ _):=slist w0 W _ b σ K (Own.four hO) hσ.s
 have q0:=Own.cell hO 0
 simp at q0
 clear hY hO
 refine callsIn_of_wp Tryz.func193 rfl trivial ?_ rfl
 simp only [Tryz.ntmps193,List.size_toArray,List.length_cons,List.length_nil,Nat.reduceAdd,Nat.reduceSub,Array.replicate_succ,Array.replicate_zero,List.push_toArray,List.append_toArray,List.nil_append,List.cons_append]
 gi_wp2_with fail
 refine ⟨trivial,(callsIn_wide.2 HL.out).mono ?_⟩
 rintro e w1 ⟨v,rfl,hO1⟩
 obtain ⟨va,vc,rfl⟩:=row_any hO1.row
 have H1:Hid (Own w0 w1 (boxes B (some ⟨b,0,none⟩) a n (Store b σ K::Z [])++([Row 38 1 (.slice va σ.S.list.length vc) σ.S.list.length (irow .u32 σ.S.list)]++R))):=(Own.sink (l:=Store b σ K::Cells B #[.pointer (some ⟨b,0,none⟩)] 95::Cells (B+1) #[.int .u8 (a:Int)] 5::Cells (B+2) #[.int .u8 (n:Int)] 5::Z []) (m:=R) hO1).back4
 have hn24:=list_len2 hσ.s
 clear hO1 HL q0
 have HEN:Hid (∀ w' l' (j id:Nat),σ.S.list[j]? = some id→Own w0 w' (Store b σ K::l')→Calls Tryz.prog 119 #[.pointer (some ⟨b,0,none⟩),.int .u32 (id:Int)] w' fun e w''=>∃ ao cap,e=.returned (.tuple #[.agg #[.int .u32 (id:Int),.slice ao (σ.cps id).length cap],.int .i64 0])∧Own w0 w'' (Row 46 4 (.slice ao (σ.cps id).length cap) (σ.cps id).length (ccat (σ.cps id))::Store b σ K::l')):=by
  intro w' l' j id hj h'
  obtain ⟨hl,h32⟩:=hLV id (List.mem_of_getElem? hj)
  obtain ⟨r,C,hr,he,_⟩:=hσ.ent hl
  rw [Sto.cps_of hr he]
  exact sent w0 w' l' b σ K h' hσ id h32 hl r C he hK
 have HCP:Hid (∀ (j id:Nat),σ.S.list[j]? = some id→(∀ q∈σ.cps id,q.k < 256)∧(σ.cps id).length≤6):=by
  intro j id hj
  obtain ⟨hl,h32⟩:=hLV id (List.mem_of_getElem? hj)
  obtain ⟨r,C,hr,he,hlC,_⟩:=hσ.ent hl
  rw [Sto.cps_of hr he]
  exact ⟨fun q hq=>by have:=chk_k ((lst_ok hlC).2 q hq).2;omega,lst_len6 hlC⟩
 have HFD:Hid (∀ (j id:Nat),σ.S.list[j]? = some id→((σ.S.list.take (j+1)).filter (fun id=>fitb a n (msk (σ.cps id))))=(σ.S.list.take j).filter (fun id=>fitb a n (msk (σ.cps id)))++(if fitb a n (msk (σ.cps id)) then [id] else [])):=by
  intro j id hj
  rw [List.take_add_one,hj,List.filter_append]
  by_cases h:fitb a n (msk (σ.cps id))=true <;> simp [h]
 have HAL:Hid ((σ.S.list.take σ.S.list.length).filter (fun id=>fitb a n (msk (σ.cps id)))=σ.find a n):=by show _=_;rw [List.take_length];rfl
 clear hσ hLV
 obtain ⟨IL,hIL⟩:∃ I,I=σ.S.list:=⟨_,rfl⟩
 simp only [← hIL] at H1 hn24 HEN HCP HFD HAL ⊢
 generalize hln:IL.length=nl at *
 have HN:Hid (IL.length=nl):=hln
 clear hln hIL
 gi_wp2
 gi_loopw [13] (fun cv wr=>∃ j:Nat,j≤nl∧cv=.int .i64 j∧Own w0 wr (boxes B (some ⟨b,0,none⟩) a n (Store b σ K::Z ((IL.take j).filter (fun id=>fitb a n (msk (σ.cps id)))))++([Row 38 1 (.slice va nl vc) nl (irow .u32 IL)]++R))) (fun cv _=>nl - (intOf cv).toNat)
 case atStart=>exact ⟨0,Nat.zero_le _,rfl,H1.out⟩
 case round =>
  obtain ⟨j,hj,rfl,hO⟩:=hrel
  have HO:Hid (Own w0 wr _):=hO
  clear H1
  by_cases hlt:j < nl
  ·have hlt':(j:Int) < (nl:Int):=by omega
   obtain ⟨id,hid⟩:∃ id,IL[j]? = some id:=⟨_,List.getElem?_eq_getElem (by rw [HN.out];exact hlt)⟩
   have hr:=Own.pull (T:=[]) (B:=R) hO
   obtain ⟨g,cp,hv,_⟩:=row_shape hr.row (by omega)
   have hva:=(Value.slice.inj hv).1
   subst hva
   have c0:wr.cell? ⟨g,j,none⟩=some (.int .u32 (id:Int)):=by
    rw [hr.row.cellAt _ (by omega),getElem?_irow,hid];rfl
   have q0:=Own.cell hO 0
   simp at q0
   have HE:Hid (Calls _ _ _ _ _):=HEN.out wr _ j id hid (Own.four hO)
   obtain ⟨hCk,hC6⟩:=HCP.out j id hid
   have HST:=HFD.out j id hid
   have HFJ:Hid ((IL.take (j+1)).filter (fun id=>fitb a n (msk (σ.cps id)))=(IL.take j).filter (fun id=>fitb a n (msk (σ.cps id)))++(if fitb a n (msk (σ.cps id)) then [id] else [])):=HST
   clear hr hv hO hid HST
   have HP2:Hid (∀ p:List Nat→Prop,p ((IL.take j).filter (fun id=>fitb a n (msk (σ.cps id)))++(if fitb a n (msk (σ.cps id)) then [id] else []))→p ((IL.take (j+1)).filter (fun id=>fitb a n (msk (σ.cps id))))):=fun p hp=>by rw [HFJ.out];exact hp
   have HG:Hid (fitb a n (msk (σ.cps id))=true→(IL.take j).filter (fun id=>fitb a n (msk (σ.cps id)))++[id] <+: σ.find a n):=fun hb=>by
    have h1:(IL.take (j+1)).filter (fun id=>fitb a n (msk (σ.cps id))) <+: (IL.take nl).filter (fun id=>fitb a n (msk (σ.cps id))):=(List.take_prefix_take_left (by omega)).filter _
    rw [HAL.out,HFJ.out,if_pos hb] at h1
    exact h1
   clear HFJ
   generalize (IL.take j).filter (fun id=>fitb a n (msk (σ.cps id)))=pre at *
   obtain ⟨fb,hfb⟩:∃ fb,fb=fitb a n (msk (σ.cps id)):=⟨_,rfl⟩
   rw [← hfb] at HP2 HG
   have HFB:Hid (fb=fitb a n (msk (σ.cps id))):=hfb
   clear hfb
   generalize σ.cps id=C at HE hCk hC6 HFB
   generalize hcl:C.length=cl at *
   gi_wp2_with fail
   refine ⟨trivial,(callsIn_wide.2 HE.out).mono ?_⟩
   rintro e w2 ⟨ga,gc,rfl,hO2⟩
   have hB:=hO2.allocC #[.int .u32 (id:Int),.slice ga cl gc] 76
   have x1:=hB.cell 1
   simp at x1
   have HMK:Hid (Calls _ _ _ _ _):=hM _ ga cl gc C hcl (Own.rcs2 hB.two hcl) hCk (by omega)
   have HB:Hid (Own w0 _ _):=hB
   clear hO2 hB HE c0 q0
   gi_wp2_with fail
   refine ⟨trivial,(callsIn_wide.2 HMK.out).mono ?_⟩
   rintro e w3 ⟨rfl,hf⟩
   have hO3:=(HB.out.quiet hf).tail.tail.back4
   have q1:=hO3.two.cell 0
   have q2:=hO3.three.cell 0
   simp at q1 q2
   have H3:Hid (Own w0 w3 (boxes B (some ⟨b,0,none⟩) a n (Store b σ K::Z pre)++([Row 38 1 (.slice (some ⟨g,0,none⟩) nl vc) nl (irow .u32 IL)]++R))):=hO3
   have hm64:=msk_lt C
   clear hf HMK HB hO3 x1 hcl hCk
   generalize msk C=m at *
   have e1:=u8_and_nat m a (by omega) (by omega)
   have e2:=u8_and_nat m n (by omega) (by omega)
   by_cases h1:m &&& a=a
   ·rw [h1] at e1
    have t1:((a:Int) == (a:Int))=true:=by simp
    by_cases h2:m &&& n=0
    ·rw [h2] at e2
     have hfb:fb=true:=by rw [HFB.out];simp [fitb,h1,h2]
     rw [if_pos hfb] at HP2
     have hGG:=HG.out hfb
     have HGG:Hid (pre++[id] <+: σ.find a n):=hGG
     obtain ⟨fn,tmps,assign,body,hy,hR⟩:=HY.out pre id w3 _ hGG H3.out
     clear hGG
     clear hfb h1 h2 HFB
     gi_wp2
     refine hR.mono ?_
     rintro e w4 (⟨rfl,hO4⟩ | ⟨rfl,hO4⟩)
     ·have H4:Hid (Own w0 w4 _):=hO4
      clear hO4 hR hy
      gi_wp2
      refine ⟨⟨j+1,by omega,by go_num,HP2.out (fun p=>Own w0 w4 (boxes B (some ⟨b,0,none⟩) a n (Store b σ K::Z p)++([Row 38 1 (.slice (some ⟨g,0,none⟩) nl vc) nl (irow .u32 IL)]++R))) H4.out⟩,?_⟩
      simp [intOf];omega
     ·have H4:Hid (Own w0 w4 _):=hO4
      clear hO4 hR hy
      gi_wp2
      refine bodyPost_ret (results_none rfl _ _ _) rfl ?_
      refine ⟨⟨_,rfl⟩,.inr ⟨pre++[id],HGG.out,?_⟩⟩
      exact (Own.pull (T:=[]) (B:=R2) H4.out).tail
    ·have t2:(((m &&& n:Nat):Int) == 0)=false:=by rw [beq_eq_false_iff_ne];omega
     have hfb:¬ fb=true:=by rw [HFB.out];simp [fitb,h2]
     rw [if_neg hfb,List.append_nil] at HP2
     clear h2 hfb HFB
     generalize (m &&& n)=mn at *
     gi_wp2
     refine ⟨fun _ h=>(by cases h),?_⟩
     gi_wp2
     all_goals exact ⟨⟨j+1,by omega,by go_num,HP2.out (fun p=>Own w0 w3 (boxes B (some ⟨b,0,none⟩) a n (Store b σ K::Z p)++([Row 38 1 (.slice (some ⟨g,0,none⟩) nl vc) nl (irow .u32 IL)]++R))) H3.out⟩,by simp [intOf];omega⟩
   ·have t1:(((m &&& a:Nat):Int) == (a:Int))=false:=by rw [beq_eq_false_iff_ne];omega
    have hfb:¬ fb=true:=by rw [HFB.out];simp [fitb,h1]
    rw [if_neg hfb,List.append_nil] at HP2
    clear h1 hfb HFB e2
    generalize (m &&& a)=ma at *
    gi_wp2
    refine ⟨fun _ h=>(by cases h),?_⟩
    gi_wp2
    all_goals exact ⟨⟨j+1,by omega,by go_num,HP2.out (fun p=>Own w0 w3 (boxes B (some ⟨b,0,none⟩) a n (Store b σ K::Z p)++([Row 38 1 (.slice (some ⟨g,0,none⟩) nl vc) nl (irow .u32 IL)]++R))) H3.out⟩,by simp [intOf];omega⟩
  ·have hlt':¬ (j:Int) < (nl:Int):=by omega
   have hjn:j=nl:=by omega
   subst hjn
   clear hO
   gi_wp2
   go_end0
   refine ⟨⟨_,rfl⟩,.inl ?_⟩
   have h5:=(Own.pull (T:=[]) (B:=R) HO.out).tail
   rw [HAL.out] at h5
   exact h5
def IterC (w0:World) (p:Option Addr) (a n:Nat) (SG:Thing) (Xs:List Nat):Prop:=∀ (B:Nat) (Z Y:List Nat→List Thing),
 Seq 3 Tryz.prog 193 #[.pointer (some ⟨B,0,none⟩),.pointer (some ⟨B+1,0,none⟩),.pointer (some ⟨B+2,0,none⟩)] w0 (fun id:Nat=>#[.int .u32 (id:Int)]) (fun pre=>boxes B p a n (SG::Z pre)) Y (fun xs=>xs <+: Xs) (fun xs=>xs=Xs) (fun xs=>xs <+: Xs)
theorem iter_store (w0:World) (b:Nat) (σ:Sto) (K:Nat) (hσ:σ.Ok) (hK:K≤1000000) (hLV:∀ id∈σ.S.list,σ.S.isLive id=true∧id < 4294967296) (a n:Nat) (ha8:a < 256) (hn8:n < 256) (ht:Tab w0):IterC w0 (some ⟨b,0,none⟩) a n (Store b σ K) (σ.find a n) :=
 fun B Z Y=>fit_seq w0 b σ K hσ hK hLV B a n ha8 hn8 Z Y ht (fun w ao len cap C h1 h2 h3 h4=>mask_any w ao len cap C h1 h2 h3 h4)
end Go.Proofs.YtogmdoiecpihdaaGreatDoor
