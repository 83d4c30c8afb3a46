/- The world as one thing: Push. -/
import Derived.Test.YtogmdoiecpihdaaGreatDoorQs25
import Derived.Test.YtogmdoiecpihdaaGreatDoorQs10
import Derived.Deep.QuietTactic
import Derived.Test.YtogmdoiecpihdaaGreatDoorQs02
import Derived.Test.YtogmdoiecpihdaaGreatDoorQs20
import Derived.Laws.Rows
import Derived.Deep.RegionHeld3
import Derived.OpenShut
import Derived.Test.YtogmdoiecpihdaaGreatDoorQs11
import Derived.Deep.AppendLies
namespace Go.Proofs.YtogmdoiecpihdaaGreatDoor
open Go.RowKit
set_option linter.unusedVariables false
set_option maxHeartbeats 16000000
set_option maxRecDepth 100000
def pcode (E:List OrdE) (o:OrdE):Int:=if o.ck≠0 then (o.ck:Int) else if 256≤E.length then 8 else 0
def PushTo (E:List OrdE) (o:OrdE) (E':List OrdE):Prop:=if o.ck=0∧E.length < 256 then ∃ a c,E'=E++[{ o with ao:=a,cap:=c }] else E'=E
theorem opush (w0 w:World) (l:List Thing) (bw:Nat) (E:List OrdE) (ht:Tab w0) (h:Own w0 w (Buf bw E::l)) (o:OrdE) (hi:o.In) (hCs:∀ w',Own w0 w' l→Cs w' o.ao o.C) :
  Calls Tryz.prog 43 #[.pointer (some ⟨bw,0,none⟩),o.ag] w fun e w'=>∃ E',e=.returned (.int .i64 (pcode E o))∧PushTo E o E'∧Own w0 w' (Buf bw E'::l):=by
 by_cases hck:o.ck=0
 ·by_cases hl:256≤E.length
  ·have hpc:pcode E o=8:=by unfold pcode;rw [if_neg (by omega),if_pos hl]
   refine (push_full w0 w l bw E ht h o hi hCs hck hl).mono ?_
   rintro e w' ⟨rfl,h2⟩
   exact ⟨E,by rw [hpc],by unfold PushTo;rw [if_neg (by omega)],h2⟩
  ·have hpc:pcode E o=0:=by unfold pcode;rw [if_neg (by omega),if_neg hl]
   refine (push_ok w0 w l bw E ht h o hi hCs hck (by omega)).mono ?_
   rintro e w' ⟨rfl,a,c,h2⟩
   exact ⟨_,by rw [hpc],by unfold PushTo;rw [if_pos ⟨hck,by omega⟩];exact ⟨a,c,rfl⟩,h2⟩
 ·have hpc:pcode E o=(o.ck:Int):=by unfold pcode;rw [if_pos hck]
  refine (push_bad w0 w _ bw ht h o hi (fun w' hw=>hCs w' hw.tail) hck).mono ?_
  rintro e w' ⟨rfl,h2⟩
  exact ⟨E,by rw [hpc],by unfold PushTo;rw [if_neg (by omega)],h2⟩
theorem wpush (w0 w:World) (l:List Thing) (b K n:Nat) (x:Wd) (ht:Tab w0) (h:Own w0 w (WdT b x K n::l)) (o:OrdE) (hi:o.In) (hCs:∀ w',Own w0 w' l→Cs w' o.ao o.C) :
  Calls Tryz.prog 12 #[.pointer (some ⟨b,0,none⟩),o.ag] w fun e w'=>∃ E',e=.returned (.int .i64 (pcode x.E o))∧PushTo x.E o E'∧Own w0 w' (WdT b { x with E:=E' } K n::l):=by
 obtain ⟨bs,bw,mp,pv,h⟩:=h.wdO
 have hA:=h.allocC #[.int .u8 (o.d:Int),.int .u32 (o.id:Int),.int .u8 (o.k:Int),.slice o.ao o.C.length o.cap] 41
 have hq:=hA.three.cell 2
 simp [wcs] at hq
 have HP:Hid (Calls _ _ _ _ _):=opush w0 _ _ bw x.E ht (hA.drew.five) o hi (fun w' hw=>hCs w' (by
  have h1:=hw.tail.tail.tail.tail.tail
  exact h1))
 have HSH:Hid (∀ W E',Own w0 W (Buf bw E'::Cells w.heap.size #[.int .u8 (o.d:Int),.int .u32 (o.id:Int),.int .u8 (o.k:Int),.slice o.ao o.C.length o.cap] 41::Store bs x.σ K::Cells b (wcs x.T bs bw mp pv) 102::SMapO mp n x.S::View 4 pv x.P.length (cat PlE.cs x.P)::l)→Own w0 W (WdT b { x with E:=E' } K n::l)):=fun W E' h=>by
  have h1:=h.two.tail
  have h2:Own w0 W (Store bs x.σ K::Cells b (wcs x.T bs bw mp pv) 102::SMapO mp n x.S::Buf bw E'::View 4 pv x.P.length (cat PlE.cs x.P)::l):=h1.back4
  exact Own.wdS (x:={ x with E:=E' }) h2
 have HAO:Hid (Own w0 _ _):=hA
 unfold OrdE.ag at HP ⊢
 generalize pcode x.E o=pc at *
 generalize o.C.length=ocl at *
 generalize hod:o.d=od at *
 generalize hoi:o.id=oi at *
 generalize hok:o.k=ok at *
 generalize hoa:o.ao=oa at *
 generalize hoc:o.cap=oc at *
 clear h hA hi hCs ht hod hoi hok hoa hoc
 go_enter Tryz.func12,Tryz.ntmps12
 go_wp2
 generalize hWg:w.alloc (.cells #[.int .u8 (od:Int),.int .u32 (oi:Int),.int .u8 (ok:Int),.slice oa ocl oc] 41)=W1 at *
 generalize w.heap.size=Bq at *
 clear hWg
 have p0:=HAO.out.cell 0
 have p1:=HAO.out.cell 1
 have p2:=HAO.out.cell 2
 have p3:=HAO.out.cell 3
 simp at p0 p1 p2 p3
 go_region_held3 (fun w'=>w'.cell? ⟨b,2,none⟩=some (.pointer (some ⟨bw,0,none⟩))∧w'.cell? ⟨Bq,0,none⟩=some (.int .u8 (od:Int))∧w'.cell? ⟨Bq,1,none⟩=some (.int .u32 (oi:Int))∧w'.cell? ⟨Bq,2,none⟩=some (.int .u8 (ok:Int))∧w'.cell? ⟨Bq,3,none⟩=some (.slice oa ocl oc)) (go_keep)
  (first
    | (go_at_call 43;refine HP.out.mono ?_;rintro e w5 ⟨E',rfl,hE',h5⟩
       have u0:=h5.two.cell 0
       have u1:=h5.two.cell 1
       have u2:=h5.two.cell 2
       have u3:=h5.two.cell 3
       have u4:=h5.four.cell 2
       simp [wcs] at u0 u1 u2 u3 u4
       have H5:Hid (Own w0 w5 _):=HSH.out w5 E' h5
       have HE:Hid (PushTo x.E o E'):=hE'
       clear h5 hE'))
 clear HP HSH HAO
 go_wp2
 go_ret
 exact ⟨E',rfl,HE.out,H5.out⟩
def PlOf (S S':Nat→Nat→Option SgE) (T:Nat) (P:List PlE):Prop:=∃ L1 L2,LeftOf (sgp S) (sgp S') (fun _ _=>false) L1∧ReachOf S' T (fun _ _=>false) L2∧P.Perm (L1++L2)∧P.Pairwise (fun a b=>a.id≤b.id)
theorem allS_len {σ:Sto} (hσ:σ.Ok):(allS σ).length≤6144:=by
 have h1:∀ L:List Nat,(∀ id∈L,(σ.cps id).length≤6)→(L.flatMap (fun id=>(σ.cps id).map (fun c=>(id,c)))).length≤6*L.length:=by
  intro L
  induction L with
  | nil=>intro _;simp
  | cons a L ih =>
   intro h
   rw [List.flatMap_cons,List.length_append,List.length_map,List.length_cons]
   have h2:=h a (List.mem_cons_self ..)
   have h3:=ih (fun id hid=>h id (List.mem_cons_of_mem _ hid))
   omega
 have h2:=h1 σ.S.list (fun id hid=>by
  obtain ⟨hl,_⟩:=St.list_w hσ.s hid
  obtain ⟨r,C,hr,he,hC,_⟩:=hσ.ent hl
  rw [Sto.cps_of hr he]
  exact lst_len6 hC)
 have h3:=list_lenW hσ.s
 unfold allS
 omega
theorem runs_ok (E:List OrdE):∀ s:Sto × Nat,s.1.Ok→(runs stq s E).2.1.Ok:=by
 induction E with
 | nil=>intro s h;exact h
 | cons o E ih=>intro s h;exact ih _ (stq_ok s h o).1
def Wd.next (x:Wd) (K:Nat) (P:List PlE):Wd:=⟨x.T+1,(runs stq (x.σ,K) x.E).2.1.sys,[],mapOf x.S (x.T+1) (allS (runs stq (x.σ,K) x.E).2.1.sys),P⟩
theorem wstep (w0 w:World) (l:List Thing) (b K n:Nat) (x:Wd) (ht:Tab w0) (hσ:x.σ.Ok) (hK:K≤700000) (hn:n≤100000) (hT:x.T < 4294967295) (hE:x.E.length≤1000) (hEI:∀ o∈x.E,o.In)
  (h:Own w0 w (WdT b x K n::l)) :
  Calls Tryz.prog 15 #[.pointer (some ⟨b,0,none⟩)] w fun e w'=>∃ (ra:Option Addr) (rc K' n':Nat) (P:List PlE),e=.returned (.tuple #[.slice ra x.E.length rc,.int .i64 0])∧K'≤K+2*x.E.length+2048∧n'≤6144∧(x.next K P).σ.Ok∧PlOf x.S (x.next K P).S (x.T+1) P∧Own w0 w' (Row 89 2 (.slice ra x.E.length rc) x.E.length (cat rcel (runs stq (x.σ,K) x.E).1)::WdT b (x.next K P) K' n'::l):=by
 obtain ⟨bs,bw,mp,pv,h⟩:=h.wdO
 have hok:(runs stq (x.σ,K) x.E).2.1.sys.Ok:=sys_ok (runs_ok x.E (x.σ,K) hσ)
 refine (step_ok w0 w _ b bs bw x.T pv mp n x.S x.σ K x.E ht hσ hK hn hT hE hEI h).mono ?_
 rintro e w' ⟨ra,rc,rfl,σ',K',mn,ao,cap,P,L1,L2,rfl,hK',h1,h2,h3,h4,h5⟩
 refine ⟨ra,rc,K',_,P,rfl,hK',allS_len hok,hok,⟨L1,L2,h1,h2,h3,h4⟩,?_⟩
 have h6:=(h5.fr6.tail.five.view (by decide)).perm (List.perm_middle (l₁:=[Row 89 2 (.slice ra x.E.length rc) x.E.length (cat rcel (runs stq (x.σ,K) x.E).1),Store bs _ K',Cells b _ 102,SMapO (some mn) _ _]) (l₂:=Buf bw []::l)).symm
 have h7:Own w0 w' (Row 89 2 (.slice ra x.E.length rc) x.E.length (cat rcel (runs stq (x.σ,K) x.E).1)::(WdX b (x.next K P) K' (allS (runs stq (x.σ,K) x.E).2.1.sys).length (bs,bw,some mn,.slice ao P.length cap)++l)):=h6.perm (List.Perm.cons _ (List.Perm.cons _ (List.Perm.cons _ (List.Perm.cons _ (List.Perm.swap _ _ l)))))
 exact Own.ex2.2 ⟨(bs,bw,some mn,.slice ao P.length cap),h7⟩
theorem wstep_end (w0 w:World) (l:List Thing) (b K n:Nat) (x:Wd) (hT:x.T=4294967295) (h:Own w0 w (WdT b x K n::l)) :
  Calls Tryz.prog 15 #[.pointer (some ⟨b,0,none⟩)] w fun e w'=>e=.returned (.tuple #[.slice none 0 0,.int .i64 11])∧w'=w:=by
 obtain ⟨bs,bw,mp,pv,h⟩:=h.wdO
 have q0:=h.two.cell 0
 simp [wcs] at q0
 rw [hT] at q0
 clear h hT
 go_enter Tryz.func15,Tryz.ntmps15
 go_wp2
 go_ret2
 exact ⟨rfl,rfl⟩
theorem wlistT (w0 w:World) (l:List Thing) (b K n:Nat) (x:Wd) (hσ:x.σ.Ok) (hK:K≤1000000) (h:Own w0 w (WdT b x K n::l)) :
  Calls Tryz.prog 29 #[.pointer (some ⟨b,0,none⟩)] w fun e w'=>∃ (ao:Option Addr) (cap:Nat) (L:List EnE),e=.returned (.slice ao L.length cap)∧L.map (fun x=>(x.id,x.C))=x.σ.S.list.map (fun id=>(id,x.σ.cps id))∧Own w0 w' (EntsT ao cap L::WdT b x K n::l):=by
 obtain ⟨bs,bw,mp,pv,h⟩:=h.wdO
 refine (wlist w0 w _ b bs _ x.σ K h rfl hσ hK).mono ?_
 rintro e w' ⟨ao,cap,L,rfl,hL,h2⟩
 refine ⟨ao,cap,L,rfl,hL,?_⟩
 have h3:=(h2.perm perm_ents).ents
 exact Own.ex2.2 ⟨(bs,bw,mp,pv),h3⟩
structure FrOf (w:World) where
 val:World
 fr:Fr Nobody w val
instance (w:World):Inhabited (FrOf w):=⟨⟨w,Fr.refl _ _⟩⟩
theorem wp_region_fr {P:Program} {id:Nat} {Q:Exit→Act→World→Prop} {a:Act} {w:World} {l:List Oper} (hm:P.follows .mixedOrders=true) (hB:Region.lexB .any l.toArray=true)
  (h:wpQuiet P l.toArray (fun w'=>∃ f:FrOf w,w'=f.val) (fun a'=>∀ w',(∃ f:FrOf w,w'=f.val)→Q .normal a' w') l a):(Code.region id l.toArray true).wp P Q a w :=
 wp_region_quiet (C:=fun w'=>∃ f:FrOf w,w'=f.val) hm hB ⟨⟨_,(Fr.refl _ w).drew⟩,rfl⟩ (by simpa using h)
theorem Calls.fr_of {P:Program} {f:FuncId} {args:Array Value} {w:World} {v:Value} {g:FrOf w}
  (h:Calls P f args g.val fun e w'=>e=.returned v∧Fr Nobody g.val w'):Calls P f args g.val fun e w''=>e=.returned v∧∃ f:FrOf w,w''=f.val :=
 h.mono fun _ w' ⟨he,hf⟩=>⟨he,⟨w',g.fr.trans hf⟩,rfl⟩
theorem Calls.fr_same {P:Program} {f:FuncId} {args:Array Value} {w:World} {v:Value} {g:FrOf w}
  (h:Calls P f args g.val fun e w'=>e=.returned v∧w'=g.val):Calls P f args g.val fun e w''=>e=.returned v∧∃ f:FrOf w,w''=f.val :=
 h.mono fun _ w' ⟨he,hf⟩=>⟨he,g,hf⟩
theorem Own.frCells {w0 w:World} {l:List Thing} {b:Nat} {cur:Array Value} {t:TypeId} (h:Own w0 w (Cells b cur t::l)) (f:FrOf w) (i:Nat):f.val.cell? ⟨b,i,none⟩=cur[i]?:=(h.quiet f.fr).cell i
theorem sees_no (w:World) (on:Bool) (x y r px py:Int) (hR:hasR on x y r=false):Calls Tryz.prog 133 #[rgv on x y r,.int .i32 px,.int .i32 py] w fun e w'=>e=.returned (.bool false)∧Fr Nobody w w':=by
 have CH:Hid (∀ W,Calls Tryz.prog 84 #[.agg #[.bool on,.int .i64 x,.int .i64 y,.int .i64 r]] W fun e w'=>e=.returned (.bool false)∧Fr Nobody W w'):=fun W=>by rw [← hR];exact hasCells_ok W on x y r
 have hA:=(Own.start w).allocC #[.bool on,.int .i64 x,.int .i64 y,.int .i64 r] 71
 have HA:Hid (Own w _ _):=hA
 clear hA hR
 unfold rgv
 go_enter Tryz.func133,Tryz.ntmps133
 go_wp2
 generalize hWg:w.alloc (.cells #[.bool on,.int .i64 x,.int .i64 y,.int .i64 r] 71)=W1 at *
 generalize w.heap.size=B at *
 clear hWg
 have q0:=fun f=>HA.out.frCells f 0
 have q1:=fun f=>HA.out.frCells f 1
 have q2:=fun f=>HA.out.frCells f 2
 have q3:=fun f=>HA.out.frCells f 3
 simp at q0 q1 q2 q3
 refine wp_region_fr (by kernel_rfl) (by kernel_rfl) ?_
 repeat (with_reducible refine wpQuiet_step (fun K hK=>?_)
         go_simp
         first
          | (refine hK _ ?_;clear hK K)
          | (apply Exists.intro
             refine ⟨fun _=>?_,hK _ ?_⟩
             (go_at_call 84;with_reducible refine Calls.fr_of (CH.out _))
             clear hK K))
 refine wpQuiet_nil ?_
 rintro w' ⟨f,rfl⟩
 have HF:Hid (Fr Nobody w f.val):=HA.out.fr.trans f.fr
 clear HA q0 q1 q2 q3
 go_wp2
 go_ret
 exact ⟨by simp,HF.out⟩
theorem wr64 {x r:Int} (h1:-32≤x) (h2:x≤31) (h3:0≤r) (h4:r≤8):IntKind.i64.wrap (x - r)=x - r:=by simp only [IntKind.wrap_i64];omega
theorem wr64' {x r:Int} (h1:-32≤x) (h2:x≤31) (h3:0≤r) (h4:r≤8):IntKind.i64.wrap (x+r)=x+r:=by simp only [IntKind.wrap_i64];omega
theorem sees_far (w:World) (on:Bool) (x y r px py:Int) (hR:hasR on x y r=true) (hpx:I32 px) (hpy:I32 py) (h1:bw (cel px) (x - r) (x+r)=false):Calls Tryz.prog 133 #[rgv on x y r,.int .i32 px,.int .i32 py] w fun e w'=>e=.returned (.bool false)∧Fr Nobody w w':=by
 have CH:Hid (∀ W,Calls Tryz.prog 84 #[.agg #[.bool on,.int .i64 x,.int .i64 y,.int .i64 r]] W fun e w'=>e=.returned (.bool true)∧Fr Nobody W w'):=fun W=>by rw [← hR];exact hasCells_ok W on x y r
 have hb:=inR_iff.1 (by unfold hasR at hR;exact (Bool.and_eq_true .. ▸ hR).2:inR x y r=true)
 obtain ⟨⟨bx1,bx2⟩,⟨by1,by2⟩,br1,br2⟩:=hb
 obtain ⟨cx,hcx⟩:∃ cx,cx=cel px:=⟨_,rfl⟩
 obtain ⟨cy,hcy⟩:∃ cy,cy=cel py:=⟨_,rfl⟩
 have CX:Hid (∀ W,Calls Tryz.prog 79 #[.int .i32 px] W fun e w'=>e=.returned (.int .i64 cx)∧w'=W):=fun W=>by rw [hcx];exact of_ok W px hpx
 have CY:Hid (∀ W,Calls Tryz.prog 79 #[.int .i32 py] W fun e w'=>e=.returned (.int .i64 cy)∧w'=W):=fun W=>by rw [hcy];exact of_ok W py hpy
 rw [← hcx] at h1
 have C1:Hid (∀ W,Calls Tryz.prog 177 #[.int .i64 cx,.int .i64 (IntKind.i64.wrap (x - r)),.int .i64 (IntKind.i64.wrap (x+r))] W fun e w'=>e=.returned (.bool false)∧w'=W):=fun W=>by rw [wr64 bx1 bx2 br1 br2,wr64' bx1 bx2 br1 br2,← h1];exact within_ok W _ _ _
 have hA:=(Own.start w).allocC #[.bool on,.int .i64 x,.int .i64 y,.int .i64 r] 71
 have HA:Hid (Own w _ _):=hA
 clear hA hR hcx hcy hpx hpy h1
 unfold rgv
 go_enter Tryz.func133,Tryz.ntmps133
 go_wp2
 generalize hWg:w.alloc (.cells #[.bool on,.int .i64 x,.int .i64 y,.int .i64 r] 71)=W1 at *
 generalize w.heap.size=B at *
 clear hWg
 have q0:=fun f=>HA.out.frCells f 0
 have q1:=fun f=>HA.out.frCells f 1
 have q2:=fun f=>HA.out.frCells f 2
 have q3:=fun f=>HA.out.frCells f 3
 simp at q0 q1 q2 q3
 refine wp_region_fr (by kernel_rfl) (by kernel_rfl) ?_
 repeat (with_reducible refine wpQuiet_step (fun K hK=>?_)
         go_simp
         first
          | (refine hK _ ?_;clear hK K)
          | (apply Exists.intro
             refine ⟨fun _=>?_,hK _ ?_⟩
             (first
               | (go_at_call 84;with_reducible refine Calls.fr_of (CH.out _))
               | (go_at_call 79;with_reducible refine Calls.fr_same (CX.out _))
               | (go_at_call 79;with_reducible refine Calls.fr_same (CY.out _))
               | (go_at_call 177;with_reducible refine Calls.fr_same (C1.out _)))
             clear hK K))
 refine wpQuiet_nil ?_
 rintro w' ⟨f,rfl⟩
 have HF:Hid (Fr Nobody w f.val):=HA.out.fr.trans f.fr
 clear HA q0 q1 q2 q3
 go_wp2
 go_ret
 exact ⟨by simp,HF.out⟩
theorem sees_near (w:World) (on:Bool) (x y r px py:Int) (hR:hasR on x y r=true) (hpx:I32 px) (hpy:I32 py) (h1:bw (cel px) (x - r) (x+r)=true):Calls Tryz.prog 133 #[rgv on x y r,.int .i32 px,.int .i32 py] w fun e w'=>e=.returned (.bool (bw (cel py) (y - r) (y+r)))∧Fr Nobody w w':=by
 have CH:Hid (∀ W,Calls Tryz.prog 84 #[.agg #[.bool on,.int .i64 x,.int .i64 y,.int .i64 r]] W fun e w'=>e=.returned (.bool true)∧Fr Nobody W w'):=fun W=>by rw [← hR];exact hasCells_ok W on x y r
 have hb:=inR_iff.1 (by unfold hasR at hR;exact (Bool.and_eq_true .. ▸ hR).2:inR x y r=true)
 obtain ⟨⟨bx1,bx2⟩,⟨by1,by2⟩,br1,br2⟩:=hb
 obtain ⟨cx,hcx⟩:∃ cx,cx=cel px:=⟨_,rfl⟩
 obtain ⟨cy,hcy⟩:∃ cy,cy=cel py:=⟨_,rfl⟩
 have CX:Hid (∀ W,Calls Tryz.prog 79 #[.int .i32 px] W fun e w'=>e=.returned (.int .i64 cx)∧w'=W):=fun W=>by rw [hcx];exact of_ok W px hpx
 have CY:Hid (∀ W,Calls Tryz.prog 79 #[.int .i32 py] W fun e w'=>e=.returned (.int .i64 cy)∧w'=W):=fun W=>by rw [hcy];exact of_ok W py hpy
 rw [← hcx] at h1
 have C1:Hid (∀ W,Calls Tryz.prog 177 #[.int .i64 cx,.int .i64 (IntKind.i64.wrap (x - r)),.int .i64 (IntKind.i64.wrap (x+r))] W fun e w'=>e=.returned (.bool true)∧w'=W):=fun W=>by rw [wr64 bx1 bx2 br1 br2,wr64' bx1 bx2 br1 br2,← h1];exact within_ok W _ _ _
 obtain ⟨b2,hb2⟩:∃ b,b=bw (cel py) (y - r) (y+r):=⟨_,rfl⟩
 have C2:Hid (∀ W,Calls Tryz.prog 177 #[.int .i64 cy,.int .i64 (IntKind.i64.wrap (y - r)),.int .i64 (IntKind.i64.wrap (y+r))] W fun e w'=>e=.returned (.bool b2)∧w'=W):=fun W=>by rw [wr64 by1 by2 br1 br2,wr64' by1 by2 br1 br2,hb2,← hcy];exact within_ok W _ _ _
 have HB2:Hid (b2=bw (cel py) (y - r) (y+r)):=hb2
 rw [← hb2]
 have hA:=(Own.start w).allocC #[.bool on,.int .i64 x,.int .i64 y,.int .i64 r] 71
 have HA:Hid (Own w _ _):=hA
 clear hA hR hcx hcy hpx hpy h1 hb2
 unfold rgv
 go_enter Tryz.func133,Tryz.ntmps133
 go_wp2
 generalize hWg:w.alloc (.cells #[.bool on,.int .i64 x,.int .i64 y,.int .i64 r] 71)=W1 at *
 generalize w.heap.size=B at *
 clear hWg
 have q0:=fun f=>HA.out.frCells f 0
 have q1:=fun f=>HA.out.frCells f 1
 have q2:=fun f=>HA.out.frCells f 2
 have q3:=fun f=>HA.out.frCells f 3
 simp at q0 q1 q2 q3
 refine wp_region_fr (by kernel_rfl) (by kernel_rfl) ?_
 repeat (with_reducible refine wpQuiet_step (fun K hK=>?_)
         go_simp
         first
          | (refine hK _ ?_;clear hK K)
          | (apply Exists.intro
             refine ⟨fun _=>?_,hK _ ?_⟩
             (first
               | (go_at_call 84;with_reducible refine Calls.fr_of (CH.out _))
               | (go_at_call 79;with_reducible refine Calls.fr_same (CX.out _))
               | (go_at_call 79;with_reducible refine Calls.fr_same (CY.out _))
               | (go_at_call 177;with_reducible refine Calls.fr_same (C1.out _))
               | (go_at_call 177;with_reducible refine Calls.fr_same (C2.out _)))
             clear hK K))
 refine wpQuiet_nil ?_
 rintro w' ⟨f,rfl⟩
 have HF:Hid (Fr Nobody w f.val):=HA.out.fr.trans f.fr
 clear HA q0 q1 q2 q3
 go_wp2
 go_ret
 exact ⟨by simp,HF.out⟩
theorem sees_ok (w:World) (on:Bool) (x y r px py:Int) (hpx:I32 px) (hpy:I32 py):Calls Tryz.prog 133 #[rgv on x y r,.int .i32 px,.int .i32 py] w fun e w'=>e=.returned (.bool (hasC on x y r (cel px) (cel py)))∧Fr Nobody w w':=by
 unfold hasC
 cases hR:hasR on x y r with
 | false=>exact sees_no w on x y r px py hR
 | true =>
  cases h1:bw (cel px) (x - r) (x+r) with
  | false=>exact sees_far w on x y r px py hR hpx hpy h1
  | true=>exact sees_near w on x y r px py hR hpx hpy h1
def no15:Nat→Nat→Option SgE:=fun _ _=>none
theorem step_allW {P:Program} {w0 w:World} {l:List Thing} {ops:Array Oper} {o:Oper} {a:Act} {K:Act→World→Prop} {Q:Exit→Act→World→Prop} {E:Prop} (hgd:o.guard=none) (sx x:Operand) (t:TypeId)
  (ho:o.op=.call { callee:=.builtin .append,args:=#[sx,x],argTypes:=#[t,t] })
  (e:TypeId) (i:TypeInfo) (z:Value) (size bytes:Nat) (ht:P.underlying t=some (.slice e)) (hi:P.info? e=some i) (hz:i.zero=some z)
  (hsize:i.size=size) (hby:i.bytes=bytes) (hzs:z.cells.size=size) (hsz:0 < size)
  (v:Value) (n:Nat) (xs:List Value) (hs:a.eval sx=v) (xa:Option Addr) (m xc:Nat) (ys:List Value) (hx:a.eval x=.slice xa m xc) (hown:Own w0 w (Row e size v n xs::l)) (hr:w.ownsRow 0 e size (.slice xa m xc) m ys) (h1:∀ u∈ys,u.oneCell'=true)
  (h63:n+m≤maxLen) (hbytes:(n+m)*bytes≤140737488355328)
  (h:∀ ao cap w',Own w0 w' (Row e size (.slice ao (n+m) cap) (n+m) (xs++ys)::l)→K (a.put o.dst (.slice ao (n+m) cap)) w') :
  if Region.wanted o (yielded ops a.tmps)=true then Oper.wp P o a w K Q else E:=by
 have hw:Region.wanted o (yielded ops a.tmps)=true:=by simp [Region.wanted,hgd]
 rw [if_pos hw]
 rcases Nat.eq_zero_or_pos m with h0 | h0
 ·subst h0
  have hy:ys=[]:=List.eq_nil_of_length_eq_zero (by rw [hr.1];simp)
  subst hy
  obtain ⟨va,vc,rfl⟩:=row_any hown.row
  have hr:=run_append_empty (P:=P) w 0 t o.type e i size ht hi _ n xs hown.row xa xc
  unfold Oper.wp
  simp [execOp,ho,resolve,invoke,builtin,hs,hx,hr,Result.andThen]
  have:=h va vc w (by simpa using hown)
  simp at this
  exact this
 ·obtain ⟨g,cap,hv,_⟩:=row_shape hr h0
  have hxa:=(Value.slice.inj hv).1
  subst hxa
  refine wp_append_lies w sx x t ho 0 e i z size bytes ht hi hz hsize hby hzs hsz v n xs hs hown.row ⟨g,0,none⟩ m xc ys hx hr.1 (fun j u hu=>by
   rw [addr_add,Nat.zero_add,hr.cellAt j (by rw [← hr.1];exact (List.getElem?_eq_some_iff.1 hu).1)];exact hu) h1 h0 h63 hbytes (Nat.zero_le _) _ rfl ?_
  intro g' cap' w' h2 h3 h4 h5
  refine h _ _ w' (hown.grow h2 h3 (fun k hk=>?_))
  have hk':g'=k:=by simpa [Value.ownBlock] using hk
  subst hk'
  rcases h4 with h4 | h4
  ·exact .inl h4
  ·exact .inr (by omega)
end Go.Proofs.YtogmdoiecpihdaaGreatDoor
namespace Go.Proofs.YtogmdoiecpihdaaGreatDoor
open Go.ChangeShapes Go.WideShapes Go.ChangeAt Go.RowKit Go.Deep
set_option linter.unusedVariables false
set_option maxHeartbeats 16000000
set_option maxRecDepth 100000
theorem stq_K (σ:Sto) (K K':Nat) (o:OrdE):(stq (σ,K) o).1=(stq (σ,K') o).1∧(stq (σ,K) o).2.1=(stq (σ,K') o).2.1:=by
 unfold stq
 split
 ·exact ⟨rfl,rfl⟩
 ·split
  ·exact ⟨rfl,rfl⟩
  ·split
   ·exact ⟨rfl,rfl⟩
   ·split
    ·exact ⟨rfl,rfl⟩
    ·split <;> exact ⟨rfl,rfl⟩
theorem runs_K (E:List OrdE):∀ (σ:Sto) (K K':Nat),(runs stq (σ,K) E).1=(runs stq (σ,K') E).1∧(runs stq (σ,K) E).2.1=(runs stq (σ,K') E).2.1:=by
 induction E with
 | nil=>intro σ K K';exact ⟨rfl,rfl⟩
 | cons o E ih =>
  intro σ K K'
  obtain ⟨h1,h2⟩:=stq_K σ K K' o
  have e:∀ s:Sto × Nat,s=(s.1,s.2):=fun s=>rfl
  simp only [runs]
  rw [h1]
  have h3:=ih (stq (σ,K) o).2.1 (stq (σ,K) o).2.2 (stq (σ,K') o).2.2
  rw [h2] at h3
  rw [e (stq (σ,K) o).2,h2]
  exact ⟨by rw [h3.1],h3.2⟩
end Go.Proofs.YtogmdoiecpihdaaGreatDoor
namespace Go.Proofs.YtogmdoiecpihdaaGreatDoor
open Go.RowKit
set_option linter.unusedVariables false
set_option maxHeartbeats 16000000
set_option maxRecDepth 100000
instance:DecidableEq Cp:=fun x y=>decidable_of_iff (x.k=y.k∧x.a=y.a∧x.b=y.b∧x.c=y.c) (by cases x;cases y;simp)
abbrev En:=Nat × List Cp
def un (C:List Cp):Bool:=C.any (fun c=>!ktold c.k)
def ent1 (p:Nat) (x:En):Nat:=if x.1 / 1024 < 1∨x.1≤p then 4 else if lst (-1) x.2≠0 then lst (-1) x.2 else if un x.2=true then 4 else 0
def fm:Nat→List En→Nat
 | _,[]=>0
 | p,x::t=>if ent1 p x≠0 then ent1 p x else fm x.1 t
def Good (C:List Cp):Prop:=C.Pairwise (fun x y=>x.k < y.k)∧∀ q∈C,q.k < 6
structure Snap (L:List En):Prop where
 up:L.Pairwise (fun a b=>a.1 < b.1)
 good:∀ x∈L,Good x.2
theorem ent1_ok {p:Nat} {x:En} (h:ent1 p x=0):1≤x.1 / 1024∧p < x.1∧lst (-1) x.2=0∧un x.2=false:=by
 unfold ent1 at h
 split at h
 ·cases h
 ·split at h
  ·rename_i h1;exact absurd h h1
  ·split at h
   ·cases h
   ·rename_i h1 h2 h3
    simp only [not_or] at h1
    exact ⟨by omega,by omega,by simpa using h2,by simpa using h3⟩
theorem good_of {C:List Cp} (h:lst (-1) C=0):Good C:=⟨(lst_ok h).1,fun q hq=>chk_k ((lst_ok h).2 q hq).2⟩
theorem fm_ok {L:List En}:∀ {p:Nat},fm p L=0→Snap L∧∀ x∈L,p < x.1:=by
 induction L with
 | nil=>intro p _;exact ⟨⟨List.Pairwise.nil,fun x hx=>by cases hx⟩,fun x hx=>by cases hx⟩
 | cons y t ih =>
  intro p h
  rw [fm] at h
  split at h
  ·rename_i h1;exact absurd h h1
  ·rename_i h1
   have h1:ent1 p y=0:=by simpa using h1
   obtain ⟨h2,h3⟩:=ih h
   obtain ⟨e1,e2,e3,e4⟩:=ent1_ok h1
   refine ⟨⟨List.pairwise_cons.2 ⟨fun x hx=>h3 x hx,h2.up⟩,fun x hx=>?_⟩,fun x hx=>?_⟩
   ·rcases List.mem_cons.1 hx with rfl | hx
    ·exact good_of e3
    ·exact h2.good x hx
   ·rcases List.mem_cons.1 hx with rfl | hx
    ·exact e2
    ·have:=h3 x hx;omega
theorem Snap.of {L:List En} (h:fm 0 L=0):Snap L:=(fm_ok h).1
theorem Snap.tail {x:En} {L:List En} (h:Snap (x::L)):Snap L:=⟨(List.pairwise_cons.1 h.up).2,fun y hy=>h.good y (List.mem_cons_of_mem _ hy)⟩
def fst (L:List Cp) (k:Nat):Option Cp:=L.find? (fun q=>decide (q.k=k))
structure Chg where
 id:Nat
 lost:Nat
 new:List Cp
 set:List Cp
def Chg.nil (c:Chg):Bool:=decide (c.lost=0) && c.new.isEmpty && c.set.isEmpty
def EntsAt (w:World) (ao:Option Addr) (L:List EnE):Prop:=(L=[]∨∃ g o,ao=some ⟨g,o,none⟩∧∀ (j:Nat) x,L[j]? = some x→w.cell? ⟨g,o+j*2,none⟩=some (.int .u32 (x.id:Int))∧w.cell? ⟨g,o+j*2+1,none⟩=some (.slice x.ao x.C.length x.cap))∧∀ x∈L,Cs w x.ao x.C
theorem EntsAt.quiet {w w':World} {ao:Option Addr} {L:List EnE} (h:EntsAt w ao L) (hf:Fr Nobody w w'):EntsAt w' ao L:=by
 refine ⟨?_,fun x hx=>(h.2 x hx).quiet hf⟩
 rcases h.1 with h | ⟨g,o,ha,hc⟩
 ·exact .inl h
 ·refine .inr ⟨g,o,ha,fun j x hx=>?_⟩
  obtain ⟨h0,h1⟩:=hc j x hx
  have hb:=World.block_lt_of_cell? w _ h0
  exact ⟨(hf.cell (p:=⟨g,o+j*2,none⟩) hb id).trans h0,(hf.cell (p:=⟨g,o+j*2+1,none⟩) hb id).trans h1⟩
theorem EntsAt.at {w:World} {ao:Option Addr} {L:List EnE} (h:EntsAt w ao L) {j:Nat} {x:EnE} (hx:L[j]? = some x):∃ g o,ao=some ⟨g,o,none⟩∧w.cell? ⟨g,o+j*2,none⟩=some (.int .u32 (x.id:Int))∧w.cell? ⟨g,o+j*2+1,none⟩=some (.slice x.ao x.C.length x.cap)∧Cs w x.ao x.C:=by
 rcases h.1 with h0 | ⟨g,o,ha,hc⟩
 ·subst h0;simp at hx
 ·exact ⟨g,o,ha,(hc j x hx).1,(hc j x hx).2,h.2 x (List.mem_of_getElem? hx)⟩
theorem Own.entsAt {w0 w:World} {l:List Thing} {ao:Option Addr} {cap:Nat} {L:List EnE} (h:Own w0 w (EntsT ao cap L::l)):EntsAt w ao L:=by
 refine ⟨?_,fun x hx=>?_⟩
 ·rcases Nat.eq_zero_or_pos L.length with h0 | h0
  ·exact .inl (List.eq_nil_of_length_eq_zero h0)
  ·obtain ⟨x0,hx0⟩:∃ x,L[0]? = some x:=⟨_,List.getElem?_eq_getElem h0⟩
   obtain ⟨⟨g,hg,_,_⟩,_⟩:=h.entAt hx0
   refine .inr ⟨g,0,hg,fun j x hx=>?_⟩
   obtain ⟨⟨g',hg',h1,h2⟩,_⟩:=h.entAt hx
   rw [hg] at hg'
   cases hg'
   rw [Nat.zero_add]
   exact ⟨h1,h2⟩
 ·obtain ⟨j,hj⟩:=List.getElem?_of_mem hx
  exact (h.entAt hj).2
def evs (L:List EnE):List En:=L.map (fun x=>(x.id,x.C))
theorem evs_len (L:List EnE):(evs L).length=L.length:=by simp [evs]
theorem evs_at {L:List EnE} {j:Nat} {x:EnE} (h:L[j]? = some x):(evs L)[j]? = some (x.id,x.C):=by simp [evs,h]
def EIn (L:List EnE):Prop:=∀ x∈L,x.id < 4294967296∧∀ q∈x.C,q.k < 256
def csz:List EnE→Nat
 | []=>0
 | x::t=>x.C.length+csz t
theorem csz_append (A B:List EnE):csz (A++B)=csz A+csz B:=by
 induction A with
 | nil=>simp [csz]
 | cons x t ih=>simp only [List.cons_append,csz,ih];omega
theorem csz_take {L:List EnE} {j:Nat} {x:EnE} (h:L[j]? = some x):csz (L.take (j+1))=csz (L.take j)+x.C.length:=by
 rw [List.take_add_one,h,csz_append];simp [csz]
theorem csz_take_le (L:List EnE) (j:Nat):csz (L.take j)≤csz L:=by
 have h:=csz_append (L.take j) (L.drop j)
 rw [List.take_append_drop] at h
 omega
theorem csz_mem {L:List EnE} {x:EnE} (h:x∈L):x.C.length≤csz L:=by
 obtain ⟨j,hj⟩:=List.getElem?_of_mem h
 have h1:=csz_take hj
 have h2:=csz_take_le L (j+1)
 omega
def esz (L:List EnE):Nat:=L.length+csz L
end Go.Proofs.YtogmdoiecpihdaaGreatDoor
