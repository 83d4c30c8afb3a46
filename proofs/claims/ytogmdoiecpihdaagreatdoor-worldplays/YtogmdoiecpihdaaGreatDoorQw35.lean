/- The world as one thing: Push. -/
import Derived.Test.YtogmdoiecpihdaaGreatDoorQw34
import Derived.Test.YtogmdoiecpihdaaGreatDoorQw06
import Derived.Deep.QuietTactic
import Derived.Test.YtogmdoiecpihdaaGreatDoorQw30
import Derived.Laws.Rows
import Derived.Deep.RegionHeld3
namespace Go.Proofs.YtogmdoiecpihdaaGreatDoor
open Go.RowKit
set_option linter.unusedVariables false
set_option maxHeartbeats 16000000
set_option maxRecDepth 100000
def pcode (E : List OrdE) (o : OrdE) : Int := if o.ck ≠ 0 then (o.ck : Int) else if 256 ≤ E.length then 8 else 0
def PushTo (E : List OrdE) (o : OrdE) (E' : List OrdE) : Prop := if o.ck = 0 ∧ E.length < 256 then ∃ a c,E' = E ++ [{ o with ao := a,cap := c }] else E' = E
theorem opush (w0 w : World) (l : List Thing) (bw : Nat) (E : List OrdE) (ht : Tab w0) (h : Own w0 w (Buf bw E :: l)) (o : OrdE) (hi : o.In) (hCs : ∀ w',Own w0 w' l → Cs w' o.ao o.C) :
  Calls Tryz.prog 43 #[.pointer (some ⟨bw,0,none⟩),o.ag] w fun e w' => ∃ E',e = .returned (.int .i64 (pcode E o)) ∧ PushTo E o E' ∧ Own w0 w' (Buf bw E' :: l) := by
 by_cases hck : o.ck = 0
 ·by_cases hl : 256 ≤ E.length
  ·have hpc : pcode E o = 8 := by unfold pcode; rw [if_neg (by omega),if_pos hl]
   refine (push_full w0 w l bw E ht h o hi hCs hck hl).mono ?_
   rintro e w' ⟨rfl,h2⟩
   exact ⟨E,by rw [hpc],by unfold PushTo; rw [if_neg (by omega)],h2⟩
  ·have hpc : pcode E o = 0 := by unfold pcode; rw [if_neg (by omega),if_neg hl]
   refine (push_ok w0 w l bw E ht h o hi hCs hck (by omega)).mono ?_
   rintro e w' ⟨rfl,a,c,h2⟩
   exact ⟨_,by rw [hpc],by unfold PushTo; rw [if_pos ⟨hck,by omega⟩]; exact ⟨a,c,rfl⟩,h2⟩
 ·have hpc : pcode E o = (o.ck : Int) := by unfold pcode; rw [if_pos hck]
  refine (push_bad w0 w _ bw ht h o hi (fun w' hw => hCs w' hw.tail) hck).mono ?_
  rintro e w' ⟨rfl,h2⟩
  exact ⟨E,by rw [hpc],by unfold PushTo; rw [if_neg (by omega)],h2⟩
theorem wpush (w0 w : World) (l : List Thing) (b K n : Nat) (x : Wd) (ht : Tab w0) (h : Own w0 w (WdT b x K n :: l)) (o : OrdE) (hi : o.In) (hCs : ∀ w',Own w0 w' l → Cs w' o.ao o.C) :
  Calls Tryz.prog 12 #[.pointer (some ⟨b,0,none⟩),o.ag] w fun e w' => ∃ E',e = .returned (.int .i64 (pcode x.E o)) ∧ PushTo x.E o E' ∧ Own w0 w' (WdT b { x with E := E' } K n :: l) := by
 obtain ⟨bs,bw,mp,pv,h⟩ := h.wdO
 have hA := h.allocC #[.int .u8 (o.d : Int),.int .u32 (o.id : Int),.int .u8 (o.k : Int),.slice o.ao o.C.length o.cap] 41
 have hq := hA.three.cell 2
 simp [wcs] at hq
 have HP : Hid (Calls _ _ _ _ _) := opush w0 _ _ bw x.E ht (hA.drew.five) o hi (fun w' hw => hCs w' (by
  have h1 := hw.tail.tail.tail.tail.tail
  exact h1))
 have HSH : Hid (∀ W E',Own w0 W (Buf bw E' :: Cells w.heap.size #[.int .u8 (o.d : Int),.int .u32 (o.id : Int),.int .u8 (o.k : Int),.slice o.ao o.C.length o.cap] 41 :: Store bs x.σ K :: Cells b (wcs x.T bs bw mp pv) 102 :: SMapO mp n x.S :: View 4 pv x.P.length (cat PlE.cs x.P) :: l) → Own w0 W (WdT b { x with E := E' } K n :: l)) := fun W E' h => by
  have h1 := h.two.tail
  have h2 : Own w0 W (Store bs x.σ K :: Cells b (wcs x.T bs bw mp pv) 102 :: SMapO mp n x.S :: Buf bw E' :: View 4 pv x.P.length (cat PlE.cs x.P) :: l) := h1.back4
  exact Own.wdS (x := { x with E := E' }) h2
 have HAO : Hid (Own w0 _ _) := hA
 unfold OrdE.ag at HP ⊢
 generalize pcode x.E o = pc at *
 generalize o.C.length = ocl at *
 generalize hod : o.d = od at *
 generalize hoi : o.id = oi at *
 generalize hok : o.k = ok at *
 generalize hoa : o.ao = oa at *
 generalize hoc : o.cap = oc at *
 clear h hA hi hCs ht hod hoi hok hoa hoc
 go_enter Tryz.func12,Tryz.ntmps12
 go_wp2
 generalize hWg : w.alloc (.cells #[.int .u8 (od : Int),.int .u32 (oi : Int),.int .u8 (ok : Int),.slice oa ocl oc] 41) = W1 at *
 generalize w.heap.size = Bq at *
 clear hWg
 have p0 := HAO.out.cell 0
 have p1 := HAO.out.cell 1
 have p2 := HAO.out.cell 2
 have p3 := HAO.out.cell 3
 simp at p0 p1 p2 p3
 go_region_held3 (fun w' => w'.cell? ⟨b,2,none⟩ = some (.pointer (some ⟨bw,0,none⟩)) ∧ w'.cell? ⟨Bq,0,none⟩ = some (.int .u8 (od : Int)) ∧ w'.cell? ⟨Bq,1,none⟩ = some (.int .u32 (oi : Int)) ∧ w'.cell? ⟨Bq,2,none⟩ = some (.int .u8 (ok : Int)) ∧ w'.cell? ⟨Bq,3,none⟩ = some (.slice oa ocl oc)) (go_keep)
  (first
    | (go_at_call 43; refine HP.out.mono ?_; rintro e w5 ⟨E',rfl,hE',h5⟩
       have u0 := h5.two.cell 0
       have u1 := h5.two.cell 1
       have u2 := h5.two.cell 2
       have u3 := h5.two.cell 3
       have u4 := h5.four.cell 2
       simp [wcs] at u0 u1 u2 u3 u4
       have H5 : Hid (Own w0 w5 _) := HSH.out w5 E' h5
       have HE : Hid (PushTo x.E o E') := hE'
       clear h5 hE'))
 clear HP HSH HAO
 go_wp2
 go_ret
 exact ⟨E',rfl,HE.out,H5.out⟩
def PlOf (S S' : Nat → Nat → Option SgE) (T : Nat) (P : List PlE) : Prop := ∃ L1 L2,LeftOf (sgp S) (sgp S') (fun _ _ => false) L1 ∧ ReachOf S' T (fun _ _ => false) L2 ∧ P.Perm (L1 ++ L2) ∧ P.Pairwise (fun a b => a.id ≤ b.id)
theorem allS_len {σ : Sto} (hσ : σ.Ok) : (allS σ).length ≤ 6144 := by
 have h1 : ∀ L : List Nat,(∀ id ∈ L,(σ.cps id).length ≤ 6) → (L.flatMap (fun id => (σ.cps id).map (fun c => (id,c)))).length ≤ 6 * L.length := by
  intro L
  induction L with
  | nil => intro _; simp
  | cons a L ih =>
   intro h
   rw [List.flatMap_cons,List.length_append,List.length_map,List.length_cons]
   have h2 := h a (List.mem_cons_self ..)
   have h3 := ih (fun id hid => h id (List.mem_cons_of_mem _ hid))
   omega
 have h2 := h1 σ.S.list (fun id hid => by
  obtain ⟨hl,_⟩ := St.list_w hσ.s hid
  obtain ⟨r,C,hr,he,hC,_⟩ := hσ.ent hl
  rw [Sto.cps_of hr he]
  exact lst_len6 hC)
 have h3 := list_lenW hσ.s
 unfold allS
 omega
theorem runs_ok (E : List OrdE) : ∀ s : Sto × Nat,s.1.Ok → (runs stq s E).2.1.Ok := by
 induction E with
 | nil => intro s h; exact h
 | cons o E ih => intro s h; exact ih _ (stq_ok s h o).1
def Wd.next (x : Wd) (K : Nat) (P : List PlE) : Wd := ⟨x.T + 1,(runs stq (x.σ,K) x.E).2.1.sys,[],mapOf x.S (x.T + 1) (allS (runs stq (x.σ,K) x.E).2.1.sys),P⟩
theorem wstep (w0 w : World) (l : List Thing) (b K n : Nat) (x : Wd) (ht : Tab w0) (hσ : x.σ.Ok) (hK : K ≤ 700000) (hn : n ≤ 100000) (hT : x.T < 4294967295) (hE : x.E.length ≤ 1000) (hEI : ∀ o ∈ x.E,o.In)
  (h : Own w0 w (WdT b x K n :: l)) :
  Calls Tryz.prog 15 #[.pointer (some ⟨b,0,none⟩)] w fun e w' => ∃ (ra : Option Addr) (rc K' n' : Nat) (P : List PlE),e = .returned (.tuple #[.slice ra x.E.length rc,.int .i64 0]) ∧ K' ≤ K + 2 * x.E.length + 2048 ∧ n' ≤ 6144 ∧ (x.next K P).σ.Ok ∧ PlOf x.S (x.next K P).S (x.T + 1) P ∧ Own w0 w' (Row 89 2 (.slice ra x.E.length rc) x.E.length (cat rcel (runs stq (x.σ,K) x.E).1) :: WdT b (x.next K P) K' n' :: l) := by
 obtain ⟨bs,bw,mp,pv,h⟩ := h.wdO
 have hok : (runs stq (x.σ,K) x.E).2.1.sys.Ok := sys_ok (runs_ok x.E (x.σ,K) hσ)
 refine (step_ok w0 w _ b bs bw x.T pv mp n x.S x.σ K x.E ht hσ hK hn hT hE hEI h).mono ?_
 rintro e w' ⟨ra,rc,rfl,σ',K',mn,ao,cap,P,L1,L2,rfl,hK',h1,h2,h3,h4,h5⟩
 refine ⟨ra,rc,K',_,P,rfl,hK',allS_len hok,hok,⟨L1,L2,h1,h2,h3,h4⟩,?_⟩
 have h6 := (h5.fr6.tail.five.view (by decide)).perm (List.perm_middle (l₁ := [Row 89 2 (.slice ra x.E.length rc) x.E.length (cat rcel (runs stq (x.σ,K) x.E).1),Store bs _ K',Cells b _ 102,SMapO (some mn) _ _]) (l₂ := Buf bw [] :: l)).symm
 have h7 : Own w0 w' (Row 89 2 (.slice ra x.E.length rc) x.E.length (cat rcel (runs stq (x.σ,K) x.E).1) :: (WdX b (x.next K P) K' (allS (runs stq (x.σ,K) x.E).2.1.sys).length (bs,bw,some mn,.slice ao P.length cap) ++ l)) := h6.perm (List.Perm.cons _ (List.Perm.cons _ (List.Perm.cons _ (List.Perm.cons _ (List.Perm.swap _ _ l)))))
 exact Own.ex2.2 ⟨(bs,bw,some mn,.slice ao P.length cap),h7⟩
theorem wstep_end (w0 w : World) (l : List Thing) (b K n : Nat) (x : Wd) (hT : x.T = 4294967295) (h : Own w0 w (WdT b x K n :: l)) :
  Calls Tryz.prog 15 #[.pointer (some ⟨b,0,none⟩)] w fun e w' => e = .returned (.tuple #[.slice none 0 0,.int .i64 11]) ∧ w' = w := by
 obtain ⟨bs,bw,mp,pv,h⟩ := h.wdO
 have q0 := h.two.cell 0
 simp [wcs] at q0
 rw [hT] at q0
 clear h hT
 go_enter Tryz.func15,Tryz.ntmps15
 go_wp2
 go_ret2
 exact ⟨rfl,rfl⟩
theorem wlistT (w0 w : World) (l : List Thing) (b K n : Nat) (x : Wd) (hσ : x.σ.Ok) (hK : K ≤ 1000000) (h : Own w0 w (WdT b x K n :: l)) :
  Calls Tryz.prog 29 #[.pointer (some ⟨b,0,none⟩)] w fun e w' => ∃ (ao : Option Addr) (cap : Nat) (L : List EnE),e = .returned (.slice ao L.length cap) ∧ L.map (fun x => (x.id,x.C)) = x.σ.S.list.map (fun id => (id,x.σ.cps id)) ∧ Own w0 w' (EntsT ao cap L :: WdT b x K n :: l) := by
 obtain ⟨bs,bw,mp,pv,h⟩ := h.wdO
 refine (wlist w0 w _ b bs _ x.σ K h rfl hσ hK).mono ?_
 rintro e w' ⟨ao,cap,L,rfl,hL,h2⟩
 refine ⟨ao,cap,L,rfl,hL,?_⟩
 have h3 := (h2.perm perm_ents).ents
 exact Own.ex2.2 ⟨(bs,bw,mp,pv),h3⟩
theorem sameEnt_any (w : World) (id : Nat) (a1 a2 : Option Addr) (n c1 c2 : Nat) (C : List Cp) (h1 : Cs w a1 C) (h2 : Cs w a2 C) (hn : C.length = n) (hm : n ≤ 1000000) :
  Calls Tryz.prog 64 #[.agg #[.int .u32 (id : Int),.slice a1 n c1],.agg #[.int .u32 (id : Int),.slice a2 n c2]] w fun e w' => e = .returned (.bool true) ∧ Fr Nobody w w' := by
 have HF : Hid (Fr Nobody w ((w.alloc (.cells #[.int .u32 (id : Int),.slice a1 n c1] 76)).alloc (.cells #[.int .u32 (id : Int),.slice a2 n c2] 76))) := ((Fr.refl _ _).alloc _).alloc _
 have HS : Hid (Calls _ _ _ _ _) := same_cs _ a1 a2 n c1 c2 C (h1.quiet HF.out) (h2.quiet HF.out) hn hm
 have hii : ((id : Int) == (id : Int)) = true := by simp
 clear h1 h2 hn
 go_enter Tryz.func64,Tryz.ntmps64
 go_wp2_with fail
 refine HS.out.mono ?_
 rintro e w1 ⟨rfl,hf⟩
 have H1 : Hid (Fr Nobody w w1) := HF.out.trans hf
 clear hf HS
 go_wp2
 go_ret
 exact ⟨rfl,H1.out⟩
structure FrOf (w : World) where
 val : World
 fr : Fr Nobody w val
instance (w : World) : Inhabited (FrOf w) := ⟨⟨w,Fr.refl _ _⟩⟩
theorem wp_region_fr {P : Program} {id : Nat} {Q : Exit → Act → World → Prop} {a : Act} {w : World} {l : List Oper} (hm : P.follows .mixedOrders = true) (hB : Region.lexB .any l.toArray = true)
  (h : wpQuiet P l.toArray (fun w' => ∃ f : FrOf w,w' = f.val) (fun a' => ∀ w',(∃ f : FrOf w,w' = f.val) → Q .normal a' w') l a) : (Code.region id l.toArray true).wp P Q a w :=
 wp_region_quiet (C := fun w' => ∃ f : FrOf w,w' = f.val) hm hB ⟨⟨_,(Fr.refl _ w).drew⟩,rfl⟩ (by simpa using h)
theorem Calls.fr_of {P : Program} {f : FuncId} {args : Array Value} {w : World} {v : Value} {g : FrOf w}
  (h : Calls P f args g.val fun e w' => e = .returned v ∧ Fr Nobody g.val w') : Calls P f args g.val fun e w'' => e = .returned v ∧ ∃ f : FrOf w,w'' = f.val :=
 h.mono fun _ w' ⟨he,hf⟩ => ⟨he,⟨w',g.fr.trans hf⟩,rfl⟩
theorem Calls.fr_same {P : Program} {f : FuncId} {args : Array Value} {w : World} {v : Value} {g : FrOf w}
  (h : Calls P f args g.val fun e w' => e = .returned v ∧ w' = g.val) : Calls P f args g.val fun e w'' => e = .returned v ∧ ∃ f : FrOf w,w'' = f.val :=
 h.mono fun _ w' ⟨he,hf⟩ => ⟨he,g,hf⟩
theorem Own.frCells {w0 w : World} {l : List Thing} {b : Nat} {cur : Array Value} {t : TypeId} (h : Own w0 w (Cells b cur t :: l)) (f : FrOf w) (i : Nat) : f.val.cell? ⟨b,i,none⟩ = cur[i]? := (h.quiet f.fr).cell i
theorem clonePl (w0 w : World) (l : List Thing) (v : Value) (L : List PlE) (hl : L.length ≤ 1000000) (h : Own w0 w (View 4 v L.length (cat PlE.cs L) :: l)) :
  Calls Tryz.prog 87 #[v] w fun e w' => ∃ ao cap,e = .returned (.slice ao L.length cap) ∧ Own w0 w' (Row 92 4 (.slice ao L.length cap) L.length (cat PlE.cs L) :: View 4 v L.length (cat PlE.cs L) :: l) := by
 obtain ⟨i0,hi,hz0,hz1,hz2⟩ := info3w Tryz.infoPl
 have qn : ∀ (w : World) (a : Option Addr) (n c n' c' : Nat),(binOp .eql 86 (.slice a n c) (.slice none n' c')).run Tryz.prog w = .ok (.bool a.isNone) w := fun w a n c n' c' => Lib.run_eql_slice_nil w _ _ a n c n' c' Tryz.underlying86
 obtain ⟨ao,cap,rfl,hv2,hv3⟩ := h.vshape
 obtain ⟨m,hm⟩ : ∃ m,m = L.length := ⟨_,rfl⟩
 have HM : Hid (m = L.length) := hm
 rw [← hm] at hl h ⊢
 cases ao with
 | none =>
  have hL : L = [] := by
   obtain ⟨A,⟨B,C,⟨_,ao,cap,hv,_,_,h5⟩,_⟩,_⟩ := h
   rcases h5 with ⟨h6,_⟩ | ⟨h6,g,o,h7,_⟩
   ·exact List.eq_nil_of_length_eq_zero (by rw [← hm]; exact h6)
   ·rw [h7] at hv; cases hv
  subst hL
  simp at hm
  subst hm
  have H : Hid (Own w0 w _) := h
  clear h
  go_enter Tryz.func87,Tryz.ntmps87
  go_wp2
  go_ret
  exact ⟨none,0,rfl,H.out.nilRow _ _⟩
 | some a =>
  have H : Hid (Own w0 _ (Row 92 4 (.slice (some ⟨w.heap.size,0,none⟩) 0 0) 0 [] :: View 4 (.slice (some a) m cap) m (cat PlE.cs L) :: l)) := h.litRow #[] 92 4 0 (by decide) rfl
  clear h hm hv2 hv3
  go_enter Tryz.func87,Tryz.ntmps87
  go_wp2_with (at_builtin; refine append_view rfl _ _ 86 rfl 92 i0 (.agg #[.int .u32 0,.bool false,.int .i32 0,.int .i32 0]) 4 16 Tryz.underlying86 hi hz0 hz1 hz2 rfl (by decide) _ _ _ rfl _ _ _ rfl H.out (pls_one L) (by unfold maxLen; omega) (by omega) ?_)
  intro a1 c1 w1 hO1 hsz1
  have H1 : Hid (Own w0 w1 (Row 92 4 (.slice a1 m c1) m (cat PlE.cs L) :: View 4 (.slice (some a) m cap) m (cat PlE.cs L) :: l)) := by
   show Own _ _ _
   simpa using hO1
  clear hO1 H hsz1
  go_wp2
  go_ret
  exact ⟨a1,c1,by simp,H1.out⟩
theorem wplaces (w0 w : World) (l : List Thing) (b K n : Nat) (x : Wd) (hl : x.P.length ≤ 1000000) (h : Own w0 w (WdT b x K n :: l)) :
  Calls Tryz.prog 36 #[.pointer (some ⟨b,0,none⟩)] w fun e w' => ∃ ao cap,e = .returned (.slice ao x.P.length cap) ∧ Own w0 w' (Row 92 4 (.slice ao x.P.length cap) x.P.length (cat PlE.cs x.P) :: WdT b x K n :: l) := by
 obtain ⟨bs,bw,mp,pv,h⟩ := h.wdO
 have q4 := h.two.cell 4
 simp [wcs] at q4
 have HC : Hid (Calls _ _ _ _ _) := clonePl w0 w _ pv x.P hl h.five
 have HSH : Hid (∀ W a c,Own w0 W (Row 92 4 (.slice a x.P.length c) x.P.length (cat PlE.cs x.P) :: View 4 pv x.P.length (cat PlE.cs x.P) :: Store bs x.σ K :: Cells b (wcs x.T bs bw mp pv) 102 :: SMapO mp n x.S :: Buf bw x.E :: l) → Own w0 W (Row 92 4 (.slice a x.P.length c) x.P.length (cat PlE.cs x.P) :: WdT b x K n :: l)) := fun W a c h => by
  have h2 : Own w0 W (Row 92 4 (.slice a x.P.length c) x.P.length (cat PlE.cs x.P) :: (WdX b x K n (bs,bw,mp,pv) ++ l)) := h.perm (List.Perm.cons _ (List.perm_middle (l₁ := [Store bs x.σ K,Cells b (wcs x.T bs bw mp pv) 102,SMapO mp n x.S,Buf bw x.E]) (l₂ := l)).symm)
  exact Own.ex2.2 ⟨(bs,bw,mp,pv),h2⟩
 obtain ⟨m,hm⟩ : ∃ m,m = x.P.length := ⟨_,rfl⟩
 rw [← hm] at HC HSH ⊢
 clear h hl hm
 go_enter Tryz.func36,Tryz.ntmps36
 go_wp2_with fail
 refine HC.out.mono ?_
 rintro e w2 ⟨ao,cap,rfl,h2⟩
 have H2 : Hid (Own w0 w2 _) := HSH.out w2 ao cap h2
 clear h2 HC HSH
 go_wp2
 go_ret
 exact ⟨ao,cap,rfl,H2.out⟩
theorem wlive (w0 w : World) (l : List Thing) (b K n : Nat) (x : Wd) (hσ : x.σ.Ok) (id : Nat) (hid : id < 4294967296) (h : Own w0 w (WdT b x K n :: l)) :
  Calls Tryz.prog 65 #[.pointer (some ⟨b,0,none⟩),.int .u32 (id : Int)] w fun e w' => e = .returned (.bool (x.σ.S.isLive id)) ∧ Own w0 w' (WdT b x K n :: l) := by
 obtain ⟨bs,bw,mp,pv,h⟩ := h.wdO
 have HS : Hid (Calls _ _ _ _ _) := wstored w0 w _ b bs _ h.two rfl
 have HL : Hid (Calls _ _ _ _ _) := slive w0 w _ bs x.σ K h hσ.s id hid
 generalize x.σ.S.isLive id = lv at *
 clear h hσ
 go_enter Tryz.func65,Tryz.ntmps65
 go_wp2_with fail
 refine HS.out.mono ?_
 rintro e w1 ⟨rfl,rfl⟩
 go_wp2_with fail
 refine HL.out.mono ?_
 rintro e w2 ⟨rfl,h2⟩
 have H2 : Hid (Own w0 w2 _) := h2.wdS
 clear h2 HS HL
 go_wp2
 go_ret
 exact ⟨rfl,H2.out⟩
theorem Own.smoLook {w0 w : World} {l : List Thing} {mp : Option Nat} {n : Nat} {S : Nat → Nat → Option SgE} (h : Own w0 w (SMapO mp n S :: l)) (i k : Nat) (hi : i < 4294967296) (hk : k < 256) :
  (Instr.lookup 100 (.map mp) (.agg #[.int .u32 (i : Int),.int .u8 (k : Int)]) true).run Tryz.prog w = .ok (lkS (sgp S i k)) w := by
 cases mp with
 | some ms => exact Own.smLook h i k hi hk
 | none =>
  have hS := h.fctIn
  unfold sgp
  rw [hS i k]
  exact (fun w' => Maps.look_nil true keySpot Tryz.underlying100 (zeroSight w') (spk i k hi hk)) w
def chgd (lv : Bool) (o : Option SgE) : Value := if lv = false then .tuple #[.int .u32 0,.int .i64 7] else match o with
 | none => .tuple #[.int .u32 0,.int .i64 10]
 | some s => .tuple #[.int .u32 (s.t : Int),.int .i64 0]
theorem wchanged (w0 w : World) (l : List Thing) (b K n : Nat) (x : Wd) (hσ : x.σ.Ok) (id : Nat) (hid : id < 4294967296) (k : Nat) (hk : k < 256) (h : Own w0 w (WdT b x K n :: l)) :
  Calls Tryz.prog 38 #[.pointer (some ⟨b,0,none⟩),.int .u32 (id : Int),.int .u8 (k : Int)] w fun e w' => e = .returned (chgd (x.σ.S.isLive id) (x.S id k)) ∧ Own w0 w' (WdT b x K n :: l) := by
 have HL : Hid (Calls _ _ _ _ _) := wlive w0 w _ b K n x hσ id hid h
 clear h hσ
 cases hlv : x.σ.S.isLive id with
 | false =>
  rw [hlv] at HL
  clear hlv
  go_enter Tryz.func38,Tryz.ntmps38
  go_wp2_with fail
  refine HL.out.mono ?_
  rintro e w1 ⟨rfl,h1⟩
  have H1 : Hid (Own w0 w1 _) := h1
  clear h1 HL
  go_wp2
  go_ret2
  exact ⟨rfl,H1.out⟩
 | true =>
  rw [hlv] at HL
  clear hlv
  cases hS : x.S id k with
  | none =>
   have HSN : Hid (x.S id k = none) := hS
   clear hS
   go_enter Tryz.func38,Tryz.ntmps38
   go_wp2_with fail
   refine HL.out.mono ?_
   rintro e w1 ⟨rfl,h1⟩
   obtain ⟨bs,bw,mp,pv,h2⟩ := h1.wdO
   have q3 := h2.two.cell 3
   simp [wcs] at q3
   have hlk := h2.three.smoLook id k hid hk
   unfold sgp at hlk
   rw [HSN.out] at hlk
   simp only [Option.map_none,lkS,zSight] at hlk
   have H1 : Hid (Own w0 _ _) := h1.alloc (.cells #[.int .u8 0,.int .i32 0,.int .i32 0,.int .i32 0,.int .u32 0] 163)
   clear h1 h2 HL
   go_wp2
   go_ret2
   exact ⟨rfl,H1.out⟩
  | some s =>
   have HSN : Hid (x.S id k = some s) := hS
   clear hS
   obtain ⟨sk,sa,sb,sc,st⟩ := s
   go_enter Tryz.func38,Tryz.ntmps38
   go_wp2_with fail
   refine HL.out.mono ?_
   rintro e w1 ⟨rfl,h1⟩
   obtain ⟨bs,bw,mp,pv,h2⟩ := h1.wdO
   have q3 := h2.two.cell 3
   simp [wcs] at q3
   have hlk := h2.three.smoLook id k hid hk
   unfold sgp at hlk
   rw [HSN.out] at hlk
   simp only [Option.map_some,lkS,SgE.v] at hlk
   have H1 : Hid (Own w0 _ _) := h1.alloc (.cells #[.int .u8 sk,.int .i32 sa,.int .i32 sb,.int .i32 sc,.int .u32 (st : Int)] 163)
   clear h1 h2 HL
   go_wp2
   go_ret2
   exact ⟨rfl,H1.out⟩
def spC : List Cp := [⟨0,0,0,0⟩,⟨1,5,0,0⟩]
theorem spawn15 (w0 w : World) (l : List Thing) (h : Own w0 w l) : Calls Tryz.prog 35 #[] w fun e w' => ∃ g,e = .returned (OrdE.ag ⟨1,0,0,spC,some ⟨g,0,none⟩,2⟩) ∧ Own w0 w' (Row 46 4 (.slice (some ⟨g,0,none⟩) 2 2) 2 (ccat spC) :: l) := by
 have hB := (h.alloc (.cells #[.int .u8 1,.int .u32 0,.int .u8 0,.slice (some ⟨w.heap.size + 1,0,none⟩) 2 2] 41)).litRow #[.int .u8 0,.int .i32 0,.int .i32 0,.int .i32 0,.int .u8 1,.int .i32 5,.int .i32 0,.int .i32 0] 46 4 2 (by decide) rfl
 simp only [World.size_alloc] at hB
 have HB : Hid (Own w0 _ _) := hB
 clear hB h
 go_enter Tryz.func35,Tryz.ntmps35
 go_wp2
 (try simp only [Exit.inBlock,Exit.then])
 refine bodyPost_ret (results_cell_row rfl _ _ w.heap.size 41 #[.int .u8 1,.int .u32 0,.int .u8 0,.slice (some ⟨w.heap.size + 1,0,none⟩) 2 2] _ _ rfl (by rw [heap_alloc_old _ _ (by simp)]; exact heap_alloc_new w _) Tryz.underlying41 rfl (by kernel_rfl)) rfl ?_
 exact ⟨w.heap.size + 1,rfl,HB.out⟩
def o15 : OrdE := ⟨1,0,0,spC,none,0⟩
def s15 : Sto := (runs stq (Sto.new 9 1,0) [o15]).2.1.sys
def s16 : Sto := s15.sys
theorem r15 : (runs stq (Sto.new 9 1,0) [o15]).1 = [(0,1024)] := by kernel_rfl
theorem a15 : allS s15 = [(1024,⟨0,5,0,0⟩),(1024,⟨1,5,0,0⟩)] := by kernel_rfl
theorem a16 : allS s16 = [(1024,⟨0,10,0,0⟩),(1024,⟨1,5,0,0⟩)] := by kernel_rfl
theorem l16 : s16.S.isLive 1024 = true := by kernel_rfl
theorem k15 : o15.ck = 0 := by kernel_rfl
theorem in15 (a : Option Addr) (c : Nat) : OrdE.In ⟨1,0,0,spC,a,c⟩ := ⟨by show (1 : Nat) < 256; decide,by show (0 : Nat) < 4294967296; decide,by show (0 : Nat) < 256; decide,by intro q hq; simp [spC] at hq; rcases hq with rfl | rfl <;> decide,by show spC.length ≤ 1000000; decide⟩
def no15 : Nat → Nat → Option SgE := fun _ _ => none
def m15 : Nat → Nat → Option SgE := mapOf no15 1 (allS s15)
def m16 : Nat → Nat → Option SgE := mapOf m15 2 (allS s16)
theorem m15_0 (i : Nat) : m15 i 0 = if i = 1024 then some ⟨0,5,0,0,1⟩ else none := by
 unfold m15
 rw [a15]
 simp [mapOf,stpW,sgt,no15]
theorem m15_1 : m15 1024 1 = some ⟨1,5,0,0,1⟩ := by
 unfold m15
 rw [a15]
 simp [mapOf,stpW,sgt,no15]
theorem m16_0 : m16 1024 0 = some ⟨0,10,0,0,2⟩ := by
 unfold m16
 rw [a16]
 simp [mapOf,stpW,sgt,m15_0]
theorem m16_1 : m16 1024 1 = some ⟨1,5,0,0,1⟩ := by
 unfold m16
 rw [a16]
 simp [mapOf,stpW,sgt,m15_1]
theorem pl15 {P : List PlE} (h : PlOf no15 m15 1 P) : P = [⟨1024,true,5,0⟩] := by
 obtain ⟨L1,L2,⟨_,h12,h13⟩,⟨h21,h22,h23⟩,hp,_⟩ := h
 have e1 : L1 = [] := by
  cases L1 with
  | nil => rfl
  | cons q L =>
   exfalso
   have h1 := h12 q (List.mem_cons_self ..)
   have h2 := (h13 q.id h1.1).1 (List.mem_map.2 ⟨q,List.mem_cons_self ..,rfl⟩)
   simp [sgp,no15] at h2
 have e2 : ∀ q ∈ L2,q = ⟨1024,true,5,0⟩ := by
  intro q hq
  obtain ⟨_,h2,s,h3,h4,h5,h6⟩ := h22 q hq
  rw [m15_0] at h3
  split at h3
  ·rename_i hid
   cases h3
   obtain ⟨a,b,c,d⟩ := q
   simp only at hid h2 h5 h6
   rw [hid,h2,h5,h6]
  ·cases h3
 have e3 : L2 = [⟨1024,true,5,0⟩] := by
  have hm : 1024 ∈ L2.map PlE.id := (h23 1024 (by decide)).2 ⟨rfl,⟨0,5,0,0,1⟩,by rw [m15_0]; rfl,rfl⟩
  cases L2 with
  | nil => cases hm
  | cons q L =>
   have hq := e2 q (List.mem_cons_self ..)
   cases L with
   | nil => rw [hq]
   | cons r M =>
    exfalso
    have hr := e2 r (List.mem_cons_of_mem _ (List.mem_cons_self ..))
    rw [hq,hr] at h21
    simp at h21
 rw [e1,e3] at hp
 exact List.perm_singleton.1 hp
theorem step15 (w0 w : World) (l : List Thing) (b : Nat) (ht : Tab w0) (a : Option Addr) (c : Nat) (h : Own w0 w (WdT b ⟨0,Sto.new 9 1,[⟨1,0,0,spC,a,c⟩],no15,[]⟩ 0 0 :: l)) :
  Calls Tryz.prog 15 #[.pointer (some ⟨b,0,none⟩)] w fun e w' => ∃ (ra : Option Addr) (rc K' n' : Nat),e = .returned (.tuple #[.slice ra 1 rc,.int .i64 0]) ∧ K' ≤ 10000 ∧ n' ≤ 6144 ∧ s15.Ok ∧ Own w0 w' (Row 89 2 (.slice ra 1 rc) 1 (cat rcel [(0,1024)]) :: WdT b ⟨1,s15,[],m15,[⟨1024,true,5,0⟩]⟩ K' n' :: l) := by
 have hr : runs stq (Sto.new 9 1,0) [⟨1,0,0,spC,a,c⟩] = runs stq (Sto.new 9 1,0) [o15] := runs_is _ _ _ rfl
 have hx : ∀ P,(Wd.next ⟨0,Sto.new 9 1,[⟨1,0,0,spC,a,c⟩],no15,[]⟩ 0 P) = ⟨1,s15,[],m15,P⟩ := fun P => by
  unfold Wd.next
  simp only [hr]
  rfl
 refine (wstep w0 w l b 0 0 _ ht (Sto.new_ok 9 1 (by decide) (by decide) (by decide) (by decide)) (by decide) (by decide) (by show (0 : Nat) < 4294967295; decide) (by show (1 : Nat) ≤ 1000; decide) (fun o ho => by
  have : o = ⟨1,0,0,spC,a,c⟩ := by simpa using ho
  rw [this]; exact in15 a c) h).mono ?_
 rintro e w' ⟨ra,rc,K',n',P,rfl,hK,hn,hok,hP,hO⟩
 rw [hx P] at hok hP hO
 have hPl := pl15 hP
 subst hPl
 rw [hr,r15] at hO
 exact ⟨ra,rc,K',n',rfl,Nat.le_trans hK (by show 0 + 2 * 1 + 2048 ≤ 10000; decide),hn,hok,hO⟩
theorem step16 (w0 w : World) (l : List Thing) (b K n : Nat) (ht : Tab w0) (hok : s15.Ok) (hK : K ≤ 10000) (hn : n ≤ 6144) (h : Own w0 w (WdT b ⟨1,s15,[],m15,[⟨1024,true,5,0⟩]⟩ K n :: l)) :
  Calls Tryz.prog 15 #[.pointer (some ⟨b,0,none⟩)] w fun e w' => ∃ (ra : Option Addr) (rc K' n' : Nat) (P : List PlE),e = .returned (.tuple #[.slice ra 0 rc,.int .i64 0]) ∧ s16.Ok ∧ Own w0 w' (WdT b ⟨2,s16,[],m16,P⟩ K' n' :: l) := by
 have hx : ∀ P,(Wd.next ⟨1,s15,[],m15,[⟨1024,true,5,0⟩]⟩ K P) = ⟨2,s16,[],m16,P⟩ := fun P => rfl
 refine (wstep w0 w l b K n _ ht hok (by omega) (by omega) (by show (1 : Nat) < 4294967295; decide) (by show (0 : Nat) ≤ 1000; decide) (fun o ho => by cases ho) h).mono ?_
 rintro e w' ⟨ra,rc,K',n',P,rfl,_,_,hok2,_,hO⟩
 rw [hx P] at hok2 hO
 exact ⟨ra,rc,K',n',P,rfl,hok2,hO.tail⟩
theorem awake15 (w : World) (ht : Tab w) : Calls Tryz.prog 7 #[] w fun e w' => e = .returned (.bool true) ∧ Fr Nobody w w' := by
 have HT : Hid (Tab w) := ht
 have HN : Hid (Calls _ _ _ _ _) := wnew w w [] 9 1 0 (Own.start w) (by decide) (by decide) (by decide) (by decide)
 clear ht
 go_enter Tryz.func7,Tryz.ntmps7
 go_wp2_with fail
 refine HN.out.mono ?_
 rintro e w1 ⟨b,rfl,h1⟩
 have HS : Hid (Calls _ _ _ _ _) := spawn15 w w1 _ h1
 clear h1 HN
 go_wp2_with fail
 refine HS.out.mono ?_
 rintro e w2 ⟨g,rfl,h2⟩
 have HP : Hid (Calls _ _ _ _ _) := wpush w w2 _ b 0 0 _ HT.out h2.two ⟨1,0,0,spC,some ⟨g,0,none⟩,2⟩ (in15 _ _) (fun w' hw => Own.rcs hw rfl)
 have hpc : pcode [] ⟨1,0,0,spC,some ⟨g,0,none⟩,2⟩ = 0 := by kernel_rfl
 simp only [hpc] at HP
 generalize hov : OrdE.ag ⟨1,0,0,spC,some ⟨g,0,none⟩,2⟩ = ov at *
 clear h2 HS hpc hov
 go_wp2_with fail
 refine HP.out.mono ?_
 rintro e w3 ⟨E',rfl,hE,h3⟩
 have hE2 : ∃ a c,E' = [⟨1,0,0,spC,a,c⟩] := by
  unfold PushTo at hE
  rw [if_pos ⟨k15,by decide⟩] at hE
  obtain ⟨a,c,rfl⟩ := hE
  exact ⟨a,c,rfl⟩
 obtain ⟨a,c,rfl⟩ := hE2
 have H3 : Hid (Calls _ _ _ _ _) := step15 w w3 _ b HT.out a c h3
 clear h3 hE HP
 go_wp2_with fail
 refine H3.out.mono ?_
 rintro e w4 ⟨ra,rc,K1,n1,rfl,hK1,hn1,hok1,h4⟩
 have HPL : Hid (Calls _ _ _ _ _) := wplaces w w4 _ b K1 n1 _ (by show (1 : Nat) ≤ 1000000; decide) h4.two
 have HOK : Hid (s15.Ok) := hok1
 clear h4 H3 hok1
 go_wp2_with fail
 refine HPL.out.mono ?_
 rintro e w5 ⟨pa,pc,rfl,h5⟩
 have h5b : Own w w5 (Row 92 4 (.slice pa 1 pc) 1 (cat PlE.cs [⟨1024,true,5,0⟩]) :: WdT b ⟨1,s15,[],m15,[⟨1024,true,5,0⟩]⟩ K1 n1 :: Row 89 2 (.slice ra 1 rc) 1 (cat rcel [(0,1024)]) :: Row 46 4 (.slice (some ⟨g,0,none⟩) 2 2) 2 (ccat spC) :: []) := h5
 obtain ⟨gp,cp,hpv,_⟩ := row_shape h5b.row (by decide)
 have hpa := (Value.slice.inj hpv).1
 subst hpa
 have hA := h5b.allocC #[.int .i64 0,.int .u32 1024] 89
 have HSR : Hid (Calls _ _ _ _ _) := same_res _ ra (some ⟨w5.heap.size,0,none⟩) 1 rc 1 [(0,1024)] (Own.rs hA.four rfl) (.inr ⟨_,0,rfl,fun j x hx => by
  match j,hx with
  | 0,hx => cases hx; exact ⟨by rw [hA.cell]; rfl,by rw [hA.cell]; rfl⟩⟩) rfl (by decide)
 have HA : Hid (Own w _ _) := hA
 clear h5 h5b HPL hA hpv
 have hl1 : (List.length [(⟨1024,true,5,0⟩ : PlE)]) = 1 := rfl
 simp only [hl1]
 go_wp2_with fail
 refine HSR.out.mono ?_
 rintro e w6 ⟨rfl,hf⟩
 have h6 := HA.out.quiet hf
 have HTI : Hid (Calls _ _ _ _ _) := wtick w w6 _ b K1 n1 _ h6.three
 have hr := h6.two.row
 have p0 : w6.cell? ⟨gp,0,none⟩ = some (.int .u32 1024) := by rw [hr.cellAt _ (by decide)]; rfl
 have p1 : w6.cell? ⟨gp,1,none⟩ = some (.bool true) := by rw [hr.cellAt _ (by decide)]; rfl
 have p2 : w6.cell? ⟨gp,2,none⟩ = some (.int .i32 5) := by rw [hr.cellAt _ (by decide)]; rfl
 have p3 : w6.cell? ⟨gp,3,none⟩ = some (.int .i32 0) := by rw [hr.cellAt _ (by decide)]; rfl
 have H6 : Hid (Calls _ _ _ _ _) := step16 w w6 _ b K1 n1 HT.out HOK.out hK1 hn1 h6.three
 clear hr h6 hf HA HSR
 go_wp2_with fail
 refine HTI.out.mono ?_
 rintro e w7 ⟨rfl,rfl⟩
 go_wp2_with fail
 refine H6.out.mono ?_
 rintro e w8 ⟨ra2,rc2,K2,n2,P2,rfl,hok2,h8⟩
 have HC0 : Hid (Calls _ _ _ _ _) := wchanged w w8 _ b K2 n2 _ hok2 1024 (by decide) 0 (by decide) h8
 have HOK2 : Hid (s16.Ok) := hok2
 simp only [l16,m16_0] at HC0
 clear H6 h8 hok2 HTI p0 p1 p2 p3
 go_wp2_with fail
 refine HC0.out.mono ?_
 rintro e w9 ⟨rfl,h9⟩
 have HC1 : Hid (Calls _ _ _ _ _) := wchanged w w9 _ b K2 n2 _ HOK2.out 1024 (by decide) 1 (by decide) h9
 simp only [l16,m16_1] at HC1
 clear h9 HC0
 simp only [chgd]
 go_wp2_with fail
 refine HC1.out.mono ?_
 rintro e w10 ⟨rfl,h10⟩
 have HF : Hid (Fr Nobody w w10) := h10.fr
 clear h10 HC1
 simp only [chgd]
 go_wp2
 go_ret
 exact ⟨by simp,HF.out⟩
theorem step_allW {P : Program} {w0 w : World} {l : List Thing} {ops : Array Oper} {o : Oper} {a : Act} {K : Act → World → Prop} {Q : Exit → Act → World → Prop} {E : Prop} (hgd : o.guard = none) (sx x : Operand) (t : TypeId)
  (ho : o.op = .call { callee := .builtin .append,args := #[sx,x],argTypes := #[t,t] })
  (e : TypeId) (i : TypeInfo) (z : Value) (size bytes : Nat) (ht : P.underlying t = some (.slice e)) (hi : P.info? e = some i) (hz : i.zero = some z)
  (hsize : i.size = size) (hby : i.bytes = bytes) (hzs : z.cells.size = size) (hsz : 0 < size)
  (v : Value) (n : Nat) (xs : List Value) (hs : a.eval sx = v) (xa : Option Addr) (m xc : Nat) (ys : List Value) (hx : a.eval x = .slice xa m xc) (hown : Own w0 w (Row e size v n xs :: l)) (hr : w.ownsRow 0 e size (.slice xa m xc) m ys) (h1 : ∀ u ∈ ys,u.oneCell' = true)
  (h63 : n + m ≤ maxLen) (hbytes : (n + m) * bytes ≤ 140737488355328)
  (h : ∀ ao cap w',Own w0 w' (Row e size (.slice ao (n + m) cap) (n + m) (xs ++ ys) :: l) → K (a.put o.dst (.slice ao (n + m) cap)) w') :
  if Region.wanted o (yielded ops a.tmps) = true then Oper.wp P o a w K Q else E := by
 have hw : Region.wanted o (yielded ops a.tmps) = true := by simp [Region.wanted,hgd]
 rw [if_pos hw]
 rcases Nat.eq_zero_or_pos m with h0 | h0
 ·subst h0
  have hy : ys = [] := List.eq_nil_of_length_eq_zero (by rw [hr.1]; simp)
  subst hy
  obtain ⟨va,vc,rfl⟩ := row_any hown.row
  have hr := run_append_empty (P := P) w 0 t o.type e i size ht hi _ n xs hown.row xa xc
  unfold Oper.wp
  simp [execOp,ho,resolve,invoke,builtin,hs,hx,hr,Result.andThen]
  have := h va vc w (by simpa using hown)
  simp at this
  exact this
 ·obtain ⟨g,cap,hv,_⟩ := row_shape hr h0
  have hxa := (Value.slice.inj hv).1
  subst hxa
  refine wp_append_lies w sx x t ho 0 e i z size bytes ht hi hz hsize hby hzs hsz v n xs hs hown.row ⟨g,0,none⟩ m xc ys hx hr.1 (fun j u hu => by
   rw [addr_add,Nat.zero_add,hr.cellAt j (by rw [← hr.1]; exact (List.getElem?_eq_some_iff.1 hu).1)]; exact hu) h1 h0 h63 hbytes (Nat.zero_le _) _ rfl ?_
  intro g' cap' w' h2 h3 h4 h5
  refine h _ _ w' (hown.grow h2 h3 (fun k hk => ?_))
  have hk' : g' = k := by simpa [Value.ownBlock] using hk
  subst hk'
  rcases h4 with h4 | h4
  ·exact .inl h4
  ·exact .inr (by omega)
end Go.Proofs.YtogmdoiecpihdaaGreatDoor
