/- The world and the document's, there or not. -/
import Derived.Test.YtogmdoiecpihdaaGreatDoorQw48
import Derived.Test.YtogmdoiecpihdaaGreatDoorQw52
import Derived.Test.YtogmdoiecpihdaaGreatDoorQw28
import Derived.Test.YtogmdoiecpihdaaGreatDoorQw36
import Derived.Test.YtogmdoiecpihdaaGreatDoorQw40
import Derived.Test.YtogmdoiecpihdaaGreatDoorQw31
import Derived.Test.YtogmdoiecpihdaaGreatDoorQw49
namespace Go.Proofs.YtogmdoiecpihdaaGreatDoor
open Go.RowKit Go.Maps
set_option linter.unusedVariables false
set_option maxHeartbeats 2000000
set_option maxRecDepth 100000
theorem snew_noW (w : World) (n f : Int) (h : n < 1 ∨ 1024 < n ∨ f < 1 ∨ 4194303 < f) : Calls Tryz.prog 39 #[.int .i64 n,.int .i64 f] w fun e w' => e = .returned (.tuple #[.pointer none,.int .i64 1]) ∧ Fr Nobody w w' := by
 have HN : Hid (Calls _ _ _ _ _) := new_no w n f h
 clear h
 go_enter Tryz.func39,Tryz.ntmps39
 go_wp2_with fail
 refine HN.out.mono ?_
 rintro e w1 ⟨rfl,rfl⟩
 go_wp2
 go_ret2
 exact ⟨rfl,Fr.refl _ _⟩
theorem rsnew_noW (w : World) (n f : Int) (h : n < 1 ∨ 1024 < n ∨ f < 1 ∨ 4194303 < f) : Calls Tryz.prog 41 #[.int .i64 n,.int .i64 f] w fun e w' => e = .returned (.tuple #[.pointer none,.int .i64 1]) ∧ Fr Nobody w w' := by
 have HN : Hid (Calls _ _ _ _ _) := rnew_no w n f h
 clear h
 go_enter Tryz.func41,Tryz.ntmps41
 go_wp2_with fail
 refine HN.out.mono ?_
 rintro e w1 ⟨rfl,rfl⟩
 go_wp2
 go_ret2
 exact ⟨rfl,Fr.refl _ _⟩
theorem wnew_no (w : World) (n f T : Int) (h : n < 1 ∨ 1024 < n ∨ f < 1 ∨ 4194303 < f) : Calls Tryz.prog 8 #[.int .i64 n,.int .i64 f,.int .u32 T] w fun e w' => e = .returned (.tuple #[.pointer none,.int .i64 1]) ∧ Fr Nobody w w' := by
 have HN : Hid (Calls _ _ _ _ _) := snew_noW w n f h
 clear h
 go_enter Tryz.func8,Tryz.ntmps8
 go_wp2_with fail
 refine HN.out.mono ?_
 rintro e w1 ⟨rfl,hf⟩
 go_wp2
 go_ret2
 exact ⟨rfl,hf⟩
theorem rnew15_no (w : World) (n f T : Int) (h : n < 1 ∨ 1024 < n ∨ f < 1 ∨ 4194303 < f) : Calls Tryz.prog 9 #[.int .i64 n,.int .i64 f,.int .u32 T] w fun e w' => e = .returned (.tuple #[.pointer none,.int .i64 1]) ∧ Fr Nobody w w' := by
 have HN : Hid (Calls _ _ _ _ _) := rsnew_noW w n f h
 clear h
 go_enter Tryz.func9,Tryz.ntmps9
 go_wp2_with fail
 refine HN.out.mono ?_
 rintro e w1 ⟨rfl,hf⟩
 go_wp2
 go_ret2
 exact ⟨rfl,hf⟩
theorem wstep_nil (w : World) : Calls Tryz.prog 15 #[.pointer none] w fun e w' => e = .returned (.tuple #[.slice none 0 0,.int .i64 10]) ∧ w' = w := by
 go_enter Tryz.func15,Tryz.ntmps15
 go_wp2
 go_ret2
 exact ⟨rfl,rfl⟩
theorem rstep15_nil (w : World) : Calls Tryz.prog 16 #[.pointer none] w fun e w' => e = .returned (.tuple #[.slice none 0 0,.int .i64 10]) ∧ w' = w := by
 go_enter Tryz.func16,Tryz.ntmps16
 go_wp2
 go_ret2
 exact ⟨rfl,rfl⟩
theorem rstep15_end (w0 w : World) (l : List Thing) (b K : Nat) (y : RWd) (hT : y.T = 4294967295) (h : Own w0 w (RWdT b y K :: l)) : Calls Tryz.prog 16 #[.pointer (some ⟨b,0,none⟩)] w fun e w' => e = .returned (.tuple #[.slice none 0 0,.int .i64 11]) ∧ w' = w := by
 obtain ⟨bs,wv,mv,pv,h⟩ := h.rwO
 have q2 := h.two.cell 2
 simp [rwcs] at q2
 rw [hT] at q2
 clear h hT
 go_enter Tryz.func16,Tryz.ntmps16
 go_wp2
 go_ret2
 exact ⟨rfl,rfl⟩
theorem wpush_nil (w : World) (o : OrdE) : Calls Tryz.prog 12 #[.pointer none,o.ag] w fun e w' => e = .returned (.int .i64 10) ∧ Fr Nobody w w' := by
 unfold OrdE.ag
 go_enter Tryz.func12,Tryz.ntmps12
 go_wp2
 go_ret
 exact ⟨rfl,(Fr.refl _ _).alloc _⟩
theorem rpush15_nil (w : World) (o : OrdE) : Calls Tryz.prog 13 #[.pointer none,o.ag] w fun e w' => e = .returned (.int .i64 10) ∧ Fr Nobody w w' := by
 unfold OrdE.ag
 go_enter Tryz.func13,Tryz.ntmps13
 go_wp2
 go_ret
 exact ⟨rfl,(Fr.refl _ _).alloc _⟩
theorem wtick_nil (w : World) : Calls Tryz.prog 37 #[.pointer none] w fun e w' => e = .returned (.int .u32 0) ∧ w' = w := by
 go_enter Tryz.func37,Tryz.ntmps37
 go_wp2
 go_ret
 exact ⟨rfl,rfl⟩
theorem wpending_nil (w : World) : Calls Tryz.prog 62 #[.pointer none] w fun e w' => e = .returned (.int .i64 0) ∧ w' = w := by
 go_enter Tryz.func62,Tryz.ntmps62
 go_wp2
 go_ret
 exact ⟨rfl,rfl⟩
theorem wplaces_nil (w : World) : Calls Tryz.prog 36 #[.pointer none] w fun e w' => e = .returned (.slice none 0 0) ∧ w' = w := by
 go_enter Tryz.func36,Tryz.ntmps36
 go_wp2
 go_ret
 exact ⟨rfl,rfl⟩
theorem wstored_nil (w : World) : Calls Tryz.prog 66 #[.pointer none] w fun e w' => e = .returned (.pointer none) ∧ w' = w := by
 go_enter Tryz.func66,Tryz.ntmps66
 go_wp2
 go_ret
 exact ⟨rfl,rfl⟩
theorem wlist_nil (w : World) : Calls Tryz.prog 29 #[.pointer none] w fun e w' => e = .returned (.slice none 0 0) ∧ w' = w := by
 have HS : Hid (Calls _ _ _ _ _) := wstored_nil w
 have HL : Hid (Calls _ _ _ _ _) := slist_nil w
 go_enter Tryz.func29,Tryz.ntmps29
 go_wp2_with fail
 refine HS.out.mono ?_
 rintro e w1 ⟨rfl,rfl⟩
 go_wp2_with fail
 refine HL.out.mono ?_
 rintro e w2 ⟨rfl,rfl⟩
 clear HS HL
 go_wp2
 refine wp_loop (fun a' wr => a' = { tmps := #[gf a' 0,gf a' 1,gf a' 2,.slice none 0 0,gf a' 4,gf a' 5,gf a' 6,gf a' 7,gf a' 8,gf a' 9,.slice none 0 0,.int .i64 0,.int .i64 0,gf a' 13,gf a' 14,gf a' 15,gf a' 16,gf a' 17,gf a' 18,gf a' 19,gf a' 20,gf a' 21,gf a' 22,gf a' 23,gf a' 24,gf a' 25,gf a' 26,gf a' 27],defers := [] } ∧ wr = w2) (fun a' _ => 0) ?_ ?_
 ·exact ⟨rfl,rfl⟩
 ·intro a' wr hI
  obtain ⟨hact,rfl⟩ := hI
  obtain ⟨u,hu⟩ : ∃ u : Nat → Value,∀ k,gf a' k = u k := ⟨_,fun _ => rfl⟩
  simp only [hu] at hact
  clear hu
  subst hact
  go_wp2
  go_ret
  exact ⟨rfl,rfl⟩
theorem wsince_nil (w : World) (tk : Int) : Calls Tryz.prog 20 #[.pointer none,.int .u32 tk] w fun e w' => e = .returned (.slice none 0 0) ∧ w' = w := by
 have HS : Hid (Calls _ _ _ _ _) := wstored_nil w
 have HL : Hid (Calls _ _ _ _ _) := slist_nil w
 go_enter Tryz.func20,Tryz.ntmps20
 go_wp2_with fail
 refine HS.out.mono ?_
 rintro e w1 ⟨rfl,rfl⟩
 go_wp2_with fail
 refine HL.out.mono ?_
 rintro e w2 ⟨rfl,rfl⟩
 clear HS HL
 go_wp2
 refine wp_loop (fun a' wr => a' = { tmps := #[gf a' 0,gf a' 1,gf a' 2,gf a' 3,gf a' 4,.slice none 0 0,gf a' 6,gf a' 7,gf a' 8,gf a' 9,.slice none 0 0,.int .i64 0,.int .i64 0,gf a' 13,gf a' 14,gf a' 15,gf a' 16,gf a' 17,gf a' 18,gf a' 19,gf a' 20,gf a' 21,gf a' 22,gf a' 23,gf a' 24,gf a' 25],defers := [] } ∧ wr = w2) (fun a' _ => 0) ?_ ?_
 ·exact ⟨rfl,rfl⟩
 ·intro a' wr hI
  obtain ⟨hact,rfl⟩ := hI
  obtain ⟨u,hu⟩ : ∃ u : Nat → Value,∀ k,gf a' k = u k := ⟨_,fun _ => rfl⟩
  simp only [hu] at hact
  clear hu
  subst hact
  go_wp2
  go_ret
  exact ⟨rfl,rfl⟩
theorem alike15_nil (w : World) : Calls Tryz.prog 18 #[.pointer none,.pointer none] w fun e w' => e = .returned (.bool true) ∧ Fr Nobody w w' := by
 have HR : Hid (Calls _ _ _ _ _) := rlist15_nil w
 have HL : Hid (Calls _ _ _ _ _) := wlist_nil w
 have HS : Hid (Calls _ _ _ _ _) := sameEnts_any w none none 0 0 0 0 [] [] ⟨.inl rfl,fun _ h => (by cases h)⟩ ⟨.inl rfl,fun _ h => (by cases h)⟩ rfl rfl (by decide) (by decide)
 go_enter Tryz.func18,Tryz.ntmps18
 go_wp2_with fail
 refine HR.out.mono ?_
 rintro e w1 ⟨rfl,rfl⟩
 go_wp2_with fail
 refine HL.out.mono ?_
 rintro e w2 ⟨rfl,rfl⟩
 go_wp2_with fail
 refine HS.out.mono ?_
 rintro e w3 ⟨rfl,hf⟩
 have HF : Hid (Fr Nobody w2 w3) := hf
 have HT : Hid (Calls _ _ _ _ _) := wtick_nil w3
 have HP : Hid (Calls _ _ _ _ _) := wpending_nil w3
 have HQ : Hid (Calls _ _ _ _ _) := wplaces_nil w3
 clear hf HR HL HS
 go_wp2_with fail
 refine HT.out.mono ?_
 rintro e w4 ⟨rfl,rfl⟩
 go_wp2_with fail
 refine HP.out.mono ?_
 rintro e w5 ⟨rfl,rfl⟩
 go_wp2_with fail
 refine HQ.out.mono ?_
 rintro e w6 ⟨rfl,rfl⟩
 clear HT HP HQ
 go_wp2
 go_ret
 exact ⟨rfl,HF.out⟩
structure JW (x : Wd) (y : RWd) : Prop where
 T : y.T = x.T
 max : x.T ≤ 4294967295
 σ : y.σ = x.σ
 ok : x.σ.Ok
 E : y.E.map OrdE.bare = x.E.map OrdE.bare
 ix : ∀ o ∈ x.E,o.In
 iy : ∀ o ∈ y.E,o.In
 le : x.E.length ≤ 256
 P : y.P = x.P
 pl : x.P.length ≤ 10000
 M : InvM x.σ x.S y.M
 mko : MkOf x.σ y.M
 ml : y.M.length ≤ 10000
 tk : ∀ i k s,x.S i k = some s → s.t ≤ x.T
theorem JW.len {x : Wd} {y : RWd} (h : JW x y) : y.E.length = x.E.length := by
 have := congrArg List.length h.E
 simpa using this
theorem jw_new (n f T : Nat) (h1 : 1 ≤ n) (h2 : n ≤ 1024) (h3 : 1 ≤ f) (h4 : f ≤ 4194303) (hT : T ≤ 4294967295) : JW ⟨T,Sto.new n f,[],fun _ _ => none,[]⟩ ⟨T,Sto.new n f,[],[],[]⟩ where
 T := rfl
 max := hT
 σ := rfl
 ok := Sto.new_ok n f h1 h2 h3 h4
 E := rfl
 ix := fun _ h => by cases h
 iy := fun _ h => by cases h
 le := by simp
 P := rfl
 pl := by simp
 M := invM_new (Sto.new_ok n f h1 h2 h3 h4)
 mko := by
  unfold MkOf allS
  rw [new_list (Sto.new_ok n f h1 h2 h3 h4)]
  rfl
 ml := by simp
 tk := fun _ _ _ h => by cases h
def WO (p : Option Nat) (x : Wd) (K n : Nat) : Thing := match p with
 | some b => WdT b x K n
 | none => FctW True
def RO (p : Option Nat) (y : RWd) (K : Nat) : Thing := match p with
 | some b => RWdT b y K
 | none => FctW True
def pw (p : Option Nat) : Option Addr := p.map (fun b => ⟨b,0,none⟩)
def pco (p : Option Nat) (E : List OrdE) (o : OrdE) : Int := if p.isNone = true then 10 else pcode E o
def PushO (p : Option Nat) (E : List OrdE) (o : OrdE) (E' : List OrdE) : Prop := if p.isNone = true then E' = E else PushTo E o E'
theorem wpush_o (w0 w : World) (l : List Thing) (p : Option Nat) (K n : Nat) (x : Wd) (ht : Tab w0) (h : Own w0 w (WO p x K n :: l)) (o : OrdE) (hi : o.In) (hCs : ∀ w',Own w0 w' l → Cs w' o.ao o.C) :
  Calls Tryz.prog 12 #[.pointer (pw p),o.ag] w fun e w' => ∃ E',e = .returned (.int .i64 (pco p x.E o)) ∧ PushO p x.E o E' ∧ Own w0 w' (WO p { x with E := E' } K n :: l) := by
 cases p with
 | none =>
  refine (wpush_nil w o).mono ?_
  rintro e w' ⟨rfl,hf⟩
  exact ⟨x.E,rfl,rfl,h.quiet hf⟩
 | some b => exact wpush w0 w l b K n x ht h o hi hCs
theorem rpush_o (w0 w : World) (l : List Thing) (p : Option Nat) (K : Nat) (y : RWd) (h : Own w0 w (RO p y K :: l)) (o : OrdE) (hi : o.In) (hCs : ∀ w',Own w0 w' l → Cs w' o.ao o.C) (hE : y.E.length ≤ 256) :
  Calls Tryz.prog 13 #[.pointer (pw p),o.ag] w fun e w' => ∃ E',e = .returned (.int .i64 (pco p y.E o)) ∧ PushO p y.E o E' ∧ Own w0 w' (RO p { y with E := E' } K :: l) := by
 cases p with
 | none =>
  refine (rpush15_nil w o).mono ?_
  rintro e w' ⟨rfl,hf⟩
  exact ⟨y.E,rfl,rfl,h.quiet hf⟩
 | some b => exact rpush15 w0 w l b K y h o hi hCs hE
def Both (p q : Option Nat) : Prop := p.isNone = q.isNone
theorem jw_push {p q : Option Nat} (hb : Both p q) {x : Wd} {y : RWd} (h : JW x y) {o o2 : OrdE} (ho : o.is = o2.is) (hi : o.In) (hi2 : o2.In) : pco p x.E o = pco q y.E o2 ∧ ∀ E E2,PushO p x.E o E → PushO q y.E o2 E2 → JW { x with E := E } { y with E := E2 } := by
 have hck : o.ck = o2.ck := by
  unfold OrdE.is at ho
  simp only [Prod.mk.injEq] at ho
  unfold OrdE.ck
  rw [ho.1,ho.2.2.1,ho.2.2.2]
 have hbare : o.bare = o2.bare := by
  unfold OrdE.is at ho
  simp only [Prod.mk.injEq] at ho
  obtain ⟨d,id,k,C,a,c⟩ := o
  obtain ⟨d2,id2,k2,C2,a2,c2⟩ := o2
  simp only at ho
  obtain ⟨rfl,rfl,rfl,rfl⟩ := ho
  rfl
 have hl := h.len
 unfold Both at hb
 refine ⟨?_,fun E E2 hE hE2 => ?_⟩
 ·unfold pco pcode
  rw [hb,hck,hl]
 ·unfold PushO at hE hE2
  rw [← hb] at hE2
  by_cases c : p.isNone = true
  ·rw [if_pos c] at hE hE2
   subst hE; subst hE2
   exact h
  ·rw [if_neg c] at hE hE2
   have b1 := hE.bare
   have b2 := hE2.bare
   have m1 := hE.more hi h.ix
   have m2 := hE2.more hi2 h.iy
   refine ⟨h.T,h.max,h.σ,h.ok,?_,m1.1,m2.1,?_,h.P,h.pl,h.M,h.mko,h.ml,h.tk⟩
   ·show E2.map OrdE.bare = E.map OrdE.bare
    rw [b1,b2,h.E]
    unfold push1
    rw [hck,hbare]
   ·show E.length ≤ 256
    have hle := h.le
    unfold PushTo at hE
    split at hE
    ·rename_i cc
     obtain ⟨a,c,rfl⟩ := hE
     simp; omega
    ·rw [hE]; exact hle
def SStep (p : Option Nat) (x x' : Wd) (R : List (Int × Nat)) (code : Int) : Prop :=
 (p.isNone = true ∧ x' = x ∧ R = [] ∧ code = 10) ∨ (p.isNone = false ∧ x.T = 4294967295 ∧ x' = x ∧ R = [] ∧ code = 11) ∨ (p.isNone = false ∧ x.T ≠ 4294967295 ∧ code = 0 ∧ R = (runs stq (x.σ,0) x.E).1 ∧ ∃ P,PlOf x.S (x.next 0 P).S (x.T + 1) P ∧ x' = x.next 0 P)
def RStep (p : Option Nat) (y y' : RWd) (R : List (Int × Nat)) (code : Int) : Prop :=
 (p.isNone = true ∧ y' = y ∧ R = [] ∧ code = 10) ∨ (p.isNone = false ∧ y.T = 4294967295 ∧ y' = y ∧ R = [] ∧ code = 11) ∨ (p.isNone = false ∧ y.T ≠ 4294967295 ∧ code = 0 ∧ R = (runs stq (y.σ,0) y.E).1 ∧ y' = y.next 0)
theorem next_K (x : Wd) (K : Nat) (P : List PlE) : x.next K P = x.next 0 P := by
 unfold Wd.next
 rw [(runs_K x.E x.σ K 0).2]
theorem rnext_K (y : RWd) (K : Nat) : y.next K = y.next 0 := by
 unfold RWd.next
 simp only
 rw [(runs_K y.E y.σ K 0).2]
theorem wstep_o (w0 w : World) (l : List Thing) (p : Option Nat) (K n : Nat) (x : Wd) (y : RWd) (ht : Tab w0) (hj : JW x y) (hK : K ≤ 700000) (hn : n ≤ 100000) (h : Own w0 w (WO p x K n :: l)) :
  Calls Tryz.prog 15 #[.pointer (pw p)] w fun e w' => ∃ (ra : Option Addr) (rc : Nat) (R : List (Int × Nat)) (code : Int) (x' : Wd) (K' n' : Nat),e = .returned (.tuple #[.slice ra R.length rc,.int .i64 code]) ∧ SStep p x x' R code ∧ R.length ≤ 256 ∧ K' ≤ K + 2560 ∧ n' ≤ 100000 ∧ Own w0 w' (Row 89 2 (.slice ra R.length rc) R.length (cat rcel R) :: WO p x' K' n' :: l) := by
 cases p with
 | none =>
  refine (wstep_nil w).mono ?_
  rintro e w' ⟨rfl,rfl⟩
  exact ⟨none,0,[],10,x,K,n,rfl,.inl ⟨rfl,rfl,rfl,rfl⟩,by simp,by omega,hn,h.nilRow 89 2⟩
 | some b =>
  by_cases hT : x.T = 4294967295
  ·refine (wstep_end w0 w l b K n x hT h).mono ?_
   rintro e w' ⟨rfl,rfl⟩
   exact ⟨none,0,[],11,x,K,n,rfl,.inr (.inl ⟨rfl,hT,rfl,rfl,rfl⟩),by simp,by omega,hn,h.nilRow 89 2⟩
  ·have hmax := hj.max
   have hle := hj.le
   refine (wstep w0 w l b K n x ht hj.ok hK hn (by omega) (by omega) hj.ix h).mono ?_
   rintro e w' ⟨ra,rc,K',n',P,rfl,hK',hn',hok,hPl,hO⟩
   rw [next_K] at hok hPl hO
   have hl : (runs stq (x.σ,K) x.E).1.length = x.E.length := runs_len2 x.E _
   have e1 : (runs stq (x.σ,K) x.E).1 = (runs stq (x.σ,0) x.E).1 := (runs_K x.E x.σ K 0).1
   rw [e1] at hl hO
   refine ⟨ra,rc,(runs stq (x.σ,0) x.E).1,0,x.next 0 P,K',n',by rw [hl],.inr (.inr ⟨rfl,hT,rfl,rfl,P,hPl,rfl⟩),by omega,by omega,by omega,?_⟩
   rw [hl]
   exact hO
theorem rstep_o (w0 w : World) (l : List Thing) (p : Option Nat) (K : Nat) (x : Wd) (y : RWd) (hj : JW x y) (hK : K ≤ 90000) (h : Own w0 w (RO p y K :: l)) :
  Calls Tryz.prog 16 #[.pointer (pw p)] w fun e w' => ∃ (ra : Option Addr) (rc : Nat) (R : List (Int × Nat)) (code : Int) (y' : RWd) (K' : Nat),e = .returned (.tuple #[.slice ra R.length rc,.int .i64 code]) ∧ RStep p y y' R code ∧ K' ≤ K + 3584 ∧ Own w0 w' (Row 89 2 (.slice ra R.length rc) R.length (cat rcel R) :: RO p y' K' :: l) := by
 cases p with
 | none =>
  refine (rstep15_nil w).mono ?_
  rintro e w' ⟨rfl,rfl⟩
  exact ⟨none,0,[],10,y,K,rfl,.inl ⟨rfl,rfl,rfl,rfl⟩,by omega,h.nilRow 89 2⟩
 | some b =>
  by_cases hT : y.T = 4294967295
  ·refine (rstep15_end w0 w l b K y hT h).mono ?_
   rintro e w' ⟨rfl,rfl⟩
   exact ⟨none,0,[],11,y,K,rfl,.inr (.inl ⟨rfl,hT,rfl,rfl,rfl⟩),by omega,h.nilRow 89 2⟩
  ·have hmax := hj.max
   have hTT := hj.T
   have hle := hj.le
   have hlen := hj.len
   refine (rstep15 w0 w l b K y h (by rw [hj.σ]; exact hj.ok) hK (by omega) (by omega) hj.iy hj.ml).mono ?_
   rintro e w' ⟨ra,rc,rfl,hok,hO⟩
   rw [rnext_K] at hO
   have hl : (runs stq (y.σ,K) y.E).1.length = y.E.length := runs_len2 y.E _
   have e1 : (runs stq (y.σ,K) y.E).1 = (runs stq (y.σ,0) y.E).1 := (runs_K y.E y.σ K 0).1
   rw [e1] at hl hO
   refine ⟨ra,rc,(runs stq (y.σ,0) y.E).1,0,y.next 0,K + 2 * y.E.length + 3072,by rw [hl],.inr (.inr ⟨rfl,hT,rfl,rfl,rfl⟩),by omega,?_⟩
   rw [hl]
   exact hO
theorem jw_step {p q : Option Nat} (hb : Both p q) {x x' : Wd} {y y' : RWd} {R R' : List (Int × Nat)} {c c' : Int} (h : JW x y) (hs : SStep p x x' R c) (hr : RStep q y y' R' c') : R' = R ∧ c' = c ∧ JW x' y' := by
 have hT := h.T
 unfold Both at hb
 rcases hs with ⟨p1,rfl,rfl,rfl⟩ | ⟨p1,p2,rfl,rfl,rfl⟩ | ⟨p1,p2,rfl,rfl,P,hP,rfl⟩
 ·rcases hr with ⟨q1,rfl,rfl,rfl⟩ | ⟨q1,_⟩ | ⟨q1,_⟩
  ·exact ⟨rfl,rfl,h⟩
  ·rw [← hb,p1] at q1; cases q1
  ·rw [← hb,p1] at q1; cases q1
 ·rcases hr with ⟨q1,_⟩ | ⟨q1,q2,rfl,rfl,rfl⟩ | ⟨q1,q2,_⟩
  ·rw [← hb,p1] at q1; cases q1
  ·exact ⟨rfl,rfl,h⟩
  ·rw [hT] at q2; exact absurd p2 q2
 ·rcases hr with ⟨q1,_⟩ | ⟨q1,q2,_⟩ | ⟨q1,q2,rfl,rfl,rfl⟩
  ·rw [← hb,p1] at q1; cases q1
  ·rw [hT] at q2; exact absurd q2 p2
  ·have e0 : runs stq (y.σ,0) y.E = runs stq (x.σ,0) x.E := by
    rw [runs_bare y.E,h.E,← runs_bare,h.σ]
   have hok : (runs stq (x.σ,0) x.E).2.1.Ok := runs_ok x.E (x.σ,0) h.ok
   have hok2 := sys_ok hok
   have hmax := h.max
   have hR : (runs stq (y.σ,0) y.E).1 = (runs stq (x.σ,0) x.E).1 := by rw [e0]
   obtain ⟨σ',hσ'⟩ : ∃ σ',(runs stq (x.σ,0) x.E).2.1.sys = σ' := ⟨_,rfl⟩
   have ex : x.next 0 P = ⟨x.T + 1,σ',[],mapOf x.S (x.T + 1) (allS σ'),P⟩ := by unfold Wd.next; rw [hσ']
   have ey : y.next 0 = ⟨x.T + 1,σ',[],(allS σ').map (mkA x.σ y.M (x.T + 1)),x.σ.S.list.foldl (plB x.σ σ') ((allS σ').foldl (plA x.σ) [])⟩ := by
    unfold RWd.next
    rw [e0,h.σ,hT,hσ']
   rw [hσ'] at hok2
   rw [ex] at hP
   simp only at hP
   rw [ex,ey]
   have hp : P = x.σ.S.list.foldl (plB x.σ σ') ((allS σ').foldl (plA x.σ) []) := places_same h.M h.ok hok2 (fun i k s hs => by have := h.tk i k s hs; omega) hP
   have hpl : P.length ≤ 10000 := by
    rw [hp]
    refine Nat.le_trans (plB_len _ _ _ _) ?_
    have h1 := plA_len x.σ (allS σ')
    have h2 := allS_len hok2
    have h3 := list_lenW h.ok.s
    omega
   refine ⟨hR,rfl,⟨rfl,(by show x.T + 1 ≤ _; omega),rfl,hok2,rfl,(fun o ho => by cases ho),(fun o ho => by cases ho),(Nat.zero_le _),hp.symm,hpl,invM_next h.M h.ok hok2 (x.T + 1),mkOf_next hok2 _ _,?_,ticks_next hok2 h.tk⟩⟩
   show (List.map _ _).length ≤ _
   rw [List.length_map]
   have := allS_len hok2
   omega
theorem alike_o (w0 w : World) (l : List Thing) (p q : Option Nat) (hb : Both p q) (K n K2 : Nat) (x : Wd) (y : RWd) (hj : JW x y) (hK : K ≤ 1000000) (hK2 : K2 ≤ 1000000) (h : Own w0 w (WO p x K n :: RO q y K2 :: l)) :
  Calls Tryz.prog 18 #[.pointer (pw p),.pointer (pw q)] w fun e w' => e = .returned (.bool true) ∧ Own w0 w' (WO p x K n :: RO q y K2 :: l) := by
 cases p with
 | none =>
  cases q with
  | none =>
   refine (alike15_nil w).mono ?_
   rintro e w' ⟨rfl,hf⟩
   exact ⟨rfl,h.quiet hf⟩
  | some b => cases hb
 | some a =>
  cases q with
  | none => cases hb
  | some b =>
   obtain ⟨T,σ,E,S,P⟩ := x
   obtain ⟨T2,σ2,E2,M,P2⟩ := y
   have e1 := hj.T
   have e2 := hj.σ
   have e3 := hj.P
   simp only at e1 e2 e3
   subst e1; subst e2; subst e3
   exact alike15 w0 w l a b K n K2 _ _ E S _ E2 M h hj.ok hj.len hj.M hj.mko hK hK2 hj.ml (by have := hj.pl; simp only at this; omega)
theorem wsince_o (w0 w : World) (l : List Thing) (p : Option Nat) (K n : Nat) (x : Wd) (hσ : x.σ.Ok) (tk : Int) (h : Own w0 w (WO p x K n :: l)) :
  Calls Tryz.prog 20 #[.pointer (pw p),.int .u32 tk] w fun e w' => ∃ ao cap X,e = .returned (.slice ao X.length cap) ∧ X = (if p.isNone = true then [] else x.σ.S.list.filter (fun id => chS x.S id tk)) ∧ Own w0 w' (Row 38 1 (.slice ao X.length cap) X.length (irow .u32 X) :: WO p x K n :: l) := by
 cases p with
 | none =>
  refine (wsince_nil w tk).mono ?_
  rintro e w' ⟨rfl,rfl⟩
  exact ⟨none,0,[],rfl,rfl,h.nilRow 38 1⟩
 | some b =>
  refine (wsinceS w0 w l b K n x hσ tk h).mono ?_
  rintro e w' ⟨ao,cap,rfl,hO⟩
  exact ⟨ao,cap,_,rfl,rfl,hO⟩
theorem rsince_o (w0 w : World) (l : List Thing) (p : Option Nat) (K : Nat) (x : Wd) (y : RWd) (hj : JW x y) (tk : Int) (h : Own w0 w (RO p y K :: l)) :
  Calls Tryz.prog 21 #[.pointer (pw p),.int .u32 tk] w fun e w' => ∃ ao cap X,e = .returned (.slice ao X.length cap) ∧ X = (if p.isNone = true then [] else x.σ.S.list.filter (fun id => chS x.S id tk)) ∧ Own w0 w' (Row 38 1 (.slice ao X.length cap) X.length (irow .u32 X) :: RO p y K :: l) := by
 cases p with
 | none =>
  refine (rsince15_nil w tk).mono ?_
  rintro e w' ⟨rfl,rfl⟩
  exact ⟨none,0,[],rfl,rfl,h.nilRow 38 1⟩
 | some b =>
  refine (rsince15 w0 w l b K y h (by have := hj.ml; omega) tk).mono ?_
  rintro e w' ⟨ao,cap,rfl,hO⟩
  refine ⟨ao,cap,_,rfl,?_,hO⟩
  rw [if_neg (by simp)]
  exact since_of hj.ok hj.M hj.mko tk
theorem wnew_o (w0 w : World) (l : List Thing) (n f : Int) (T : Nat) (hT : T ≤ 4294967295) (h : Own w0 w l) :
  Calls Tryz.prog 8 #[.int .i64 n,.int .i64 f,.int .u32 (T : Int)] w fun e w' => ∃ (p : Option Nat) (c : Int),e = .returned (.tuple #[.pointer (pw p),.int .i64 c]) ∧ c = (if p.isNone = true then 1 else 0) ∧ (p.isNone = true ↔ (n < 1 ∨ 1024 < n ∨ f < 1 ∨ 4194303 < f)) ∧ Own w0 w' (WO p (if n < 1 ∨ 1024 < n ∨ f < 1 ∨ 4194303 < f then ⟨0,Sto.new 1 1,[],fun _ _ => none,[]⟩ else ⟨T,Sto.new n.toNat f.toNat,[],fun _ _ => none,[]⟩) 0 0 :: l) := by
 by_cases c : n < 1 ∨ 1024 < n ∨ f < 1 ∨ 4194303 < f
 ·rw [if_pos c]
  refine (wnew_no w n f T c).mono ?_
  rintro e w' ⟨rfl,hf⟩
  exact ⟨none,1,rfl,rfl,⟨fun _ => c,fun _ => rfl⟩,Own.fct trivial (h.quiet hf)⟩
 ·rw [if_neg c]
  obtain ⟨a,rfl⟩ := Int.eq_ofNat_of_zero_le (show 0 ≤ n by omega)
  obtain ⟨b,rfl⟩ := Int.eq_ofNat_of_zero_le (show 0 ≤ f by omega)
  refine (wnew w0 w l a b T h (by omega) (by omega) (by omega) (by omega)).mono ?_
  rintro e w' ⟨ba,rfl,hO⟩
  exact ⟨some ba,0,rfl,rfl,⟨fun q => (by cases q),fun q => absurd q c⟩,hO⟩
theorem rnew_o (w0 w : World) (l : List Thing) (n f : Int) (T : Nat) (hT : T ≤ 4294967295) (h : Own w0 w l) :
  Calls Tryz.prog 9 #[.int .i64 n,.int .i64 f,.int .u32 (T : Int)] w fun e w' => ∃ (p : Option Nat) (c : Int),e = .returned (.tuple #[.pointer (pw p),.int .i64 c]) ∧ c = (if p.isNone = true then 1 else 0) ∧ (p.isNone = true ↔ (n < 1 ∨ 1024 < n ∨ f < 1 ∨ 4194303 < f)) ∧ Own w0 w' (RO p (if n < 1 ∨ 1024 < n ∨ f < 1 ∨ 4194303 < f then ⟨0,Sto.new 1 1,[],[],[]⟩ else ⟨T,Sto.new n.toNat f.toNat,[],[],[]⟩) 0 :: l) := by
 by_cases c : n < 1 ∨ 1024 < n ∨ f < 1 ∨ 4194303 < f
 ·rw [if_pos c]
  refine (rnew15_no w n f T c).mono ?_
  rintro e w' ⟨rfl,hf⟩
  exact ⟨none,1,rfl,rfl,⟨fun _ => c,fun _ => rfl⟩,Own.fct trivial (h.quiet hf)⟩
 ·rw [if_neg c]
  obtain ⟨a,rfl⟩ := Int.eq_ofNat_of_zero_le (show 0 ≤ n by omega)
  obtain ⟨b,rfl⟩ := Int.eq_ofNat_of_zero_le (show 0 ≤ f by omega)
  refine (rnew15 w0 w l a b T h (by omega) (by omega) (by omega) (by omega)).mono ?_
  rintro e w' ⟨ba,rfl,hO⟩
  exact ⟨some ba,0,rfl,rfl,⟨fun q => (by cases q),fun q => absurd q c⟩,hO⟩
theorem jw_start (n f : Int) (T : Nat) (hT : T ≤ 4294967295) : JW (if n < 1 ∨ 1024 < n ∨ f < 1 ∨ 4194303 < f then ⟨0,Sto.new 1 1,[],fun _ _ => none,[]⟩ else ⟨T,Sto.new n.toNat f.toNat,[],fun _ _ => none,[]⟩) (if n < 1 ∨ 1024 < n ∨ f < 1 ∨ 4194303 < f then ⟨0,Sto.new 1 1,[],[],[]⟩ else ⟨T,Sto.new n.toNat f.toNat,[],[],[]⟩) := by
 by_cases c : n < 1 ∨ 1024 < n ∨ f < 1 ∨ 4194303 < f
 ·rw [if_pos c,if_pos c]
  exact jw_new 1 1 0 (by decide) (by decide) (by decide) (by decide) (by decide)
 ·rw [if_neg c,if_neg c]
  exact jw_new _ _ T (by omega) (by omega) (by omega) (by omega) hT
end Go.Proofs.YtogmdoiecpihdaaGreatDoor
namespace Go.Proofs.YtogmdoiecpihdaaGreatDoor
open Go.RowKit
set_option linter.unusedVariables false
set_option maxHeartbeats 2000000
set_option maxRecDepth 100000
def few12 (Q : List OrdE) : List OrdE := (Q.take 12).map OrdE.cut
theorem few12_len (Q : List OrdE) : (few12 Q).length ≤ 12 := by simp [few12]; omega
theorem few12_succ (Q : List OrdE) (j : Nat) (o : OrdE) (ho : Q[j]? = some o) : few12 (Q.take (j + 1)) = if j < 12 then few12 (Q.take j) ++ [o.cut] else few12 (Q.take j) := by
 unfold few12
 rw [List.take_take,List.take_take]
 split
 ·rename_i h
  rw [Nat.min_eq_right (by omega),Nat.min_eq_right (by omega),List.take_add_one,ho]
  simp
 ·rw [Nat.min_eq_left (by omega),Nat.min_eq_left (by omega)]
theorem few12_ok (w0 w : World) (l : List Thing) (h : Own w0 w l) (ao : Option Addr) (n cap : Nat) (Q : List OrdE) (hn : Q.length = n) (hn6 : n ≤ 9223372036854775807) (hQ : ∀ w',Own w0 w' l → Ords w' ao Q) (hw : ∀ o ∈ Q,o.C.length ≤ o.cap ∧ o.cap ≤ 9223372036854775807) :
  Calls Tryz.prog 10 #[.slice ao n cap,.int .i64 12] w fun e w' => ∃ ra rc,e = .returned (.slice ra (few12 Q).length rc) ∧ Own w0 w' (Row 41 4 (.slice ra (few12 Q).length rc) (few12 Q).length (cat OrdE.cs (few12 Q)) :: l) := by
 obtain ⟨i0,hi0,hz0,hz1,hz2⟩ := info_parts Tryz.infoOrd
 have H : Hid (Own w0 w l) := h
 have HN : Hid (Q.length = n) := hn
 have HQ : Hid (∀ w',Own w0 w' l → Ords w' ao Q) := hQ
 have HW : Hid (∀ o ∈ Q,o.C.length ≤ o.cap ∧ o.cap ≤ 9223372036854775807) := hw
 clear h hn hQ hw
 go_enter Tryz.func10,Tryz.ntmps10
 go_wp2
 go_loopw [5,10] (fun ov jv wr => ∃ (j : Nat) (ra : Option Addr) (rc : Nat),j ≤ n ∧ jv = .int .i64 j ∧ ov = .slice ra (few12 (Q.take j)).length rc ∧ Own w0 wr (Row 41 4 (.slice ra (few12 (Q.take j)).length rc) (few12 (Q.take j)).length (cat OrdE.cs (few12 (Q.take j))) :: l)) (fun _ jv _ => n - (intOf jv).toNat)
 case atStart => exact ⟨0,none,0,Nat.zero_le _,rfl,rfl,H.out.nilRow 41 4⟩
 case round =>
  obtain ⟨j,ra,rc,hj,rfl,rfl,hO⟩ := hrel
  have HO : Hid (Own w0 wr _) := hO
  clear H
  by_cases hlt : j < n
  ·obtain ⟨o,ho⟩ : ∃ o,Q[j]? = some o := ⟨_,List.getElem?_eq_getElem (by rw [HN.out]; exact hlt)⟩
   obtain ⟨g,off,hao,c0,c1,c2,c3⟩ := (HQ.out wr hO.tail).at j o ho
   have hlt' : (j : Int) < (n : Int) := by omega
   obtain ⟨hw1,hw2⟩ := HW.out o (List.mem_of_getElem? ho)
   have HS : Hid (few12 (Q.take (j + 1)) = if j < 12 then few12 (Q.take j) ++ [o.cut] else few12 (Q.take j)) := few12_succ Q j o ho
   have hfl := few12_len (Q.take j)
   subst hao
   by_cases h60 : j < 12
   ·have h60' : (j : Int) < 12 := by omega
    obtain ⟨k,hk⟩ : ∃ k,k = min o.C.length 20 := ⟨_,rfl⟩
    have hmin : min (o.C.length : Int) 20 = (k : Int) := by omega
    have hk1 : k ≤ o.C.length := by omega
    have hk2 : k ≤ o.cap := by omega
    have H5 : Hid (Own w0 _ _) := hO.alloc (.cells #[.int .u8 (o.d : Int),.int .u32 (o.id : Int),.int .u8 (o.k : Int),.slice o.ao k o.cap] 41)
    have HCS : Hid (o.cut.cs = [.int .u8 (o.d : Int),.int .u32 (o.id : Int),.int .u8 (o.k : Int),.slice o.ao k o.cap]) := by
     show _ = _
     unfold OrdE.cut OrdE.cs
     simp only [List.length_take,hk,Nat.min_comm]
    have HS2 : Hid (few12 (Q.take (j + 1)) = few12 (Q.take j) ++ [o.cut]) := by have := HS.out; rw [if_pos h60] at this; exact this
    obtain ⟨d,oid,ok,C,oa,oc⟩ := o
    simp only at c0 c1 c2 c3 hmin hk1 hk2 hw1 hw2 H5 HCS
    clear hO HO ho hk HS
    go_wp2_with (at_builtin; refine append1_own rfl _ _ 32 rfl 41 i0 (.agg #[.int .u8 0,.int .u32 0,.int .u8 0,.slice none 0 0]) 4 40 Tryz.underlying32 hi0 hz0 hz1 hz2 rfl (by decide) _ (few12 (Q.take j)).length (cat OrdE.cs (few12 (Q.take j))) rfl H5.out _ #[.int .u8 (d : Int),.int .u32 (oid : Int),.int .u8 (ok : Int),.slice oa k oc] (by simp) rfl rfl (by intro u hu; simp at hu; rcases hu with rfl | rfl | rfl | rfl <;> rfl) (by unfold maxLen; omega) (by omega) ?_)
    intro g6 c6 w6 hO6 hsz6
    have H6 : Hid (Own w0 w6 (Row 41 4 (.slice (some ⟨g6,0,none⟩) (few12 (Q.take (j + 1))).length c6) (few12 (Q.take (j + 1))).length (cat OrdE.cs (few12 (Q.take (j + 1)))) :: l)) := by
     show Own _ _ _
     rw [HS2.out,List.length_append,cat_append,cat_one,HCS.out]; exact hO6
    have HL6 : Hid ((few12 (Q.take j)).length + 1 = (few12 (Q.take (j + 1))).length) := by show _ = _; rw [HS2.out,List.length_append]; rfl
    clear hO6 hsz6 H5 c0 c1 c2 c3
    go_wp2
    go_roundw
    case rel => exact ⟨j + 1,_,_,by omega,by go_num,by rw [HL6.out],H6.out⟩
    case measure => simp [intOf]; omega
   ·have h60' : ¬ (j : Int) < 12 := by omega
    have HS2 : Hid (few12 (Q.take (j + 1)) = few12 (Q.take j)) := by have := HS.out; rw [if_neg h60] at this; exact this
    have HA : Hid (Own w0 _ _) := hO.alloc (.cells #[.int .u8 (o.d : Int),.int .u32 (o.id : Int),.int .u8 (o.k : Int),.slice o.ao o.C.length o.cap] 41)
    obtain ⟨d,oid,ok,C,oa,oc⟩ := o
    simp only at c0 c1 c2 c3 HA
    clear hO HO ho HS
    go_wp2
    go_roundw
    case rel =>
     refine ⟨j + 1,ra,rc,by omega,by go_num,by rw [HS2.out],?_⟩
     rw [HS2.out]; exact HA.out
    case measure => simp [intOf]; omega
  ·have hlt' : ¬ (j : Int) < (n : Int) := by omega
   have hT : Q.take j = Q := List.take_of_length_le (by rw [HN.out]; omega)
   rw [hT] at HO ⊢
   clear hO hT
   go_wp2
   go_ret
   exact ⟨_,_,rfl,HO.out⟩
theorem ord_perm (R : Thing) (E : List OrdE) (k : Nat) (hk : k < E.length) (y : OrdE) (l : List Thing) : (R :: ((E.set k y).map orow ++ l)).Perm (R :: orow y :: ((E.take k).map orow ++ ((E.drop (k + 1)).map orow ++ l))) := by
 have eS : E.set k y = E.take k ++ y :: E.drop (k + 1) := by rw [List.set_eq_take_append_cons_drop,if_pos hk]
 rw [eS]
 refine List.Perm.cons _ ?_
 have e : (E.take k ++ y :: E.drop (k + 1)).map orow ++ l = (E.take k).map orow ++ orow y :: ((E.drop (k + 1)).map orow ++ l) := by simp
 rw [e]
 exact List.perm_middle
theorem Own.ordOut {w0 w : World} {l : List Thing} {v : Value} {E : List OrdE} {k : Nat} {o : OrdE} (h : Own w0 w (WtT v E :: l)) (ho : E[k]? = some o) : Own w0 w (Row 41 4 v E.length (cat OrdE.cs E) :: orow o :: ((E.take k).map orow ++ ((E.drop (k + 1)).map orow ++ l))) := by
 obtain ⟨hk,hg⟩ := List.getElem?_eq_some_iff.1 ho
 have h1 := h.wtO
 have hself : E.set k o = E := by rw [← hg]; exact List.set_getElem_self hk
 have hp := ord_perm (Row 41 4 v E.length (cat OrdE.cs E)) E k hk o l
 rw [hself] at hp
 exact h1.perm hp
theorem cat_oset (L : List OrdE) (j : Nat) (x y : OrdE) (hx : L[j]? = some x) (hy : y.cs = x.cs) : cat OrdE.cs (L.set j y) = cat OrdE.cs L := by
 induction L generalizing j with
 | nil => simp at hx
 | cons z t ih =>
  have e1 : ∀ (A : List OrdE) (q : OrdE),cat OrdE.cs (q :: A) = q.cs ++ cat OrdE.cs A := fun _ _ => by simp [cat]
  cases j with
  | zero =>
   simp at hx
   subst hx
   rw [List.set_cons_zero,e1,e1,hy]
  | succ j => rw [List.set_cons_succ,e1,e1,ih j (by simpa using hx)]
theorem Own.ordIn {w0 w : World} {l : List Thing} {v : Value} {E : List OrdE} {k : Nat} {o : OrdE} {C2 : List Cp} (ho : E[k]? = some o) (hC : C2.length = o.C.length) (h : Own w0 w (Row 41 4 v E.length (cat OrdE.cs E) :: orow { o with C := C2 } :: ((E.take k).map orow ++ ((E.drop (k + 1)).map orow ++ l)))) : Own w0 w (WtT v (E.set k { o with C := C2 }) :: l) := by
 obtain ⟨hk,hg⟩ := List.getElem?_eq_some_iff.1 ho
 have hp := ord_perm (Row 41 4 v E.length (cat OrdE.cs E)) E k hk { o with C := C2 } l
 have h1 := h.perm hp.symm
 have e : cat OrdE.cs (E.set k { o with C := C2 }) = cat OrdE.cs E := cat_oset E k o _ ho (by unfold OrdE.cs; simp only [hC])
 refine Own.wtS ?_
 rw [e,List.length_set]
 exact h1
theorem Own.wtC {w0 w : World} {l : List Thing} {v : Value} {E : List OrdE} {k : Nat} {o : OrdE} (h : Own w0 w (WtT v E :: l)) (ho : E[k]? = some o) : Cs w o.ao o.C := by
 have h1 := (h.ordOut ho).two
 unfold orow at h1
 exact Own.rcs h1 rfl
theorem Own.wtA {w0 w : World} {l : List Thing} {g n cap : Nat} {E : List OrdE} (h : Own w0 w (WtT (.slice (some ⟨g,0,none⟩) n cap) E :: l)) (hn : E.length = n) {j : Nat} {o : OrdE} (ho : E[j]? = some o) : w.cell? ⟨g,j * 4,none⟩ = some (.int .u8 (o.d : Int)) ∧ w.cell? ⟨g,j * 4 + 1,none⟩ = some (.int .u32 (o.id : Int)) ∧ w.cell? ⟨g,j * 4 + 2,none⟩ = some (.int .u8 (o.k : Int)) ∧ w.cell? ⟨g,j * 4 + 3,none⟩ = some (.slice o.ao o.C.length o.cap) := by
 have h1 := h.wtO
 rw [hn] at h1
 exact ord_cells h1 hn j o ho
end Go.Proofs.YtogmdoiecpihdaaGreatDoor
