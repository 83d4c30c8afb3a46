/- Deltas in memory; is there no change? -/
import Derived.Test.YtgifeckbflkkpaaGreatDoorQp19
namespace Go.Proofs.YtgifeckbflkkpaaGreatDoor
open Go.RowKit
set_option linter.unusedVariables false
set_option maxHeartbeats 1000000
set_option maxRecDepth 100000
theorem nil_len (x : ChE) : x.v.nil = (decide (x.lost = 0) && decide (x.N.length = 0) && decide (x.S.length = 0)) := by
 unfold Chg.nil ChE.v
 rw [Bool.eq_iff_iff]
 simp [List.isEmpty_iff]
theorem isNone_any (w : World) (x : ChE) (hl : x.lost < 256) (h1 : x.N.length ≤ 2097152) (h2 : x.S.length ≤ 2097152) :
  Calls Tryz.prog 184 #[.agg #[.int .u32 (x.id : Int),.int .u8 (x.lost : Int),.slice x.na x.N.length x.nc,.slice x.sa x.S.length x.sc]] w fun e w' => e = .returned (.bool x.v.nil) ∧ Fr Nobody w w' := by
 rw [nil_len]
 obtain ⟨id,lo,N,na,nc,S,sa,sc⟩ := x
 simp only at hl h1 h2 ⊢
 generalize N.length = n at *
 generalize S.length = s at *
 by_cases c0 : lo = 0
 ·subst c0
  by_cases c1 : n = 0
  ·subst c1
   by_cases c2 : s = 0
   ·subst c2
    go_enter Tryz.func184,Tryz.ntmps184
    go_wp2
    go_ret
    exact ⟨rfl,(Fr.refl _ _).alloc _⟩
   ·have e2 : ((s : Int) == 0) = false := by rw [beq_eq_false_iff_ne]; omega
    rw [decide_eq_false c2]
    clear c2
    go_enter Tryz.func184,Tryz.ntmps184
    go_wp2
    go_ret
    exact ⟨rfl,(Fr.refl _ _).alloc _⟩
  ·have e2 : ((n : Int) == 0) = false := by rw [beq_eq_false_iff_ne]; omega
   rw [decide_eq_false c1]
   clear c1
   go_enter Tryz.func184,Tryz.ntmps184
   go_wp2
   go_ret
   exact ⟨by simp,(Fr.refl _ _).alloc _⟩
 ·have e2 : ((lo : Int) == 0) = false := by rw [beq_eq_false_iff_ne]; omega
  rw [decide_eq_false c0]
  clear c0
  go_enter Tryz.func184,Tryz.ntmps184
  go_wp2
  go_ret
  exact ⟨by simp,(Fr.refl _ _).alloc _⟩
structure DlE where
 G : List Nat
 ga : Option Addr
 gc : Nat
 M : List EnE
 ma : Option Addr
 mc : Nat
 H : List ChE
 ha : Option Addr
 hc : Nat
def DlE.vs (d : DlE) : Array Value := #[.slice d.ga d.G.length d.gc,.slice d.ma d.M.length d.mc,.slice d.ha d.H.length d.hc]
def DlE.v (d : DlE) : Dl := ⟨d.G,evs d.M,d.H.map ChE.v⟩
def hrows (H : List ChE) : List Thing := H.flatMap ChE.rows
def grow1 (G : List Nat) (ga : Option Addr) (gc : Nat) : Thing := Row 57 1 (.slice ga G.length gc) G.length (irow .u32 G)
def hrow1 (H : List ChE) (ha : Option Addr) (hc : Nat) : Thing := Row 112 4 (.slice ha H.length hc) H.length (cat ChE.cs H)
def DlE.things (d : DlE) : List Thing := grow1 d.G d.ga d.gc :: EntsT d.ma d.mc d.M :: hrow1 d.H d.ha d.hc :: hrows d.H
def Dl.app (a b : Dl) : Dl := ⟨a.gone ++ b.gone,a.come ++ b.come,a.chg ++ b.chg⟩
theorem app_nil (b : Dl) : Dl.app ⟨[],[],[]⟩ b = b := by cases b; rfl
theorem app_end (a : Dl) : a.app (btw [] []) = a := by cases a; simp [Dl.app,btw]
theorem EntsAt.tail {w : World} {g o : Nat} {x : EnE} {t : List EnE} (h : EntsAt w (some ⟨g,o,none⟩) (x :: t)) : EntsAt w (some ⟨g,o + 2,none⟩) t := by
 refine ⟨?_,fun y hy => h.2 y (List.mem_cons_of_mem _ hy)⟩
 rcases h.1 with h0 | ⟨g',o',ha,hc⟩
 ·cases h0
 ·cases ha
  refine .inr ⟨g,o + 2,rfl,fun j y hy => ?_⟩
  have := hc (j + 1) y (by simpa using hy)
  have e : o + (j + 1) * 2 = o + 2 + j * 2 := by omega
  rw [e] at this
  exact this
theorem EntsAt.nil (w : World) (ao : Option Addr) : EntsAt w ao [] := ⟨.inl rfl,fun x hx => by cases hx⟩
theorem EntsAt.head {w : World} {ao : Option Addr} {x : EnE} {t : List EnE} (h : EntsAt w ao (x :: t)) : ∃ g o,ao = some ⟨g,o,none⟩ ∧ w.cell? ⟨g,o,none⟩ = some (.int .u32 (x.id : Int)) ∧ w.cell? ⟨g,o + 1,none⟩ = some (.slice x.ao x.C.length x.cap) ∧ Cs w x.ao x.C := by
 obtain ⟨g,o,ha,h0,h1,h2⟩ := h.at (j := 0) (x := x) rfl
 exact ⟨g,o,ha,by simpa using h0,by simpa using h1,h2⟩
theorem btw_g {x : EnE} {t N : List EnE} (h : N = [] ∨ ∃ y s,N = y :: s ∧ x.id < y.id) : btw (evs (x :: t)) (evs N) = addG x.id (btw (evs t) (evs N)) := by
 rcases h with rfl | ⟨y,s,rfl,hlt⟩
 ·simp [evs,btw]
 ·simp [evs,btw,hlt]
theorem btw_e {y : EnE} {W s : List EnE} (h : W = [] ∨ ∃ x t,W = x :: t ∧ y.id < x.id) : btw (evs W) (evs (y :: s)) = addE (y.id,y.C) (btw (evs W) (evs s)) := by
 rcases h with rfl | ⟨x,t,rfl,hlt⟩
 ·simp [evs,btw]
 ·have : ¬ x.id < y.id := by omega
  simp [evs,btw,hlt,this]
theorem btw_c {x y : EnE} {t s : List EnE} (h : x.id = y.id) : btw (evs (x :: t)) (evs (y :: s)) = addC (chg1 (x.id,x.C) (y.id,y.C)) (btw (evs t) (evs s)) := by
 simp [evs,btw,h]
theorem app_g (a b : Dl) (g : Nat) : a.app (addG g b) = (⟨a.gone ++ [g],a.come,a.chg⟩ : Dl).app b := by simp [Dl.app,addG]
theorem app_e (a b : Dl) (e : En) : a.app (addE e b) = (⟨a.gone,a.come ++ [e],a.chg⟩ : Dl).app b := by simp [Dl.app,addE]
theorem app_c0 (a b : Dl) (c : Chg) (h : c.nil = true) : a.app (addC c b) = a.app b := by simp [Dl.app,addC,h]
theorem app_c1 (a b : Dl) (c : Chg) (h : c.nil = false) : a.app (addC c b) = (⟨a.gone,a.come,a.chg ++ [c]⟩ : Dl).app b := by simp [Dl.app,addC,h]
theorem Tryz.infoIDk : (Tryz.prog.info? 57).map (fun i => (i.zero,i.size,i.bytes)) = some (some (.int .u32 0),1,4) := by kernel_rfl
def lenV : Value → Nat
 | .slice _ n _ => n
 | _ => 0
end Go.Proofs.YtgifeckbflkkpaaGreatDoor
