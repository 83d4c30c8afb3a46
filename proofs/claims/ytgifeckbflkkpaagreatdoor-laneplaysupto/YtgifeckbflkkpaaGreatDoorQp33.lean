/- The document's Check of a head. -/
import Derived.Test.YtgifeckbflkkpaaGreatDoorQp28
import Derived.Test.YtgifeckbflkkpaaGreatDoorQp10
import Derived.Test.YtgifeckbflkkpaaGreatDoorQp09
import Derived.Test.YtgifeckbflkkpaaGreatDoorQp11
import Derived.Test.YtgifeckbflkkpaaGreatDoorQp12
import Derived.Deep.RegionHeld3
namespace Go.Proofs.YtgifeckbflkkpaaGreatDoor
open Go.RowKit
set_option linter.unusedVariables false
set_option maxHeartbeats 1000000
set_option maxRecDepth 100000
theorem hrcheck_0 (w : World) (k c e t s : Nat) (h0 : k < 1) : Calls Tryz.prog 72 #[.agg (hvs k c e t s)] w fun x w' => x = .returned (.int .i64 1) ∧ Fr Nobody w w' := by
 have HF : Hid (∀ o,Fr Nobody w (w.alloc o)) := fun o => (Fr.refl _ _).alloc o
 have g0 : (k : Int) < 1 := by omega
 clear h0
 unfold hvs at *
 go_enter Tryz.func72,Tryz.ntmps72
 go_wp2
 go_ret
 exact ⟨rfl,HF.out _⟩
theorem hrcheck_1 (w : World) (k c e t s : Nat) (h0 : 1 ≤ k) (h1 : 5 < k) : Calls Tryz.prog 72 #[.agg (hvs k c e t s)] w fun x w' => x = .returned (.int .i64 1) ∧ Fr Nobody w w' := by
 have HF : Hid (∀ o,Fr Nobody w (w.alloc o)) := fun o => (Fr.refl _ _).alloc o
 have g0 : ¬ (k : Int) < 1 := by omega
 have g1 : (5 : Int) < (k : Int) := by omega
 clear h0 h1
 unfold hvs at *
 go_enter Tryz.func72,Tryz.ntmps72
 go_wp2
 go_ret
 exact ⟨rfl,HF.out _⟩
theorem hrcheck_2 (w : World) (k c e t s : Nat) (h0 : 1 ≤ k) (h1 : k ≤ 5) (h2 : 15 < c) : Calls Tryz.prog 72 #[.agg (hvs k c e t s)] w fun x w' => x = .returned (.int .i64 1) ∧ Fr Nobody w w' := by
 have HF : Hid (∀ o,Fr Nobody w (w.alloc o)) := fun o => (Fr.refl _ _).alloc o
 have g0 : ¬ (k : Int) < 1 := by omega
 have g1 : ¬ (5 : Int) < (k : Int) := by omega
 have g2 : (15 : Int) < (c : Int) := by omega
 clear h0 h1 h2
 unfold hvs at *
 go_enter Tryz.func72,Tryz.ntmps72
 go_wp2
 go_ret
 exact ⟨rfl,HF.out _⟩
theorem hrcheck_3 (w : World) (k c e t s : Nat) (h0 : 1 ≤ k) (h1 : k ≤ 5) (h2 : c ≤ 15) (h3 : e = 0) : Calls Tryz.prog 72 #[.agg (hvs k c e t s)] w fun x w' => x = .returned (.int .i64 4) ∧ Fr Nobody w w' := by
 have HF : Hid (∀ o,Fr Nobody w (w.alloc o)) := fun o => (Fr.refl _ _).alloc o
 have g0 : ¬ (k : Int) < 1 := by omega
 have g1 : ¬ (5 : Int) < (k : Int) := by omega
 have g2 : ¬ (15 : Int) < (c : Int) := by omega
 have g3 : ((e : Int) == 0) = true := by rw [beq_iff_eq]; omega
 clear h0 h1 h2 h3
 unfold hvs at *
 go_enter Tryz.func72,Tryz.ntmps72
 go_wp2
 go_ret
 exact ⟨rfl,HF.out _⟩
theorem hrcheck_4 (w : World) (k c e t s : Nat) (h0 : 1 ≤ k) (h1 : k ≤ 5) (h2 : c ≤ 15) (h3 : e ≠ 0) (h4 : 3 < k) (h5 : 0 < t) : Calls Tryz.prog 72 #[.agg (hvs k c e t s)] w fun x w' => x = .returned (.int .i64 4) ∧ Fr Nobody w w' := by
 have HF : Hid (∀ o,Fr Nobody w (w.alloc o)) := fun o => (Fr.refl _ _).alloc o
 have g0 : ¬ (k : Int) < 1 := by omega
 have g1 : ¬ (5 : Int) < (k : Int) := by omega
 have g2 : ¬ (15 : Int) < (c : Int) := by omega
 have g3 : ((e : Int) == 0) = false := by rw [beq_eq_false_iff_ne]; omega
 have g4 : (3 : Int) < (k : Int) := by omega
 have g5 : (0 : Int) < (t : Int) := by omega
 clear h0 h1 h2 h3 h4 h5
 unfold hvs at *
 go_enter Tryz.func72,Tryz.ntmps72
 go_wp2
 go_ret
 exact ⟨rfl,HF.out _⟩
theorem hrcheck_5 (w : World) (k c e t s : Nat) (h0 : 1 ≤ k) (h1 : k ≤ 5) (h2 : c ≤ 15) (h3 : e ≠ 0) (h4 : 3 < k) (h5 : t = 0) (h6 : k ≠ 2) (h7 : 0 < s) : Calls Tryz.prog 72 #[.agg (hvs k c e t s)] w fun x w' => x = .returned (.int .i64 4) ∧ Fr Nobody w w' := by
 have HF : Hid (∀ o,Fr Nobody w (w.alloc o)) := fun o => (Fr.refl _ _).alloc o
 have g0 : ¬ (k : Int) < 1 := by omega
 have g1 : ¬ (5 : Int) < (k : Int) := by omega
 have g2 : ¬ (15 : Int) < (c : Int) := by omega
 have g3 : ((e : Int) == 0) = false := by rw [beq_eq_false_iff_ne]; omega
 have g4 : (3 : Int) < (k : Int) := by omega
 have g5 : ¬ (0 : Int) < (t : Int) := by omega
 have g6 : ((k : Int) != 2) = true := by rw [bne_iff_ne]; omega
 have g7 : ((k : Int) == 2) = false := by rw [beq_eq_false_iff_ne]; omega
 have g8 : (0 : Int) < (s : Int) := by omega
 clear h0 h1 h2 h3 h4 h5 h6 h7
 unfold hvs at *
 go_enter Tryz.func72,Tryz.ntmps72
 go_wp2
 go_ret
 exact ⟨rfl,HF.out _⟩
theorem hrcheck_6 (w : World) (k c e t s : Nat) (h0 : 1 ≤ k) (h1 : k ≤ 5) (h2 : c ≤ 15) (h3 : e ≠ 0) (h4 : 3 < k) (h5 : t = 0) (h6 : k ≠ 2) (h7 : s = 0) : Calls Tryz.prog 72 #[.agg (hvs k c e t s)] w fun x w' => x = .returned (.int .i64 0) ∧ Fr Nobody w w' := by
 have HF : Hid (∀ o,Fr Nobody w (w.alloc o)) := fun o => (Fr.refl _ _).alloc o
 have g0 : ¬ (k : Int) < 1 := by omega
 have g1 : ¬ (5 : Int) < (k : Int) := by omega
 have g2 : ¬ (15 : Int) < (c : Int) := by omega
 have g3 : ((e : Int) == 0) = false := by rw [beq_eq_false_iff_ne]; omega
 have g4 : (3 : Int) < (k : Int) := by omega
 have g5 : ¬ (0 : Int) < (t : Int) := by omega
 have g6 : ((k : Int) != 2) = true := by rw [bne_iff_ne]; omega
 have g7 : ((k : Int) == 2) = false := by rw [beq_eq_false_iff_ne]; omega
 have g8 : ¬ (0 : Int) < (s : Int) := by omega
 clear h0 h1 h2 h3 h4 h5 h6 h7
 unfold hvs at *
 go_enter Tryz.func72,Tryz.ntmps72
 go_wp2
 go_ret
 exact ⟨rfl,HF.out _⟩
theorem hrcheck_7 (w : World) (k c e t s : Nat) (h0 : 1 ≤ k) (h1 : k ≤ 5) (h2 : c ≤ 15) (h3 : e ≠ 0) (h4 : k ≤ 3) (h5 : k ≠ 2) (h6 : 0 < s) : Calls Tryz.prog 72 #[.agg (hvs k c e t s)] w fun x w' => x = .returned (.int .i64 4) ∧ Fr Nobody w w' := by
 have HF : Hid (∀ o,Fr Nobody w (w.alloc o)) := fun o => (Fr.refl _ _).alloc o
 have g0 : ¬ (k : Int) < 1 := by omega
 have g1 : ¬ (5 : Int) < (k : Int) := by omega
 have g2 : ¬ (15 : Int) < (c : Int) := by omega
 have g3 : ((e : Int) == 0) = false := by rw [beq_eq_false_iff_ne]; omega
 have g4 : ¬ (3 : Int) < (k : Int) := by omega
 have g5 : ((k : Int) != 2) = true := by rw [bne_iff_ne]; omega
 have g6 : ((k : Int) == 2) = false := by rw [beq_eq_false_iff_ne]; omega
 have g7 : (0 : Int) < (s : Int) := by omega
 clear h0 h1 h2 h3 h4 h5 h6
 unfold hvs at *
 go_enter Tryz.func72,Tryz.ntmps72
 go_wp2
 go_ret
 exact ⟨rfl,HF.out _⟩
theorem hrcheck_8 (w : World) (k c e t s : Nat) (h0 : 1 ≤ k) (h1 : k ≤ 5) (h2 : c ≤ 15) (h3 : e ≠ 0) (h4 : k ≤ 3) (h5 : k ≠ 2) (h6 : s = 0) : Calls Tryz.prog 72 #[.agg (hvs k c e t s)] w fun x w' => x = .returned (.int .i64 0) ∧ Fr Nobody w w' := by
 have HF : Hid (∀ o,Fr Nobody w (w.alloc o)) := fun o => (Fr.refl _ _).alloc o
 have g0 : ¬ (k : Int) < 1 := by omega
 have g1 : ¬ (5 : Int) < (k : Int) := by omega
 have g2 : ¬ (15 : Int) < (c : Int) := by omega
 have g3 : ((e : Int) == 0) = false := by rw [beq_eq_false_iff_ne]; omega
 have g4 : ¬ (3 : Int) < (k : Int) := by omega
 have g5 : ((k : Int) != 2) = true := by rw [bne_iff_ne]; omega
 have g6 : ((k : Int) == 2) = false := by rw [beq_eq_false_iff_ne]; omega
 have g7 : ¬ (0 : Int) < (s : Int) := by omega
 clear h0 h1 h2 h3 h4 h5 h6
 unfold hvs at *
 go_enter Tryz.func72,Tryz.ntmps72
 go_wp2
 go_ret
 exact ⟨rfl,HF.out _⟩
theorem hrcheck_9 (w : World) (k c e t s : Nat) (h0 : 1 ≤ k) (h1 : k ≤ 5) (h2 : c ≤ 15) (h3 : e ≠ 0) (h4 : k ≤ 3) (h5 : k = 2) (h6 : t ≤ s) : Calls Tryz.prog 72 #[.agg (hvs k c e t s)] w fun x w' => x = .returned (.int .i64 4) ∧ Fr Nobody w w' := by
 have HF : Hid (∀ o,Fr Nobody w (w.alloc o)) := fun o => (Fr.refl _ _).alloc o
 have g0 : ¬ (k : Int) < 1 := by omega
 have g1 : ¬ (5 : Int) < (k : Int) := by omega
 have g2 : ¬ (15 : Int) < (c : Int) := by omega
 have g3 : ((e : Int) == 0) = false := by rw [beq_eq_false_iff_ne]; omega
 have g4 : ¬ (3 : Int) < (k : Int) := by omega
 have g5 : ((k : Int) != 2) = false := by rw [bne_eq_false_iff_eq]; omega
 have g6 : ((k : Int) == 2) = true := by rw [beq_iff_eq]; omega
 have g7 : (t : Int) ≤ (s : Int) := by omega
 clear h0 h1 h2 h3 h4 h5 h6
 unfold hvs at *
 go_enter Tryz.func72,Tryz.ntmps72
 go_wp2
 go_ret
 exact ⟨rfl,HF.out _⟩
theorem hrcheck_10 (w : World) (k c e t s : Nat) (h0 : 1 ≤ k) (h1 : k ≤ 5) (h2 : c ≤ 15) (h3 : e ≠ 0) (h4 : k ≤ 3) (h5 : k = 2) (h6 : s < t) : Calls Tryz.prog 72 #[.agg (hvs k c e t s)] w fun x w' => x = .returned (.int .i64 0) ∧ Fr Nobody w w' := by
 have HF : Hid (∀ o,Fr Nobody w (w.alloc o)) := fun o => (Fr.refl _ _).alloc o
 have g0 : ¬ (k : Int) < 1 := by omega
 have g1 : ¬ (5 : Int) < (k : Int) := by omega
 have g2 : ¬ (15 : Int) < (c : Int) := by omega
 have g3 : ((e : Int) == 0) = false := by rw [beq_eq_false_iff_ne]; omega
 have g4 : ¬ (3 : Int) < (k : Int) := by omega
 have g5 : ((k : Int) != 2) = false := by rw [bne_eq_false_iff_eq]; omega
 have g6 : ((k : Int) == 2) = true := by rw [beq_iff_eq]; omega
 have g7 : ¬ (t : Int) ≤ (s : Int) := by omega
 clear h0 h1 h2 h3 h4 h5 h6
 unfold hvs at *
 go_enter Tryz.func72,Tryz.ntmps72
 go_wp2
 go_ret
 exact ⟨rfl,HF.out _⟩
theorem hrcheck_any (w : World) (k c e t s : Nat) (hI : HIn k c e t s) : Calls Tryz.prog 72 #[.agg (hvs k c e t s)] w fun x w' => x = .returned (.int .i64 ((hchk k c e t s : Nat) : Int)) ∧ Fr Nobody w w' := by
 by_cases q0 : k < 1
 ·have ee : hchk k c e t s = 1 := by
   unfold hchk tfit bfit hasT
   rw [if_pos (by omega)]
  rw [ee]
  exact hrcheck_0 w k c e t s (by omega)
 ·by_cases q1 : 5 < k
  ·have ee : hchk k c e t s = 1 := by
    unfold hchk tfit bfit hasT
    rw [if_pos (by omega)]
   rw [ee]
   exact hrcheck_1 w k c e t s (by omega) (by omega)
  ·by_cases q2 : 15 < c
   ·have ee : hchk k c e t s = 1 := by
     unfold hchk tfit bfit hasT
     rw [if_pos (by omega)]
    rw [ee]
    exact hrcheck_2 w k c e t s (by omega) (by omega) (by omega)
   ·by_cases q3 : e = 0
    ·have ee : hchk k c e t s = 4 := by
      unfold hchk tfit bfit hasT
      rw [if_neg (by omega),if_pos ?_]
      by_cases kk : k = 2 <;> simp [kk] <;> omega
     rw [ee]
     exact hrcheck_3 w k c e t s (by omega) (by omega) (by omega) (by omega)
    ·by_cases q4 : 3 < k
     ·by_cases q5 : 0 < t
      ·have ee : hchk k c e t s = 4 := by
        unfold hchk tfit bfit hasT
        rw [if_neg (by omega),if_pos ?_]
        by_cases kk : k = 2 <;> simp [kk] <;> omega
       rw [ee]
       exact hrcheck_4 w k c e t s (by omega) (by omega) (by omega) (by omega) (by omega) (by omega)
      ·by_cases q6 : 0 < s
       ·have ee : hchk k c e t s = 4 := by
         unfold hchk tfit bfit hasT
         rw [if_neg (by omega),if_pos ?_]
         by_cases kk : k = 2 <;> simp [kk] <;> omega
        rw [ee]
        exact hrcheck_5 w k c e t s (by omega) (by omega) (by omega) (by omega) (by omega) (by omega) (by omega) (by omega)
       ·have ee : hchk k c e t s = 0 := by
         unfold hchk tfit bfit hasT
         rw [if_neg (by omega),if_neg ?_]
         by_cases kk : k = 2 <;> simp [kk] <;> omega
        rw [ee]
        exact hrcheck_6 w k c e t s (by omega) (by omega) (by omega) (by omega) (by omega) (by omega) (by omega) (by omega)
     ·by_cases q7 : k = 2
      ·by_cases q8 : t ≤ s
       ·have ee : hchk k c e t s = 4 := by
         unfold hchk tfit bfit hasT
         rw [if_neg (by omega),if_pos ?_]
         by_cases kk : k = 2 <;> simp [kk] <;> omega
        rw [ee]
        exact hrcheck_9 w k c e t s (by omega) (by omega) (by omega) (by omega) (by omega) (by omega) (by omega)
       ·have ee : hchk k c e t s = 0 := by
         unfold hchk tfit bfit hasT
         rw [if_neg (by omega),if_neg ?_]
         by_cases kk : k = 2 <;> simp [kk] <;> omega
        rw [ee]
        exact hrcheck_10 w k c e t s (by omega) (by omega) (by omega) (by omega) (by omega) (by omega) (by omega)
      ·by_cases q9 : 0 < s
       ·have ee : hchk k c e t s = 4 := by
         unfold hchk tfit bfit hasT
         rw [if_neg (by omega),if_pos ?_]
         by_cases kk : k = 2 <;> simp [kk] <;> omega
        rw [ee]
        exact hrcheck_7 w k c e t s (by omega) (by omega) (by omega) (by omega) (by omega) (by omega) (by omega)
       ·have ee : hchk k c e t s = 0 := by
         unfold hchk tfit bfit hasT
         rw [if_neg (by omega),if_neg ?_]
         by_cases kk : k = 2 <;> simp [kk] <;> omega
        rw [ee]
        exact hrcheck_8 w k c e t s (by omega) (by omega) (by omega) (by omega) (by omega) (by omega) (by omega)
theorem bs_set {w0 w : World} {l : List Thing} {b : Nat} {cur : Array Value} {t : TypeId} {u : Value} {L : List Bool} (h : Own w0 w (Cells b cur t :: l)) (ht : t ≠ 4) (hb : Bs w u L) (i : Nat) (x : Value) : Bs (w.setCell ⟨b,i,none⟩ x) u L := by
 rcases hb with hb | ⟨g,o,cap,c2,hv,hc,hg,hj⟩
 ·exact .inl hb
 ·have hlt : g < w.heap.size := (Array.getElem?_eq_some_iff.1 hg).1
  have hne : g ≠ b := fun e => by
   subst e
   have := h.obj
   rw [hg] at this
   simp at this
   exact ht this.2.symm
  have hf : Fr (fun k => k = b) w (w.setCell ⟨b,i,none⟩ x) := (Fr.refl (fun k => k = b) w).setCell (p := ⟨b,i,none⟩) (.inl rfl) x
  exact .inr ⟨g,o,cap,c2,hv,hc,(hf.block g hlt hne).trans hg,hj⟩
def SrcO (w0 w : World) (b : Nat) (L : List Bool) (bad : Bool) (l : List Thing) : Prop := ∃ v,Own w0 w (Cells b #[v,.bool bad] 95 :: l) ∧ Bs w v L
theorem SrcO.perm {w0 w : World} {b : Nat} {L : List Bool} {bad : Bool} {l m : List Thing} (h : SrcO w0 w b L bad l) (hp : l.Perm m) : SrcO w0 w b L bad m := by
 obtain ⟨v,h1,h2⟩ := h
 exact ⟨v,h1.perm (hp.cons _),h2⟩
theorem SrcO.bad {w0 w : World} {b : Nat} {L : List Bool} {bad : Bool} {l : List Thing} (h : SrcO w0 w b L bad l) : w.cell? ⟨b,1,none⟩ = some (.bool bad) := by
 obtain ⟨v,h1,_⟩ := h
 have := h1.cell 1
 simpa using this
theorem SrcO.fz {w0 w : World} {b : Nat} {L : List Bool} {bad : Bool} {l : List Thing} (h : SrcO w0 w b L bad l) (i : Nat) : w.frozen? ⟨b,i,none⟩ = false := by
 obtain ⟨v,h1,_⟩ := h
 exact h1.froz i
theorem SrcO.setBad {w0 w : World} {b : Nat} {L : List Bool} {bad : Bool} {l : List Thing} (h : SrcO w0 w b L bad l) (bad' : Bool) : SrcO w0 (w.setCell ⟨b,1,none⟩ (.bool bad')) b L bad' l := by
 obtain ⟨v,h1,h2⟩ := h
 have h3 := h1.setC 1 (.bool bad')
 simp at h3
 exact ⟨v,h3,bs_set h1 (by decide) h2 1 _⟩
theorem SrcO.cellH {w0 w : World} {b bh : Nat} {cur : Array Value} {t : TypeId} {L : List Bool} {bad : Bool} {l : List Thing} (h : SrcO w0 w b L bad (Cells bh cur t :: l)) (i : Nat) : w.cell? ⟨bh,i,none⟩ = cur[i]? := by
 obtain ⟨v,h1,_⟩ := h
 exact h1.two.cell i
theorem SrcO.fzH {w0 w : World} {b bh : Nat} {cur : Array Value} {t : TypeId} {L : List Bool} {bad : Bool} {l : List Thing} (h : SrcO w0 w b L bad (Cells bh cur t :: l)) (i : Nat) : w.frozen? ⟨bh,i,none⟩ = false := by
 obtain ⟨v,h1,_⟩ := h
 exact h1.two.froz i
theorem SrcO.setH {w0 w : World} {b bh : Nat} {cur : Array Value} {t : TypeId} {L : List Bool} {bad : Bool} {l : List Thing} (h : SrcO w0 w b L bad (Cells bh cur t :: l)) (ht : t ≠ 4) (i : Nat) (x : Value) : SrcO w0 (w.setCell ⟨bh,i,none⟩ x) b L bad (Cells bh (cur.setIfInBounds i x) t :: l) := by
 obtain ⟨v,h1,h2⟩ := h
 exact ⟨v,(h1.two.setC i x).two,bs_set h1.two ht h2 i x⟩
theorem SrcO.quiet {w0 w w' : World} {b : Nat} {L : List Bool} {bad : Bool} {l : List Thing} (h : SrcO w0 w b L bad l) (hf : Fr Nobody w w') : SrcO w0 w' b L bad l := by
 obtain ⟨v,h1,h2⟩ := h
 exact ⟨v,h1.quiet hf,h2.quiet hf⟩
theorem SrcO.tail {w0 w : World} {b : Nat} {L : List Bool} {bad : Bool} {P : Thing} {l : List Thing} (h : SrcO w0 w b L bad (P :: l)) : SrcO w0 w b L bad l := by
 obtain ⟨v,h1,h2⟩ := h
 exact ⟨v,h1.two.tail,h2⟩
theorem SrcO.neH {w0 w : World} {b bh : Nat} {cur : Array Value} {t : TypeId} {L : List Bool} {bad : Bool} {l : List Thing} (h : SrcO w0 w b L bad (Cells bh cur t :: l)) (ht : t ≠ 95) : bh ≠ b ∧ b ≠ bh := by
 obtain ⟨v,h1,_⟩ := h
 have e : bh ≠ b := fun e => by
  subst e
  have h2 := h1.obj
  have h3 := h1.two.obj
  rw [h2] at h3
  simp at h3
  exact ht h3.2.symm
 exact ⟨e,fun x => e x.symm⟩
theorem results_cell1L {fn : Func} {p : Tmp} {ty : TypeId} (h : fn.results = #[.cell p ty]) (tmps : Array Value) (P : Program) (w : World) : (results fn tmps).run P w = ((asAddr (tmps.getD p undef)).run P w).andThen fun a w₁ => (loadVar ty a).run P w₁ := by
 simp only [results,h]
 simp [Sem.run_bind,Result.andThen]
theorem splain (w0 w : World) (l : List Thing) (b : Nat) (L : List Bool) (bad : Bool) (h : SrcO w0 w b L bad l) (n : Nat) (hn : n ≤ 64) (hs : n ≤ L.length) (hL : L.length ≤ 100000) :
  Calls Tryz.prog 50 #[.pointer (some ⟨b,0,none⟩),.int .i64 (n : Int)] w fun x w' => x = .returned (.int .u64 ((num (L.take n) : Nat) : Int)) ∧ SrcO w0 w' b (L.drop n) bad l := by
 obtain ⟨v,hO,hb⟩ := h
 have HG : Hid (Calls _ _ _ _ _) := rget_ok w v L n hb hn hs (by omega)
 have p0 := hO.cell 0
 simp at p0
 have HO : Hid (Own w0 w (Cells b #[v,.bool bad] 95 :: l)) := hO
 clear hO hb hn hs hL
 generalize num (L.take n) = r at *
 generalize L.drop n = R at *
 go_enter Tryz.func50,Tryz.ntmps50
 go_wp2_with fail
 refine HG.out.mono ?_
 rintro e w1 ⟨v1,rfl,hb1,hf⟩
 obtain ⟨a1,c1,rfl⟩ := hb1.shape
 have h1 := HO.out.quiet hf
 have q0 := h1.cell 0
 have q1 := h1.cell 1
 have z0 := h1.froz 0
 simp at q0 q1
 have h2 := h1.setC 0 (.slice a1 R.length c1)
 simp at h2
 have r1 := h2.cell 1
 have z1 := h2.froz 1
 simp at r1
 have h3 := h2.setC 1 (.bool bad)
 simp at h3
 have H3 : Hid (Own w0 _ _ ∧ Bs _ (.slice a1 R.length c1) R) := ⟨h3,bs_set h2 (by decide) (bs_set h1 (by decide) hb1 0 (.slice a1 R.length c1)) 1 (.bool bad)⟩
 clear h1 h2 h3 hb1 hf HO HG p0
 cases bad
 all_goals
  go_wp2
  go_ret
  exact ⟨rfl,_,H3.out.1,H3.out.2⟩
theorem scount (w0 w : World) (l : List Thing) (b : Nat) (L R : List Bool) (bad : Bool) (h : SrcO w0 w b L bad l) (n : Nat) (hn : n < 18446744073709551616) (hs : L = var n ++ R) (hL : L.length ≤ 100000) :
  Calls Tryz.prog 48 #[.pointer (some ⟨b,0,none⟩)] w fun x w' => x = .returned (.int .u64 (n : Int)) ∧ SrcO w0 w' b R bad l := by
 obtain ⟨v,hO,hb⟩ := h
 have hg := rgetVar_any w v L hb hL
 have e1 : gv L = (0,n,5 * grp n) := by rw [hs]; exact gv_var n hn R
 have e2 : L.drop (5 * grp n) = R := by rw [hs]; exact List.drop_left' (length_var n)
 rw [e1] at hg
 simp only [e2] at hg
 have HG : Hid (Calls _ _ _ _ _) := hg
 have p0 := hO.cell 0
 simp at p0
 have HO : Hid (Own w0 w (Cells b #[v,.bool bad] 95 :: l)) := hO
 clear hO hb hn hs hL hg e1 e2
 go_enter Tryz.func48,Tryz.ntmps48
 go_wp2_with fail
 refine HG.out.mono ?_
 rintro e w1 ⟨v1,rfl,hb1,hf⟩
 obtain ⟨a1,c1,rfl⟩ := hb1.shape
 have h1 := HO.out.quiet hf
 have q0 := h1.cell 0
 have q1 := h1.cell 1
 have z0 := h1.froz 0
 simp at q0 q1
 have h2 := h1.setC 0 (.slice a1 (R).length c1)
 simp at h2
 have r1 := h2.cell 1
 have z1 := h2.froz 1
 simp at r1
 have h3 := h2.setC 1 (.bool bad)
 simp at h3
 have H3 : Hid (Own w0 _ _ ∧ Bs _ (.slice a1 R.length c1) R) := ⟨h3,bs_set h2 (by decide) (bs_set h1 (by decide) hb1 0 (.slice a1 R.length c1)) 1 (.bool bad)⟩
 clear h1 h2 h3 hb1 hf HO HG p0
 cases bad
 all_goals
  go_wp2
  go_ret
  exact ⟨rfl,_,H3.out.1,H3.out.2⟩
theorem gi_backN (x y : Int) (d : Nat) (R : List Bool) (h0 : -9223372036854775808 ≤ x) (h1 : y ≤ 9223372036854775807) (hb : x + (d : Int) ≤ y) : gi x y (bitsN (wid x y) d ++ R) = (0,x + (d : Int),wid x y) := by
 have hlt := in_lt (x + (d : Int)) x y h0 h1 (by omega) hb
 have e : (x + (d : Int) - x).toNat = d := by omega
 rw [e] at hlt
 have htk : (bitsN (wid x y) d ++ R).take (wid x y) = bitsN (wid x y) d := List.take_left' (length_bitsN _ _)
 unfold gi
 rw [htk,num_bitsN,Nat.mod_eq_of_lt hlt,List.length_append,length_bitsN]
 rw [if_neg (by omega),if_neg (by omega),if_neg (by omega)]
theorem bfit2 {t s : Nat} (h : bfit 2 t s = true) : s < t := by unfold bfit at h; simpa using h
theorem headB_split {k c e tk s : Nat} {L R : List Bool} (h : L = headB k c e tk s ++ R) : L = bitsN (wid 1 5) (k - 1) ++ (bitsN (wid 0 15) c ++ (var e ++ ((if hasT k = true then bitsN 32 tk else []) ++ ((if k = 2 then var (tk - s - 1) else []) ++ R)))) := by
 rw [h]; unfold headB; simp only [List.append_assoc]
end Go.Proofs.YtgifeckbflkkpaaGreatDoor
