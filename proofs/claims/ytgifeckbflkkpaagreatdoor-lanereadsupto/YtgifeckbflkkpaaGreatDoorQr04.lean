/- The document's Check of a head. -/
import Derived.Test.YtgifeckbflkkpaaGreatDoorQr03
import Derived.Test.YtgifeckbflkkpaaGreatDoorQr02
namespace Go.Proofs.YtgifeckbflkkpaaGreatDoor
open Go.RowKit
set_option linter.unusedVariables false
set_option maxHeartbeats 1000000
set_option maxRecDepth 100000
theorem hrcheck_0 (w : World) (k c e t s : Nat) (h0 : k < 1) : Calls Tryz.prog 72 #[.agg (hvs k c e t s)] w fun x w' => x = .returned (.int .i64 1) ∧ Fr Nobody w w' := by
 have HF : Hid (∀ o,Fr Nobody w (w.alloc o)) := fun o => (Fr.refl _ _).alloc o
 have g0 : (k : Int) < 1 := by omega
 clear h0
 unfold hvs at *
 go_enter Tryz.func72,Tryz.ntmps72
 go_wp2
 go_ret
 exact ⟨rfl,HF.out _⟩
theorem hrcheck_1 (w : World) (k c e t s : Nat) (h0 : 1 ≤ k) (h1 : 5 < k) : Calls Tryz.prog 72 #[.agg (hvs k c e t s)] w fun x w' => x = .returned (.int .i64 1) ∧ Fr Nobody w w' := by
 have HF : Hid (∀ o,Fr Nobody w (w.alloc o)) := fun o => (Fr.refl _ _).alloc o
 have g0 : ¬ (k : Int) < 1 := by omega
 have g1 : (5 : Int) < (k : Int) := by omega
 clear h0 h1
 unfold hvs at *
 go_enter Tryz.func72,Tryz.ntmps72
 go_wp2
 go_ret
 exact ⟨rfl,HF.out _⟩
theorem hrcheck_2 (w : World) (k c e t s : Nat) (h0 : 1 ≤ k) (h1 : k ≤ 5) (h2 : 15 < c) : Calls Tryz.prog 72 #[.agg (hvs k c e t s)] w fun x w' => x = .returned (.int .i64 1) ∧ Fr Nobody w w' := by
 have HF : Hid (∀ o,Fr Nobody w (w.alloc o)) := fun o => (Fr.refl _ _).alloc o
 have g0 : ¬ (k : Int) < 1 := by omega
 have g1 : ¬ (5 : Int) < (k : Int) := by omega
 have g2 : (15 : Int) < (c : Int) := by omega
 clear h0 h1 h2
 unfold hvs at *
 go_enter Tryz.func72,Tryz.ntmps72
 go_wp2
 go_ret
 exact ⟨rfl,HF.out _⟩
theorem hrcheck_3 (w : World) (k c e t s : Nat) (h0 : 1 ≤ k) (h1 : k ≤ 5) (h2 : c ≤ 15) (h3 : e = 0) : Calls Tryz.prog 72 #[.agg (hvs k c e t s)] w fun x w' => x = .returned (.int .i64 4) ∧ Fr Nobody w w' := by
 have HF : Hid (∀ o,Fr Nobody w (w.alloc o)) := fun o => (Fr.refl _ _).alloc o
 have g0 : ¬ (k : Int) < 1 := by omega
 have g1 : ¬ (5 : Int) < (k : Int) := by omega
 have g2 : ¬ (15 : Int) < (c : Int) := by omega
 have g3 : ((e : Int) == 0) = true := by rw [beq_iff_eq]; omega
 clear h0 h1 h2 h3
 unfold hvs at *
 go_enter Tryz.func72,Tryz.ntmps72
 go_wp2
 go_ret
 exact ⟨rfl,HF.out _⟩
theorem hrcheck_4 (w : World) (k c e t s : Nat) (h0 : 1 ≤ k) (h1 : k ≤ 5) (h2 : c ≤ 15) (h3 : e ≠ 0) (h4 : 3 < k) (h5 : 0 < t) : Calls Tryz.prog 72 #[.agg (hvs k c e t s)] w fun x w' => x = .returned (.int .i64 4) ∧ Fr Nobody w w' := by
 have HF : Hid (∀ o,Fr Nobody w (w.alloc o)) := fun o => (Fr.refl _ _).alloc o
 have g0 : ¬ (k : Int) < 1 := by omega
 have g1 : ¬ (5 : Int) < (k : Int) := by omega
 have g2 : ¬ (15 : Int) < (c : Int) := by omega
 have g3 : ((e : Int) == 0) = false := by rw [beq_eq_false_iff_ne]; omega
 have g4 : (3 : Int) < (k : Int) := by omega
 have g5 : (0 : Int) < (t : Int) := by omega
 clear h0 h1 h2 h3 h4 h5
 unfold hvs at *
 go_enter Tryz.func72,Tryz.ntmps72
 go_wp2
 go_ret
 exact ⟨rfl,HF.out _⟩
theorem hrcheck_5 (w : World) (k c e t s : Nat) (h0 : 1 ≤ k) (h1 : k ≤ 5) (h2 : c ≤ 15) (h3 : e ≠ 0) (h4 : 3 < k) (h5 : t = 0) (h6 : k ≠ 2) (h7 : 0 < s) : Calls Tryz.prog 72 #[.agg (hvs k c e t s)] w fun x w' => x = .returned (.int .i64 4) ∧ Fr Nobody w w' := by
 have HF : Hid (∀ o,Fr Nobody w (w.alloc o)) := fun o => (Fr.refl _ _).alloc o
 have g0 : ¬ (k : Int) < 1 := by omega
 have g1 : ¬ (5 : Int) < (k : Int) := by omega
 have g2 : ¬ (15 : Int) < (c : Int) := by omega
 have g3 : ((e : Int) == 0) = false := by rw [beq_eq_false_iff_ne]; omega
 have g4 : (3 : Int) < (k : Int) := by omega
 have g5 : ¬ (0 : Int) < (t : Int) := by omega
 have g6 : ((k : Int) != 2) = true := by rw [bne_iff_ne]; omega
 have g7 : ((k : Int) == 2) = false := by rw [beq_eq_false_iff_ne]; omega
 have g8 : (0 : Int) < (s : Int) := by omega
 clear h0 h1 h2 h3 h4 h5 h6 h7
 unfold hvs at *
 go_enter Tryz.func72,Tryz.ntmps72
 go_wp2
 go_ret
 exact ⟨rfl,HF.out _⟩
theorem hrcheck_6 (w : World) (k c e t s : Nat) (h0 : 1 ≤ k) (h1 : k ≤ 5) (h2 : c ≤ 15) (h3 : e ≠ 0) (h4 : 3 < k) (h5 : t = 0) (h6 : k ≠ 2) (h7 : s = 0) : Calls Tryz.prog 72 #[.agg (hvs k c e t s)] w fun x w' => x = .returned (.int .i64 0) ∧ Fr Nobody w w' := by
 have HF : Hid (∀ o,Fr Nobody w (w.alloc o)) := fun o => (Fr.refl _ _).alloc o
 have g0 : ¬ (k : Int) < 1 := by omega
 have g1 : ¬ (5 : Int) < (k : Int) := by omega
 have g2 : ¬ (15 : Int) < (c : Int) := by omega
 have g3 : ((e : Int) == 0) = false := by rw [beq_eq_false_iff_ne]; omega
 have g4 : (3 : Int) < (k : Int) := by omega
 have g5 : ¬ (0 : Int) < (t : Int) := by omega
 have g6 : ((k : Int) != 2) = true := by rw [bne_iff_ne]; omega
 have g7 : ((k : Int) == 2) = false := by rw [beq_eq_false_iff_ne]; omega
 have g8 : ¬ (0 : Int) < (s : Int) := by omega
 clear h0 h1 h2 h3 h4 h5 h6 h7
 unfold hvs at *
 go_enter Tryz.func72,Tryz.ntmps72
 go_wp2
 go_ret
 exact ⟨rfl,HF.out _⟩
theorem hrcheck_7 (w : World) (k c e t s : Nat) (h0 : 1 ≤ k) (h1 : k ≤ 5) (h2 : c ≤ 15) (h3 : e ≠ 0) (h4 : k ≤ 3) (h5 : k ≠ 2) (h6 : 0 < s) : Calls Tryz.prog 72 #[.agg (hvs k c e t s)] w fun x w' => x = .returned (.int .i64 4) ∧ Fr Nobody w w' := by
 have HF : Hid (∀ o,Fr Nobody w (w.alloc o)) := fun o => (Fr.refl _ _).alloc o
 have g0 : ¬ (k : Int) < 1 := by omega
 have g1 : ¬ (5 : Int) < (k : Int) := by omega
 have g2 : ¬ (15 : Int) < (c : Int) := by omega
 have g3 : ((e : Int) == 0) = false := by rw [beq_eq_false_iff_ne]; omega
 have g4 : ¬ (3 : Int) < (k : Int) := by omega
 have g5 : ((k : Int) != 2) = true := by rw [bne_iff_ne]; omega
 have g6 : ((k : Int) == 2) = false := by rw [beq_eq_false_iff_ne]; omega
 have g7 : (0 : Int) < (s : Int) := by omega
 clear h0 h1 h2 h3 h4 h5 h6
 unfold hvs at *
 go_enter Tryz.func72,Tryz.ntmps72
 go_wp2
 go_ret
 exact ⟨rfl,HF.out _⟩
theorem hrcheck_8 (w : World) (k c e t s : Nat) (h0 : 1 ≤ k) (h1 : k ≤ 5) (h2 : c ≤ 15) (h3 : e ≠ 0) (h4 : k ≤ 3) (h5 : k ≠ 2) (h6 : s = 0) : Calls Tryz.prog 72 #[.agg (hvs k c e t s)] w fun x w' => x = .returned (.int .i64 0) ∧ Fr Nobody w w' := by
 have HF : Hid (∀ o,Fr Nobody w (w.alloc o)) := fun o => (Fr.refl _ _).alloc o
 have g0 : ¬ (k : Int) < 1 := by omega
 have g1 : ¬ (5 : Int) < (k : Int) := by omega
 have g2 : ¬ (15 : Int) < (c : Int) := by omega
 have g3 : ((e : Int) == 0) = false := by rw [beq_eq_false_iff_ne]; omega
 have g4 : ¬ (3 : Int) < (k : Int) := by omega
 have g5 : ((k : Int) != 2) = true := by rw [bne_iff_ne]; omega
 have g6 : ((k : Int) == 2) = false := by rw [beq_eq_false_iff_ne]; omega
 have g7 : ¬ (0 : Int) < (s : Int) := by omega
 clear h0 h1 h2 h3 h4 h5 h6
 unfold hvs at *
 go_enter Tryz.func72,Tryz.ntmps72
 go_wp2
 go_ret
 exact ⟨rfl,HF.out _⟩
theorem hrcheck_9 (w : World) (k c e t s : Nat) (h0 : 1 ≤ k) (h1 : k ≤ 5) (h2 : c ≤ 15) (h3 : e ≠ 0) (h4 : k ≤ 3) (h5 : k = 2) (h6 : t ≤ s) : Calls Tryz.prog 72 #[.agg (hvs k c e t s)] w fun x w' => x = .returned (.int .i64 4) ∧ Fr Nobody w w' := by
 have HF : Hid (∀ o,Fr Nobody w (w.alloc o)) := fun o => (Fr.refl _ _).alloc o
 have g0 : ¬ (k : Int) < 1 := by omega
 have g1 : ¬ (5 : Int) < (k : Int) := by omega
 have g2 : ¬ (15 : Int) < (c : Int) := by omega
 have g3 : ((e : Int) == 0) = false := by rw [beq_eq_false_iff_ne]; omega
 have g4 : ¬ (3 : Int) < (k : Int) := by omega
 have g5 : ((k : Int) != 2) = false := by rw [bne_eq_false_iff_eq]; omega
 have g6 : ((k : Int) == 2) = true := by rw [beq_iff_eq]; omega
 have g7 : (t : Int) ≤ (s : Int) := by omega
 clear h0 h1 h2 h3 h4 h5 h6
 unfold hvs at *
 go_enter Tryz.func72,Tryz.ntmps72
 go_wp2
 go_ret
 exact ⟨rfl,HF.out _⟩
theorem hrcheck_10 (w : World) (k c e t s : Nat) (h0 : 1 ≤ k) (h1 : k ≤ 5) (h2 : c ≤ 15) (h3 : e ≠ 0) (h4 : k ≤ 3) (h5 : k = 2) (h6 : s < t) : Calls Tryz.prog 72 #[.agg (hvs k c e t s)] w fun x w' => x = .returned (.int .i64 0) ∧ Fr Nobody w w' := by
 have HF : Hid (∀ o,Fr Nobody w (w.alloc o)) := fun o => (Fr.refl _ _).alloc o
 have g0 : ¬ (k : Int) < 1 := by omega
 have g1 : ¬ (5 : Int) < (k : Int) := by omega
 have g2 : ¬ (15 : Int) < (c : Int) := by omega
 have g3 : ((e : Int) == 0) = false := by rw [beq_eq_false_iff_ne]; omega
 have g4 : ¬ (3 : Int) < (k : Int) := by omega
 have g5 : ((k : Int) != 2) = false := by rw [bne_eq_false_iff_eq]; omega
 have g6 : ((k : Int) == 2) = true := by rw [beq_iff_eq]; omega
 have g7 : ¬ (t : Int) ≤ (s : Int) := by omega
 clear h0 h1 h2 h3 h4 h5 h6
 unfold hvs at *
 go_enter Tryz.func72,Tryz.ntmps72
 go_wp2
 go_ret
 exact ⟨rfl,HF.out _⟩
theorem hrcheck_any (w : World) (k c e t s : Nat) (hI : HIn k c e t s) : Calls Tryz.prog 72 #[.agg (hvs k c e t s)] w fun x w' => x = .returned (.int .i64 ((hchk k c e t s : Nat) : Int)) ∧ Fr Nobody w w' := by
 by_cases q0 : k < 1
 ·have ee : hchk k c e t s = 1 := by
   unfold hchk tfit bfit hasT
   rw [if_pos (by omega)]
  rw [ee]
  exact hrcheck_0 w k c e t s (by omega)
 ·by_cases q1 : 5 < k
  ·have ee : hchk k c e t s = 1 := by
    unfold hchk tfit bfit hasT
    rw [if_pos (by omega)]
   rw [ee]
   exact hrcheck_1 w k c e t s (by omega) (by omega)
  ·by_cases q2 : 15 < c
   ·have ee : hchk k c e t s = 1 := by
     unfold hchk tfit bfit hasT
     rw [if_pos (by omega)]
    rw [ee]
    exact hrcheck_2 w k c e t s (by omega) (by omega) (by omega)
   ·by_cases q3 : e = 0
    ·have ee : hchk k c e t s = 4 := by
      unfold hchk tfit bfit hasT
      rw [if_neg (by omega),if_pos ?_]
      by_cases kk : k = 2 <;> simp [kk] <;> omega
     rw [ee]
     exact hrcheck_3 w k c e t s (by omega) (by omega) (by omega) (by omega)
    ·by_cases q4 : 3 < k
     ·by_cases q5 : 0 < t
      ·have ee : hchk k c e t s = 4 := by
        unfold hchk tfit bfit hasT
        rw [if_neg (by omega),if_pos ?_]
        by_cases kk : k = 2 <;> simp [kk] <;> omega
       rw [ee]
       exact hrcheck_4 w k c e t s (by omega) (by omega) (by omega) (by omega) (by omega) (by omega)
      ·by_cases q6 : 0 < s
       ·have ee : hchk k c e t s = 4 := by
         unfold hchk tfit bfit hasT
         rw [if_neg (by omega),if_pos ?_]
         by_cases kk : k = 2 <;> simp [kk] <;> omega
        rw [ee]
        exact hrcheck_5 w k c e t s (by omega) (by omega) (by omega) (by omega) (by omega) (by omega) (by omega) (by omega)
       ·have ee : hchk k c e t s = 0 := by
         unfold hchk tfit bfit hasT
         rw [if_neg (by omega),if_neg ?_]
         by_cases kk : k = 2 <;> simp [kk] <;> omega
        rw [ee]
        exact hrcheck_6 w k c e t s (by omega) (by omega) (by omega) (by omega) (by omega) (by omega) (by omega) (by omega)
     ·by_cases q7 : k = 2
      ·by_cases q8 : t ≤ s
       ·have ee : hchk k c e t s = 4 := by
         unfold hchk tfit bfit hasT
         rw [if_neg (by omega),if_pos ?_]
         by_cases kk : k = 2 <;> simp [kk] <;> omega
        rw [ee]
        exact hrcheck_9 w k c e t s (by omega) (by omega) (by omega) (by omega) (by omega) (by omega) (by omega)
       ·have ee : hchk k c e t s = 0 := by
         unfold hchk tfit bfit hasT
         rw [if_neg (by omega),if_neg ?_]
         by_cases kk : k = 2 <;> simp [kk] <;> omega
        rw [ee]
        exact hrcheck_10 w k c e t s (by omega) (by omega) (by omega) (by omega) (by omega) (by omega) (by omega)
      ·by_cases q9 : 0 < s
       ·have ee : hchk k c e t s = 4 := by
         unfold hchk tfit bfit hasT
         rw [if_neg (by omega),if_pos ?_]
         by_cases kk : k = 2 <;> simp [kk] <;> omega
        rw [ee]
        exact hrcheck_7 w k c e t s (by omega) (by omega) (by omega) (by omega) (by omega) (by omega) (by omega)
       ·have ee : hchk k c e t s = 0 := by
         unfold hchk tfit bfit hasT
         rw [if_neg (by omega),if_neg ?_]
         by_cases kk : k = 2 <;> simp [kk] <;> omega
        rw [ee]
        exact hrcheck_8 w k c e t s (by omega) (by omega) (by omega) (by omega) (by omega) (by omega) (by omega)
def Bs (w : World) (v : Value) (L : List Bool) : Prop :=
 (v = .slice none 0 0 ∧ L = []) ∨ ∃ g o cap cur,v = .slice (some ⟨g,o,none⟩) L.length cap ∧ L.length ≤ cap ∧ w.heap[g]? = some (.cells cur 4 (0,0)) ∧ ∀ j u,(brow L)[j]? = some u → cur[o + j]? = some u
theorem Bs.src {w : World} {v : Value} {L : List Bool} (h : Bs w v L) : Src w v L.length (brow L) := by
 rcases h with ⟨rfl,rfl⟩ | ⟨g,o,cap,cur,rfl,_,hg,hc⟩
 ·left; exact ⟨rfl,rfl,rfl⟩
 ·right
  refine ⟨_,_,rfl,length_brow L,fun j u hu => ?_⟩
  rw [addr_add,cell_of_row w g _ cur 4 (0,0) hg]
  exact hc j u hu
theorem Bs.of_row {w : World} {v : Value} {L : List Bool} (h : w.ownsRow 0 4 1 v L.length (brow L)) : Bs w v L := by
 rcases h.2 with ⟨rfl,h0⟩ | ⟨g,cap,cur,rfl,_,hg,hn,_,hs,ht⟩
 ·left; exact ⟨rfl,List.eq_nil_of_length_eq_zero h0⟩
 ·right
  refine ⟨g,0,cap,cur,rfl,hn,hg,fun j u hu => ?_⟩
  rw [← ht,List.getElem?_take] at hu
  split at hu
  ·simpa using hu
  ·cases hu
theorem Bs.keep {S : Nat → Prop} {w w' : World} {v : Value} {L : List Bool} (h : Bs w v L) (hf : Fr S w w') (hs : ∀ k cur,w.heap[k]? = some (.cells cur 4 (0,0)) → ¬ S k) : Bs w' v L := by
 rcases h with hn | ⟨g,o,cap,cur,rfl,hn,hg,hc⟩
 ·exact .inl hn
 ·refine .inr ⟨g,o,cap,cur,rfl,hn,?_,hc⟩
  rw [hf.block g (Array.getElem?_eq_some_iff.1 hg).1 (hs g cur hg)]
  exact hg
theorem Bs.quiet {w w' : World} {v : Value} {L : List Bool} (h : Bs w v L) (hf : Fr Nobody w w') : Bs w' v L := h.keep hf (fun _ _ _ => id)
theorem Wr.apart {B : Nat} {w : World} {b : Nat} {g : Option Nat} {M : List Bool} (h : Wr B w b g M) : ∀ k cur,w.heap[k]? = some (.cells cur 4 (0,0)) → ¬ At b g k := by
 obtain ⟨v,hb,ho,hv⟩ := h.obj
 rintro k cur hk (e | e)
 ·subst e; rw [hb] at hk; simp at hk
 ·rcases ho.2 with ⟨rfl,_⟩ | ⟨g',cap,cur',rfl,_,hg,_⟩
  ·rw [← hv] at e; simp [Value.ownBlock] at e
  ·rw [← hv] at e
   simp [Value.ownBlock] at e
   subst e
   rw [hg] at hk; simp at hk
theorem Rd.apart {B : Nat} {w : World} {b : Nat} {g : Option Nat} {P : List Nat} {t : Nat} (h : Rd B w b g P t) : ∀ k cur,w.heap[k]? = some (.cells cur 4 (0,0)) → ¬ At b g k := by
 obtain ⟨v,hb,ho,hv⟩ := h.obj
 rintro k cur hk (e | e)
 ·subst e; rw [hb] at hk; simp at hk
 ·rcases ho.2 with ⟨rfl,_⟩ | ⟨g',cap,cur',rfl,_,hg,_⟩
  ·rw [← hv] at e; simp [Value.ownBlock] at e
  ·rw [← hv] at e
   simp [Value.ownBlock] at e
   subst e
   rw [hg] at hk; simp at hk
def Bo (B : Nat) (w : World) (v : Value) (L : List Bool) : Prop := w.ownsRow B 4 1 v L.length (brow L)
theorem row_low {w : World} {B B' : Nat} {e : TypeId} {size n : Nat} {v : Value} {xs : List Value} (h : w.ownsRow B e size v n xs) (hB : B' ≤ B) : w.ownsRow B' e size v n xs := by
 refine ⟨h.1,?_⟩
 rcases h.2 with hn | ⟨g,cap,cur,rfl,hb,rest⟩
 ·exact .inl hn
 ·exact .inr ⟨g,cap,cur,rfl,Nat.le_trans hB hb,rest⟩
theorem Bo.low {B B' : Nat} {w : World} {v : Value} {L : List Bool} (h : Bo B w v L) (hB : B' ≤ B) : Bo B' w v L := row_low h hB
theorem Bo.bs {B : Nat} {w : World} {v : Value} {L : List Bool} (h : Bo B w v L) : Bs w v L := Bs.of_row (row_low h (Nat.zero_le _))
theorem Bo.keep {S : Nat → Prop} {B : Nat} {w w' : World} {v : Value} {L : List Bool} (h : Bo B w v L) (hf : Fr S w w') (hs : ∀ k cur,w.heap[k]? = some (.cells cur 4 (0,0)) → ¬ S k) : Bo B w' v L := by
 refine hf.row h (fun k hk => ?_)
 rcases h.2 with ⟨rfl,_⟩ | ⟨g,cap,cur,rfl,_,hg,_⟩
 ·simp [Value.ownBlock] at hk
 ·simp [Value.ownBlock] at hk
  subst hk
  exact hs _ cur hg
theorem Bo.quiet {B : Nat} {w w' : World} {v : Value} {L : List Bool} (h : Bo B w v L) (hf : Fr Nobody w w') : Bo B w' v L := h.keep hf (fun _ _ _ => id)
theorem Bo.nil (B : Nat) (w : World) : Bo B w (.slice none 0 0) [] := World.ownsRow_nil _ _ _ _
theorem copy_bools {w : World} {ops : Array Oper} {rest : List Oper} {o : Oper} {a : Act} {Q : Exit → Act → World → Prop} (hgd : o.guard = none) (s x : Operand)
  (ho : o.op = .call { callee := .builtin .append,args := #[s,x],argTypes := #[75,75] }) (v : Value) (L : List Bool) (h : Bs w v L) (hL : L.length ≤ 100000000)
  (hs : a.eval s = .slice (some ⟨w.heap.size,0,none⟩) 0 0) (hx : a.eval x = v)
  (hK : ∀ v' w',w'.ownsRow w.heap.size 4 1 v' L.length (brow L) → Fr Nobody w w' → v' ≠ .slice none 0 0 → wpList Tryz.prog ops Q rest (a.put o.dst v') w') :
  wpList Tryz.prog ops Q (o :: rest) a (w.alloc (.cells #[] 4)) := by
 obtain ⟨i0,hi,hz0,hz1,hz2⟩ := info_parts Tryz.infoBool
 have hown := World.ownsRow_made (e := 4) (size := 1) (base := w.heap.size) w #[] 0 (Nat.le_refl _) (Nat.zero_le _) rfl
 have hfr : Fr Nobody w (w.alloc (.cells #[] 4)) := (Fr.refl _ w).alloc _
 rcases h with ⟨rfl,rfl⟩ | ⟨g,off,cap,cur,rfl,hn,hg,hc⟩
 ·refine wpList_plain hgd fun K hK' => ?_
  have hr := run_append_owned_none (P := Tryz.prog) (w.alloc (.cells #[] 4)) w.heap.size 75 o.type 4 i0 1 Tryz.underlying75 hi _ 0 [] hown
  unfold Oper.wp
  simp [execOp,ho,resolve,invoke,builtin,hs,hx,hr,Result.andThen]
  exact hK' _ _ (hK _ _ hown hfr (by simp))
 ·refine wpList_append_own (w.alloc (.cells #[] 4)) hgd s x 75 ho w.heap.size 4 i0 (.bool false) 1 1 Tryz.underlying75 hi hz0 hz1 hz2 rfl (by decide) _ 0 [] hs hown ⟨g,off,none⟩ L.length cap (brow L) hx (by rw [length_brow]; omega) ?_ (one_brow L) (by unfold maxLen; omega) (by omega) (by simp) ?_
  ·intro j u hu
   refine Lib.cell?_alloc_some _ ?_
   rw [addr_add,cell_of_row w g _ cur 4 (0,0) hg]
   exact hc j u hu
  ·intro v' w' ho' hg' hnil
   refine hK v' w' (by simpa using ho') (hfr.grown hg' (by intro k hk; simp [Value.ownBlock] at hk; omega)) ?_
   intro e
   exact absurd (hnil.1 e).1 (by simp)
def rputL (L : List Bool) (x n : Nat) : List Bool := if x / 2 ^ n = 0 ∧ L.length + n ≤ 1048576 then L ++ bitsN n x else L
def rputE (L : List Bool) (x n : Nat) : Int := if x / 2 ^ n = 0 then (if L.length + n ≤ 1048576 then 0 else 3) else 5
def RPut (w w' : World) (v v' : Value) (M : List Bool) (c : Int) : Prop := ((c = 0 ∧ Bo w.heap.size w' v' M) ∨ (c ≠ 0 ∧ v' = v)) ∧ Fr Nobody w w'
theorem half_pow (x k : Nat) : x / 2 ^ k / 2 = x / 2 ^ (k + 1) := by rw [Nat.div_div_eq_div_mul,← Nat.pow_succ]
theorem rput_main (w : World) (v : Value) (L M : List Bool) (c : Int) (x n : Nat) (h : Bs w v L) (hL : L.length ≤ 1048576) (hx : x < 18446744073709551616) (hn : n ≤ 64)
  (hc : (x / 2 ^ n = 0 ∧ L.length + n ≤ 1048576 ∧ M = L ++ bitsN n x ∧ c = 0) ∨ (x / 2 ^ n = 0 ∧ ¬ L.length + n ≤ 1048576 ∧ L = M ∧ c = 3) ∨ (¬ x / 2 ^ n = 0 ∧ L = M ∧ c = 5)) :
  Calls Tryz.prog 78 #[v,.int .u64 x,.int .i64 n] w fun e w' => ∃ v',e = .returned (.tuple #[v',.int .i64 c]) ∧ RPut w w' v v' M c := by
 have h0 : ¬ (n : Int) < 0 := by omega
 have h1 : ¬ (64 : Int) < (n : Int) := by omega
 have H : Hid (Bs w v L) := h
 obtain ⟨i0,hi,hz0,hz1,hz2⟩ := info_parts Tryz.infoBool
 have HC : Hid _ := hc
 clear h hc
 go_enter Tryz.func78,Tryz.ntmps78
 go_wp2_with (at_builtin; refine copy_bools rfl _ _ rfl v L H.out (by omega) rfl rfl ?_)
 intro v' w1 ho1 hf1 _
 have H1 : Hid (w1.ownsRow w.heap.size 4 1 v' L.length (brow L) ∧ Fr Nobody w w1) := ⟨ho1,hf1⟩
 clear ho1 hf1
 go_wp2
 clear h0 h1
 go_loopw [1,8,20] (fun xv u cc wr => ∃ k y : Nat,k ≤ n ∧ cc = .int .i64 k ∧ y = x / 2 ^ k ∧ xv = .int .u64 y ∧ wr.ownsRow w.heap.size 4 1 u (L.length + k) (brow (L ++ bitsN k x)) ∧ Fr Nobody w wr) (fun _ _ cc _ => n - (intOf cc).toNat)
 case atStart => exact ⟨0,x,Nat.zero_le _,rfl,by simp,rfl,by simpa [bitsN] using H1.out.1,H1.out.2⟩
 case round =>
  obtain ⟨k,y,hk,rfl,hy,rfl,ho,hf⟩ := hrel
  have HY : Hid (y = x / 2 ^ k) := hy
  have hyx : y < 18446744073709551616 := by rw [hy]; exact Nat.lt_of_le_of_lt (Nat.div_le_self _ _) hx
  clear hy H1
  by_cases hlt : k < n
  ·obtain ⟨bb,hbb⟩ : ∃ bb : Bool,(((y : Int) % 2 == 1) : Bool) = bb := ⟨_,rfl⟩
   have HB : Hid ((x / 2 ^ k % 2 == 1) = bb) := by
    show _ = _
    rw [← hbb,← HY.out,Bool.eq_iff_iff]; simp; omega
   have hsz := hf.size
   go_wp2_with (at_builtin; refine wpList_append_own _ rfl _ _ 75 rfl w.heap.size 4 i0 (.bool false) 1 1 Tryz.underlying75 hi hz0 hz1 hz2 rfl (by decide) _ _ _ rfl (ho.alloc _) ⟨wr.heap.size,0,none⟩ 1 1 [.bool bb] rfl rfl (cell_one_new _ _ _) (one_bool _) (by unfold maxLen; omega) (by omega) (by simp; omega) ?_)
   intro u' w2 ho2 hg2 _
   have H2 : Hid (w2.ownsRow w.heap.size 4 1 u' (L.length + (k + 1)) (brow (L ++ bitsN (k + 1) x)) ∧ Fr Nobody w w2) := by
    refine ⟨?_,(hf.alloc _).grown hg2 (fun j hj => .inr (ho.lt j hj).1)⟩
    rw [bitsN_snoc,HB.out,← List.append_assoc,brow_append (L ++ bitsN k x)]
    exact ho2
   have HY2 : Hid (y / 2 = x / 2 ^ (k + 1)) := by show _ = _; rw [HY.out,half_pow]
   clear ho hf ho2 hg2 HB HY hbb
   go_wp2
   go_roundw
   case rel => exact ⟨k + 1,y / 2,by omega,by go_num,HY2.out,by go_num,H2.out.1,H2.out.2⟩
   case measure => simp [intOf]; omega
  ·have e : k = n := by omega
   subst e
   have ho' := ho
   rw [show L.length + k = (L ++ bitsN k x).length from by rw [List.length_append,length_bitsN]] at ho'
   have HB : Hid (_ ∧ Fr Nobody w wr) := ⟨ho',hf⟩
   obtain ⟨ao,cap,hu⟩ := row_any ho
   subst hu
   clear ho ho' hf H
   rcases HC.out with ⟨c1,c2,rfl,rfl⟩ | ⟨c1,c2,rfl,rfl⟩ | ⟨c1,rfl,rfl⟩
   ·have hy0 : y = 0 := by rw [HY.out,c1]
    subst hy0
    have c3 : ¬ (1048576 : Int) < ((L.length + k : Nat) : Int) := by omega
    clear HC c1 HY
    go_wp2
    go_ret2
    exact ⟨_,rfl,.inl ⟨rfl,HB.out.1⟩,HB.out.2⟩
   ·have hy0 : y = 0 := by rw [HY.out,c1]
    subst hy0
    have c3 : (1048576 : Int) < ((L.length + k : Nat) : Int) := by omega
    clear HC c1 HY
    go_wp2
    go_ret2
    exact ⟨_,rfl,.inr ⟨by decide,rfl⟩,HB.out.2⟩
   ·have hy0 : ((y : Int) != 0) = true := by rw [bne_iff_ne]; have := HY.out; omega
    clear HC c1 HY
    go_wp2
    go_ret2
    exact ⟨_,rfl,.inr ⟨by decide,rfl⟩,HB.out.2⟩
theorem rput_raw (w : World) (v : Value) (L : List Bool) (x n : Nat) (h : Bs w v L) (hL : L.length ≤ 1048576) (hx : x < 18446744073709551616) (hn : n ≤ 64) :
  Calls Tryz.prog 78 #[v,.int .u64 x,.int .i64 n] w fun e w' => ∃ v',e = .returned (.tuple #[v',.int .i64 (rputE L x n)]) ∧ RPut w w' v v' (rputL L x n) (rputE L x n) := by
 refine rput_main w v L _ _ x n h hL hx hn ?_
 unfold rputL rputE
 by_cases c1 : x / 2 ^ n = 0
 ·by_cases c2 : L.length + n ≤ 1048576
  ·left; simp [c1,c2]
  ·right; left; simp [c1,c2]
 ·right; right; simp [c1]
theorem rputL_same (L : List Bool) (x n : Nat) (h : rputE L x n ≠ 0) : rputL L x n = L := by
 unfold rputE at h
 unfold rputL
 by_cases c1 : x / 2 ^ n = 0
 ·by_cases c2 : L.length + n ≤ 1048576
  ·simp [c1,c2] at h
  ·rw [if_neg (fun hh => c2 hh.2)]
 ·rw [if_neg (fun hh => c1 hh.1)]
theorem rput_own (B : Nat) (w : World) (v : Value) (L : List Bool) (x n : Nat) (h : Bo B w v L) (hB : B ≤ w.heap.size) (hL : L.length ≤ 1048576) (hx : x < 18446744073709551616) (hn : n ≤ 64) :
  Calls Tryz.prog 78 #[v,.int .u64 x,.int .i64 n] w fun e w' => ∃ v',e = .returned (.tuple #[v',.int .i64 (rputE L x n)]) ∧ Bo B w' v' (rputL L x n) ∧ Fr Nobody w w' := by
 refine (rput_raw w v L x n h.bs hL hx hn).mono ?_
 rintro e w' ⟨v',rfl,hc,hf⟩
 refine ⟨v',rfl,?_,hf⟩
 rcases hc with ⟨_,hb⟩ | ⟨hne,rfl⟩
 ·exact hb.low hB
 ·rw [rputL_same L x n hne]; exact h.quiet hf
def packTo (L : List Bool) (n k : Nat) : List Nat := (List.range (nb n)).map (byteAt (L.take k))
theorem packTo_zero (L : List Bool) (n : Nat) : packTo L n 0 = List.replicate (nb n) 0 := by
 apply List.ext_getElem?
 intro i
 simp only [packTo,List.getElem?_map,List.take_zero,List.getElem?_replicate]
 by_cases h : i < nb n
 ·rw [List.getElem?_range h,if_pos h]
  simp [byteAt,bt]
 ·rw [List.getElem?_eq_none (by simp; omega),if_neg h]; rfl
theorem packTo_all (L : List Bool) : packTo L L.length L.length = pack L := by simp [packTo,pack]
theorem length_packTo (L : List Bool) (n k : Nat) : (packTo L n k).length = nb n := by simp [packTo]
theorem getElem?_packTo (L : List Bool) (n k i : Nat) : (packTo L n k)[i]? = if i < nb n then some (byteAt (L.take k) i) else none := by
 unfold packTo
 by_cases h : i < nb n
 ·rw [if_pos h,List.getElem?_map,List.getElem?_range h]; rfl
 ·rw [if_neg h,List.getElem?_eq_none (by simp; omega)]
theorem packTo_succ (L : List Bool) (n k : Nat) (b : Bool) (hk : L[k]? = some b) (hn : k < n) (hl : k < L.length) :
  packTo L n (k + 1) = (packTo L n k).set (k / 8) (byteAt (L.take k) (k / 8) + b.toNat * 2 ^ (k % 8)) := by
 have hlen : (L.take k).length = k := by rw [List.length_take]; omega
 have e : L.take (k + 1) = L.take k ++ [b] := by rw [List.take_add_one,hk]; rfl
 apply List.ext_getElem?
 intro i
 rw [getElem?_packTo,List.getElem?_set,length_packTo,getElem?_packTo,e,byteAt_snoc,hlen]
 have hq : k / 8 < nb n := by unfold nb; omega
 by_cases hi : i = k / 8
 ·subst hi; rw [if_pos hq,if_pos rfl,if_pos rfl,if_pos hq]
 ·rw [if_neg hi,if_neg (show ¬ k / 8 = i from fun e => hi e.symm)]
theorem packTo_false (L : List Bool) (n k : Nat) (hk : L[k]? = some false) (hl : k < L.length) : packTo L n (k + 1) = packTo L n k := by
 have hlen : (L.take k).length = k := by rw [List.length_take]; omega
 have e : L.take (k + 1) = L.take k ++ [false] := by rw [List.take_add_one,hk]; rfl
 apply List.ext_getElem?
 intro i
 rw [getElem?_packTo,getElem?_packTo,e,byteAt_snoc]
 simp
theorem byte_small (L : List Bool) (k : Nat) (hl : k ≤ L.length) : byteAt (L.take k) (k / 8) < 2 ^ (k % 8) := by
 have hlen : (L.take k).length = k := by rw [List.length_take]; omega
 have h := byteAt_small (L.take k)
 rw [hlen] at h
 exact h
theorem plus_bit (x r : Nat) (hx : x < 2 ^ r) (hr : r < 8) : (((x : Int) + 2 ^ r) % 256) = ((x + true.toNat * 2 ^ r : Nat) : Int) := by
 have h256 : 2 ^ r ≤ 128 := by
  have := Nat.pow_le_pow_right (n := 2) (by decide) (show r ≤ 7 by omega)
  simpa using this
 have hp : ((2 : Int) ^ r) = ((2 ^ r : Nat) : Int) := by simp
 rw [hp]
 simp only [Bool.toNat_true,Nat.one_mul]
 omega
theorem made_bytes (w : World) (L : List Bool) (n : Nat) (hn : n = nb L.length) (hL : L.length ≤ 100000000) :
  (w.alloc (.cells (madeCells #[.int .u8 0] n) 5)).ownsRow w.heap.size 5 1 (.slice (some ⟨w.heap.size,0,none⟩) n n) n (vrow (packTo L L.length 0)) := by
 have hn8 : n ≤ 100000000 := by rw [hn]; unfold nb; omega
 have hr := World.ownsRow_lit (base := w.heap.size) (e := 5) (size := 1) w (madeCells #[.int .u8 0] n) n (Nat.le_refl _) (by unfold maxLen; omega) (by simp [size_madeCells])
 have e : (madeCells #[.int .u8 0] n).toList = vrow (packTo L L.length 0) := by
  rw [toList_madeCells_one,packTo_zero,← hn]; simp [vrow]
 rw [e] at hr
 exact hr
theorem make_bytes (n : Nat) (hn : n ≤ 100000000) (u : World) : (Instr.makeSlice 22 (.int .i64 (n : Int)) (.int .i64 (n : Int))).run Tryz.prog u =
   .ok (.slice (some ⟨u.heap.size,0,none⟩) n n) (u.alloc (.cells (madeCells #[.int .u8 0] n) 5)) := by
 obtain ⟨i0,hi,hz0,hz1,hz2⟩ := info_parts Tryz.infoB
 have h := run_make (P := Tryz.prog) u 22 5 i0 (.int .u8 0) Tryz.underlying22 hi hz0 .i64 .i64 (n : Int) (n : Int) (by omega) (Int.le_refl _) (by rw [hz2]; omega) (by omega)
 simpa [hz1,Value.cells] using h
def Packed (w w' : World) (v' : Value) (L : List Bool) : Prop := w'.ownsRow 0 5 1 v' (nb L.length) (vrow (pack L)) ∧ Fr Nobody w w' ∧ (∀ k,v'.ownBlock = some k → w.heap.size ≤ k)
theorem rbytes_some (w : World) (g o len cap n : Nat) (cur : Array Value) (L : List Bool) (hlen : L.length = len) (hg : w.heap[g]? = some (.cells cur 4 (0,0))) (hc : ∀ j u,(brow L)[j]? = some u → cur[o + j]? = some u) (hL : len ≤ 100000000) (hn : n = nb len) :
  Calls Tryz.prog 82 #[.slice (some ⟨g,o,none⟩) len cap] w fun e w' => ∃ v',e = .returned v' ∧ Packed w w' v' L := by
 have hq : ((len : Int) + 7) / 8 = (n : Int) := by rw [hn]; unfold nb; omega
 have hn8 : n ≤ 100000000 := by rw [hn]; unfold nb; omega
 have hmk := make_bytes n hn8
 have HO : Hid _ := made_bytes w L n (by rw [hn,hlen]) (by omega)
 have hglt : g < w.heap.size := (Array.getElem?_eq_some_iff.1 hg).1
 have HC : Hid (∀ j b,L[j]? = some b → w.cell? ⟨g,o + j,none⟩ = some (.bool b)) := by
  intro j b hb
  rw [cell_of_row w g _ cur 4 (0,0) hg]
  exact hc j (.bool b) (by simp [brow,hb])
 have HN : Hid (n = nb len ∧ L.length = len) := ⟨hn,hlen⟩
 clear hn hlen hc hg
 go_enter Tryz.func82,Tryz.ntmps82
 go_wp2
 clear hmk hq
 go_loopw [13] (fun c wr => ∃ k : Nat,k ≤ len ∧ c = .int .i64 k ∧ wr.ownsRow w.heap.size 5 1 (.slice (some ⟨w.heap.size,0,none⟩) n n) n (vrow (packTo L L.length k)) ∧ Fr Nobody w wr) (fun c _ => len - (intOf c).toNat)
 case atStart => exact ⟨0,Nat.zero_le _,rfl,HO.out,(Fr.refl _ w).alloc _⟩
 case round =>
  obtain ⟨k,hk,rfl,ho,hf⟩ := hrel
  by_cases hlt : k < len
  ·obtain ⟨b,hb⟩ : ∃ b,L[k]? = some b := ⟨_,List.getElem?_eq_getElem (by rw [HN.out.2]; exact hlt)⟩
   have cb : wr.cell? ⟨g,o + k,none⟩ = some (.bool b) := (hf.cell (p := ⟨g,o + k,none⟩) hglt id).trans (HC.out k b hb)
   have HS : Hid _ := packTo_succ L L.length k b hb (by rw [HN.out.2]; exact hlt) (by rw [HN.out.2]; exact hlt)
   have hkn : k / 8 < n := by rw [HN.out.1]; unfold nb; omega
   have hki : (k : Int) / 8 < (n : Int) := by omega
   have cx : wr.cell? ⟨w.heap.size,k / 8,none⟩ = some (.int .u8 ((byteAt (L.take k) (k / 8) : Nat) : Int)) := by
    rw [ho.cellAt (k / 8) (by omega),getElem?_vrow,getElem?_packTo,if_pos (by rw [HN.out.2,← HN.out.1]; exact hkn)]; rfl
   have fx : wr.frozen? ⟨w.heap.size,k / 8,none⟩ = false := ho.frozenAt _
   have HF : Hid (b = false → packTo L L.length (k + 1) = packTo L L.length k) := by
    intro e; subst e; exact packTo_false L L.length k hb (by rw [HN.out.2]; exact hlt)
   have HX : Hid (byteAt (L.take k) (k / 8) < 2 ^ (k % 8)) := byte_small L k (by rw [HN.out.2]; exact hk)
   have H1 : Hid (wr.ownsRow w.heap.size 5 1 (.slice (some ⟨w.heap.size,0,none⟩) n n) n (vrow (packTo L L.length k)) ∧ Fr Nobody w wr) := ⟨ho,hf⟩
   generalize byteAt (L.take k) (k / 8) = x at *
   clear ho hf hb HC HO
   cases b
   ·have HE : Hid (packTo L L.length (k + 1) = packTo L L.length k) := HF.out rfl
    clear HS HF
    go_wp2
    go_roundw
    case rel => exact ⟨k + 1,by omega,by go_num,by rw [HE.out]; exact H1.out.1,H1.out.2⟩
    case measure => simp [intOf]; omega
   ·have H2 : Hid ((wr.setCell ⟨w.heap.size,k / 8,none⟩ (.int .u8 (((x : Int) + 2 ^ (k % 8)) % 256))).ownsRow w.heap.size 5 1 (.slice (some ⟨w.heap.size,0,none⟩) n n) n (vrow (packTo L L.length (k + 1))) ∧ Fr Nobody w (wr.setCell ⟨w.heap.size,k / 8,none⟩ (.int .u8 (((x : Int) + 2 ^ (k % 8)) % 256)))) := by
     refine ⟨?_,H1.out.2.setCell (.inr (Nat.le_refl _)) _⟩
     rw [HS.out,vrow_set,← plus_bit x (k % 8) HX.out (by omega)]
     exact (H1.out.1.stored (k / 8) _).1
    clear HS HF H1
    go_wp2
    go_roundw
    case rel => exact ⟨k + 1,by omega,by go_num,H2.out.1,H2.out.2⟩
    case measure => simp [intOf]; omega
  ·have e : k = len := by omega
   subst e
   have H3 : Hid (Packed w wr (.slice (some ⟨w.heap.size,0,none⟩) n n) L) := by
    refine ⟨?_,hf,fun q hq => by simp [Value.ownBlock] at hq; omega⟩
    rw [HN.out.2,← HN.out.1]
    have e2 := packTo_all L
    rw [HN.out.2] at e2 ho
    rw [← e2]
    exact row_weak ho
   clear ho hf
   go_wp2
   go_ret
   exact ⟨_,rfl,H3.out⟩
theorem rbytes_none (w : World) : Calls Tryz.prog 82 #[.slice none 0 0] w fun e w' => ∃ v',e = .returned v' ∧ Packed w w' v' [] := by
 have hmk : ∀ u : World,(Instr.makeSlice 22 (.int .i64 0) (.int .i64 0)).run Tryz.prog u = .ok (.slice (some ⟨u.heap.size,0,none⟩) 0 0) (u.alloc (.cells (madeCells #[.int .u8 0] 0) 5)) := make_bytes 0 (by decide)
 go_enter Tryz.func82,Tryz.ntmps82
 go_wp2
 refine wp_loop_rounds 1 ?_
 rw [rounds_succ]
 go_wp2
 go_ret
 refine ⟨_,rfl,?_,(Fr.refl _ w).alloc _,fun q hq => by simp [Value.ownBlock] at hq; omega⟩
 exact row_weak (made_bytes w [] 0 rfl (by decide))
theorem rbytes_any (w : World) (v : Value) (L : List Bool) (h : Bs w v L) (hL : L.length ≤ 100000000) :
  Calls Tryz.prog 82 #[v] w fun e w' => ∃ v',e = .returned v' ∧ Packed w w' v' L := by
 rcases h with ⟨rfl,rfl⟩ | ⟨g,o,cap,cur,rfl,_,hg,hc⟩
 ·exact rbytes_none w
 ·exact rbytes_some w g o L.length cap (nb L.length) cur L rfl hg hc hL rfl
def IsRow (k : IntKind) (w : World) (a : Option Addr) (len cap : Nat) (zs : List Int) : Prop :=
 (a = none ∧ len = 0 ∧ cap = 0 ∧ zs = []) ∨
 ∃ x,a = some x ∧ len ≤ cap ∧ cap ≤ maxLen ∧ zs.length = cap ∧ (∀ i,i < zs.length → w.cell? (x.add i) = some (.int k (zs.getD i 0))) ∧ ∀ n ∈ zs,(Lit.int k n).wf = true
def Ints (k : IntKind) (w : World) (ao : Option Addr) (P : List Int) : Prop :=
 P = [] ∨ ∃ g o,ao = some ⟨g,o,none⟩ ∧ ∀ j x,P[j]? = some x → w.cell? ⟨g,o + j,none⟩ = some (.int k x)
theorem Ints.quiet {k : IntKind} {w w' : World} {ao : Option Addr} {P : List Int} (h : Ints k w ao P) (hf : Fr Nobody w w') : Ints k w' ao P := by
 rcases h with h | ⟨g,o,ha,hc⟩
 ·exact .inl h
 ·refine .inr ⟨g,o,ha,fun j x hx => ?_⟩
  have h1 := hc j x hx
  exact (hf.cell (p := ⟨g,o + j,none⟩) (World.block_lt_of_cell? w _ h1) id).trans h1
theorem IsRow.ints {k : IntKind} {w : World} {a : Option Addr} {len cap : Nat} {zs : List Int} (h : IsRow k w a len cap zs) : (zs.take len).length = len ∧ len ≤ maxLen ∧ Ints k w a (zs.take len) ∧ ∀ n ∈ zs.take len,(Lit.int k n).wf = true := by
 rcases h with ⟨rfl,rfl,rfl,rfl⟩ | ⟨x,rfl,hl,hm,hz,hc,hw⟩
 ·exact ⟨rfl,Nat.zero_le _,.inl rfl,fun n hn => by simp at hn⟩
 ·refine ⟨by rw [List.length_take]; omega,by omega,?_,fun n hn => hw n (List.mem_of_mem_take hn)⟩
  by_cases h0 : len = 0
  ·subst h0; left; simp
  ·right
   obtain ⟨g,o,spot⟩ := x
   have h1 := hc 0 (by omega)
   have hs : spot = none := by simpa [Addr.add] using World.cell?_spot h1
   subst hs
   refine ⟨g,o,rfl,fun j y hy => ?_⟩
   rw [List.getElem?_take] at hy
   split at hy
   ·rename_i hj
    have h2 := hc j (by omega)
    rw [addr_add] at h2
    rw [h2]
    rw [List.getD_eq_getElem?_getD,hy]; rfl
   ·cases hy
def Both (w0 w : World) (b : Nat) (v : Value) (L : List Bool) : Prop := Ow w0 w b L ∧ Bo w0.heap.size w v L
theorem Ow.apart {w0 w : World} {b : Nat} {M : List Bool} (h : Ow w0 w b M) : ∃ g,Wr w0.heap.size w b g M ∧ ∀ k cur,w.heap[k]? = some (.cells cur 4 (0,0)) → ¬ At b g k := by
 obtain ⟨g,hW,_⟩ := h
 exact ⟨g,hW,hW.apart⟩
theorem Both.fr {w0 w : World} {b : Nat} {v : Value} {L : List Bool} (h : Both w0 w b v L) : Fr Nobody w0 w := h.1.fr
end Go.Proofs.YtgifeckbflkkpaaGreatDoor
