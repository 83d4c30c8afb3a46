/-
  Get of package comp on an owned reader.
-/
import Derived.Test.YtpmolkomnnpepabDoorKo
import Derived.Test.YtpmolkomnnpepabDoorKf
namespace Go.Proofs.YtpmolkomnnpepabDoor
open Go.RowKit
set_option linter.unusedVariables false
set_option maxRecDepth 100000

theorem Or.low {w0 w : World} {br : Nat} {P : List Nat} {t : Nat} (h : Or w0 w br P t) (ht : Tab w0) : br ≠ 0 := by
  obtain ⟨g, hR, _⟩ := h
  have := hR.low
  have := ht.size
  omega
theorem Or.ne_box {w0 w : World} {br : Nat} {P : List Nat} {t b k : Nat} {F : Nat → Int} (h : Or w0 w br P t) (hb : Box w b k F) : b ≠ br := by
  rintro rfl
  obtain ⟨g, hR, _⟩ := h
  obtain ⟨v, hv, _⟩ := hR.obj
  unfold Box at hb
  rw [hv] at hb
  simp at hb
theorem Or.of_rd {w0 w w' : World} {br : Nat} {g : Option Nat} {P : List Nat} {t t' : Nat} (h : Rd w0.heap.size w br g P t) (hf : Fr Nobody w0 w) (h' : Rd w0.heap.size w' br g P t') (hf' : Fr (At br none) w w') : Or w0 w' br P t' :=
  ⟨g, h', hf.fresh hf' (fun k hk => by rcases hk with rfl | e; exact h.low; cases e)⟩

theorem getC_or (w0 w : World) (ht : Tab w0) (br : Nat) (P : List Nat) (t k : Nat) (hk : k < 256) (h : Or w0 w br P t) (RV : Array Value) (hv1 : gcode k P t = 0 → RV = cmp k (gfld k P t)) (hv2 : gcode k P t ≠ 0 → RV = cmp 0 (f3 0 0 0)) :
    Calls Tryd.prog 20 #[.pointer (some ⟨br, 0, none⟩), .int .u8 (k : Int)] w fun e w' => e = .returned (.tuple #[.agg RV, .int .i64 (gcode k P t)]) ∧ Or w0 w' br P (t + gcons k P t) ∧ Fr (At br none) w w' := by
  have hbr := h.low ht
  obtain ⟨g, hR, hf⟩ := h
  refine (getC_rd _ w (ht.quiet hf) br hbr g P t k hk hR RV hv1 hv2).mono ?_
  rintro e w' ⟨rfl, hR', hf'⟩
  exact ⟨rfl, Or.of_rd hR hf hR' hf', hf'⟩

/-- the component's cells that are answered -/
def gout (k : Nat) (P : List Nat) (t : Nat) : Array Value := if gcode k P t = 0 then cmp k (gfld k P t) else cmp 0 (f3 0 0 0)
theorem gout_1 (k : Nat) (P : List Nat) (t : Nat) (h : gcode k P t = 0) : gout k P t = cmp k (gfld k P t) := by unfold gout; rw [if_pos h]
theorem gout_2 (k : Nat) (P : List Nat) (t : Nat) (h : gcode k P t ≠ 0) : gout k P t = cmp 0 (f3 0 0 0) := by unfold gout; rw [if_neg h]
theorem gout_cmp (k : Nat) (P : List Nat) (t : Nat) : ∃ k' F', gout k P t = cmp k' F' := by
  by_cases h : gcode k P t = 0
  · exact ⟨_, _, gout_1 k P t h⟩
  · exact ⟨_, _, gout_2 k P t h⟩
end Go.Proofs.YtpmolkomnnpepabDoor
