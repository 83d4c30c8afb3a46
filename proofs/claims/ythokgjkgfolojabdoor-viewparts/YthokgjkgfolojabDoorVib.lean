/-
  A region that draws its order, whose operations only read and whose callees leave all that was there; whether a place is seen.
-/
import Derived.Test.YthokgjkgfolojabDoorVic
import Derived.Deep.QuietTactic
namespace Go.Proofs.YthokgjkgfolojabDoor
open Go.RowKit
set_option linter.unusedVariables false
set_option maxRecDepth 100000

/-- a world in which all that was there is as it was -/
structure FrOf (w : World) where
  val : World
  fr : Fr Nobody w val
instance (w : World) : Inhabited (FrOf w) := ⟨⟨w, Fr.refl _ _⟩⟩
theorem wp_region_fr {P : Program} {id : Nat} {Q : Exit → Act → World → Prop} {a : Act} {w : World} {l : List Oper} (hm : P.follows .mixedOrders = true) (hB : Region.lexB .any l.toArray = true)
    (h : wpQuiet P l.toArray (fun w' => ∃ f : FrOf w, w' = f.val) (fun a' => ∀ w', (∃ f : FrOf w, w' = f.val) → Q .normal a' w') l a) : (Code.region id l.toArray true).wp P Q a w :=
  wp_region_quiet (C := fun w' => ∃ f : FrOf w, w' = f.val) hm hB ⟨⟨_, (Fr.refl _ w).drew⟩, rfl⟩ (by simpa using h)
theorem Calls.fr_of {P : Program} {f : FuncId} {args : Array Value} {w : World} {v : Value} {g : FrOf w}
    (h : Calls P f args g.val fun e w' => e = .returned v ∧ Fr Nobody g.val w') : Calls P f args g.val fun e w'' => e = .returned v ∧ ∃ f : FrOf w, w'' = f.val :=
  h.mono fun _ w' ⟨he, hf⟩ => ⟨he, ⟨w', g.fr.trans hf⟩, rfl⟩
theorem Calls.fr_same {P : Program} {f : FuncId} {args : Array Value} {w : World} {v : Value} {g : FrOf w}
    (h : Calls P f args g.val fun e w' => e = .returned v ∧ w' = g.val) : Calls P f args g.val fun e w'' => e = .returned v ∧ ∃ f : FrOf w, w'' = f.val :=
  h.mono fun _ w' ⟨he, hf⟩ => ⟨he, g, hf⟩
theorem Own.frCells {w0 w : World} {l : List Thing} {b : Nat} {cur : Array Value} {t : TypeId} (h : Own w0 w (Cells b cur t :: l)) (f : FrOf w) (i : Nat) : f.val.cell? ⟨b, i, none⟩ = cur[i]? := (h.quiet f.fr).cell i
set_option maxHeartbeats 16000000 in
theorem sees_no (w : World) (on : Bool) (x y r px py : Int) (hR : hasR on x y r = false) : Calls Tryd.prog 14 #[rgv on x y r, .int .i32 px, .int .i32 py] w fun e w' => e = .returned (.bool false) ∧ Fr Nobody w w' := by
  have CH : Hid (∀ W, Calls Tryd.prog 21 #[.agg #[.bool on, .int .i64 x, .int .i64 y, .int .i64 r]] W fun e w' => e = .returned (.bool false) ∧ Fr Nobody W w') := fun W => by rw [← hR]; exact hasCells_ok W on x y r
  have hA := (Own.start w).allocC #[.bool on, .int .i64 x, .int .i64 y, .int .i64 r] 24
  have HA : Hid (Own w _ _) := hA
  clear hA hR
  unfold rgv
  go_enter Tryd.func14, Tryd.ntmps14
  go_wp2
  generalize hWg : w.alloc (.cells #[.bool on, .int .i64 x, .int .i64 y, .int .i64 r] 24) = W1 at *
  generalize w.heap.size = B at *
  clear hWg
  have q0 := fun f => HA.out.frCells f 0
  have q1 := fun f => HA.out.frCells f 1
  have q2 := fun f => HA.out.frCells f 2
  have q3 := fun f => HA.out.frCells f 3
  simp at q0 q1 q2 q3
  refine wp_region_fr (by kernel_rfl) (by kernel_rfl) ?_
  repeat (with_reducible refine wpQuiet_step (fun K hK => ?_)
          go_simp
          first
            | (refine hK _ ?_; clear hK K)
            | (apply Exists.intro
               refine ⟨fun _ => ?_, hK _ ?_⟩
               (go_at_call 21; with_reducible refine Calls.fr_of (CH.out _))
               clear hK K))
  refine wpQuiet_nil ?_
  rintro w' ⟨f, rfl⟩
  have HF : Hid (Fr Nobody w f.val) := HA.out.fr.trans f.fr
  clear HA q0 q1 q2 q3
  go_wp2
  go_ret
  exact ⟨by simp, HF.out⟩
end Go.Proofs.YthokgjkgfolojabDoor
