/-
  A range over a function, told by the things that lie apart in memory: what the loop's body does to its things, and what the iterator does with the rounds.
-/
import Derived.Test.YthokgjkgfolojabDoorXm
import Derived.RangeFuncNested
import Derived.RangeFuncBound
import Derived.RangeFuncCalls
import Derived.RangeFuncLeaves
import Derived.Shelf.Abstract
import Derived.Shelf.RegionOpen
import Derived.WalkKit
import Derived.OwnWalkIn
import Derived.TacticsInMore
import Derived.LoopNIn
import Derived.LoopIn
namespace Go.Proofs.YthokgjkgfolojabDoor
open Go.RowKit
set_option linter.unusedVariables false

/-- a block that holds this -/
def Objt (k : Nat) (o : Obj) : Thing where
  is := fun w A => w.heap[k]? = some o ∧ ∀ j, A j ↔ j = k
  lt := by
    rintro w A j ⟨h, hA⟩ a
    rw [(hA j).1 a]; exact (Array.getElem?_eq_some_iff.1 h).1
  keep := by
    rintro w w' A B ⟨h, hA⟩ hf hn
    exact ⟨(hf.block k (Array.getElem?_eq_some_iff.1 h).1 (hn k ((hA k).2 rfl))).trans h, hA⟩
section
variable {w0 w : World} {l A T B : List Thing} {P : Thing} {k : Nat} {o : Obj}
theorem Own.objt (h : Own w0 w (Objt k o :: l)) : w.heap[k]? = some o := by
  obtain ⟨_, ⟨_, _, hB, _⟩, _⟩ := h
  exact hB.1
theorem Own.putO (h : Own w0 w (Objt k o :: l)) (o' : Obj) : Own w0 (w.putObj k o') (Objt k o' :: l) := by
  have hk := (Array.getElem?_eq_some_iff.1 h.objt).1
  obtain ⟨A, ⟨_, hA⟩, _, hact⟩ := h.act
  refine hact _ (Objt k o') (fun j => j = k) ⟨World.putObj_heap_same hk, fun j => Iff.rfl⟩ ?_ (fun j hj => .inl ((hA j).2 hj))
  have g := grownBy_putObj' w k o'
  exact ⟨g.os, g.tape, g.output, g.size, fun j hj hn => g.block j hj (fun e => hn ((hA j).2 (by cases e; rfl)))⟩
theorem Own.allocO (h : Own w0 w l) (o : Obj) : Own w0 (w.alloc o) (Objt w.heap.size o :: l) :=
  h.new (Objt w.heap.size o) (fun j => j = w.heap.size) ⟨World.alloc_heap_new w o, fun j => Iff.rfl⟩ ((Fr.refl _ _).alloc o) (fun j hj => by omega)
theorem pull_perm : (A ++ (T ++ P :: B)).Perm (P :: (A ++ (T ++ B))) := by
  rw [← List.append_assoc, ← List.append_assoc]; exact List.perm_middle
theorem Own.pull (h : Own w0 w (A ++ (T ++ P :: B))) : Own w0 w (P :: (A ++ (T ++ B))) := h.perm pull_perm
theorem Own.push (h : Own w0 w (P :: (A ++ (T ++ B)))) : Own w0 w (A ++ (T ++ P :: B)) := h.perm pull_perm.symm
end

/-- what the iterator does with the rounds: G xs: what may have come; X xs: what lies there when xs have come; Y xs: when a round has said that it is enough -/
def Seq {α : Type} (n : Nat) (P : Program) (gf : Nat) (lb : Array Value) (w0 : World) (encs : α → Array Value) (X Y : List α → List Thing) (G S Sp : List α → Prop) : Prop :=
  ∀ (l : Nat) (R R2 : List Thing) (W : World),
    (∀ (pre : List α) (x : α) (W1 : World) (T : List Thing), G (pre ++ [x]) → Own w0 W1 (X pre ++ (T ++ R)) → YieldAt Fence.wide (n - 1) P l (encs x) W1 fun e W' =>
      (e = .returned (.bool true) ∧ Own w0 W' (X (pre ++ [x]) ++ (T ++ R))) ∨ (e = .returned (.bool false) ∧ Own w0 W' (Y (pre ++ [x]) ++ (T ++ R2)))) →
    Own w0 W (X [] ++ R) →
    CallsIn Fence.wide n P gf (#[.func (.yield l) #[] #[]] ++ lb) W fun e W' => (∃ v, e = .returned v) ∧ ((∃ xs, S xs ∧ Own w0 W' (X xs ++ R)) ∨ ∃ pre, Sp pre ∧ Own w0 W' (Y pre ++ R2))
/-- how a round's body may be left -/
def roundQ {α : Type} (w0 : World) (X Y : List α → List Thing) (c0 : Code) (xs : List α) (R : List Thing) : Exit → Act → World → Prop
  | .normal, _, W' => Own w0 W' (X xs ++ R)
  | .exit id, _, W' => c0 = .exit id ∧ Own w0 W' (Y xs ++ R)
  | _, _, _ => False

theorem range_things {α : Type} {n : Nat} {P : Program} {g : Operand} {ps : Array Tmp} {assign body : Code} {Q : Exit → Act → World → Prop} {a : Act} {w : World}
    {gf : Nat} {lb : Array Value} (hg : a.eval g = .func (.func gf) #[] lb) (eg : ∀ args w, (callFunc gf args).run P w = .ok (.enter gf args) w)
    {w0 : World} {encs : α → Array Value} (X Y : List α → List Thing) (c0 : Code) {G S Sp : List α → Prop} (hseq : Seq (n - 1) P gf lb w0 encs X Y G S Sp) (hps : ∀ x, (encs x).size = ps.size) (h0 : Own w0 w (X [])) (a₁ : α → Act)
    (hassign : ∀ (l : Nat) (x : α) (W : World) (K : Act → World → Prop), K (a₁ x) W →
      assign.wpIn (Fence.wide.inRound l) (n - 1 - 1) P (Exit.then K (fun _ _ _ => False)) { tmps := (ps.zip (encs x)).foldl (fun t (p, v) => t.setIfInBounds p v) a.tmps, defers := [] } W)
    (hbody : ∀ (l : Nat) (pre : List α) (x : α) (W : World) (R : List Thing), G (pre ++ [x]) → Own w0 W (X pre ++ R) → body.wpIn (Fence.wide.inRound l) (n - 1 - 1) P (roundQ w0 X Y c0 (pre ++ [x]) R) (a₁ x) W)
    (hdone : ∀ (D : Nat) (xs : List α) (W : World), S xs → Own w0 W (Objt D (.deferred (some [])) :: X xs) → Q .normal { a with defers := { target := .collected D, args := #[] } :: a.defers } W)
    (hstop : ∀ (D : Nat) (pre : List α) (W : World), Sp pre → Own w0 W (Objt D (.deferred (some [])) :: Y pre) → c0.wpIn Fence.wide n P Q { a with defers := { target := .collected D, args := #[] } :: a.defers } W) :
    (Code.rangeFunc g ps assign body).wpIn Fence.wide n P Q a w := by
  refine wpIn_rangeFunc ?_
  intro fn hfn
  obtain ⟨rec, hrec⟩ : ∃ rec : LoopState → Option Code → Loop, rec = fun st pe => { state := st, pending := pe, fn, tmps := a.tmps, params := ps, assign, body, defers := w.heap.size } := ⟨_, rfl⟩
  obtain ⟨W1, hW1⟩ : ∃ W1, (w.alloc (.deferred (some []))).alloc (.loop (rec .ready none)) = W1 := ⟨_, rfl⟩
  have hO1 : Own w0 W1 (X [] ++ ([] ++ [Objt (w.heap.size + 1) (.loop (rec .ready none)), Objt w.heap.size (.deferred (some []))])) := by
    have h1 := (h0.allocO (.deferred (some []))).allocO (.loop (rec .ready none))
    rw [World.size_alloc, hW1] at h1
    exact h1.perm (List.perm_append_comm (l₁ := [_, _]))
  refine ⟨w.heap.size + 1, [{ target := .collected w.heap.size, args := #[] }], W1, { target := .fn (.func gf) lb, args := #[.func (.yield (w.heap.size + 1)) #[] #[]] }, W1, gf,
    #[.func (.yield (w.heap.size + 1)) #[] #[]] ++ lb, W1, ?_, ?_, fun _ _ => trivial, ?_, (fun h => nomatch h), ?_⟩
  · rw [← hW1, hrec]; exact run_enterLoop_outer _ _ _ _ _
  · simp only [resolve, hg]
    simp [go_sem]
  · simp [invoke, go_sem, eg]
  · refine (hseq (w.heap.size + 1) [Objt (w.heap.size + 1) (.loop (rec .ready none)), Objt w.heap.size (.deferred (some []))] [Objt (w.heap.size + 1) (.loop (rec .done (some c0))), Objt w.heap.size (.deferred (some []))] W1 ?_ hO1).mono ?_
    · intro pre x W T hG hO
      have h1 := hO.pull
      have hl := h1.objt
      have hy := run_yield (P := P) (args := encs x) hl (by rw [hrec]; exact hps x)
      rw [hrec] at hy
      refine ⟨fn, _, assign, body, hy, roundIn_of_wpIn trivial (hassign _ x W _ ⟨_, run_beginRound hl (by rw [hrec]), ?_⟩)⟩
      have h2 := (h1.putO (.loop { rec .ready none with state := .busy })).push
      refine wpIn_mono (hbody _ pre x _ _ hG h2) ?_
      rintro e a3 W3 hp
      cases e with
      | normal =>
        have h3 := Own.pull (show Own w0 W3 (X (pre ++ [x]) ++ (T ++ [Objt (w.heap.size + 1) (.loop { rec .ready none with state := .busy }), Objt w.heap.size (.deferred (some []))])) from hp)
        have hr := run_endRound (P := P) none h3.objt
        refine ⟨_, _, hr, .inl ⟨rfl, ?_⟩⟩
        have h4 := (h3.putO (.loop { rec .ready none with state := .ready, pending := none })).push
        rw [hrec] at h4 ⊢
        exact h4
      | exit id =>
        obtain ⟨hc, hp⟩ := hp
        have h3 := Own.pull (show Own w0 W3 (Y (pre ++ [x]) ++ (T ++ [Objt (w.heap.size + 1) (.loop { rec .ready none with state := .busy }), Objt w.heap.size (.deferred (some []))])) from hp)
        have hr := run_endRound (P := P) (some (.exit id)) h3.objt
        refine ⟨_, _, hr, .inr ⟨rfl, ?_⟩⟩
        have h4 := (h3.putO (.loop { rec .ready none with state := .done, pending := some (.exit id) })).push
        rw [hrec] at h4 ⊢
        rw [hc]
        exact h4
      | ret => exact hp.elim
      | goto t => exact hp.elim
      | panic ch => exact hp.elim
      | outgrown => exact hp.elim
    · rintro e W2 ⟨⟨v, rfl⟩, (⟨xs, hS, hO⟩ | ⟨pre, hSp, hO⟩)⟩
      · have h3 := Own.pull (T := []) hO
        have hr := run_endLoop (P := P) h3.objt (by rw [hrec]; simp)
        refine ⟨none, _, by rw [hrec] at hr; exact hr, hdone w.heap.size xs _ hS ?_⟩
        have h4 := (h3.putO (.loop { rec .ready none with state := .exhausted })).tail
        rw [hrec] at h4
        exact h4.perm (List.perm_append_comm (l₂ := [_]))
      · have h3 := Own.pull (T := []) hO
        have hr := run_endLoop (P := P) h3.objt (by rw [hrec]; simp)
        refine ⟨some c0, _, by rw [hrec] at hr; exact hr, hstop w.heap.size pre _ hSp ?_⟩
        have h4 := (h3.putO (.loop { rec .done (some c0) with state := .exhausted })).tail
        rw [hrec] at h4
        exact h4.perm (List.perm_append_comm (l₂ := [_]))
end Go.Proofs.YthokgjkgfolojabDoor
