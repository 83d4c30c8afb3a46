/-
  slices.DeleteFunc: a component less.
-/
import Derived.Test.YtehancopmpcpmaaDoorOxg
import Derived.Test.YtehancopmpcpmaaDoorUj
namespace Go.Proofs.YtehancopmpcpmaaDoor
open Go.RowKit
set_option linter.unusedVariables false
set_option maxRecDepth 100000

theorem ccat_set4 (C : List Cp) (k : Nat) (q : Cp) (hk : k < C.length) : ccat (C.set k q) = ((((ccat C).set (k * 4) (.int .u8 (q.k : Int))).set (k * 4 + 1) (.int .i32 q.a)).set (k * 4 + 2) (.int .i32 q.b)).set (k * 4 + 3) (.int .i32 q.c) := by
  induction C generalizing k with
  | nil => simp at hk
  | cons y C ih =>
    have e1 : ∀ (A : List Cp) (z : Cp), ccat (z :: A) = [.int .u8 (z.k : Int), .int .i32 z.a, .int .i32 z.b, .int .i32 z.c] ++ ccat A := fun _ _ => rfl
    cases k with
    | zero => rw [List.set_cons_zero, e1, e1]; simp
    | succ k =>
      have ih := ih k (by simpa using hk)
      rw [List.set_cons_succ, e1, e1, ih]
      have h0 : (k + 1) * 4 = k * 4 + 4 := by omega
      have h1 : (k + 1) * 4 + 1 = (k * 4 + 1) + 4 := by omega
      have h2 : (k + 1) * 4 + 2 = (k * 4 + 2) + 4 := by omega
      have h3 : (k + 1) * 4 + 3 = (k * 4 + 3) + 4 := by omega
      rw [h1, h2, h3, h0]
      simp
theorem zeroComp2 (w : World) : (zeroValue 49).run Tryd.prog w = .ok (.agg #[.int .u8 0, .int .i32 0, .int .i32 0, .int .i32 0]) w := by kernel_rfl
end Go.Proofs.YtehancopmpcpmaaDoor

/-
  A store's Remove.
-/
namespace Go.Proofs.YtehancopmpcpmaaDoor
open Go.RowKit Go.Maps
set_option linter.unusedVariables false
set_option maxRecDepth 100000

/-- without a kind -/
def outk (C : List Cp) (k : Nat) : List Cp := C.filter (fun q => decide (q.k ≠ k))
theorem outk_none {C : List Cp} {k : Nat} (h : ∀ q ∈ C, q.k ≠ k) : outk C k = C := List.filter_eq_self.2 (fun q hq => by simpa using h q hq)
theorem outk_erase {C : List Cp} {k r : Nat} {q : Cp} (h : C.Pairwise (fun x y => x.k < y.k)) (hr : C[r]? = some q) (hq : q.k = k) : C.eraseIdx r = outk C k := by
  induction C generalizing r with
  | nil => simp at hr
  | cons a C ih =>
    obtain ⟨h1, h2⟩ := List.pairwise_cons.1 h
    cases r with
    | zero =>
      simp at hr
      subst hr
      have : outk (a :: C) k = outk C k := by unfold outk; rw [List.filter_cons]; simp [hq]
      rw [this, outk_none (fun x hx => by have := h1 x hx; omega)]
      rfl
    | succ r =>
      have hm : q ∈ C := List.mem_of_getElem? (by simpa using hr)
      have ha : a.k ≠ k := by have := h1 q hm; omega
      have := ih h2 (r := r) (by simpa using hr)
      rw [List.eraseIdx_cons_succ, this]
      unfold outk
      rw [List.filter_cons]; simp [ha]
theorem outk_ok {C : List Cp} (h : lst (-1) C = 0) (k : Nat) : lst (-1) (outk C k) = 0 := by
  rw [lst_iff] at h ⊢
  exact ⟨h.1.filter _, fun x hx => h.2 x (List.mem_filter.1 hx).1⟩
def Sto.remove (σ : Sto) (id k : Nat) : Int × Sto :=
  if σ.S.isLive id = false then (7, σ) else if hasK (σ.cps id) k = false then (10, σ) else (0, σ.turn id (outk (σ.cps id) k))
end Go.Proofs.YtehancopmpcpmaaDoor

/-
  The document's store: Get, Set, Add, Remove.
-/
namespace Go.Proofs.YtehancopmpcpmaaDoor
open Go.RowKit Go.Maps
set_option linter.unusedVariables false
set_option maxRecDepth 100000

theorem outk_snoc (C : List Cp) (q : Cp) (k : Nat) : outk (C ++ [q]) k = outk C k ++ (if q.k = k then [] else [q]) := by
  unfold outk
  rw [List.filter_append, List.filter_cons]
  by_cases h : q.k = k <;> simp [h]
end Go.Proofs.YtehancopmpcpmaaDoor
