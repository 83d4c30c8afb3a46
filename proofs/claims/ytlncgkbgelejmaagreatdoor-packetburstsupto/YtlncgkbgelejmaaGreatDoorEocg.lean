/-
  What becomes of one entity, kind by kind.
-/
import Derived.Test.YtlncgkbgelejmaaGreatDoorEnog
namespace Go.Proofs.YtlncgkbgelejmaaGreatDoor
open Go.RowKit
set_option linter.unusedVariables false
set_option maxRecDepth 100000

theorem fstE_some {L : List En} {i : Nat} {e : En} (h : fstE L i = some e) : e ∈ L ∧ e.1 = i := by
  unfold fstE at h
  exact ⟨List.mem_of_find?_eq_some h, by simpa using List.find?_some h⟩
theorem fstE_isNone {L : List En} {i : Nat} : (fstE L i).isNone = true ↔ ∀ x ∈ L, x.1 ≠ i := by
  unfold fstE
  simp
theorem up_eq {L : List En} (h : L.Pairwise (fun a b => a.1 < b.1)) {x y : En} (hx : x ∈ L) (hy : y ∈ L) (e : x.1 = y.1) : x = y := by
  induction L with
  | nil => cases hx
  | cons z t ih =>
    have h1 := List.pairwise_cons.1 h
    rcases List.mem_cons.1 hx with hxz | hxt
    · rcases List.mem_cons.1 hy with hyz | hyt
      · rw [hxz, hyz]
      · have := h1.1 y hyt; rw [hxz] at e; omega
    · rcases List.mem_cons.1 hy with hyz | hyt
      · have := h1.1 x hxt; rw [hyz] at e; omega
      · exact ih h1.2 hxt hyt

/-- the components of the kinds below k -/
def bel (B : List Cp) (k : Nat) : List Cp := B.filter (fun q => decide (q.k < k))
theorem bel_none {B : List Cp} {k : Nat} (h : ∀ q ∈ B, k ≤ q.k) : bel B k = [] := by
  unfold bel
  rw [List.filter_eq_nil_iff]
  intro q hq
  have := h q hq
  simp; omega
theorem bel_all {B : List Cp} (h : ∀ q ∈ B, q.k < 6) : bel B 6 = B := by
  unfold bel
  rw [List.filter_eq_self]
  intro q hq
  simpa using h q hq
theorem bel_succ {B : List Cp} (k : Nat) : B.Pairwise (fun x y => x.k < y.k) → bel B (k + 1) = bel B k ++ (fst B k).toList := by
  induction B with
  | nil => intro _; rfl
  | cons q t ih =>
    intro h
    have h1 := List.pairwise_cons.1 h
    by_cases c1 : q.k < k
    · have e1 : bel (q :: t) (k + 1) = q :: bel t (k + 1) := by
        have : q.k < k + 1 := by omega
        simp [bel, this]
      have e2 : bel (q :: t) k = q :: bel t k := by simp [bel, c1]
      have e3 : fst (q :: t) k = fst t k := by
        have : q.k ≠ k := by omega
        simp [fst, this]
      rw [e1, e2, e3, ih h1.2]; rfl
    · have n1 : bel t (k + 1) = [] := bel_none (fun x hx => by have := h1.1 x hx; omega)
      have n2 : bel (q :: t) k = [] := bel_none (fun x hx => by
        rcases List.mem_cons.1 hx with rfl | hx
        · omega
        · have := h1.1 x hx; omega)
      by_cases c2 : q.k = k
      · have e1 : bel (q :: t) (k + 1) = q :: bel t (k + 1) := by
          have : q.k < k + 1 := by omega
          simp [bel, this]
        have e3 : fst (q :: t) k = some q := by simp [fst, c2]
        rw [e1, n1, n2, e3]; rfl
      · have e1 : bel (q :: t) (k + 1) = [] := bel_none (fun x hx => by
          rcases List.mem_cons.1 hx with rfl | hx
          · omega
          · have := h1.1 x hx; omega)
        have e3 : fst (q :: t) k = none := by
          unfold fst
          rw [List.find?_eq_none]
          intro x hx
          rcases List.mem_cons.1 hx with rfl | hx
          · simpa using c2
          · have := h1.1 x hx; simp; omega
        rw [e1, n2, e3]; rfl
def newK (A B : List Cp) (k : Nat) : List Cp := (bel B k).filter (isNew A)
def setK (A B : List Cp) (k : Nat) : List Cp := (bel B k).filter (isSet A)
theorem newK_le (A B : List Cp) (k : Nat) : (newK A B k).length ≤ B.length := Nat.le_trans (List.length_filter_le _ _) (List.length_filter_le _ _)
theorem setK_le (A B : List Cp) (k : Nat) : (setK A B k).length ≤ B.length := Nat.le_trans (List.length_filter_le _ _) (List.length_filter_le _ _)
theorem k_none {A B : List Cp} {k : Nat} (hB : B.Pairwise (fun x y => x.k < y.k)) (h : fst B k = none) : newK A B (k + 1) = newK A B k ∧ setK A B (k + 1) = setK A B k := by
  unfold newK setK
  rw [bel_succ k hB, h]
  simp
theorem k_new {A B : List Cp} {k : Nat} {y : Cp} (hB : B.Pairwise (fun x y => x.k < y.k)) (h : fst B k = some y) (ha : fst A k = none) : newK A B (k + 1) = newK A B k ++ [y] ∧ setK A B (k + 1) = setK A B k := by
  have hy := (fst_some h).2
  have e1 : isNew A y = true := by unfold isNew; rw [hy, fst_has ha]; rfl
  have e2 : isSet A y = false := by unfold isSet; rw [hy, ha]
  unfold newK setK
  rw [bel_succ k hB, h]
  simp [e1, e2]
theorem k_set {A B : List Cp} {k : Nat} {x y : Cp} (hB : B.Pairwise (fun x y => x.k < y.k)) (h : fst B k = some y) (ha : fst A k = some x) : newK A B (k + 1) = newK A B k ∧ setK A B (k + 1) = setK A B k ++ (if decide (x = y) = true then [] else [y]) := by
  have hy := (fst_some h).2
  have hk := mem_hasK (fst_some ha).1
  rw [(fst_some ha).2] at hk
  have e1 : isNew A y = false := by unfold isNew; rw [hy, hk]; rfl
  have e2 : isSet A y = !decide (x = y) := by unfold isSet; rw [hy, ha]
  unfold newK setK
  rw [bel_succ k hB, h]
  cases hd : decide (x = y) <;> simp [e1, e2, hd]
theorem lostN_lt (A B : List Cp) (k : Nat) : lostN A B k < 2 ^ k := by
  induction k with
  | zero => simp [lostN]
  | succ n ih =>
    rw [lostN, Nat.pow_succ]
    split <;> omega
theorem lost_yes {A B : List Cp} {k : Nat} {x : Cp} (ha : fst A k = some x) (hb : fst B k = none) : lostN A B (k + 1) = lostN A B k + 2 ^ k := by
  have hk := mem_hasK (fst_some ha).1
  rw [(fst_some ha).2] at hk
  rw [lostN, hk, fst_has hb]; simp
theorem lost_no {A B : List Cp} {k : Nat} (h : fst A k = none ∨ ∃ y, fst B k = some y) : lostN A B (k + 1) = lostN A B k := by
  rw [lostN]
  rcases h with h | ⟨y, h⟩
  · rw [fst_has h]; simp
  · have hk := mem_hasK (fst_some h).1
    rw [(fst_some h).2] at hk
    rw [hk]; simp
theorem chg1_k {i j : Nat} {A B : List Cp} (hB : ∀ q ∈ B, q.k < 6) : chg1 (i, A) (j, B) = ⟨j, lostN A B 6, newK A B 6, setK A B 6⟩ := by
  unfold chg1 newK setK lostm
  rw [bel_all hB]
theorem shl_u8 (k : Nat) (hk : k < 6) : IntKind.u8.wrap (1 * 2 ^ k) = ((2 ^ k : Nat) : Int) := by
  have h : k = 0 ∨ k = 1 ∨ k = 2 ∨ k = 3 ∨ k = 4 ∨ k = 5 := by omega
  rcases h with rfl | rfl | rfl | rfl | rfl | rfl <;> rfl
end Go.Proofs.YtlncgkbgelejmaaGreatDoor

