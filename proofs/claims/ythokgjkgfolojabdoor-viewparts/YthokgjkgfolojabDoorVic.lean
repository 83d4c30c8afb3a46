/-
  Lists of cells by rising first, then second numbers.
-/
import Derived.Test.YthokgjkgfolojabDoorVia
namespace Go.Proofs.YthokgjkgfolojabDoor
open Go.RowKit
set_option linter.unusedVariables false
set_option maxRecDepth 100000

abbrev Cl2 := Int × Int
def lxt (c d : Cl2) : Prop := c.1 < d.1 ∨ (c.1 = d.1 ∧ c.2 < d.2)
theorem lxt_ne {c d : Cl2} (h : lxt c d) : c ≠ d := by
  rintro rfl
  unfold lxt at h; omega
theorem lxt_anti {c d : Cl2} (h : lxt c d) : ¬ lxt d c := by
  unfold lxt at *; omega
theorem lx_eq : ∀ {A B : List Cl2}, A.Pairwise lxt → B.Pairwise lxt → (∀ x, x ∈ A ↔ x ∈ B) → A = B := by
  intro A
  induction A with
  | nil =>
    intro B _ _ h
    cases B with
    | nil => rfl
    | cons b B => exact absurd ((h b).2 (List.mem_cons_self ..)) (by simp)
  | cons a A ih =>
    intro B hA hB h
    obtain ⟨a1, a2⟩ := List.pairwise_cons.1 hA
    cases B with
    | nil => exact absurd ((h a).1 (List.mem_cons_self ..)) (by simp)
    | cons b B =>
      obtain ⟨b1, b2⟩ := List.pairwise_cons.1 hB
      have e : a = b := by
        rcases List.mem_cons.1 ((h a).1 (List.mem_cons_self ..)) with e | e
        · exact e
        · rcases List.mem_cons.1 ((h b).2 (List.mem_cons_self ..)) with e2 | e2
          · exact e2.symm
          · exact absurd (b1 a e) (lxt_anti (a1 b e2))
      subst e
      congr 1
      refine ih a2 b2 (fun x => ?_)
      constructor
      · intro hx
        rcases List.mem_cons.1 ((h x).1 (List.mem_cons_of_mem _ hx)) with e | e
        · exact absurd e.symm (lxt_ne (a1 x hx))
        · exact e
      · intro hx
        rcases List.mem_cons.1 ((h x).2 (List.mem_cons_of_mem _ hx)) with e | e
        · exact absurd e.symm (lxt_ne (b1 x hx))
        · exact e
/-- the cells that are meant, as far as (x, y) -/
def UpTo (P : Cl2 → Bool) (x y : Int) (R : List Cl2) : Prop := R.Pairwise lxt ∧ ∀ c, c ∈ R ↔ (P c = true ∧ lxt c (x, y))
theorem UpTo.start {P : Cl2 → Bool} {x y : Int} (h : ∀ c, P c = true → x ≤ c.1 ∧ y ≤ c.2) : UpTo P x y [] := by
  refine ⟨List.Pairwise.nil, fun c => ⟨fun h => (by cases h), ?_⟩⟩
  rintro ⟨a, b⟩
  have := h c a
  unfold lxt at b; simp only at b; omega
theorem UpTo.yes {P : Cl2 → Bool} {x y : Int} {R : List Cl2} (h : UpTo P x y R) (hp : P (x, y) = true) : UpTo P x (y + 1) (R ++ [(x, y)]) := by
  refine ⟨List.pairwise_append.2 ⟨h.1, List.pairwise_singleton .., fun a ha b hb => ?_⟩, fun c => ?_⟩
  · rw [List.mem_singleton.1 hb]; exact ((h.2 a).1 ha).2
  · rw [List.mem_append, h.2 c, List.mem_singleton]
    constructor
    · rintro (⟨a, b⟩ | rfl)
      · exact ⟨a, by unfold lxt at *; simp only at *; omega⟩
      · exact ⟨hp, Or.inr ⟨rfl, by show y < y + 1; omega⟩⟩
    · rintro ⟨a, b⟩
      obtain ⟨c1, c2⟩ := c
      unfold lxt at *
      simp only [Prod.mk.injEq] at *
      by_cases e : c1 = x ∧ c2 = y
      · exact .inr e
      · exact .inl ⟨a, by omega⟩
theorem UpTo.no {P : Cl2 → Bool} {x y : Int} {R : List Cl2} (h : UpTo P x y R) (hp : P (x, y) = false) : UpTo P x (y + 1) R := by
  refine ⟨h.1, fun c => ?_⟩
  rw [h.2 c]
  constructor
  · rintro ⟨a, b⟩
    exact ⟨a, by unfold lxt at *; simp only at *; omega⟩
  · rintro ⟨a, b⟩
    refine ⟨a, ?_⟩
    obtain ⟨c1, c2⟩ := c
    unfold lxt at *
    simp only at *
    by_cases e : c1 = x ∧ c2 = y
    · rw [e.1, e.2, hp] at a; cases a
    · omega
theorem UpTo.col {P : Cl2 → Bool} {x y yl : Int} {R : List Cl2} (h : UpTo P x y R) (h1 : ∀ c, P c = true → c.2 < y) (h2 : ∀ c, P c = true → yl ≤ c.2) : UpTo P (x + 1) yl R := by
  refine ⟨h.1, fun c => ?_⟩
  rw [h.2 c]
  constructor
  · rintro ⟨a, b⟩
    exact ⟨a, by unfold lxt at *; simp only at *; omega⟩
  · rintro ⟨a, b⟩
    have := h1 c a; have := h2 c a
    exact ⟨a, by unfold lxt at *; simp only at *; omega⟩
theorem UpTo.unique {P : Cl2 → Bool} {x y x2 y2 : Int} {R S : List Cl2} (h : UpTo P x y R) (h2 : UpTo P x2 y2 S) (e1 : ∀ c, P c = true → lxt c (x, y)) (e2 : ∀ c, P c = true → lxt c (x2, y2)) : R = S :=
  lx_eq h.1 h2.1 (fun c => by rw [h.2 c, h2.2 c]; exact ⟨fun a => ⟨a.1, e2 c a.1⟩, fun a => ⟨a.1, e1 c a.1⟩⟩)
/-- the cells of a region that are in the world -/
def clP (on : Bool) (x y r : Int) (c : Cl2) : Bool := hasC on x y r c.1 c.2 && bw c.1 (-32) 31 && bw c.2 (-32) 31
theorem clP_iff {on : Bool} {x y r : Int} {c : Cl2} : clP on x y r c = true ↔ hasR on x y r = true ∧ (x - r ≤ c.1 ∧ c.1 ≤ x + r) ∧ (y - r ≤ c.2 ∧ c.2 ≤ y + r) ∧ (-32 ≤ c.1 ∧ c.1 ≤ 31) ∧ (-32 ≤ c.2 ∧ c.2 ≤ 31) := by
  simp only [clP, hasC, Bool.and_eq_true, bw_iff]
  constructor
  · rintro ⟨⟨⟨⟨a, b⟩, c⟩, d⟩, e⟩; exact ⟨a, b, c, d, e⟩
  · rintro ⟨a, b, c, d, e⟩; exact ⟨⟨⟨⟨a, b⟩, c⟩, d⟩, e⟩
/-- a list of the cells of a region -/
def AllC (on : Bool) (x y r : Int) (R : List Cl2) : Prop := UpTo (clP on x y r) 32 (-32) R
theorem AllC.eq {on : Bool} {x y r : Int} {R S : List Cl2} (h : AllC on x y r R) (h2 : AllC on x y r S) : R = S :=
  UpTo.unique h h2 (fun c hc => by have := clP_iff.1 hc; unfold lxt; simp only; omega) (fun c hc => by have := clP_iff.1 hc; unfold lxt; simp only; omega)
theorem AllC.none {on : Bool} {x y r : Int} (h : hasR on x y r = false) : AllC on x y r [] := by
  refine ⟨List.Pairwise.nil, fun c => ⟨fun h => (by cases h), fun hc => ?_⟩⟩
  have := (clP_iff.1 hc.1).1
  rw [h] at this; cases this
theorem AllC.of {on : Bool} {x y r a b : Int} {R : List Cl2} (h : UpTo (clP on x y r) a b R) (e : ∀ c, clP on x y r c = true → lxt c (a, b)) : AllC on x y r R := by
  refine ⟨h.1, fun c => ?_⟩
  rw [h.2 c]
  constructor
  · rintro ⟨p, _⟩
    refine ⟨p, ?_⟩
    have := clP_iff.1 p; unfold lxt; simp only; omega
  · rintro ⟨p, _⟩
    exact ⟨p, e c p⟩
/-- a box of cells -/
def box2 (xl yl : Int) (ny : Nat) : Nat → List Cl2
  | 0 => []
  | n + 1 => box2 xl yl ny n ++ (List.range ny).map (fun b : Nat => (xl + (n : Int), yl + (b : Int)))
theorem box2_len (xl yl : Int) (ny nx : Nat) : (box2 xl yl ny nx).length = nx * ny := by
  induction nx with
  | zero => simp [box2]
  | succ n ih => simp only [box2, List.length_append, ih, List.length_map, List.length_range]; rw [Nat.succ_mul]
theorem box2_mem {xl yl : Int} {ny nx : Nat} {c : Cl2} : c ∈ box2 xl yl ny nx ↔ (xl ≤ c.1 ∧ c.1 < xl + (nx : Int)) ∧ (yl ≤ c.2 ∧ c.2 < yl + (ny : Int)) := by
  induction nx with
  | zero => simp [box2]; omega
  | succ n ih =>
    simp only [box2, List.mem_append, ih, List.mem_map, List.mem_range]
    constructor
    · rintro (h | ⟨b, hb, rfl⟩)
      · omega
      · simp only; omega
    · intro h
      by_cases e : c.1 < xl + (n : Int)
      · exact .inl ⟨⟨h.1.1, e⟩, h.2⟩
      · refine .inr ⟨(c.2 - yl).toNat, by omega, ?_⟩
        obtain ⟨c1, c2⟩ := c
        simp only [Prod.mk.injEq] at *
        omega
theorem box2_up (xl yl : Int) (ny nx : Nat) : (box2 xl yl ny nx).Pairwise lxt := by
  induction nx with
  | zero => exact List.Pairwise.nil
  | succ n ih =>
    refine List.pairwise_append.2 ⟨ih, ?_, ?_⟩
    · rw [List.pairwise_map]
      refine List.Pairwise.imp ?_ List.pairwise_lt_range
      intro a b h
      exact Or.inr ⟨rfl, by show yl + (a : Int) < yl + (b : Int); omega⟩
    · intro a ha b hb
      have := box2_mem.1 ha
      obtain ⟨k, _, rfl⟩ := List.mem_map.1 hb
      unfold lxt; simp only; omega
theorem AllC.len {on : Bool} {x y r : Int} {R : List Cl2} (h : AllC on x y r R) (hR : hasR on x y r = true) : R.length = (min (x + r) 31 - max (x - r) (-32) + 1).toNat * (min (y + r) 31 - max (y - r) (-32) + 1).toNat := by
  have hi : inR x y r = true := by unfold hasR at hR; exact (Bool.and_eq_true .. ▸ hR).2
  have hb := inR_iff.1 hi
  have e : R = box2 (max (x - r) (-32)) (max (y - r) (-32)) (min (y + r) 31 - max (y - r) (-32) + 1).toNat (min (x + r) 31 - max (x - r) (-32) + 1).toNat := by
    refine lx_eq h.1 (box2_up ..) (fun c => ?_)
    rw [h.2 c, box2_mem, clP_iff]
    constructor
    · rintro ⟨⟨_, a, b, d, e⟩, _⟩
      omega
    · rintro ⟨a, b⟩
      refine ⟨⟨hR, ?_⟩, ?_⟩
      · omega
      · unfold lxt; simp only; omega
  rw [e, box2_len]
theorem AllC.bounds {on : Bool} {x y r : Int} {R : List Cl2} (h : AllC on x y r R) (hR : hasR on x y r = true) : (r + 1) * (r + 1) ≤ (R.length : Int) ∧ (R.length : Int) ≤ (2 * r + 1) * (2 * r + 1) := by
  have hi : inR x y r = true := by unfold hasR at hR; exact (Bool.and_eq_true .. ▸ hR).2
  have hb := inR_iff.1 hi
  rw [h.len hR]
  obtain ⟨n, hn⟩ : ∃ n : Nat, n = (min (x + r) 31 - max (x - r) (-32) + 1).toNat := ⟨_, rfl⟩
  obtain ⟨m, hm⟩ : ∃ m : Nat, m = (min (y + r) 31 - max (y - r) (-32) + 1).toNat := ⟨_, rfl⟩
  obtain ⟨k, hk⟩ : ∃ k : Nat, k = r.toNat := ⟨_, rfl⟩
  have hr : r = (k : Int) := by omega
  rw [← hn, ← hm, hr]
  have n1 : k + 1 ≤ n := by omega
  have n2 : n ≤ 2 * k + 1 := by omega
  have m1 : k + 1 ≤ m := by omega
  have m2 : m ≤ 2 * k + 1 := by omega
  have a := Nat.mul_le_mul n1 m1
  have b := Nat.mul_le_mul n2 m2
  constructor
  · exact_mod_cast a
  · exact_mod_cast b
theorem AllC.small {on : Bool} {x y r : Int} {R : List Cl2} (h : AllC on x y r R) : R.length ≤ 289 := by
  cases hR : hasR on x y r with
  | false => rw [h.eq (AllC.none hR)]; decide
  | true =>
    have hi : inR x y r = true := by unfold hasR at hR; exact (Bool.and_eq_true .. ▸ hR).2
    have hb := inR_iff.1 hi
    rw [h.len hR]
    exact Nat.le_trans (Nat.mul_le_mul (by omega : _ ≤ 17) (by omega : _ ≤ 17)) (by decide)
end Go.Proofs.YthokgjkgfolojabDoor
