/-
  The patch that goes one by one, as lists: it leads where the delta leads.
-/
import Derived.Test.YtkjanpjlpieaoaaDoorQd09
namespace Go.Proofs.YtkjanpjlpieaoaaDoor
open Go.RowKit
set_option linter.unusedVariables false
set_option maxRecDepth 100000

abbrev Ups (C : List Cp) : Prop := C.Pairwise (fun x y => x.k < y.k)
abbrev Upe (L : List En) : Prop := L.Pairwise (fun x y => x.1 < y.1)
theorem insc_cons (a : Cp) (t : List Cp) (c : Cp) : insc (a :: t) c = if a.k < c.k then a :: insc t c else c :: (a :: t).filter (fun q => decide (q.k ≠ c.k)) := by
  unfold insc
  rw [List.takeWhile_cons, List.dropWhile_cons]
  by_cases h : a.k < c.k <;> simp [h]
theorem insc_mem {C : List Cp} (h : Ups C) (c q : Cp) : q ∈ insc C c ↔ q = c ∨ (q ∈ C ∧ q.k ≠ c.k) := by
  induction C with
  | nil => simp [insc]
  | cons a t ih =>
    obtain ⟨h1, h2⟩ := List.pairwise_cons.1 h
    rw [insc_cons]
    split
    · rename_i hl
      rw [List.mem_cons, ih h2, List.mem_cons]
      constructor
      · rintro (rfl | rfl | ⟨x, y⟩)
        · exact .inr ⟨.inl rfl, by omega⟩
        · exact .inl rfl
        · exact .inr ⟨.inr x, y⟩
      · rintro (rfl | ⟨rfl | x, y⟩)
        · exact .inr (.inl rfl)
        · exact .inl rfl
        · exact .inr (.inr ⟨x, y⟩)
    · rw [List.mem_cons, List.mem_filter]
      simp
theorem insc_up {C : List Cp} (h : Ups C) (c : Cp) : Ups (insc C c) := by
  induction C with
  | nil => simp [insc, Ups]
  | cons a t ih =>
    obtain ⟨h1, h2⟩ := List.pairwise_cons.1 h
    rw [insc_cons]
    split
    · rename_i hl
      refine List.pairwise_cons.2 ⟨fun x hx => ?_, ih h2⟩
      rcases (insc_mem h2 c x).1 hx with rfl | ⟨hx, _⟩
      · exact hl
      · exact h1 x hx
    · rename_i hl
      refine List.pairwise_cons.2 ⟨fun x hx => ?_, h.filter _⟩
      obtain ⟨x1, x2⟩ := List.mem_filter.1 hx
      have x2 : x.k ≠ c.k := by simpa using x2
      rcases List.mem_cons.1 x1 with rfl | x1
      · omega
      · have := h1 x x1; omega
def dropK (lost : Nat) : List Nat → List Cp → Option (List Cp)
  | [], l => some l
  | k :: ks, l => if lost / 2 ^ k % 2 = 0 then dropK lost ks l else if hasK l k then dropK lost ks (outk l k) else none
def putNew (C : List Cp) : List Cp → List Cp → Option (List Cp)
  | l, [] => some l
  | l, x :: xs => if hasK C x.k then none else putNew C (insc l x) xs
def putSet : List Cp → List Cp → Option (List Cp)
  | l, [] => some l
  | l, x :: xs => if hasK l x.k then putSet (insc l x) xs else none
/-- what a change makes of components -/
def chgC (C : List Cp) (c : Chg) : Option (List Cp) := (dropK c.lost (List.range 8) C).bind fun l => (putNew C l c.new).bind fun l => putSet l c.set
theorem hasK_iff {l : List Cp} {k : Nat} : hasK l k = true ↔ ∃ q ∈ l, q.k = k := by
  unfold hasK; simp
theorem dropK_to (lost : Nat) (ks : List Nat) : ∀ (l : List Cp), ks.Nodup → Ups l → (∀ k ∈ ks, lost / 2 ^ k % 2 ≠ 0 → hasK l k = true) → ∃ m, dropK lost ks l = some m ∧ Ups m ∧ ∀ q, q ∈ m ↔ q ∈ l ∧ ¬ (q.k ∈ ks ∧ lost / 2 ^ q.k % 2 ≠ 0) := by
  induction ks with
  | nil => exact fun l _ hl _ => ⟨l, rfl, hl, fun q => by simp⟩
  | cons k ks ih =>
    intro l hn hl hk
    obtain ⟨n1, n2⟩ := List.nodup_cons.1 hn
    unfold dropK
    split
    · rename_i h0
      obtain ⟨m, m1, m2, m3⟩ := ih l n2 hl (fun x hx => hk x (List.mem_cons_of_mem _ hx))
      refine ⟨m, m1, m2, fun q => ?_⟩
      rw [m3 q, List.mem_cons]
      constructor
      · rintro ⟨a, b⟩
        refine ⟨a, ?_⟩
        rintro ⟨rfl | c, d⟩
        · exact d h0
        · exact b ⟨c, d⟩
      · rintro ⟨a, b⟩
        exact ⟨a, fun ⟨c, d⟩ => b ⟨.inr c, d⟩⟩
    · rename_i h0
      rw [if_pos (hk k (by simp) h0)]
      have ho : ∀ q, q ∈ outk l k ↔ q ∈ l ∧ q.k ≠ k := fun q => by unfold outk; simp
      obtain ⟨m, m1, m2, m3⟩ := ih (outk l k) n2 (hl.filter _) (fun x hx hb => by
        obtain ⟨q, q1, q2⟩ := hasK_iff.1 (hk x (List.mem_cons_of_mem _ hx) hb)
        exact hasK_iff.2 ⟨q, (ho q).2 ⟨q1, fun e => n1 (by rw [← e, q2]; exact hx)⟩, q2⟩)
      refine ⟨m, m1, m2, fun q => ?_⟩
      rw [m3 q, ho q, List.mem_cons]
      constructor
      · rintro ⟨⟨a, a2⟩, b⟩
        refine ⟨a, ?_⟩
        rintro ⟨c | c, d⟩
        · exact a2 c
        · exact b ⟨c, d⟩
      · rintro ⟨a, b⟩
        exact ⟨⟨a, fun e => b ⟨.inl e, by rw [e]; exact h0⟩⟩, fun ⟨c, d⟩ => b ⟨.inr c, d⟩⟩
theorem putNew_to (C xs : List Cp) : ∀ (l : List Cp), Ups xs → Ups l → (∀ x ∈ xs, hasK C x.k = false) → ∃ m, putNew C l xs = some m ∧ Ups m ∧ ∀ q, q ∈ m ↔ q ∈ xs ∨ (q ∈ l ∧ ∀ x ∈ xs, q.k ≠ x.k) := by
  induction xs with
  | nil => exact fun l _ hl _ => ⟨l, rfl, hl, fun q => by simp⟩
  | cons x xs ih =>
    intro l hx hl hk
    obtain ⟨x1, x2⟩ := List.pairwise_cons.1 hx
    obtain ⟨m, m1, m2, m3⟩ := ih (insc l x) x2 (insc_up hl x) (fun y hy => hk y (List.mem_cons_of_mem _ hy))
    refine ⟨m, by unfold putNew; rw [if_neg (by rw [hk x (by simp)]; simp)]; exact m1, m2, fun q => ?_⟩
    rw [m3 q, insc_mem hl, List.mem_cons]
    constructor
    · rintro (a | ⟨rfl | ⟨a, b⟩, c⟩)
      · exact .inl (.inr a)
      · exact .inl (.inl rfl)
      · refine .inr ⟨a, fun y hy => ?_⟩
        rcases List.mem_cons.1 hy with rfl | hy
        · exact b
        · exact c y hy
    · rintro ((rfl | a) | ⟨a, b⟩)
      · exact .inr ⟨.inl rfl, fun y hy => by have := x1 y hy; omega⟩
      · exact .inl a
      · exact .inr ⟨.inr ⟨a, b x (by simp)⟩, fun y hy => b y (List.mem_cons_of_mem _ hy)⟩
theorem putSet_to (xs : List Cp) : ∀ (l : List Cp), Ups xs → Ups l → (∀ x ∈ xs, hasK l x.k = true) → ∃ m, putSet l xs = some m ∧ Ups m ∧ ∀ q, q ∈ m ↔ q ∈ xs ∨ (q ∈ l ∧ ∀ x ∈ xs, q.k ≠ x.k) := by
  induction xs with
  | nil => exact fun l _ hl _ => ⟨l, rfl, hl, fun q => by simp⟩
  | cons x xs ih =>
    intro l hx hl hk
    obtain ⟨x1, x2⟩ := List.pairwise_cons.1 hx
    obtain ⟨m, m1, m2, m3⟩ := ih (insc l x) x2 (insc_up hl x) (fun y hy => by
      obtain ⟨q, q1, q2⟩ := hasK_iff.1 (hk y (List.mem_cons_of_mem _ hy))
      exact hasK_iff.2 ⟨q, (insc_mem hl x q).2 (.inr ⟨q1, by have := x1 y hy; omega⟩), q2⟩)
    refine ⟨m, by unfold putSet; rw [if_pos (hk x (by simp))]; exact m1, m2, fun q => ?_⟩
    rw [m3 q, insc_mem hl, List.mem_cons]
    constructor
    · rintro (a | ⟨rfl | ⟨a, b⟩, c⟩)
      · exact .inl (.inr a)
      · exact .inl (.inl rfl)
      · refine .inr ⟨a, fun y hy => ?_⟩
        rcases List.mem_cons.1 hy with rfl | hy
        · exact b
        · exact c y hy
    · rintro ((rfl | a) | ⟨a, b⟩)
      · exact .inr ⟨.inl rfl, fun y hy => by have := x1 y hy; omega⟩
      · exact .inl a
      · exact .inr ⟨.inr ⟨a, b x (by simp)⟩, fun y hy => b y (List.mem_cons_of_mem _ hy)⟩
theorem val_bit : ∀ (k : Fin 8) (a b c d e f : Bool), decide (val a b c d e f / 2 ^ k.1 % 2 = 0) = !(decide (k.1 < 6) && nthB a b c d e f k.1) := by decide
theorem lost_bit (A B : List Cp) {k : Nat} (hk : k < 8) : lostm A B / 2 ^ k % 2 ≠ 0 ↔ k < 6 ∧ hasK A k = true ∧ hasK B k = false := by
  have h := val_bit ⟨k, hk⟩ (hasK A 0 && !hasK B 0) (hasK A 1 && !hasK B 1) (hasK A 2 && !hasK B 2) (hasK A 3 && !hasK B 3) (hasK A 4 && !hasK B 4) (hasK A 5 && !hasK B 5)
  rw [← lost_val] at h
  by_cases h6 : k < 6
  · rw [nth_lost A B k h6] at h
    simp only [h6, decide_true, Bool.true_and] at h
    constructor
    · intro hne
      rw [decide_eq_false hne] at h
      simp only [Bool.not_and, Bool.not_not] at h
      refine ⟨h6, ?_, ?_⟩ <;> revert h <;> cases hasK A k <;> cases hasK B k <;> simp
    · rintro ⟨_, a, b⟩ e
      rw [decide_eq_true e, a, b] at h
      simp at h
  · simp only [h6, decide_false, Bool.false_and, Bool.not_false, decide_eq_true_eq] at h
    exact ⟨fun hne => absurd h hne, fun ⟨a, _⟩ => absurd a h6⟩
theorem chgC_to (i j : Nat) {A B : List Cp} (hA : Good A) (hB : Good B) : chgC A (chg1 (i, A) (j, B)) = some B := by
  obtain ⟨m, m1, m2, m3⟩ := dropK_to (lostm A B) (List.range 8) A List.nodup_range hA.1 (fun k hk hb => ((lost_bit A B (List.mem_range.1 hk)).1 hb).2.1)
  have m4 : ∀ q, q ∈ m ↔ q ∈ A ∧ hasK B q.k = true := fun q => by
    rw [m3 q]
    constructor
    · rintro ⟨a, b⟩
      refine ⟨a, ?_⟩
      apply Decidable.byContradiction
      intro hn
      have h6 := hA.2 q a
      exact b ⟨List.mem_range.2 (by omega), (lost_bit A B (by omega)).2 ⟨h6, mem_hasK a, by simpa using hn⟩⟩
    · rintro ⟨a, b⟩
      refine ⟨a, fun ⟨c, d⟩ => ?_⟩
      have := ((lost_bit A B (List.mem_range.1 c)).1 d).2.2
      rw [b] at this
      cases this
  obtain ⟨n, n1, n2, n3⟩ := putNew_to A (B.filter (isNew A)) m (hB.1.filter _) m2 (fun x hx => by
    have := (List.mem_filter.1 hx).2
    unfold isNew at this
    simpa using this)
  obtain ⟨o, o1, o2, o3⟩ := putSet_to (B.filter (isSet A)) n (hB.1.filter _) n2 (fun x hx => by
    obtain ⟨x1, x2⟩ := List.mem_filter.1 hx
    obtain ⟨y, y1, y2⟩ := isSet_iff.1 x2
    obtain ⟨z1, z2⟩ := fst_some y1
    refine hasK_iff.2 ⟨y, (n3 y).2 (.inr ⟨(m4 y).2 ⟨z1, by rw [z2]; exact mem_hasK x1⟩, fun u hu e => ?_⟩), z2⟩
    have hu2 := (List.mem_filter.1 hu).2
    unfold isNew at hu2
    rw [← e, mem_hasK z1] at hu2
    cases hu2)
  have e : o = B := by
    refine up_mem (fun x => x.k) o2 hB.1 (fun q => ?_)
    rw [o3 q, n3 q, m4 q]
    simp only [List.mem_filter]
    constructor
    · rintro (⟨a, _⟩ | ⟨⟨a, _⟩ | ⟨⟨a, b⟩, c⟩, d⟩)
      · exact a
      · exact a
      · obtain ⟨y, hy⟩ := hasK_fst b
        obtain ⟨y1, y2⟩ := fst_some hy
        by_cases e : q = y
        · rw [e]; exact y1
        · refine absurd y2.symm (d y ⟨y1, isSet_iff.2 ⟨q, ?_, e⟩⟩)
          rw [y2]; exact fst_mem hA.1 a
    · intro hq
      by_cases hk : hasK A q.k = true
      · obtain ⟨y, hy⟩ := hasK_fst hk
        obtain ⟨y1, y2⟩ := fst_some hy
        by_cases e : y = q
        · subst e
          refine .inr ⟨.inr ⟨⟨y1, mem_hasK hq⟩, fun x hx e => ?_⟩, fun x hx e => ?_⟩
          · have := hx.2
            unfold isNew at this
            rw [← e, hk] at this
            cases this
          · obtain ⟨u, u1, u2⟩ := isSet_iff.1 hx.2
            have e2 := up_one hB.1 hx.1 hq e.symm
            subst e2
            rw [hy] at u1
            simp only [Option.some.injEq] at u1
            exact u2 u1.symm
        · exact .inl ⟨hq, isSet_iff.2 ⟨y, hy, e⟩⟩
      · refine .inr ⟨.inl ⟨hq, by unfold isNew; simpa using hk⟩, fun x hx e => ?_⟩
        obtain ⟨u, u1, u2⟩ := isSet_iff.1 hx.2
        have := fst_some u1
        exact hk (by rw [e, ← this.2]; exact mem_hasK this.1)
  unfold chgC chg1
  simp only [m1, n1, o1, Option.bind_some, e]
end Go.Proofs.YtkjanpjlpieaoaaDoor

