/-
  Things by rising ticks put into a ring, as plain lists.
-/
import Derived.Test.YtficpeghmkbdpaaYsb
namespace Go.Proofs.Ytficpeghmkbdpaa
open Go.RowKit
set_option linter.unusedVariables false

section
variable {α : Type}
theorem pw_inj {L : List (Nat × α)} (h : L.Pairwise (fun a b => a.1 < b.1)) {i j : Nat} {a b : Nat × α} (ha : L[i]? = some a) (hb : L[j]? = some b) (e : a.1 = b.1) : i = j := by
  rcases Nat.lt_trichotomy i j with c | c | c
  · have := List.pairwise_iff_getElem.1 h i j (List.getElem?_eq_some_iff.1 ha).1 (List.getElem?_eq_some_iff.1 hb).1 c
    rw [(List.getElem?_eq_some_iff.1 ha).2, (List.getElem?_eq_some_iff.1 hb).2] at this; omega
  · exact c
  · have := List.pairwise_iff_getElem.1 h j i (List.getElem?_eq_some_iff.1 hb).1 (List.getElem?_eq_some_iff.1 ha).1 c
    rw [(List.getElem?_eq_some_iff.1 ha).2, (List.getElem?_eq_some_iff.1 hb).2] at this; omega
theorem rget_mem {L : List (Nat × α)} (h : L.Pairwise (fun a b => a.1 < b.1)) (e : Nat × α) (he : e ∈ L) : rget L e.1 = some e.2 := by
  obtain ⟨i, hi⟩ := List.getElem?_of_mem he
  have hil := (List.getElem?_eq_some_iff.1 hi).1
  have hb : below e.1 L = i := by
    rcases Nat.lt_trichotomy (below e.1 L) i with c | c | c
    · obtain ⟨x, hx⟩ : ∃ x, L[below e.1 L]? = some x := ⟨_, List.getElem?_eq_getElem (by omega)⟩
      have h1 := below_at e.1 L x hx
      have h2 := List.pairwise_iff_getElem.1 h _ i (List.getElem?_eq_some_iff.1 hx).1 hil c
      rw [(List.getElem?_eq_some_iff.1 hx).2, (List.getElem?_eq_some_iff.1 hi).2] at h2; omega
    · exact c
    · have := below_lt e.1 L i e c hi; omega
  unfold rget
  rw [hb, hi]
  exact if_pos rfl
theorem rget_none {L : List (Nat × α)} (t : Nat) (h : ∀ e ∈ L, e.1 ≠ t) : rget L t = none := by
  unfold rget
  cases hx : L[below t L]? with
  | none => rfl
  | some e => exact if_neg (h e (List.mem_of_getElem? hx))
end

/-- the tick behind k steps -/
def tv (S : List Nat) (k : Nat) : Nat := ((S.take k).map (· + 1)).sum
theorem tv_succ (S : List Nat) (k s : Nat) (h : S[k]? = some s) : tv S (k + 1) = tv S k + (1 + s) := by
  unfold tv
  rw [List.take_add_one, h]
  simp
  omega
theorem tv_mono (S : List Nat) (i j : Nat) (hij : i < j) (hj : j ≤ S.length) : tv S i < tv S j := by
  induction j with
  | zero => omega
  | succ j ih =>
    obtain ⟨s, hs⟩ : ∃ s, S[j]? = some s := ⟨_, List.getElem?_eq_getElem (by omega)⟩
    rw [tv_succ S j s hs]
    by_cases c : i = j
    · subst c; omega
    · have := ih (by omega) (by omega); omega
theorem tv_le (S : List Nat) (hS : ∀ s ∈ S, s < 256) (k : Nat) (hk : k ≤ S.length) : tv S k ≤ 256 * k := by
  induction k with
  | zero => simp [tv]
  | succ k ih =>
    obtain ⟨s, hs⟩ : ∃ s, S[k]? = some s := ⟨_, List.getElem?_eq_getElem (by omega)⟩
    have := hS s (List.mem_of_getElem? hs)
    have := ih (by omega)
    rw [tv_succ S k s hs]; omega
/-- all that was put by then -/
def pall (S : List Nat) (m : Nat) : List (Nat × Int) := (List.range m).map (fun i => (tv S (i + 1), (i : Int)))
def held (S : List Nat) (n m : Nat) : List (Nat × Int) := (pall S m).drop (m - n)
theorem pall_len (S : List Nat) (m : Nat) : (pall S m).length = m := by simp [pall]
theorem pall_succ (S : List Nat) (m : Nat) : pall S (m + 1) = pall S m ++ [(tv S (m + 1), (m : Int))] := by simp [pall, List.range_succ]
theorem held_len (S : List Nat) (n m : Nat) : (held S n m).length = min n m := by rw [held, List.length_drop, pall_len]; omega
theorem held_mem (S : List Nat) (n m : Nat) (e : Nat × Int) : e ∈ held S n m ↔ ∃ i, m - n ≤ i ∧ i < m ∧ e = (tv S (i + 1), (i : Int)) := by
  unfold held
  constructor
  · intro h
    obtain ⟨j, hj⟩ := List.getElem?_of_mem h
    rw [List.getElem?_drop] at hj
    have hlt := (List.getElem?_eq_some_iff.1 hj).1
    rw [pall_len] at hlt
    refine ⟨m - n + j, by omega, hlt, ?_⟩
    rw [pall, List.getElem?_map, List.getElem?_range hlt] at hj
    simpa using hj.symm
  · rintro ⟨i, h1, h2, rfl⟩
    apply List.mem_of_getElem? (i := i - (m - n))
    rw [List.getElem?_drop, pall, List.getElem?_map, show m - n + (i - (m - n)) = i by omega, List.getElem?_range h2]; rfl
theorem held_put (S : List Nat) (n m : Nat) (h1 : 1 ≤ n) (hm : m < S.length) : rput n (held S n m) (tv S (m + 1)) (m : Int) = (0, held S n (m + 1)) := by
  have hno : ¬ ∃ e, (held S n m).getLast? = some e ∧ tv S (m + 1) ≤ e.1 := by
    rintro ⟨e, he, hle⟩
    obtain ⟨i, _, hi, rfl⟩ := (held_mem S n m e).1 (List.mem_of_getLast? he)
    have := tv_mono S (i + 1) (m + 1) (by omega) (by omega)
    simp only at hle; omega
  unfold rput
  rw [if_neg hno, held_len]
  have key : held S n m ++ [(tv S (m + 1), (m : Int))] = (pall S (m + 1)).drop (m - n) := by
    rw [pall_succ, List.drop_append_of_le_length (by rw [pall_len]; omega)]; rfl
  rw [key]
  by_cases c : n < min n m + 1
  · rw [if_pos c, List.drop_drop]; unfold held; rw [show m - n + 1 = m + 1 - n by omega]
  · rw [if_neg c]; unfold held; rw [show m - n = m + 1 - n by omega]
theorem held_ok (S : List Nat) (hS : ∀ s ∈ S, s < 256) (n m : Nat) (h1 : 1 ≤ n) (h2 : n ≤ 64) (hm : m ≤ S.length) (h3 : m ≤ 300) : ROk n (held S n m) := by
  refine ⟨h1, h2, by rw [held_len]; omega, ?_, ?_⟩
  · unfold held
    refine List.Pairwise.sublist (List.drop_sublist _ _) ?_
    unfold pall
    rw [List.pairwise_map]
    refine List.Pairwise.imp_of_mem ?_ List.pairwise_lt_range
    intro a b ha hb hab
    have hb' : b < m := by simpa using hb
    exact tv_mono S (a + 1) (b + 1) (by omega) (by omega)
  · intro e he
    obtain ⟨i, _, hi, rfl⟩ := (held_mem S n m e).1 he
    have := tv_le S hS (i + 1) (by omega)
    show tv S (i + 1) < _; omega
theorem held_get (S : List Nat) (hS : ∀ s ∈ S, s < 256) (n m i : Nat) (h1 : 1 ≤ n) (h2 : n ≤ 64) (hm : m ≤ S.length) (h3 : m ≤ 300) (hi : i < m) : rget (held S n m) (tv S (i + 1)) = if m - n ≤ i then some (i : Int) else none := by
  have hok := held_ok S hS n m h1 h2 hm h3
  by_cases c : m - n ≤ i
  · rw [if_pos c]
    exact rget_mem hok.inc (tv S (i + 1), (i : Int)) ((held_mem S n m _).2 ⟨i, c, hi, rfl⟩)
  · rw [if_neg c]
    apply rget_none
    intro e he
    obtain ⟨j, h4, h5, rfl⟩ := (held_mem S n m e).1 he
    have := tv_mono S (i + 1) (j + 1) (by omega) (by omega)
    show tv S (j + 1) ≠ _; omega
end Go.Proofs.Ytficpeghmkbdpaa
