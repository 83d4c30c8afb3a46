/-
  Turned bits of bytes, as numbers: no program is named here.
-/
import Derived.Test.YtekdjebehieekabDoorCa
namespace Go.Proofs.YtekdjebehieekabDoor
set_option linter.unusedVariables false

theorem mul_xor (n a b : Nat) : 2 ^ n * (a ^^^ b) = (2 ^ n * a) ^^^ (2 ^ n * b) := by
  have h : (a ^^^ b) <<< n = a <<< n ^^^ b <<< n := Nat.shiftLeft_xor_distrib
  simpa [Nat.shiftLeft_eq, Nat.mul_comm] using h
theorem xor_lt8 (a k : Nat) (ha : a < 256) (hk : k < 8) : a ^^^ 2 ^ k < 256 :=
  Nat.xor_lt_two_pow (n := 8) ha (Nat.pow_lt_pow_right (by decide) hk)
/-- one bit turned -/
def flip (l : List Nat) (k : Nat) : List Nat := l.set (k / 8) ((l[k / 8]?.getD 0) ^^^ 2 ^ (k % 8))
theorem length_flip (l : List Nat) (k : Nat) : (flip l k).length = l.length := by unfold flip; rw [List.length_set]
theorem flip_byte (l : List Nat) (k : Nat) (hl : ∀ b ∈ l, b < 256) (hk : k < 8 * l.length) : ∀ b ∈ flip l k, b < 256 := by
  intro b hb
  have hi : k / 8 < l.length := by omega
  rcases List.mem_or_eq_of_mem_set hb with hb | hb
  · exact hl b hb
  · rw [hb, List.getElem?_eq_getElem hi]
    exact xor_lt8 _ _ (hl _ (List.getElem_mem _)) (by omega)
theorem bnum_flip (l : List Nat) (k : Nat) (hl : ∀ b ∈ l, b < 256) (hk : k < 8 * l.length) : bnum (flip l k) = bnum l ^^^ 2 ^ k := by
  induction l generalizing k with
  | nil => simp at hk
  | cons b l ih =>
    have hb := hl b (by simp)
    by_cases c : k < 8
    · have e0 : k / 8 = 0 := by omega
      have e1 : k % 8 = k := by omega
      unfold flip
      rw [e0, e1, List.set_cons_zero, bnum, bnum]
      have h1 := xor_add 8 (b ^^^ 2 ^ k) (bnum l) (xor_lt8 b k hb c)
      have h2 := xor_add 8 b (bnum l) hb
      have e : (2 : Nat) ^ 8 = 256 := rfl
      rw [e] at h1 h2
      show (b ^^^ 2 ^ k) + 256 * bnum l = _
      rw [h1, h2, Nat.xor_assoc, Nat.xor_assoc, Nat.xor_comm (2 ^ k)]
    · obtain ⟨j, rfl⟩ := Nat.exists_eq_add_of_le (show 8 ≤ k by omega)
      have hk' : j < 8 * l.length := by rw [List.length_cons] at hk; omega
      have e0 : (8 + j) / 8 = j / 8 + 1 := by omega
      have e1 : (8 + j) % 8 = j % 8 := by omega
      have ih' := ih j (fun x hx => hl x (by simp [hx])) hk'
      have e2 : flip (b :: l) (8 + j) = b :: flip l j := by
        unfold flip
        rw [e0, e1, List.set_cons_succ, List.getElem?_cons_succ]
      rw [e2, bnum, bnum, ih']
      have h1 := xor_add 8 b (bnum l ^^^ 2 ^ j) hb
      have h2 := xor_add 8 b (bnum l) hb
      rw [mul_xor 8 (bnum l) (2 ^ j), ← Nat.pow_add] at h1
      have e : (2 : Nat) ^ 8 = 256 := rfl
      rw [← e, Nat.mul_comm (2 ^ 8) (bnum l ^^^ 2 ^ j), Nat.mul_comm (bnum l ^^^ 2 ^ j), mul_xor 8 (bnum l) (2 ^ j), ← Nat.pow_add, h1, h2, Nat.xor_assoc]

/-- the bits of a pattern, from a bit on, that lie within n bits, as far as i of them -/
def pats (pat at' n i : Nat) : Nat := pat % 2 ^ (min i (n - at'))
theorem pats_zero (pat a n : Nat) : pats pat a n 0 = 0 := by unfold pats; rw [Nat.zero_min, Nat.pow_zero, Nat.mod_one]
theorem pats_out (pat a n i : Nat) (h : n ≤ a + i) : pats pat a n (i + 1) = pats pat a n i := by
  unfold pats; rw [show min (i + 1) (n - a) = min i (n - a) by omega]
theorem pats_off (pat a n i : Nat) (h : pat / 2 ^ i % 2 = 0) : pats pat a n (i + 1) = pats pat a n i := by
  by_cases c : n ≤ a + i
  · exact pats_out pat a n i c
  · unfold pats
    rw [show min (i + 1) (n - a) = i + 1 by omega, show min i (n - a) = i by omega, Nat.pow_succ, Nat.mod_mul, h, Nat.mul_zero, Nat.add_zero]
theorem pats_on (pat a n i : Nat) (h : pat / 2 ^ i % 2 = 1) (hn : a + i < n) : 2 ^ a * pats pat a n (i + 1) = (2 ^ a * pats pat a n i) ^^^ 2 ^ (a + i) := by
  unfold pats
  rw [show min (i + 1) (n - a) = i + 1 by omega, show min i (n - a) = i by omega, Nat.pow_succ, Nat.mod_mul, h]
  rw [xor_add i _ 1 (Nat.mod_lt _ (Nat.two_pow_pos i)), mul_xor, Nat.mul_one, ← Nat.pow_add]
theorem pats_lt (pat a n : Nat) : pats pat a n 32 < 4294967296 := by
  unfold pats
  have h1 : pat % 2 ^ (min 32 (n - a)) < 2 ^ (min 32 (n - a)) := Nat.mod_lt _ (Nat.two_pow_pos _)
  have h2 : 2 ^ (min 32 (n - a)) ≤ 2 ^ 32 := Nat.pow_le_pow_right (by decide) (by omega)
  omega
theorem pats_odd (pat a n : Nat) (h : pat % 2 = 1) (hn : a < n) : pats pat a n 32 ≠ 0 := by
  unfold pats
  obtain ⟨k, hk⟩ : ∃ k, min 32 (n - a) = k + 1 := ⟨min 32 (n - a) - 1, by omega⟩
  rw [hk, Nat.pow_succ, Nat.mul_comm, Nat.mod_mul, h]
  omega
end Go.Proofs.YtekdjebehieekabDoor
