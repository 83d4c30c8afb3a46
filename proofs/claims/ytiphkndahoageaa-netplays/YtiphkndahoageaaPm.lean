/-
  Plain facts on bytes read as bits: no program is named here.
-/
import Derived.Test.YtiphkndahoageaaPl
namespace Go.Proofs.Ytiphkndahoageaa

def bitsB (P : List Nat) : List Bool := P.flatMap (bitsN 8)

theorem length_bitsB (P : List Nat) : (bitsB P).length = 8 * P.length := by
  induction P with
  | nil => rfl
  | cons p P ih => rw [bitsB, List.flatMap_cons, List.length_append, length_bitsN]; rw [bitsB] at ih; rw [ih, List.length_cons]; omega
theorem getElem?_bitsN (n v i : Nat) : (bitsN n v)[i]? = if i < n then some (v / 2 ^ i % 2 == 1) else none := by
  induction n generalizing v i with
  | zero => simp [bitsN]
  | succ n ih =>
    rw [bitsN]
    cases i with
    | zero => simp
    | succ i => rw [List.getElem?_cons_succ, ih, Nat.div_div_eq_div_mul, ← Nat.pow_succ']; simp
theorem getElem?_bitsB (P : List Nat) (i : Nat) : (bitsB P)[i]? = (P[i / 8]?).map (fun (x : Nat) => (x / 2 ^ (i % 8) % 2 == 1)) := by
  induction P generalizing i with
  | nil => simp [bitsB]
  | cons p P ih =>
    rw [bitsB, List.flatMap_cons]
    by_cases h : i < 8
    · rw [List.getElem?_append_left (by rw [length_bitsN]; exact h), getElem?_bitsN, if_pos h]
      have h0 : i / 8 = 0 := by omega
      have h1 : i % 8 = i := by omega
      rw [h0, h1]; rfl
    · rw [List.getElem?_append_right (by rw [length_bitsN]; omega), length_bitsN]
      have := ih (i - 8)
      rw [bitsB] at this
      rw [this]
      have h0 : i / 8 = (i - 8) / 8 + 1 := by omega
      have h1 : i % 8 = (i - 8) % 8 := by omega
      rw [h0, h1, List.getElem?_cons_succ]

/-- the number of the n bits from place at on -/
def numAt (P : List Nat) (a n : Nat) : Nat := num (((bitsB P).drop a).take n)
theorem numAt_lt (P : List Nat) (a n : Nat) : numAt P a n < 2 ^ n := by
  have h := num_lt (((bitsB P).drop a).take n)
  have h2 : (((bitsB P).drop a).take n).length ≤ n := List.length_take_le _ _
  exact Nat.lt_of_lt_of_le h (Nat.pow_le_pow_right (by decide) h2)
theorem numAt_zero (P : List Nat) (a : Nat) : numAt P a 0 = 0 := by simp [numAt, num]
theorem numAt_succ (P : List Nat) (a k x : Nat) (h : P[(a + k) / 8]? = some x) : numAt P a (k + 1) = numAt P a k + (x / 2 ^ ((a + k) % 8) % 2) * 2 ^ k := by
  unfold numAt
  have hx : ((bitsB P).drop a)[k]? = some (x / 2 ^ ((a + k) % 8) % 2 == 1) := by rw [List.getElem?_drop, getElem?_bitsB, h]; rfl
  have hlt : k < ((bitsB P).drop a).length := by
    rcases Nat.lt_or_ge k ((bitsB P).drop a).length with hh | hh
    · exact hh
    · rw [List.getElem?_eq_none hh] at hx; cases hx
  rw [List.take_add_one, hx, num_append, List.length_take, Nat.min_eq_left (by omega)]
  simp only [Option.toList_some, num, Nat.mul_zero, Nat.add_zero]
  have hc : x / 2 ^ ((a + k) % 8) % 2 = 0 ∨ x / 2 ^ ((a + k) % 8) % 2 = 1 := by omega
  rcases hc with hc | hc <;> rw [hc] <;> simp

theorem oct (b0 b1 b2 b3 b4 b5 b6 b7 : Nat) (h0 : b0 ≤ 1) (h1 : b1 ≤ 1) (h2 : b2 ≤ 1) (h3 : b3 ≤ 1) (h4 : b4 ≤ 1) (h5 : b5 ≤ 1) (h6 : b6 ≤ 1) (h7 : b7 ≤ 1) (s : Nat)
    (e : s = b0 + 2 * b1 + 4 * b2 + 8 * b3 + 16 * b4 + 32 * b5 + 64 * b6 + 128 * b7) :
    s % 2 = b0 ∧ s / 2 % 2 = b1 ∧ s / 4 % 2 = b2 ∧ s / 8 % 2 = b3 ∧ s / 16 % 2 = b4 ∧ s / 32 % 2 = b5 ∧ s / 64 % 2 = b6 ∧ s / 128 % 2 = b7 := by
  have e1 : s / 2 = b1 + 2 * b2 + 4 * b3 + 8 * b4 + 16 * b5 + 32 * b6 + 64 * b7 := by omega
  have e2 : s / 4 = b2 + 2 * b3 + 4 * b4 + 8 * b5 + 16 * b6 + 32 * b7 := by omega
  have e3 : s / 8 = b3 + 2 * b4 + 4 * b5 + 8 * b6 + 16 * b7 := by omega
  have e4 : s / 16 = b4 + 2 * b5 + 4 * b6 + 8 * b7 := by omega
  have e5 : s / 32 = b5 + 2 * b6 + 4 * b7 := by omega
  have e6 : s / 64 = b6 + 2 * b7 := by omega
  have e7 : s / 128 = b7 := by omega
  rw [e1, e2, e3, e4, e5, e6, e7]
  refine ⟨by omega, by omega, by omega, by omega, by omega, by omega, by omega, by omega⟩

/-- bits, packed into bytes and read again: the bits, and noughts behind them -/
theorem bitsB_pack (L : List Bool) : bitsB (pack L) = L ++ List.replicate (8 * nb L.length - L.length) false := by
  apply List.ext_getElem?
  intro i
  rw [getElem?_bitsB, getElem?_pack]
  by_cases h : i / 8 < nb L.length
  · rw [if_pos h, Option.map_some]
    have key : byteAt L (i / 8) / 2 ^ (i % 8) % 2 = bt L i := by
      have e : i = 8 * (i / 8) + i % 8 := by omega
      have hm : i % 8 < 8 := Nat.mod_lt _ (by decide)
      generalize i / 8 = q at *
      generalize i % 8 = r at *
      subst e
      obtain ⟨o0, o1, o2, o3, o4, o5, o6, o7⟩ := oct _ _ _ _ _ _ _ _ (bt_le L (8 * q)) (bt_le L (8 * q + 1)) (bt_le L (8 * q + 2)) (bt_le L (8 * q + 3)) (bt_le L (8 * q + 4)) (bt_le L (8 * q + 5)) (bt_le L (8 * q + 6)) (bt_le L (8 * q + 7)) (byteAt L q) rfl
      have c : r = 0 ∨ r = 1 ∨ r = 2 ∨ r = 3 ∨ r = 4 ∨ r = 5 ∨ r = 6 ∨ r = 7 := by omega
      rcases c with rfl | rfl | rfl | rfl | rfl | rfl | rfl | rfl
      · simpa using o0
      · simpa using o1
      · simpa using o2
      · simpa using o3
      · simpa using o4
      · simpa using o5
      · simpa using o6
      · simpa using o7
    rw [key]
    unfold bt
    by_cases hl : i < L.length
    · rw [List.getElem?_append_left hl, List.getElem?_eq_getElem hl]
      simp only [Option.getD_some]
      cases L[i] <;> rfl
    · rw [List.getElem?_eq_none (by omega), List.getElem?_append_right (by omega), List.getElem?_replicate]
      unfold nb at *
      rw [if_pos (by omega)]; rfl
  · rw [if_neg h, Option.map_none, List.getElem?_eq_none]
    rw [List.length_append, List.length_replicate]
    unfold nb at *; omega

end Go.Proofs.Ytiphkndahoageaa

