/-
  Plain facts on the sum of bytes as what is left of a division: no program is named here.
-/
import Derived.Test.YtekdjebehieekabDoorPl
namespace Go.Proofs.YtekdjebehieekabDoor
set_option linter.unusedVariables false

/-- one bit of the division -/
def stp (s : Nat) : Nat := (s / 2) ^^^ (if s % 2 = 1 then 3988292384 else 0)
def stps : Nat → Nat → Nat
  | 0, s => s
  | n + 1, s => stps n (stp s)

theorem half_xor (a b : Nat) : (a ^^^ b) / 2 = (a / 2) ^^^ (b / 2) := by
  have h : (a ^^^ b) >>> 1 = a >>> 1 ^^^ b >>> 1 := Nat.shiftRight_xor_distrib
  simpa [Nat.shiftRight_eq_div_pow] using h
theorem stp_xor (a b : Nat) : stp (a ^^^ b) = stp a ^^^ stp b := by
  unfold stp
  rw [half_xor]
  have h := @Nat.xor_mod_two_eq_one a b
  by_cases ha : a % 2 = 1 <;> by_cases hb : b % 2 = 1
  · rw [if_neg (by rw [h]; simp [ha, hb]), if_pos ha, if_pos hb]
    generalize a / 2 = x; generalize b / 2 = y; generalize (3988292384 : Nat) = p
    rw [Nat.xor_zero, Nat.xor_assoc x p, ← Nat.xor_assoc p y, Nat.xor_comm p y, Nat.xor_assoc y p, Nat.xor_self, Nat.xor_zero]
  · rw [if_pos (by rw [h]; simp [ha, hb]), if_pos ha, if_neg hb]
    generalize a / 2 = x; generalize b / 2 = y; generalize (3988292384 : Nat) = p
    rw [Nat.xor_zero, Nat.xor_assoc, Nat.xor_assoc, Nat.xor_comm p y]
  · rw [if_pos (by rw [h]; simp [ha, hb]), if_neg ha, if_pos hb]
    generalize a / 2 = x; generalize b / 2 = y; generalize (3988292384 : Nat) = p
    rw [Nat.xor_zero, Nat.xor_assoc]
  · rw [if_neg (by rw [h]; simp [ha, hb]), if_neg ha, if_neg hb]
    simp
theorem stps_xor (n a b : Nat) : stps n (a ^^^ b) = stps n a ^^^ stps n b := by
  induction n generalizing a b with
  | zero => rfl
  | succ n ih => rw [stps, stps, stps, stp_xor, ih]
theorem stp_dbl (a : Nat) : stp (2 * a) = a := by
  unfold stp
  rw [if_neg (by omega), Nat.xor_zero]; omega
theorem stps_add (m n s : Nat) : stps (m + n) s = stps n (stps m s) := by
  induction m generalizing s with
  | zero => rw [Nat.zero_add]; rfl
  | succ m ih => rw [Nat.succ_add, stps, stps, ih]
theorem stps_pow (n a : Nat) : stps n (2 ^ n * a) = a := by
  induction n generalizing a with
  | zero => simp [stps]
  | succ n ih => rw [stps, Nat.pow_succ', Nat.mul_assoc, stp_dbl, ih]
theorem xor_lt32 (a b : Nat) (ha : a < 4294967296) (hb : b < 4294967296) : a ^^^ b < 4294967296 := Nat.xor_lt_two_pow (n := 32) ha hb
theorem stp_lt (s : Nat) (h : s < 4294967296) : stp s < 4294967296 := by
  unfold stp
  apply xor_lt32
  · omega
  · split <;> omega
theorem stp_ne (s : Nat) (h : s < 4294967296) (h0 : s ≠ 0) : stp s ≠ 0 := by
  unfold stp
  by_cases c : s % 2 = 1
  · rw [if_pos c]
    intro e
    have e2 : s / 2 = 3988292384 := by
      have e3 := congrArg (fun x => x ^^^ 3988292384) e
      simp only [Nat.xor_assoc, Nat.xor_self, Nat.xor_zero, Nat.zero_xor] at e3
      exact e3
    omega
  · rw [if_neg c, Nat.xor_zero]; omega
theorem stps_lt (n s : Nat) (h : s < 4294967296) : stps n s < 4294967296 := by
  induction n generalizing s with
  | zero => exact h
  | succ n ih => exact ih _ (stp_lt s h)
theorem stps_ne (n s : Nat) (h : s < 4294967296) (h0 : s ≠ 0) : stps n s ≠ 0 := by
  induction n generalizing s with
  | zero => exact h0
  | succ n ih => exact ih _ (stp_lt s h) (stp_ne s h h0)

/-- bits within 32 that follow one another are not divided away -/
theorem stps_burst (m k pat : Nat) (h : pat < 4294967296) (h0 : pat ≠ 0) : stps m (2 ^ k * pat) ≠ 0 := by
  by_cases c : k ≤ m
  · obtain ⟨d, rfl⟩ := Nat.exists_eq_add_of_le c
    rw [stps_add, stps_pow]
    exact stps_ne d pat h h0
  · obtain ⟨d, rfl⟩ := Nat.exists_eq_add_of_le (show m ≤ k by omega)
    rw [Nat.pow_add, Nat.mul_assoc, stps_pow]
    exact Nat.mul_ne_zero (Nat.ne_of_gt (Nat.two_pow_pos d)) h0

theorem xor_add (n a b : Nat) (h : a < 2 ^ n) : a + 2 ^ n * b = a ^^^ (2 ^ n * b) := by
  rw [Nat.add_comm]
  apply Nat.eq_of_testBit_eq
  intro i
  rw [Nat.testBit_two_pow_mul_add _ h, Nat.testBit_xor, Nat.testBit_two_pow_mul]
  by_cases c : i < n
  · rw [if_pos c]; simp [show ¬ n ≤ i by omega]
  · rw [if_neg c, Nat.testBit_lt_two_pow (Nat.lt_of_lt_of_le h (Nat.pow_le_pow_right (by decide) (by omega)))]; simp; omega

/-- what four bits turn -/
def tbl (r : Nat) : Nat := stps 4 r
theorem four (s : Nat) : (s / 16) ^^^ tbl (s % 16) = stps 4 s := by
  have e : s = (s % 16) ^^^ (2 ^ 4 * (s / 16)) := by
    rw [← xor_add 4 (s % 16) (s / 16) (by omega)]; omega
  have e2 : stps 4 s = stps 4 ((s % 16) ^^^ (2 ^ 4 * (s / 16))) := congrArg _ e
  rw [e2, stps_xor, stps_pow, Nat.xor_comm]; rfl
theorem tbl_lt (r : Nat) (h : r < 16) : tbl r < 4294967296 := stps_lt 4 r (by omega)

/-- the bytes' own number: each byte eight bits, the first the lowest -/
def bnum : List Nat → Nat
  | [] => 0
  | b :: l => b + 256 * bnum l
/-- the sum's inner state behind bytes, begun at c -/
def feed : Nat → List Nat → Nat
  | c, [] => c
  | c, b :: l => feed (stps 8 (c ^^^ b)) l
theorem feed_eq (c : Nat) (l : List Nat) (hl : ∀ b ∈ l, b < 256) : feed c l = stps (8 * l.length) (c ^^^ bnum l) := by
  induction l generalizing c with
  | nil => simp [feed, bnum, stps]
  | cons b l ih =>
    have hb := hl b (by simp)
    rw [feed, ih _ (fun x hx => hl x (by simp [hx])), bnum, List.length_cons, show 8 * (l.length + 1) = 8 + 8 * l.length by omega, stps_add]
    congr 1
    have e : b + 256 * bnum l = b ^^^ (2 ^ 8 * bnum l) := xor_add 8 b (bnum l) (by omega)
    rw [e, ← Nat.xor_assoc, stps_xor 8 (c ^^^ b), stps_pow]
theorem feed_snoc (c : Nat) (l : List Nat) (b : Nat) : feed c (l ++ [b]) = stps 8 (feed c l ^^^ b) := by
  induction l generalizing c with
  | nil => rfl
  | cons x l ih => exact ih _
theorem feed_lt (c : Nat) (l : List Nat) (hc : c < 4294967296) (hl : ∀ b ∈ l, b < 256) : feed c l < 4294967296 := by
  induction l generalizing c with
  | nil => exact hc
  | cons b l ih =>
    have := hl b (by simp)
    exact ih _ (stps_lt 8 _ (xor_lt32 c b hc (by omega))) (fun x hx => hl x (by simp [hx]))

/-- the sum of bytes -/
def crc (l : List Nat) : Nat := 4294967295 - feed 4294967295 l
theorem crc_lt (l : List Nat) : crc l < 4294967296 := by unfold crc; omega

theorem bnum_lt (l : List Nat) (hl : ∀ b ∈ l, b < 256) : bnum l < 2 ^ (8 * l.length) := by
  induction l with
  | nil => simp [bnum]
  | cons b l ih =>
    have hb := hl b (by simp)
    have := ih (fun x hx => hl x (by simp [hx]))
    rw [bnum, List.length_cons, show 8 * (l.length + 1) = 8 + 8 * l.length by omega, Nat.pow_add]
    have e : (2 : Nat) ^ 8 = 256 := rfl
    rw [e]; omega
theorem bnum_append (l m : List Nat) : bnum (l ++ m) = bnum l + 2 ^ (8 * l.length) * bnum m := by
  induction l with
  | nil => simp [bnum]
  | cons b l ih =>
    rw [List.cons_append, bnum, bnum, ih, List.length_cons, show 8 * (l.length + 1) = 8 + 8 * l.length by omega, Nat.pow_add, Nat.mul_add, ← Nat.mul_assoc, Nat.add_assoc]

theorem xor_cancel (a b c : Nat) (h : a ^^^ b = a ^^^ c) : b = c := by
  have := congrArg (fun x => a ^^^ x) h
  simpa [← Nat.xor_assoc] using this

/-- two rows of bytes, of one length, apart by a burst: their sums are apart -/
theorem crc_apart (l m : List Nat) (hl : ∀ b ∈ l, b < 256) (hm : ∀ b ∈ m, b < 256) (hlen : l.length = m.length) (k pat : Nat) (hp : pat < 4294967296) (h0 : pat ≠ 0)
    (h : bnum m = bnum l ^^^ (2 ^ k * pat)) : crc m ≠ crc l := by
  intro e
  have h1 := feed_lt 4294967295 l (by decide) hl
  have h2 := feed_lt 4294967295 m (by decide) hm
  have e2 : feed 4294967295 m = feed 4294967295 l := by unfold crc at e; omega
  rw [feed_eq _ _ hl, feed_eq _ _ hm, h, ← hlen, ← Nat.xor_assoc, stps_xor _ (4294967295 ^^^ bnum l)] at e2
  have e3 : stps (8 * l.length) (2 ^ k * pat) = 0 := by
    apply xor_cancel (stps (8 * l.length) (4294967295 ^^^ bnum l))
    rw [e2, Nat.xor_zero]
  exact stps_burst _ k pat hp h0 e3

theorem ones_sub (a : Nat) (ha : a < 4294967296) : 4294967295 - a = a ^^^ 4294967295 := by
  have h := BitVec.toNat_xor (BitVec.ofNat 32 a) (BitVec.allOnes 32)
  rw [BitVec.xor_allOnes, BitVec.toNat_not, BitVec.toNat_allOnes, BitVec.toNat_ofNat, Nat.mod_eq_of_lt ha] at h
  exact h

/-- a body with its sum behind, apart by a burst from bytes: these are no body with its sum behind -/
theorem seal_apart (l m : List Nat) (s t : Nat) (hl : ∀ b ∈ l, b < 256) (hm : ∀ b ∈ m, b < 256) (hlen : l.length = m.length) (k pat : Nat) (hp : pat < 4294967296) (h0 : pat ≠ 0)
    (hs : s = crc l) (ht : t < 4294967296)
    (h : bnum m + 2 ^ (8 * m.length) * t = (bnum l + 2 ^ (8 * l.length) * s) ^^^ (2 ^ k * pat)) : t ≠ crc m := by
  intro e
  have h1 := feed_lt 4294967295 l (by decide) hl
  have h2 := feed_lt 4294967295 m (by decide) hm
  rw [xor_add _ _ _ (bnum_lt m hm), xor_add _ _ _ (bnum_lt l hl), ← hlen] at h
  have h' := congrArg (fun x => stps (8 * l.length) (4294967295 ^^^ x)) h
  simp only [stps_xor, stps_pow] at h'
  rw [← Nat.xor_assoc, ← Nat.xor_assoc, ← Nat.xor_assoc, ← stps_xor, ← stps_xor, ← feed_eq _ _ hl, hlen, ← feed_eq _ _ hm, ← hlen, e, hs, crc, crc, ones_sub _ h1, ones_sub _ h2, ← Nat.xor_assoc, ← Nat.xor_assoc, Nat.xor_self, Nat.xor_self] at h'
  have e3 : stps (8 * l.length) (2 ^ k * pat) = 0 := by
    apply xor_cancel (0 ^^^ 4294967295)
    rw [← h', Nat.xor_zero]
  exact stps_burst _ k pat hp h0 e3

end Go.Proofs.YtekdjebehieekabDoor
