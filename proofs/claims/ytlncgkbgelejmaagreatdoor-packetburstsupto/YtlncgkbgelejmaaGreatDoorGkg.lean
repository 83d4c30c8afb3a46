/-
  Plain facts on the sum of bytes as what is left of a division: no program is named here.
-/
import Derived.Test.YtlncgkbgelejmaaGreatDoorPl
import Derived.Test.YtlncgkbgelejmaaGreatDoorRf
import Derived.Lib.SlBytesConst
import Derived.Lib.AppendZerosOnto
namespace Go.Proofs.YtlncgkbgelejmaaGreatDoor
set_option linter.unusedVariables false
set_option maxRecDepth 100000

/-- one bit of the division -/
def stp (s : Nat) : Nat := (s / 2) ^^^ (if s % 2 = 1 then 3988292384 else 0)
def stps : Nat → Nat → Nat
  | 0, s => s
  | n + 1, s => stps n (stp s)

theorem half_xor (a b : Nat) : (a ^^^ b) / 2 = (a / 2) ^^^ (b / 2) := by
  have h : (a ^^^ b) >>> 1 = a >>> 1 ^^^ b >>> 1 := Nat.shiftRight_xor_distrib
  simpa [Nat.shiftRight_eq_div_pow] using h
theorem stp_xor (a b : Nat) : stp (a ^^^ b) = stp a ^^^ stp b := by
  unfold stp
  rw [half_xor]
  have h := @Nat.xor_mod_two_eq_one a b
  by_cases ha : a % 2 = 1 <;> by_cases hb : b % 2 = 1
  · rw [if_neg (by rw [h]; simp [ha, hb]), if_pos ha, if_pos hb]
    generalize a / 2 = x; generalize b / 2 = y; generalize (3988292384 : Nat) = p
    rw [Nat.xor_zero, Nat.xor_assoc x p, ← Nat.xor_assoc p y, Nat.xor_comm p y, Nat.xor_assoc y p, Nat.xor_self, Nat.xor_zero]
  · rw [if_pos (by rw [h]; simp [ha, hb]), if_pos ha, if_neg hb]
    generalize a / 2 = x; generalize b / 2 = y; generalize (3988292384 : Nat) = p
    rw [Nat.xor_zero, Nat.xor_assoc, Nat.xor_assoc, Nat.xor_comm p y]
  · rw [if_pos (by rw [h]; simp [ha, hb]), if_neg ha, if_pos hb]
    generalize a / 2 = x; generalize b / 2 = y; generalize (3988292384 : Nat) = p
    rw [Nat.xor_zero, Nat.xor_assoc]
  · rw [if_neg (by rw [h]; simp [ha, hb]), if_neg ha, if_neg hb]
    simp
theorem stps_xor (n a b : Nat) : stps n (a ^^^ b) = stps n a ^^^ stps n b := by
  induction n generalizing a b with
  | zero => rfl
  | succ n ih => rw [stps, stps, stps, stp_xor, ih]
theorem stp_dbl (a : Nat) : stp (2 * a) = a := by
  unfold stp
  rw [if_neg (by omega), Nat.xor_zero]; omega
theorem stps_add (m n s : Nat) : stps (m + n) s = stps n (stps m s) := by
  induction m generalizing s with
  | zero => rw [Nat.zero_add]; rfl
  | succ m ih => rw [Nat.succ_add, stps, stps, ih]
theorem stps_pow (n a : Nat) : stps n (2 ^ n * a) = a := by
  induction n generalizing a with
  | zero => simp [stps]
  | succ n ih => rw [stps, Nat.pow_succ', Nat.mul_assoc, stp_dbl, ih]
theorem xor_lt32 (a b : Nat) (ha : a < 4294967296) (hb : b < 4294967296) : a ^^^ b < 4294967296 := Nat.xor_lt_two_pow (n := 32) ha hb
theorem stp_lt (s : Nat) (h : s < 4294967296) : stp s < 4294967296 := by
  unfold stp
  apply xor_lt32
  · omega
  · split <;> omega
theorem stp_ne (s : Nat) (h : s < 4294967296) (h0 : s ≠ 0) : stp s ≠ 0 := by
  unfold stp
  by_cases c : s % 2 = 1
  · rw [if_pos c]
    intro e
    have e2 : s / 2 = 3988292384 := by
      have e3 := congrArg (fun x => x ^^^ 3988292384) e
      simp only [Nat.xor_assoc, Nat.xor_self, Nat.xor_zero, Nat.zero_xor] at e3
      exact e3
    omega
  · rw [if_neg c, Nat.xor_zero]; omega
theorem stps_lt (n s : Nat) (h : s < 4294967296) : stps n s < 4294967296 := by
  induction n generalizing s with
  | zero => exact h
  | succ n ih => exact ih _ (stp_lt s h)
theorem stps_ne (n s : Nat) (h : s < 4294967296) (h0 : s ≠ 0) : stps n s ≠ 0 := by
  induction n generalizing s with
  | zero => exact h0
  | succ n ih => exact ih _ (stp_lt s h) (stp_ne s h h0)

/-- bits within 32 that follow one another are not divided away -/
theorem stps_burst (m k pat : Nat) (h : pat < 4294967296) (h0 : pat ≠ 0) : stps m (2 ^ k * pat) ≠ 0 := by
  by_cases c : k ≤ m
  · obtain ⟨d, rfl⟩ := Nat.exists_eq_add_of_le c
    rw [stps_add, stps_pow]
    exact stps_ne d pat h h0
  · obtain ⟨d, rfl⟩ := Nat.exists_eq_add_of_le (show m ≤ k by omega)
    rw [Nat.pow_add, Nat.mul_assoc, stps_pow]
    exact Nat.mul_ne_zero (Nat.ne_of_gt (Nat.two_pow_pos d)) h0

theorem xor_add (n a b : Nat) (h : a < 2 ^ n) : a + 2 ^ n * b = a ^^^ (2 ^ n * b) := by
  rw [Nat.add_comm]
  apply Nat.eq_of_testBit_eq
  intro i
  rw [Nat.testBit_two_pow_mul_add _ h, Nat.testBit_xor, Nat.testBit_two_pow_mul]
  by_cases c : i < n
  · rw [if_pos c]; simp [show ¬ n ≤ i by omega]
  · rw [if_neg c, Nat.testBit_lt_two_pow (Nat.lt_of_lt_of_le h (Nat.pow_le_pow_right (by decide) (by omega)))]; simp; omega

/-- what four bits turn -/
def tbl (r : Nat) : Nat := stps 4 r
theorem four (s : Nat) : (s / 16) ^^^ tbl (s % 16) = stps 4 s := by
  have e : s = (s % 16) ^^^ (2 ^ 4 * (s / 16)) := by
    rw [← xor_add 4 (s % 16) (s / 16) (by omega)]; omega
  have e2 : stps 4 s = stps 4 ((s % 16) ^^^ (2 ^ 4 * (s / 16))) := congrArg _ e
  rw [e2, stps_xor, stps_pow, Nat.xor_comm]; rfl
theorem tbl_lt (r : Nat) (h : r < 16) : tbl r < 4294967296 := stps_lt 4 r (by omega)

/-- the bytes' ownf number: each byte eight bits, the first the lowest -/
def bnum : List Nat → Nat
  | [] => 0
  | b :: l => b + 256 * bnum l
/-- the sum's inner state behind bytes, begun at c -/
def feed : Nat → List Nat → Nat
  | c, [] => c
  | c, b :: l => feed (stps 8 (c ^^^ b)) l
theorem feed_eq (c : Nat) (l : List Nat) (hl : ∀ b ∈ l, b < 256) : feed c l = stps (8 * l.length) (c ^^^ bnum l) := by
  induction l generalizing c with
  | nil => simp [feed, bnum, stps]
  | cons b l ih =>
    have hb := hl b (by simp)
    rw [feed, ih _ (fun x hx => hl x (by simp [hx])), bnum, List.length_cons, show 8 * (l.length + 1) = 8 + 8 * l.length by omega, stps_add]
    congr 1
    have e : b + 256 * bnum l = b ^^^ (2 ^ 8 * bnum l) := xor_add 8 b (bnum l) (by omega)
    rw [e, ← Nat.xor_assoc, stps_xor 8 (c ^^^ b), stps_pow]
theorem feed_snoc (c : Nat) (l : List Nat) (b : Nat) : feed c (l ++ [b]) = stps 8 (feed c l ^^^ b) := by
  induction l generalizing c with
  | nil => rfl
  | cons x l ih => exact ih _
theorem feed_lt (c : Nat) (l : List Nat) (hc : c < 4294967296) (hl : ∀ b ∈ l, b < 256) : feed c l < 4294967296 := by
  induction l generalizing c with
  | nil => exact hc
  | cons b l ih =>
    have := hl b (by simp)
    exact ih _ (stps_lt 8 _ (xor_lt32 c b hc (by omega))) (fun x hx => hl x (by simp [hx]))

/-- the sum of bytes -/
def crc (l : List Nat) : Nat := 4294967295 - feed 4294967295 l
theorem crc_lt (l : List Nat) : crc l < 4294967296 := by unfold crc; omega

theorem bnum_lt (l : List Nat) (hl : ∀ b ∈ l, b < 256) : bnum l < 2 ^ (8 * l.length) := by
  induction l with
  | nil => simp [bnum]
  | cons b l ih =>
    have hb := hl b (by simp)
    have := ih (fun x hx => hl x (by simp [hx]))
    rw [bnum, List.length_cons, show 8 * (l.length + 1) = 8 + 8 * l.length by omega, Nat.pow_add]
    have e : (2 : Nat) ^ 8 = 256 := rfl
    rw [e]; omega
theorem bnum_append (l m : List Nat) : bnum (l ++ m) = bnum l + 2 ^ (8 * l.length) * bnum m := by
  induction l with
  | nil => simp [bnum]
  | cons b l ih =>
    rw [List.cons_append, bnum, bnum, ih, List.length_cons, show 8 * (l.length + 1) = 8 + 8 * l.length by omega, Nat.pow_add, Nat.mul_add, ← Nat.mul_assoc, Nat.add_assoc]

theorem xor_cancel (a b c : Nat) (h : a ^^^ b = a ^^^ c) : b = c := by
  have := congrArg (fun x => a ^^^ x) h
  simpa [← Nat.xor_assoc] using this

/-- two rows of bytes, of one length, apart by a burst: their sums are apart -/
theorem crc_apart (l m : List Nat) (hl : ∀ b ∈ l, b < 256) (hm : ∀ b ∈ m, b < 256) (hlen : l.length = m.length) (k pat : Nat) (hp : pat < 4294967296) (h0 : pat ≠ 0)
    (h : bnum m = bnum l ^^^ (2 ^ k * pat)) : crc m ≠ crc l := by
  intro e
  have h1 := feed_lt 4294967295 l (by decide) hl
  have h2 := feed_lt 4294967295 m (by decide) hm
  have e2 : feed 4294967295 m = feed 4294967295 l := by unfold crc at e; omega
  rw [feed_eq _ _ hl, feed_eq _ _ hm, h, ← hlen, ← Nat.xor_assoc, stps_xor _ (4294967295 ^^^ bnum l)] at e2
  have e3 : stps (8 * l.length) (2 ^ k * pat) = 0 := by
    apply xor_cancel (stps (8 * l.length) (4294967295 ^^^ bnum l))
    rw [e2, Nat.xor_zero]
  exact stps_burst _ k pat hp h0 e3

theorem ones_sub (a : Nat) (ha : a < 4294967296) : 4294967295 - a = a ^^^ 4294967295 := by
  have h := BitVec.toNat_xor (BitVec.ofNat 32 a) (BitVec.allOnes 32)
  rw [BitVec.xor_allOnes, BitVec.toNat_not, BitVec.toNat_allOnes, BitVec.toNat_ofNat, Nat.mod_eq_of_lt ha] at h
  exact h

/-- a body with its sum behind, apart by a burst from bytes: these are no body with its sum behind -/
theorem seal_apart (l m : List Nat) (s t : Nat) (hl : ∀ b ∈ l, b < 256) (hm : ∀ b ∈ m, b < 256) (hlen : l.length = m.length) (k pat : Nat) (hp : pat < 4294967296) (h0 : pat ≠ 0)
    (hs : s = crc l) (ht : t < 4294967296)
    (h : bnum m + 2 ^ (8 * m.length) * t = (bnum l + 2 ^ (8 * l.length) * s) ^^^ (2 ^ k * pat)) : t ≠ crc m := by
  intro e
  have h1 := feed_lt 4294967295 l (by decide) hl
  have h2 := feed_lt 4294967295 m (by decide) hm
  rw [xor_add _ _ _ (bnum_lt m hm), xor_add _ _ _ (bnum_lt l hl), ← hlen] at h
  have h' := congrArg (fun x => stps (8 * l.length) (4294967295 ^^^ x)) h
  simp only [stps_xor, stps_pow] at h'
  rw [← Nat.xor_assoc, ← Nat.xor_assoc, ← Nat.xor_assoc, ← stps_xor, ← stps_xor, ← feed_eq _ _ hl, hlen, ← feed_eq _ _ hm, ← hlen, e, hs, crc, crc, ones_sub _ h1, ones_sub _ h2, ← Nat.xor_assoc, ← Nat.xor_assoc, Nat.xor_self, Nat.xor_self] at h'
  have e3 : stps (8 * l.length) (2 ^ k * pat) = 0 := by
    apply xor_cancel (0 ^^^ 4294967295)
    rw [← h', Nat.xor_zero]
  exact stps_burst _ k pat hp h0 e3

end Go.Proofs.YtlncgkbgelejmaaGreatDoor


/-
  Sum of package frame: the bytes' sum by the table.
-/
namespace Go.Proofs.YtlncgkbgelejmaaGreatDoor
open Go.RowKit
set_option linter.unusedVariables false
set_option maxRecDepth 100000

/-- the table lies where it was laid -/
def Tabf (w : World) : Prop := ∀ i : Nat, i < 16 → w.cell? ⟨0, i, none⟩ = some (.int .u32 ((tbl i : Nat) : Int))
theorem Tabf.keep {S : Nat → Prop} {w w' : World} (h : Tabf w) (hf : Fr S w w') (hs : ¬ S 0) : Tabf w' := fun i hi =>
  (hf.cell (p := ⟨0, i, none⟩) (World.block_lt_of_cell? w _ (h i hi)) hs).trans (h i hi)
theorem Tabf.quiet {w w' : World} (h : Tabf w) (hf : Fr Nobody w w') : Tabf w' := h.keep hf id

theorem xor32 (a b : Nat) (ha : a < 4294967296) (hb : b < 4294967296) : bits .xor .u32 (a : Int) (b : Int) = ((a ^^^ b : Nat) : Int) := u32_xor_nat a b ha hb
theorem step_val (y : Nat) (hy : y < 4294967296) : bits .xor .u32 ((y : Int) / 16) ((tbl (y % 16) : Nat) : Int) = ((stps 4 y : Nat) : Int) := by
  have e : (y : Int) / 16 = ((y / 16 : Nat) : Int) := by omega
  rw [e, xor32 _ _ (by omega) (tbl_lt _ (by omega)), four]

set_option maxHeartbeats 1000000 in
theorem sum_any (w : World) (ao : Option Addr) (cap len : Nat) (P : List Nat) (h : BytesAt w ao P) (hlen : P.length = len) (hb : ∀ x ∈ P, x < 256) (hL : len ≤ 1000000000) (ht : Tabf w) :
    Calls Tryz.prog 56 #[.slice ao len cap] w fun e w' => e = .returned (.int .u32 ((crc P : Nat) : Int)) ∧ w' = w := by
  have H : Hid (BytesAt w ao P) := h
  have HT : Hid (Tabf w) := ht
  have HB : Hid (∀ x ∈ P, x < 256) := hb
  have HL : Hid (P.length = len) := hlen
  clear h ht hb hlen
  go_enter Tryz.func56, Tryz.ntmps56
  go_wp2
  go_loopw [3, 8] (fun u c wr => ∃ k : Nat, k ≤ len ∧ c = .int .i64 k ∧ u = .int .u32 ((feed 4294967295 (P.take k) : Nat) : Int) ∧ wr = w) (fun _ c _ => len - (intOf c).toNat)
  case atStart => exact ⟨0, Nat.zero_le _, rfl, rfl, rfl⟩
  case round =>
    obtain ⟨k, hk, rfl, rfl, rfl⟩ := hrel
    by_cases hlt : k < len
    · have hP : k < P.length := by rw [HL.out]; exact hlt
      have hx : P[k]? = some P[k] := List.getElem?_eq_getElem hP
      have hx2 := HB.out P[k] (List.getElem_mem _)
      obtain ⟨g, o, rfl, hcs⟩ : ∃ g o, ao = some ⟨g, o, none⟩ ∧ ∀ (j x : Nat), P[j]? = some x → wr.cell? ⟨g, o + j, none⟩ = some (.int .u8 (x : Int)) := by
        rcases H.out with hn | hn
        · rw [hn] at hP; cases hP
        · exact hn
      have cx := hcs k _ hx
      have hc := feed_lt 4294967295 (P.take k) (by decide) (fun x hx => HB.out x (List.mem_of_mem_take hx))
      have HS : Hid (feed 4294967295 (P.take (k + 1)) = stps 8 (feed 4294967295 (P.take k) ^^^ P[k])) := by
        show _ = _
        rw [List.take_add_one, hx]; exact feed_snoc _ _ _
      generalize feed 4294967295 (P.take k) = c at *
      generalize P[k] = x at *
      have hy := xor_lt32 c x hc (by omega)
      have e1 := xor32 c x hc (by omega)
      generalize c ^^^ x = y at *
      have hz := stps_lt 4 y hy
      have e2 := step_val y hy
      have t2 := HT.out (y % 16) (by omega)
      have HZ : Hid (stps 8 y = stps 4 (stps 4 y)) := stps_add 4 4 y
      generalize stps 4 y = z at *
      have e3 := step_val z hz
      have t3 := HT.out (z % 16) (by omega)
      have hw := stps_lt 4 z hz
      generalize tbl (y % 16) = q at *
      generalize tbl (z % 16) = r at *
      generalize stps 4 z = v at *
      clear hcs hx
      go_wp2
      refine ⟨⟨k + 1, by omega, by go_num, ?_, trivial⟩, by simp [intOf]; omega⟩
      rw [HS.out, HZ.out]
    · go_wp2
      go_ret
      have e : k = len := by omega
      subst e
      refine ⟨ret_int ?_, rfl⟩
      have eP : P.take k = P := List.take_of_length_le (by rw [HL.out]; exact Nat.le_refl _)
      have hc := feed_lt 4294967295 P (by decide) HB.out
      rw [eP]
      have h1 := xor32 4294967295 (feed 4294967295 P) (by decide) hc
      have h2 : IntKind.u32.max = ((4294967295 : Nat) : Int) := by decide
      rw [h2, h1, crc, ones_sub _ hc, Nat.xor_comm]
end Go.Proofs.YtlncgkbgelejmaaGreatDoor


/-
  Turned bits of bytes, as numbers: no program is named here.
-/
namespace Go.Proofs.YtlncgkbgelejmaaGreatDoor
set_option linter.unusedVariables false
set_option maxRecDepth 100000

theorem mul_xor (n a b : Nat) : 2 ^ n * (a ^^^ b) = (2 ^ n * a) ^^^ (2 ^ n * b) := by
  have h : (a ^^^ b) <<< n = a <<< n ^^^ b <<< n := Nat.shiftLeft_xor_distrib
  simpa [Nat.shiftLeft_eq, Nat.mul_comm] using h
theorem xor_lt8 (a k : Nat) (ha : a < 256) (hk : k < 8) : a ^^^ 2 ^ k < 256 :=
  Nat.xor_lt_two_pow (n := 8) ha (Nat.pow_lt_pow_right (by decide) hk)
/-- one bit turned -/
def flip (l : List Nat) (k : Nat) : List Nat := l.set (k / 8) ((l[k / 8]?.getD 0) ^^^ 2 ^ (k % 8))
theorem length_flip (l : List Nat) (k : Nat) : (flip l k).length = l.length := by unfold flip; rw [List.length_set]
theorem flip_byte (l : List Nat) (k : Nat) (hl : ∀ b ∈ l, b < 256) (hk : k < 8 * l.length) : ∀ b ∈ flip l k, b < 256 := by
  intro b hb
  have hi : k / 8 < l.length := by omega
  rcases List.mem_or_eq_of_mem_set hb with hb | hb
  · exact hl b hb
  · rw [hb, List.getElem?_eq_getElem hi]
    exact xor_lt8 _ _ (hl _ (List.getElem_mem _)) (by omega)
theorem bnum_flip (l : List Nat) (k : Nat) (hl : ∀ b ∈ l, b < 256) (hk : k < 8 * l.length) : bnum (flip l k) = bnum l ^^^ 2 ^ k := by
  induction l generalizing k with
  | nil => simp at hk
  | cons b l ih =>
    have hb := hl b (by simp)
    by_cases c : k < 8
    · have e0 : k / 8 = 0 := by omega
      have e1 : k % 8 = k := by omega
      unfold flip
      rw [e0, e1, List.set_cons_zero, bnum, bnum]
      have h1 := xor_add 8 (b ^^^ 2 ^ k) (bnum l) (xor_lt8 b k hb c)
      have h2 := xor_add 8 b (bnum l) hb
      have e : (2 : Nat) ^ 8 = 256 := rfl
      rw [e] at h1 h2
      show (b ^^^ 2 ^ k) + 256 * bnum l = _
      rw [h1, h2, Nat.xor_assoc, Nat.xor_assoc, Nat.xor_comm (2 ^ k)]
    · obtain ⟨j, rfl⟩ := Nat.exists_eq_add_of_le (show 8 ≤ k by omega)
      have hk' : j < 8 * l.length := by rw [List.length_cons] at hk; omega
      have e0 : (8 + j) / 8 = j / 8 + 1 := by omega
      have e1 : (8 + j) % 8 = j % 8 := by omega
      have ih' := ih j (fun x hx => hl x (by simp [hx])) hk'
      have e2 : flip (b :: l) (8 + j) = b :: flip l j := by
        unfold flip
        rw [e0, e1, List.set_cons_succ, List.getElem?_cons_succ]
      rw [e2, bnum, bnum, ih']
      have h1 := xor_add 8 b (bnum l ^^^ 2 ^ j) hb
      have h2 := xor_add 8 b (bnum l) hb
      rw [mul_xor 8 (bnum l) (2 ^ j), ← Nat.pow_add] at h1
      have e : (2 : Nat) ^ 8 = 256 := rfl
      rw [← e, Nat.mul_comm (2 ^ 8) (bnum l ^^^ 2 ^ j), Nat.mul_comm (bnum l ^^^ 2 ^ j), mul_xor 8 (bnum l) (2 ^ j), ← Nat.pow_add, h1, h2, Nat.xor_assoc]

/-- the bits of a pattern, from a bit on, that lie within n bits, as far as i of them -/
def pats (pat at' n i : Nat) : Nat := pat % 2 ^ (min i (n - at'))
theorem pats_zero (pat a n : Nat) : pats pat a n 0 = 0 := by unfold pats; rw [Nat.zero_min, Nat.pow_zero, Nat.mod_one]
theorem pats_out (pat a n i : Nat) (h : n ≤ a + i) : pats pat a n (i + 1) = pats pat a n i := by
  unfold pats; rw [show min (i + 1) (n - a) = min i (n - a) by omega]
theorem pats_off (pat a n i : Nat) (h : pat / 2 ^ i % 2 = 0) : pats pat a n (i + 1) = pats pat a n i := by
  by_cases c : n ≤ a + i
  · exact pats_out pat a n i c
  · unfold pats
    rw [show min (i + 1) (n - a) = i + 1 by omega, show min i (n - a) = i by omega, Nat.pow_succ, Nat.mod_mul, h, Nat.mul_zero, Nat.add_zero]
theorem pats_on (pat a n i : Nat) (h : pat / 2 ^ i % 2 = 1) (hn : a + i < n) : 2 ^ a * pats pat a n (i + 1) = (2 ^ a * pats pat a n i) ^^^ 2 ^ (a + i) := by
  unfold pats
  rw [show min (i + 1) (n - a) = i + 1 by omega, show min i (n - a) = i by omega, Nat.pow_succ, Nat.mod_mul, h]
  rw [xor_add i _ 1 (Nat.mod_lt _ (Nat.two_pow_pos i)), mul_xor, Nat.mul_one, ← Nat.pow_add]
theorem pats_lt (pat a n : Nat) : pats pat a n 32 < 4294967296 := by
  unfold pats
  have h1 : pat % 2 ^ (min 32 (n - a)) < 2 ^ (min 32 (n - a)) := Nat.mod_lt _ (Nat.two_pow_pos _)
  have h2 : 2 ^ (min 32 (n - a)) ≤ 2 ^ 32 := Nat.pow_le_pow_right (by decide) (by omega)
  omega
theorem pats_odd (pat a n : Nat) (h : pat % 2 = 1) (hn : a < n) : pats pat a n 32 ≠ 0 := by
  unfold pats
  obtain ⟨k, hk⟩ : ∃ k, min 32 (n - a) = k + 1 := ⟨min 32 (n - a) - 1, by omega⟩
  rw [hk, Nat.pow_succ, Nat.mul_comm, Nat.mod_mul, h]
  omega
end Go.Proofs.YtlncgkbgelejmaaGreatDoor


/-
  awake of the laws on frames, and the document's Turn.
-/
namespace Go.Proofs.YtlncgkbgelejmaaGreatDoor
open Go.RowKit
set_option linter.unusedVariables false
set_option maxRecDepth 100000

theorem crc_nine : crc [49, 50, 51, 52, 53, 54, 55, 56, 57] = 3421780262 := by decide +kernel

/-- the copy of the bytes that came in -/
theorem copy_bytes {w : World} {ops : Array Oper} {rest : List Oper} {o : Oper} {a : Act} {Q : Exit → Act → World → Prop} (hgd : o.guard = none) (s x : Operand)
    (ho : o.op = .call { callee := .builtin .append, args := #[s, x], argTypes := #[29, 29] }) (ao : Option Addr) (m cap : Nat) (P : List Nat) (h : Src w (.slice ao m cap) P.length (vrow P)) (hm : P.length = m) (hL : m ≤ 1000000)
    (hs : a.eval s = .slice (some ⟨w.heap.size, 0, none⟩) 0 0) (hx : a.eval x = .slice ao m cap)
    (hK : ∀ v' w', w'.ownsRow w.heap.size 5 1 v' m (vrow P) → Fr Nobody w w' → wpList Tryz.prog ops Q rest (a.put o.dst v') w') :
    wpList Tryz.prog ops Q (o :: rest) a (w.alloc (.cells #[] 5)) := by
  obtain ⟨i0, hi, hz0, hz1, hz2⟩ := info_parts Tryz.infoB
  have hown := World.ownsRow_made (e := 5) (size := 1) (base := w.heap.size) w #[] 0 (Nat.le_refl _) (Nat.zero_le _) rfl
  have hfr : Fr Nobody w (w.alloc (.cells #[] 5)) := (Fr.refl _ w).alloc _
  rcases h with ⟨hv, h0, h00⟩ | ⟨a', cap', hv, hl, hc⟩
  · have hP0 : P = [] := List.eq_nil_of_length_eq_zero h0
    subst hP0
    subst hm
    rw [hv] at hx
    refine wpList_plain hgd fun K hK' => ?_
    have hr := run_append_owned_none (P := Tryz.prog) (w.alloc (.cells #[] 5)) w.heap.size 29 o.type 5 i0 1 Tryz.underlying29 hi _ 0 [] hown
    unfold Oper.wp
    simp [execOp, ho, resolve, invoke, builtin, hs, hx, hr, Result.andThen]
    exact hK' _ _ (hK _ _ hown hfr)
  · simp only [Value.slice.injEq] at hv
    obtain ⟨rfl, _, rfl⟩ := hv
    refine wpList_append_own (w.alloc (.cells #[] 5)) hgd s x 29 ho w.heap.size 5 i0 (.int .u8 0) 1 1 Tryz.underlying29 hi hz0 hz1 hz2 rfl (by decide) _ 0 [] hs hown a' m cap (vrow P) hx (by rw [length_vrow]; omega) (fun j u hu => Lib.cell?_alloc_some _ (hc j u hu)) (one_vrow P) (by unfold maxLen; omega) (by omega) (by simp) ?_
    intro v' w' ho' hg' _
    exact hK v' w' (by simpa using ho') (hfr.grown hg' (by intro k hk; simp [Value.ownBlock] at hk; omega))
set_option maxHeartbeats 1000000 in
theorem turn_any (w : World) (ao : Option Addr) (cap len : Nat) (P : List Nat) (t pat : Nat) (h : BytesAt w ao P) (hn : ao = none → cap = 0) (hlen : P.length = len) (hb : ∀ x ∈ P, x < 256) (hL : len ≤ 10000) (hat : t < 8 * len) (hpat : pat < 4294967296) :
    Calls Tryz.prog 7 #[.slice ao len cap, .int .i64 (t : Int), .int .u32 (pat : Int)] w fun e w' => ∃ v' Q, e = .returned v' ∧ w'.ownsRow w.heap.size 5 1 v' len (vrow Q) ∧ Q.length = len ∧ (∀ x ∈ Q, x < 256) ∧ bnum Q = bnum P ^^^ (2 ^ t * pats pat t (8 * len) 32) ∧ Fr Nobody w w' := by
  have hs := h.src cap hn
  rw [hlen] at hs
  have HS : Hid (Src w (.slice ao len cap) P.length (vrow P)) := by rw [hlen]; exact hs
  have HP : Hid (P.length = len ∧ ∀ x ∈ P, x < 256) := ⟨hlen, hb⟩
  clear h hs hn hb
  go_enter Tryz.func7, Tryz.ntmps7
  go_wp2_with (at_builtin; refine copy_bytes rfl _ _ rfl ao len cap P HS.out HP.out.1 (by omega) rfl rfl ?_)
  intro v1 w1 ho1 hf1
  obtain ⟨g, cp, hv1, hg⟩ := row_shape ho1 (by omega)
  subst hv1
  have H1 : Hid (w1.ownsRow w.heap.size 5 1 (.slice (some ⟨g, 0, none⟩) len cp) len (vrow P) ∧ Fr Nobody w w1) := ⟨ho1, hf1⟩
  clear ho1 hf1
  go_wp2
  go_loopw [2, 13] (fun u c wr => ∃ (k : Nat) (Q : List Nat), k ≤ 32 ∧ c = .int .i64 k ∧ u = .int .u32 ((pat / 2 ^ k : Nat) : Int) ∧ wr.ownsRow w.heap.size 5 1 (.slice (some ⟨g, 0, none⟩) len cp) len (vrow Q) ∧ Q.length = len ∧ (∀ x ∈ Q, x < 256) ∧ bnum Q = bnum P ^^^ (2 ^ t * pats pat t (8 * len) k) ∧ Fr Nobody w wr) (fun _ c _ => 32 - (intOf c).toNat)
  case atStart => exact ⟨0, P, by omega, rfl, by simp, H1.out.1, HP.out.1, HP.out.2, by rw [pats_zero, Nat.mul_zero, Nat.xor_zero], H1.out.2⟩
  case round =>
    obtain ⟨k, Q, hk, rfl, rfl, ho, hq1, hq2, hq3, hf⟩ := hrel
    by_cases hlt : k < 32
    · have hqp : pat / 2 ^ k < 4294967296 := Nat.lt_of_le_of_lt (Nat.div_le_self _ _) hpat
      have HD : Hid (((pat / 2 ^ (k + 1) : Nat) : Int) = ((pat / 2 ^ k : Nat) : Int) / 2) := by
        show _ = _
        rw [← half_pow]; omega
      have HQ : Hid (wr.ownsRow w.heap.size 5 1 (.slice (some ⟨g, 0, none⟩) len cp) len (vrow Q) ∧ Q.length = len ∧ (∀ x ∈ Q, x < 256) ∧ bnum Q = bnum P ^^^ (2 ^ t * pats pat t (8 * len) k) ∧ Fr Nobody w wr) := ⟨ho, hq1, hq2, hq3, hf⟩
      by_cases hbit : pat / 2 ^ k % 2 = 1
      · by_cases hin : t + k < 8 * len
        · have HB : Hid (2 ^ t * pats pat t (8 * len) (k + 1) = (2 ^ t * pats pat t (8 * len) k) ^^^ 2 ^ (t + k)) := pats_on pat t (8 * len) k hbit hin
          have hx : Q[(t + k) / 8]? = some Q[(t + k) / 8] := List.getElem?_eq_getElem (by omega)
          have hx2 := hq2 Q[(t + k) / 8] (List.getElem_mem _)
          have cx : wr.cell? ⟨g, (t + k) / 8, none⟩ = some (.int .u8 ((Q[(t + k) / 8] : Nat) : Int)) := by
            rw [ho.cellAt _ (by omega), getElem?_vrow, hx]; rfl
          have fx : wr.frozen? ⟨g, (t + k) / 8, none⟩ = false := ho.frozenAt _
          have HX : Hid (flip Q (t + k) = Q.set ((t + k) / 8) (Q[(t + k) / 8] ^^^ 2 ^ ((t + k) % 8))) := by
            show _ = _
            unfold flip; rw [hx]; rfl
          generalize Q[(t + k) / 8] = x at *
          have hb2 : ((pat / 2 ^ k : Nat) : Int) % 2 = 1 := by omega
          have h8 : (t : Int) + k < 8 * len := by omega
          clear ho hq1 hq2 hq3 hf hx hbit
          generalize pat / 2 ^ k = p at *
          have hxl : x ^^^ 2 ^ ((t + k) % 8) < 256 := xor_lt8 x _ hx2 (by omega)
          have HV : Hid (bits .xor .u8 (x : Int) (2 ^ ((t + k) % 8) % 256) = ((x ^^^ 2 ^ ((t + k) % 8) : Nat) : Int)) := by
            show _ = _
            have h1 : 2 ^ ((t + k) % 8) < 2 ^ 8 := Nat.pow_lt_pow_right (by decide) (by omega)
            have h2 : (2 : Int) ^ ((t + k) % 8) % 256 = ((2 ^ ((t + k) % 8) : Nat) : Int) := by
              have : ((2 : Int) ^ ((t + k) % 8)) = ((2 ^ ((t + k) % 8) : Nat) : Int) := by simp
              rw [this]; exact Int.emod_eq_of_lt (Int.natCast_nonneg _) (Int.ofNat_lt.2 h1)
            rw [h2]
            exact u8_xor_nat x _ hx2 h1
          go_wp2
          refine ⟨⟨k + 1, flip Q (t + k), by omega, by go_num, by rw [HD.out], ?_, by rw [length_flip]; exact HQ.out.2.1, flip_byte Q _ HQ.out.2.2.1 (by rw [HQ.out.2.1]; exact hin), ?_, HQ.out.2.2.2.2.setCell (.inr hg) _⟩, by simp [intOf]; omega⟩
          · rw [HX.out, vrow_set, HV.out]
            exact (HQ.out.1.stored ((t + k) / 8) _).1
          · rw [bnum_flip Q _ HQ.out.2.2.1 (by rw [HQ.out.2.1]; exact hin), HQ.out.2.2.2.1, HB.out, Nat.xor_assoc]
        · have HB : Hid (2 ^ t * pats pat t (8 * len) (k + 1) = 2 ^ t * pats pat t (8 * len) k) := by
            show _ = _
            rw [pats_out _ _ _ _ (by omega)]
          have hb2 : ((pat / 2 ^ k : Nat) : Int) % 2 = 1 := by omega
          have h8 : ¬ (t : Int) + k < 8 * len := by omega
          clear ho hq1 hq2 hq3 hf hbit
          generalize pat / 2 ^ k = p at *
          go_wp2
          exact ⟨⟨k + 1, Q, by omega, by go_num, by rw [HD.out], HQ.out.1, HQ.out.2.1, HQ.out.2.2.1, by rw [HB.out]; exact HQ.out.2.2.2.1, HQ.out.2.2.2.2⟩, by simp [intOf]; omega⟩
      · have HB : Hid (2 ^ t * pats pat t (8 * len) (k + 1) = 2 ^ t * pats pat t (8 * len) k) := by
          show _ = _
          rw [pats_off _ _ _ _ (by omega)]
        have hb2 : ((pat / 2 ^ k : Nat) : Int) % 2 = 0 := by omega
        clear ho hq1 hq2 hq3 hf hbit
        generalize pat / 2 ^ k = p at *
        go_wp2
        exact ⟨⟨k + 1, Q, by omega, by go_num, by rw [HD.out], HQ.out.1, HQ.out.2.1, HQ.out.2.2.1, by rw [HB.out]; exact HQ.out.2.2.2.1, HQ.out.2.2.2.2⟩, by simp [intOf]; omega⟩
    · have e : k = 32 := by omega
      subst e
      have HQ : Hid (wr.ownsRow w.heap.size 5 1 (.slice (some ⟨g, 0, none⟩) len cp) len (vrow Q) ∧ Q.length = len ∧ (∀ x ∈ Q, x < 256) ∧ bnum Q = bnum P ^^^ (2 ^ t * pats pat t (8 * len) 32) ∧ Fr Nobody w wr) := ⟨ho, hq1, hq2, hq3, hf⟩
      clear ho hq1 hq2 hq3 hf
      go_wp2
      go_ret
      exact ⟨_, Q, rfl, HQ.out⟩
end Go.Proofs.YtlncgkbgelejmaaGreatDoor


/-
  What the laws on frames share: the bytes that came in, cut short.
-/
namespace Go.Proofs.YtlncgkbgelejmaaGreatDoor
open Go.RowKit
set_option linter.unusedVariables false
set_option maxRecDepth 100000

/-- bytes that came in -/
structure In (w : World) (ao : Option Addr) (len cap : Nat) (P : List Nat) : Prop where
  at' : BytesAt w ao P
  eqn : P.length = len
  byt : ∀ x ∈ P, x < 256
  nil : ao = none → cap = 0
  le : len ≤ cap
theorem In.quiet {w w' : World} {ao : Option Addr} {len cap : Nat} {P : List Nat} (h : In w ao len cap P) (hf : Fr Nobody w w') : In w' ao len cap P := ⟨h.at'.quiet hf, h.eqn, h.byt, h.nil, h.le⟩
theorem In.cut {w : World} {ao : Option Addr} {len cap : Nat} {P : List Nat} (h : In w ao len cap P) (m : Nat) (hm : m ≤ len) : In w ao m cap (P.take m) := by
  refine ⟨?_, by rw [List.length_take, h.eqn]; omega, fun x hx => h.byt x (List.mem_of_mem_take hx), h.nil, Nat.le_trans hm h.le⟩
  rcases h.at' with h1 | ⟨g, o, h1, h2⟩
  · left; rw [h1]; simp
  · right
    refine ⟨g, o, h1, fun j x hx => h2 j x ?_⟩
    rw [List.getElem?_take] at hx
    split at hx
    · exact hx
    · cases hx
theorem In.src {w : World} {ao : Option Addr} {len cap : Nat} {P : List Nat} (h : In w ao len cap P) : Src w (.slice ao len cap) P.length (vrow P) := by
  have := h.at'.src cap h.nil
  rw [h.eqn] at this ⊢
  exact this
theorem In.some' {w : World} {ao : Option Addr} {len cap : Nat} {P : List Nat} (h : In w ao len cap P) (h0 : 0 < len) : ∃ g o, ao = some ⟨g, o, none⟩ := by
  rcases h.at' with h1 | ⟨g, o, h1, h2⟩
  · rw [← h.eqn, h1] at h0; cases h0
  · exact ⟨g, o, h1⟩
/-- a row that a call owns can be read -/
theorem In.of_row {w : World} {B g n cap : Nat} {P : List Nat} (h : w.ownsRow B 5 1 (.slice (some ⟨g, 0, none⟩) n cap) n (vrow P)) (hl : P.length = n) (hb : ∀ x ∈ P, x < 256) : In w (some ⟨g, 0, none⟩) n cap P := by
  refine ⟨.inr ⟨g, 0, rfl, fun j x hx => ?_⟩, hl, hb, (fun e => by cases e), (row_cap h).2.1⟩
  have hj : j < P.length := (List.getElem?_eq_some_iff.1 hx).1
  rw [Nat.zero_add, h.cellAt j (by omega), getElem?_vrow, hx]; rfl
theorem sum_in (w : World) (ao : Option Addr) (cap len : Nat) (P : List Nat) (h : In w ao len cap P) (hL : len ≤ 1000000000) (ht : Tabf w) :
    Calls Tryz.prog 56 #[.slice ao len cap] w fun e w' => e = .returned (.int .u32 ((crc P : Nat) : Int)) ∧ w' = w := sum_any w ao cap len P h.at' h.eqn h.byt hL ht
theorem or_one (p : Nat) (hp : p < 4294967296) : ∃ q : Nat, bits .or .u32 (p : Int) 1 = (q : Int) ∧ q < 4294967296 ∧ q % 2 = 1 := by
  refine ⟨p ||| 1, u32_or_nat p 1 hp (by decide), Nat.or_lt_two_pow (n := 32) hp (by decide), ?_⟩
  have h := @Nat.or_mod_two_eq_one p 1
  exact h.2 (.inr rfl)
end Go.Proofs.YtlncgkbgelejmaaGreatDoor


/-
  append(s, make([]bool, 32)...) onto a row of the call's ownf; and turned bools as numbers.
-/
namespace Go.Proofs.YtlncgkbgelejmaaGreatDoor
open Go.RowKit
set_option linter.unusedVariables false

theorem zero32 : Builtin.zeroCells (Value.bool false).cells 32 = (brow (List.replicate 32 false)).toArray := by kernel_rfl
set_option maxRecDepth 100000 in
theorem run_zeros_room (w : World) (ty : TypeId) (g n cap : Nat) (cur : Array Value) (hg : w.heap[g]? = some (.cells cur 4 (0, 0))) (hroom : n + 32 ≤ cap) (hfit : n + 32 ≤ cur.size) :
    (Builtin.append_ #[46, 3] ty #[.slice (some ⟨g, 0, none⟩) n cap, .int .i64 32]).run Tryz.prog w =
      .ok (.slice (some ⟨g, 0, none⟩) (n + 32) cap) (w.setRow g (cur.toList.take n ++ brow (List.replicate 32 false) ++ cur.toList.drop (n + 32)).toArray) := by
  obtain ⟨i0, hi, hz0, hz1, hz2⟩ := info_parts Tryz.infoBool
  have hst := run_storeCells_at Tryz.prog g n 4 (brow (List.replicate 32 false)) 0 cur w hg (by rw [length_brow]; simpa using hfit) (one_brow _)
  simp only [Nat.add_zero] at hst
  have hw : IntKind.i64.wrap 32 = 32 := by decide
  have hz3 : Builtin.zeroCells (Value.bool false).cells 32 = (brow (List.replicate 32 false)).toArray := zero32
  have hl : (brow (List.replicate 32 false)).length = 32 := rfl
  rw [hl] at hst
  generalize brow (List.replicate 32 false) = B at *
  simp [Builtin.append_, run_underlying Tryz.underlying46, run_underlying Tryz.underlying3, sizeOf, typeInfo, zeroValue, hi, hz0, hz1, hz2, asInt, asIntOf, hw, hroom, Addr.add_lit, hz3, hst]
theorem run_zeros_own (w : World) (ty : TypeId) (B : Nat) (v : Value) (L : List Bool) (h : Bo B w v L) (hL : L.length ≤ 1000000) (hB : B ≤ w.heap.size) :
    ∃ v' w', (Builtin.append_ #[46, 3] ty #[v, .int .i64 32]).run Tryz.prog w = .ok v' w' ∧ Bo B w' v' (L ++ List.replicate 32 false) ∧ w.grownBy w' v.ownBlock := by
  obtain ⟨i0, hi, hz0, hz1, hz2⟩ := info_parts Tryz.infoBool
  have hlen : (brow (L ++ List.replicate 32 false)).length = L.length + 32 := by rw [length_brow, List.length_append, List.length_replicate]
  have hl32 : (brow (List.replicate 32 false)).length = 32 := rfl
  have grown : ∀ (old : Nat), (row : Option Nat) →
      (w.drew.alloc (.cells ((brow L).toArray ++ Builtin.zeroCells (Value.bool false).cells 32 ++ Builtin.zeroCells (Value.bool false).cells (grownCap w (L.length + 32) old 4 - (L.length + 32))) 4)).ownsRow B 4 1
        (.slice (some ⟨w.heap.size, 0, none⟩) (L.length + 32) (grownCap w (L.length + 32) old 4)) (L.length + 32) (brow (L ++ List.replicate 32 false)) ∧
      w.grownBy (w.drew.alloc (.cells ((brow L).toArray ++ Builtin.zeroCells (Value.bool false).cells 32 ++ Builtin.zeroCells (Value.bool false).cells (grownCap w (L.length + 32) old 4 - (L.length + 32))) 4)) row := by
    intro old row
    have hge := grownCap_ge w (L.length + 32) old 4
    have hcm : grownCap w (L.length + 32) old 4 ≤ maxLen := grownCap_le_maxLen w (L.length + 32) old 4 (by unfold maxLen; omega)
    rw [zero32]
    refine ⟨⟨by rw [hlen, Nat.mul_one], .inr ⟨w.heap.size, _, _, rfl, hB, heap_alloc_new w.drew _, hge, hcm, ?_, ?_⟩⟩, ⟨rfl, rfl, rfl, by simp, fun k hk _ => Below.heap_alloc w.drew _ k hk⟩⟩
    · simp only [Array.size_append, List.size_toArray, size_zeroCells, length_brow, List.length_replicate, Nat.mul_one]
      show L.length + 32 + (_ - _) * 1 = _
      omega
    · simp only [Array.toList_append, List.append_assoc]
      rw [← List.append_assoc, ← brow_append, Nat.mul_one, ← hlen]
      exact List.take_left
  rcases h.2 with ⟨rfl, h0⟩ | ⟨g, cap, cur, rfl, hbg, hg, hnc, hcm, hcs, htake⟩
  · have hL0 : L = [] := List.eq_nil_of_length_eq_zero h0
    subst hL0
    have hr := Lib.run_append_grow_zeros (P := Tryz.prog) w 46 3 ty 4 i0 (.bool false) .i64 .i64 Tryz.underlying46 Tryz.underlying3 hi hz0 none 0 0 [] (by rfl) 32 (by decide) (by rw [hz1]; decide) (by decide) (by decide) (by rw [hz2]; decide) (by rw [hz2]; decide)
    obtain ⟨h1, h2⟩ := grown 0 (Value.ownBlock (.slice none 0 0))
    refine ⟨_, _, hr, ?_, ?_⟩
    · exact h1
    · exact h2
  · by_cases hroom : L.length + 32 ≤ cap
    · have hfit : L.length + 32 ≤ cur.size := by omega
      have hr := run_zeros_room w ty g L.length cap cur hg hroom hfit
      refine ⟨_, _, hr, ⟨by rw [hlen, List.length_append, List.length_replicate, Nat.mul_one], .inr ⟨g, cap, _, by rw [List.length_append, List.length_replicate], hbg, setRow_heap w g cur _ 4 _ hg, by rw [List.length_append, List.length_replicate]; exact hroom, hcm, ?_, ?_⟩⟩, ⟨rfl, rfl, rfl, by simp, fun k _ hk => setRow_other w g k _ (fun e => hk (by simp [Value.ownBlock, e]))⟩⟩
      · simp only [List.size_toArray, List.length_append, List.length_take, List.length_drop, Array.length_toList, length_brow, List.length_replicate]
        omega
      · rw [Nat.mul_one] at htake ⊢
        rw [htake, ← brow_append, ← length_brow (L ++ List.replicate 32 false)]
        exact List.take_left
    · have hold : (Builtin.firstCells i0.size L.length (.slice (some ⟨g, 0, none⟩) L.length cap)).run Tryz.prog w.drew = .ok (brow L).toArray w.drew := by
        rw [hz1]
        refine run_firstCells_some (P := Tryz.prog) w.drew 1 L.length ⟨g, 0, none⟩ L.length cap (brow L) (by rw [length_brow, Nat.mul_one]) ?_
        intro j u hu
        exact h.cells (g := g) rfl j u hu
      have hr := Lib.run_append_grow_zeros (P := Tryz.prog) w 46 3 ty 4 i0 (.bool false) .i64 .i64 Tryz.underlying46 Tryz.underlying3 hi hz0 (some ⟨g, 0, none⟩) L.length cap (brow L) hold 32 (by decide) (by rw [hz1]; decide) (by omega) (by omega) (by rw [hz2]; decide) (growslice_fits (by omega) (by rw [hz2]; omega))
      obtain ⟨h1, h2⟩ := grown cap (Value.ownBlock (.slice (some ⟨g, 0, none⟩) L.length cap))
      refine ⟨_, _, hr, ?_, h2⟩
      unfold Bo
      rw [List.length_append, List.length_replicate]
      exact h1
/-- 32 noughts -/
def zs32 : List Bool := List.replicate 32 false
theorem append_zeros {w : World} {ops : Array Oper} {rest : List Oper} {o : Oper} {a : Act} {Q : Exit → Act → World → Prop} (hgd : o.guard = none) (s x : Operand)
    (ho : o.op = .call { callee := .builtin .append, args := #[s, x], argTypes := #[46, 3] }) (B : Nat) (v : Value) (L : List Bool) (h : Bo B w v L) (hL : L.length ≤ 1000000) (hB : B ≤ w.heap.size)
    (hs : a.eval s = v) (hx : a.eval x = .int .i64 32)
    (hK : ∀ v' w', Bo B w' v' (L ++ zs32) → w.grownBy w' v.ownBlock → wpList Tryz.prog ops Q rest (a.put o.dst v') w') :
    wpList Tryz.prog ops Q (o :: rest) a w := by
  refine wpList_plain hgd fun K hK' => ?_
  obtain ⟨v', w', hr, h1, h2⟩ := run_zeros_own w o.type B v L h hL hB
  unfold Oper.wp
  simp [execOp, ho, resolve, invoke, builtin, hs, hx, hr, Result.andThen]
  exact hK' _ _ (hK _ _ h1 h2)

/-- one bool turned -/
def flipB (L : List Bool) (k : Nat) : List Bool := L.set k (!(L[k]?.getD false))
theorem length_flipB (L : List Bool) (k : Nat) : (flipB L k).length = L.length := by unfold flipB; rw [List.length_set]
theorem num_flipB (L : List Bool) (k : Nat) (hk : k < L.length) : num (flipB L k) = num L ^^^ 2 ^ k := by
  induction L generalizing k with
  | nil => simp at hk
  | cons b L ih =>
    cases k with
    | zero =>
      unfold flipB
      rw [List.set_cons_zero, num, num]
      have h1 := xor_add 1 (!b).toNat (num L) (by cases b <;> decide)
      have h2 := xor_add 1 b.toNat (num L) (by cases b <;> decide)
      rw [Nat.pow_one] at h1 h2
      show (!b).toNat + 2 * num L = _
      rw [h1, h2, Nat.xor_assoc, Nat.xor_comm (2 * num L), ← Nat.xor_assoc]
      cases b <;> rfl
    | succ k =>
      have ih' := ih k (by simpa using hk)
      have e : flipB (b :: L) (k + 1) = b :: flipB L k := by
        unfold flipB; rw [List.set_cons_succ, List.getElem?_cons_succ]
      rw [e, num, num, ih']
      have h1 := xor_add 1 b.toNat (num L ^^^ 2 ^ k) (by cases b <;> decide)
      have h2 := xor_add 1 b.toNat (num L) (by cases b <;> decide)
      have h3 := mul_xor 1 (num L) (2 ^ k)
      rw [Nat.pow_one] at h1 h2 h3
      rw [h1, h2, h3, Nat.xor_assoc, ← Nat.pow_succ']
theorem num_bitsB (P : List Nat) (hb : ∀ x ∈ P, x < 256) : num (bitsB P) = bnum P := by
  induction P with
  | nil => rfl
  | cons x P ih =>
    have hx := hb x (by simp)
    have e : bitsB (x :: P) = bitsN 8 x ++ bitsB P := by simp [bitsB]
    rw [e, num_append, num_bitsN, length_bitsN, ih (fun y hy => hb y (by simp [hy])), bnum]
    have : x % 2 ^ 8 = x := Nat.mod_eq_of_lt hx
    rw [this]
theorem num_zeros (n : Nat) : num (List.replicate n false) = 0 := by
  induction n with
  | zero => rfl
  | succ n ih => rw [List.replicate_succ, num, ih]; rfl
theorem num_div (L : List Bool) (k : Nat) : num (L.drop k) = num L / 2 ^ k := by
  induction k generalizing L with
  | zero => simp
  | succ k ih =>
    cases L with
    | nil => simp [num]
    | cons b L =>
      rw [List.drop_succ_cons, ih, num, Nat.pow_succ', ← Nat.div_div_eq_div_mul]
      congr 1
      cases b <;> simp <;> omega
theorem num_bit (L : List Bool) (k : Nat) (b : Bool) (h : L[k]? = some b) : (num L / 2 ^ k % 2 = 1) ↔ b = true := by
  rw [← num_div]
  have hk : k < L.length := (List.getElem?_eq_some_iff.1 h).1
  rw [List.drop_eq_getElem_cons hk, num]
  have : L[k] = b := by rw [List.getElem?_eq_getElem hk] at h; exact Option.some.inj h
  rw [this]
  cases b <;> simp <;> omega
theorem ones_step (i : Nat) : (2 ^ i - 1) ^^^ 2 ^ i = 2 ^ (i + 1) - 1 := by
  have h := xor_add i (2 ^ i - 1) 1 (by have := Nat.two_pow_pos i; omega)
  rw [Nat.mul_one] at h
  rw [← h, Nat.pow_succ]
  have := Nat.two_pow_pos i
  omega

/-- the powers of the polynomial but 32, and what the first j of them turn -/
def bys : List Nat := [0, 1, 2, 4, 5, 7, 8, 10, 11, 12, 16, 22, 23, 26]
def pm (j : Nat) : Nat := (bys.take j).foldl (fun a k => a ^^^ 2 ^ (31 - k)) 0
theorem pm_all : pm 14 = 3988292384 := by decide +kernel
theorem pm_succ (j k : Nat) (h : bys[j]? = some k) : pm (j + 1) = pm j ^^^ 2 ^ (31 - k) := by
  unfold pm
  rw [List.take_add_one, h, Option.toList_some, List.foldl_append]; rfl
theorem bys_le (j k : Nat) (h : bys[j]? = some k) : k ≤ 26 := by
  have hm := List.mem_of_getElem? h
  simp only [bys, List.mem_cons, List.not_mem_nil, or_false] at hm
  omega
/-- a step of the division where the bit isn't nought -/
theorem div_step (X i : Nat) (h : X / 2 ^ i % 2 = 1) : (X ^^^ 2 ^ (i + 1) * 3988292384) / 2 ^ (i + 1) = stp (X / 2 ^ i) := by
  have e : (X ^^^ 2 ^ (i + 1) * 3988292384) / 2 ^ (i + 1) = X / 2 ^ (i + 1) ^^^ (2 ^ (i + 1) * 3988292384) / 2 ^ (i + 1) := by
    have := @Nat.shiftRight_xor_distrib (i + 1) X (2 ^ (i + 1) * 3988292384)
    simpa [Nat.shiftRight_eq_div_pow] using this
  rw [e, Nat.mul_div_cancel_left _ (Nat.two_pow_pos _), stp, if_pos h, Nat.pow_succ, ← Nat.div_div_eq_div_mul]
theorem div_skip (X i : Nat) (h : ¬ X / 2 ^ i % 2 = 1) : X / 2 ^ (i + 1) = stp (X / 2 ^ i) := by
  rw [stp, if_neg h, Nat.xor_zero, Nat.pow_succ, ← Nat.div_div_eq_div_mul]
theorem stps_snoc (n s : Nat) : stps (n + 1) s = stp (stps n s) := by rw [stps_add]; rfl
/-- the bit of the turned sum -/
theorem ones_bit (F i : Nat) (hF : F < 4294967296) (hi : i < 32) : (4294967295 - F) / 2 ^ i = (4294967295 - F) / 2 ^ (i + 1) * 2 + (if F / 2 ^ i % 2 = 1 then 0 else 1) := by
  have hb : (4294967295 - F) / 2 ^ i % 2 = if F / 2 ^ i % 2 = 1 then 0 else 1 := by
    have h1 : (4294967295 - F).testBit i = !(F.testBit i) := by
      rw [ones_sub F hF, Nat.testBit_xor]
      have : (4294967295 : Nat).testBit i = true := by
        have e : (4294967295 : Nat) = 2 ^ 32 - 1 := rfl
        rw [e, Nat.testBit_two_pow_sub_one]; simp [hi]
      rw [this]; simp
    rw [Nat.testBit_eq_decide_div_mod_eq, Nat.testBit_eq_decide_div_mod_eq] at h1
    by_cases c : F / 2 ^ i % 2 = 1
    · rw [if_pos c]; simp [c] at h1; omega
    · rw [if_neg c]; simp [c] at h1; omega
  have h2 : (4294967295 - F) / 2 ^ (i + 1) = (4294967295 - F) / 2 ^ i / 2 := by rw [Nat.pow_succ, ← Nat.div_div_eq_div_mul]
  rw [h2, ← hb]; omega
end Go.Proofs.YtlncgkbgelejmaaGreatDoor


/-
  The document's Sum: what is left of the division, bit by bit.
-/
namespace Go.Proofs.YtlncgkbgelejmaaGreatDoor
open Go.RowKit
set_option linter.unusedVariables false

/-- the row of bools that is divided, as a number -/
def Lb (w0 wr : World) (g cp n X : Nat) : Prop := ∃ L, wr.ownsRow w0.heap.size 4 1 (.slice (some ⟨g, 0, none⟩) (n + 32) cp) (n + 32) (brow L) ∧ L.length = n + 32 ∧ num L = X ∧ Fr Nobody w0 wr
theorem Lb.fr {w0 wr : World} {g cp n X : Nat} (h : Lb w0 wr g cp n X) : Fr Nobody w0 wr := by obtain ⟨L, _, _, _, h⟩ := h; exact h
theorem Lb.low {w0 wr : World} {g cp n X : Nat} (h : Lb w0 wr g cp n X) : w0.heap.size ≤ g ∧ g < wr.heap.size := by obtain ⟨L, h, _⟩ := h; exact h.lt g rfl
theorem Lb.alloc {w0 wr : World} {g cp n X : Nat} (h : Lb w0 wr g cp n X) (o : Obj) : Lb w0 (wr.alloc o) g cp n X := by
  obtain ⟨L, h1, h2, h3, h4⟩ := h
  exact ⟨L, h1.alloc o, h2, h3, h4.alloc o⟩
theorem Lb.flip {w0 wr : World} {g cp n X : Nat} (h : Lb w0 wr g cp n X) (k : Nat) (hk : k < n + 32) : ∃ b, wr.cell? ⟨g, k, none⟩ = some (.bool b) ∧ wr.frozen? ⟨g, k, none⟩ = false ∧ (X / 2 ^ k % 2 = 1 ↔ b = true) ∧ Lb w0 (wr.setCell ⟨g, k, none⟩ (.bool (!b))) g cp n (X ^^^ 2 ^ k) := by
  have hlow := h.low
  obtain ⟨L, h1, h2, h3, h4⟩ := h
  have hx : L[k]? = some L[k] := List.getElem?_eq_getElem (by omega)
  refine ⟨L[k], ?_, h1.frozenAt _, by rw [← h3]; exact num_bit L k _ hx, flipB L k, ?_, by rw [length_flipB, h2], by rw [num_flipB L k (by omega), h3], h4.setCell (.inr hlow.1) _⟩
  · rw [h1.cellAt k (by omega)]; simp [brow, hx]
  · have e : brow (flipB L k) = (brow L).set k (.bool (!L[k])) := by
      unfold flipB; rw [hx]; simp [brow, List.map_set]
    rw [e]
    exact (h1.stored k _).1
/-- and the powers beside it -/
def Wk (w0 wr : World) (g cp n gb X : Nat) : Prop := Lb w0 wr g cp n X ∧ gb ≠ g ∧ ∀ j k : Nat, bys[j]? = some k → wr.cell? ⟨gb, j, none⟩ = some (.int .i64 (k : Int))
theorem Wk.flip {w0 wr : World} {g cp n gb X : Nat} (h : Wk w0 wr g cp n gb X) (k : Nat) (hk : k < n + 32) : ∃ b, wr.cell? ⟨g, k, none⟩ = some (.bool b) ∧ wr.frozen? ⟨g, k, none⟩ = false ∧ (X / 2 ^ k % 2 = 1 ↔ b = true) ∧ Wk w0 (wr.setCell ⟨g, k, none⟩ (.bool (!b))) g cp n gb (X ^^^ 2 ^ k) := by
  obtain ⟨h1, h2, h3⟩ := h
  obtain ⟨b, c1, c2, c3, c4⟩ := h1.flip k hk
  refine ⟨b, c1, c2, c3, c4, h2, fun j q hq => ?_⟩
  have hf : Fr (fun q => q = g) wr (wr.setCell ⟨g, k, none⟩ (.bool (!b))) := Fr.setCell (S := fun q => q = g) (Fr.refl _ wr) (.inl rfl) _
  exact (hf.cell (p := ⟨gb, j, none⟩) (World.block_lt_of_cell? wr _ (h3 j q hq)) h2).trans (h3 j q hq)

theorem bys_row (w : World) (t : TypeId) : ∀ j k : Nat, bys[j]? = some k → (w.alloc (.cells #[.int .i64 0, .int .i64 1, .int .i64 2, .int .i64 4, .int .i64 5, .int .i64 7, .int .i64 8, .int .i64 10, .int .i64 11, .int .i64 12, .int .i64 16, .int .i64 22, .int .i64 23, .int .i64 26] t)).cell? ⟨w.heap.size, j, none⟩ = some (.int .i64 (k : Int)) := by
  intro j k h
  rw [cell_of_row _ _ _ _ _ _ (heap_alloc_new w _)]
  have e : (#[Value.int .i64 0, .int .i64 1, .int .i64 2, .int .i64 4, .int .i64 5, .int .i64 7, .int .i64 8, .int .i64 10, .int .i64 11, .int .i64 12, .int .i64 16, .int .i64 22, .int .i64 23, .int .i64 26] : Array Value) = (bys.map (fun (x : Nat) => Value.int .i64 (x : Int))).toArray := rfl
  rw [e, List.getElem?_toArray, List.getElem?_map, h]; rfl

set_option maxHeartbeats 2000000 in
set_option maxRecDepth 100000 in
theorem rsum_any (w : World) (ao : Option Addr) (cap len n : Nat) (P : List Nat) (h : In w ao len cap P) (hL : len ≤ 10000) (hn : n = 8 * len) :
    Calls Tryz.prog 54 #[.slice ao len cap] w fun e w' => e = .returned (.int .u32 ((crc P : Nat) : Int)) ∧ Fr Nobody w w' := by
  have HI : Hid (In w ao len cap P) := h
  have HN : Hid (n = 8 * len ∧ (bitsB P).length = n) := ⟨hn, by rw [length_bitsB, h.eqn, hn]⟩
  have hn2 : n ≤ 80000 := by omega
  have HC : Hid (crc P = 4294967295 - stps n (bnum P ^^^ 4294967295) ∧ stps n (bnum P ^^^ 4294967295) < 4294967296) := by
    have h1 := feed_eq 4294967295 P h.byt
    have h2 := feed_lt 4294967295 P (by decide) h.byt
    rw [h.eqn, ← hn, Nat.xor_comm] at h1
    unfold crc
    rw [h1] at h2 ⊢
    exact ⟨rfl, h2⟩
  clear h hn
  go_enter Tryz.func54, Tryz.ntmps54
  go_wp2_with fail
  refine (rbits_any w ao cap len P HI.out.at' HI.out.eqn HI.out.byt (by omega)).mono ?_
  rintro e w1 ⟨v1, rfl, hb1, hf1⟩
  have H1 : Hid (Bo w.heap.size w1 v1 (bitsB P) ∧ Fr Nobody w w1) := ⟨hb1, hf1⟩
  clear hb1 hf1
  go_wp2_with (at_builtin; refine append_zeros rfl _ _ rfl w.heap.size v1 (bitsB P) H1.out.1 (by rw [HN.out.2]; omega) H1.out.2.size rfl rfl ?_)
  intro v2 w2 ho2 hg2
  have hl2 : (bitsB P ++ zs32).length = n + 32 := by rw [List.length_append, HN.out.2]; rfl
  unfold Bo at ho2
  rw [hl2] at ho2
  obtain ⟨g, cp, hv2, hg⟩ := row_shape ho2 (by omega)
  subst hv2
  have HB2 : Hid (Lb w w2 g cp n (bnum P)) := ⟨_, ho2, hl2, by rw [num_append, num_bitsB P HI.out.byt, show num zs32 = 0 from num_zeros 32, Nat.mul_zero, Nat.add_zero], H1.out.2.grown hg2 (fun q hq => .inr (World.ownsRow.lt H1.out.1 q hq).1)⟩
  clear ho2 hg2 hl2
  go_wp2
  go_loopw [15] (fun c wr => ∃ j : Nat, j ≤ 32 ∧ c = .int .i64 j ∧ Lb w wr g cp n (bnum P ^^^ (2 ^ j - 1))) (fun c _ => 32 - (intOf c).toNat)
  case atStart => exact ⟨0, by omega, rfl, by simpa using HB2.out⟩
  case round =>
    obtain ⟨j, hj, rfl, hlb⟩ := hrel
    by_cases hlt : j < 32
    · obtain ⟨b, cx, fx, _, hlb2⟩ := hlb.flip j (by omega)
      have HB : Hid (Lb w (wr.setCell ⟨g, j, none⟩ (.bool (!b))) g cp n (bnum P ^^^ (2 ^ (j + 1) - 1))) := by
        rw [Nat.xor_assoc, ones_step] at hlb2; exact hlb2
      clear hlb hlb2
      go_wp2
      exact ⟨⟨j + 1, by omega, by go_num, HB.out⟩, by simp [intOf]; omega⟩
    · have e : j = 32 := by omega
      subst e
      have HB : Hid (Lb w wr g cp n (bnum P ^^^ 4294967295)) := hlb
      clear hlb
      generalize bnum P ^^^ 4294967295 = X0 at *
      have HW : Hid (Wk w (wr.alloc (.cells #[.int .i64 0, .int .i64 1, .int .i64 2, .int .i64 4, .int .i64 5, .int .i64 7, .int .i64 8, .int .i64 10, .int .i64 11, .int .i64 12, .int .i64 16, .int .i64 22, .int .i64 23, .int .i64 26] 3)) g cp n wr.heap.size X0) := ⟨HB.out.alloc _, Nat.ne_of_gt HB.out.low.2, bys_row wr _⟩
      clear HB
      go_wp2
      generalize wr.alloc (.cells #[.int .i64 0, .int .i64 1, .int .i64 2, .int .i64 4, .int .i64 5, .int .i64 7, .int .i64 8, .int .i64 10, .int .i64 11, .int .i64 12, .int .i64 16, .int .i64 22, .int .i64 23, .int .i64 26] 3) = wz at *
      generalize wr.heap.size = gb at *
      go_loopw [6] (fun c wr => ∃ i X : Nat, i ≤ n ∧ c = .int .i64 i ∧ Wk w wr g cp n gb X ∧ X / 2 ^ i = stps i X0) (fun c _ => n - (intOf c).toNat)
      case atStart => exact ⟨0, X0, Nat.zero_le _, rfl, HW.out, by simp [stps]⟩
      case round =>
        obtain ⟨i, X, hi, rfl, hwk, hX⟩ := hrel
        by_cases hlt : i < n
        · obtain ⟨b, cx, _, hbit, _⟩ := hwk.flip i (by omega)
          cases b
          · have HK : Hid (Wk w wr g cp n gb X ∧ X / 2 ^ (i + 1) = stps (i + 1) X0) := by
              refine ⟨hwk, ?_⟩
              rw [div_skip X i (fun c => by have := hbit.1 c; cases this), stps_snoc, hX]
            clear hwk hX hbit
            go_wp2
            exact ⟨⟨i + 1, X, by omega, by go_num, HK.out.1, HK.out.2⟩, by simp [intOf]; omega⟩
          · have HK : Hid (Wk w wr g cp n gb X ∧ X / 2 ^ i = stps i X0 ∧ X / 2 ^ i % 2 = 1) := ⟨hwk, hX, hbit.2 rfl⟩
            clear hwk hX hbit
            go_wp2
            go_loopw [42] (fun c wr => ∃ j : Nat, j ≤ 14 ∧ c = .int .i64 j ∧ Wk w wr g cp n gb (X ^^^ 2 ^ (i + 1) * pm j)) (fun c _ => 14 - (intOf c).toNat)
            case atStart => exact ⟨0, by omega, rfl, by rw [show pm 0 = 0 from rfl, Nat.mul_zero, Nat.xor_zero]; exact HK.out.1⟩
            case round =>
              obtain ⟨j, hj, rfl, hwk⟩ := hrel
              by_cases hlt2 : j < 14
              · obtain ⟨k, hk⟩ : ∃ k, bys[j]? = some k := ⟨_, List.getElem?_eq_getElem hlt2⟩
                have hk26 := bys_le j k hk
                have ck := hwk.2.2 j k hk
                obtain ⟨b2, cx2, fx2, _, hwk2⟩ := hwk.flip (i + 32 - k) (by omega)
                have HK2 : Hid (Wk w (wr.setCell ⟨g, i + 32 - k, none⟩ (.bool (!b2))) g cp n gb (X ^^^ 2 ^ (i + 1) * pm (j + 1))) := by
                  rw [pm_succ j k hk, mul_xor, ← Nat.pow_add, show i + 1 + (31 - k) = i + 32 - k by omega, ← Nat.xor_assoc]
                  exact hwk2
                clear hwk hwk2 hk
                go_wp2
                exact ⟨⟨j + 1, by omega, by go_num, HK2.out⟩, by simp [intOf]; omega⟩
              · have e : j = 14 := by omega
                subst e
                rw [pm_all] at hwk
                have HK2 : Hid (Wk w wr g cp n gb (X ^^^ 2 ^ (i + 1) * 3988292384) ∧ (X ^^^ 2 ^ (i + 1) * 3988292384) / 2 ^ (i + 1) = stps (i + 1) X0) := by
                  refine ⟨hwk, ?_⟩
                  rw [div_step X i HK.out.2.2, stps_snoc, HK.out.2.1]
                clear hwk
                go_wp2
                exact ⟨⟨i + 1, _, by omega, by go_num, HK2.out.1, HK2.out.2⟩, by simp [intOf]; omega⟩
        · have e : i = n := by omega
          have HK : Hid (Lb w wr g cp n X ∧ X / 2 ^ n = stps n X0) := ⟨hwk.1, by rw [← e]; exact hX⟩
          have hcp : n + 32 ≤ cp := by obtain ⟨L, h1, _⟩ := hwk.1; exact (row_cap h1).2.1
          have hF := HC.out.2
          have HC1 : Hid (crc P = 4294967295 - stps n X0) := HC.out.1
          clear hwk hX HC HW
          generalize stps n X0 = F at *
          go_wp2
          go_loopw [10, 11] (fun u c wr2 => ((c = .int .i64 (-1) ∧ u = .int .u32 ((4294967295 - F : Nat) : Int)) ∨ ∃ i : Nat, i < 32 ∧ c = .int .i64 i ∧ u = .int .u32 (((4294967295 - F) / 2 ^ (i + 1) : Nat) : Int)) ∧ wr2 = wr) (fun _ c _ => (intOf c + 1).toNat)
          case atStart => exact ⟨.inr ⟨31, by omega, rfl, by rw [Nat.div_eq_of_lt (by omega)]; rfl⟩, rfl⟩
          case round =>
            obtain ⟨⟨rfl, rfl⟩ | ⟨i2, hi2, rfl, rfl⟩, rfl⟩ := hrel
            · have HP : Hid (Fr Nobody w wr) := HK.out.1.fr
              go_wp2
              go_ret
              exact ⟨ret_int (by rw [HC1.out]), HP.out⟩
            · obtain ⟨b, cx, _, hbit, _⟩ := HK.out.1.flip (n + i2) (by omega)
              have HG : Hid _ := ones_bit F i2 hF hi2
              have hdv : X / 2 ^ (n + i2) = F / 2 ^ i2 := by rw [Nat.pow_add, ← Nat.div_div_eq_div_mul, HK.out.2]
              rw [hdv] at hbit
              have hs : (4294967295 - F) / 2 ^ (i2 + 1) * 2 + 1 < 4294967296 := by
                rw [Nat.pow_succ, ← Nat.div_div_eq_div_mul]
                have := Nat.div_le_self (4294967295 - F) (2 ^ i2)
                omega
              have HR : Hid (∀ v : Value, v = .int .u32 (((4294967295 - F) / 2 ^ i2 : Nat) : Int) → ((Value.int .i64 ((i2 : Int) - 1) = .int .i64 (-1) ∧ v = .int .u32 ((4294967295 - F : Nat) : Int)) ∨ ∃ i : Nat, i < 32 ∧ Value.int .i64 ((i2 : Int) - 1) = .int .i64 i ∧ v = .int .u32 (((4294967295 - F) / 2 ^ (i + 1) : Nat) : Int))) := by
                intro v hv
                rw [hv]
                cases i2 with
                | zero => left; exact ⟨rfl, by simp⟩
                | succ k => right; exact ⟨k, by omega, by congr 1; omega, rfl⟩
              cases b
              · have HG2 : Hid ((4294967295 - F) / 2 ^ i2 = (4294967295 - F) / 2 ^ (i2 + 1) * 2 + 1) := by
                  have := HG.out
                  rw [if_neg (fun c => by have := hbit.1 c; cases this)] at this
                  exact this
                clear HG hbit hdv
                generalize (4294967295 - F) / 2 ^ i2 = s1 at *
                generalize (4294967295 - F) / 2 ^ (i2 + 1) = s2 at *
                go_wp2
                exact ⟨⟨HR.out _ (by rw [HG2.out]; congr 1), trivial⟩, by simp only [intOf]; omega⟩
              · have HG2 : Hid ((4294967295 - F) / 2 ^ i2 = (4294967295 - F) / 2 ^ (i2 + 1) * 2) := by
                  have := HG.out
                  rw [if_pos (hbit.2 rfl), Nat.add_zero] at this
                  exact this
                clear HG hbit hdv
                generalize (4294967295 - F) / 2 ^ i2 = s1 at *
                generalize (4294967295 - F) / 2 ^ (i2 + 1) = s2 at *
                go_wp2
                exact ⟨⟨HR.out _ (by rw [HG2.out]; congr 1), trivial⟩, by simp only [intOf]; omega⟩
end Go.Proofs.YtlncgkbgelejmaaGreatDoor


/-
  Seal of package frame.
-/
namespace Go.Proofs.YtlncgkbgelejmaaGreatDoor
open Go.RowKit
set_option linter.unusedVariables false
set_option maxRecDepth 100000

/-- four bytes of a number, the lowest first -/
def le4 (s : Nat) : List Nat := [s % 256, s / 256 % 256, s / 65536 % 256, s / 16777216 % 256]
theorem le4_byte (s : Nat) : ∀ x ∈ le4 s, x < 256 := by
  intro x hx
  simp only [le4, List.mem_cons, List.not_mem_nil, or_false] at hx
  rcases hx with rfl | rfl | rfl | rfl <;> omega
theorem bnum_le4 (s : Nat) (h : s < 4294967296) : bnum (le4 s) = s := by simp only [le4, bnum]; omega
theorem le4_at (s k : Nat) (hk : k < 4) : (le4 s)[k]? = some (s / 2 ^ (8 * k) % 256) := by
  match k, hk with
  | 0, _ => simp [le4]
  | 1, _ => rfl
  | 2, _ => rfl
  | 3, _ => rfl
  | n + 4, h => exact absurd h (by omega)

set_option maxHeartbeats 400000 in
theorem seal_long (w : World) (ao : Option Addr) (cap len : Nat) (h : 4096 < len) (hmax : len ≤ maxLen) :
    Calls Tryz.prog 43 #[.slice ao len cap] w fun e w' => e = .returned (.tuple #[.slice none 0 0, .int .i64 3]) ∧ w' = w := by
  unfold maxLen at hmax
  go_enter Tryz.func43, Tryz.ntmps43
  go_wp2
  go_ret2
  exact ⟨rfl, rfl⟩

theorem make_room (n : Nat) (hn : n ≤ 100000) (u : World) : (Instr.makeSlice 29 (.int .i64 0) (.int .i64 (n : Int))).run Tryz.prog u =
      .ok (.slice (some ⟨u.heap.size, 0, none⟩) 0 n) (u.alloc (.cells (madeCells #[.int .u8 0] n) 5)) := by
  obtain ⟨i0, hi, hz0, hz1, hz2⟩ := info_parts Tryz.infoB
  have h := run_make (P := Tryz.prog) u 29 5 i0 (.int .u8 0) Tryz.underlying29 hi hz0 .i64 .i64 (0 : Int) (n : Int) (by omega) (by omega) (by rw [hz2]; omega) (by omega)
  simpa [hz1, Value.cells] using h
/-- the copy of bytes into room that was made for them -/
theorem copy_room {w : World} {ops : Array Oper} {rest : List Oper} {o : Oper} {a : Act} {Q : Exit → Act → World → Prop} (hgd : o.guard = none) (s x : Operand)
    (ho : o.op = .call { callee := .builtin .append, args := #[s, x], argTypes := #[29, 29] }) (ao : Option Addr) (m cap n : Nat) (P : List Nat) (h : Src w (.slice ao m cap) P.length (vrow P)) (hm : P.length = m) (hL : n ≤ 100000) (hmn : m ≤ n)
    (hs : a.eval s = .slice (some ⟨w.heap.size, 0, none⟩) 0 n) (hx : a.eval x = .slice ao m cap)
    (hK : ∀ v' w', w'.ownsRow w.heap.size 5 1 v' m (vrow P) → Fr Nobody w w' → wpList Tryz.prog ops Q rest (a.put o.dst v') w') :
    wpList Tryz.prog ops Q (o :: rest) a (w.alloc (.cells (madeCells #[.int .u8 0] n) 5)) := by
  obtain ⟨i0, hi, hz0, hz1, hz2⟩ := info_parts Tryz.infoB
  have hown := World.ownsRow_made (e := 5) (size := 1) (base := w.heap.size) w (madeCells #[.int .u8 0] n) n (Nat.le_refl _) (by unfold maxLen; omega) (by rw [size_madeCells, Nat.mul_one])
  have hfr : Fr Nobody w (w.alloc (.cells (madeCells #[.int .u8 0] n) 5)) := (Fr.refl _ w).alloc _
  rcases h with ⟨hv, h0, h00⟩ | ⟨a', cap', hv, hl, hc⟩
  · have hP0 : P = [] := List.eq_nil_of_length_eq_zero h0
    subst hP0
    subst hm
    rw [hv] at hx
    refine wpList_plain hgd fun K hK' => ?_
    have hr := run_append_owned_none (P := Tryz.prog) (w.alloc (.cells (madeCells #[.int .u8 0] n) 5)) w.heap.size 29 o.type 5 i0 1 Tryz.underlying29 hi _ 0 [] hown
    unfold Oper.wp
    simp [execOp, ho, resolve, invoke, builtin, hs, hx, hr, Result.andThen]
    exact hK' _ _ (hK _ _ hown hfr)
  · simp only [Value.slice.injEq] at hv
    obtain ⟨rfl, _, rfl⟩ := hv
    refine wpList_append_own (w.alloc (.cells (madeCells #[.int .u8 0] n) 5)) hgd s x 29 ho w.heap.size 5 i0 (.int .u8 0) 1 1 Tryz.underlying29 hi hz0 hz1 hz2 rfl (by decide) _ 0 [] hs hown a' m cap (vrow P) hx (by rw [length_vrow]; omega) (fun j u hu => Lib.cell?_alloc_some _ (hc j u hu)) (one_vrow P) (by unfold maxLen; omega) (by omega) (by simp) ?_
    intro v' w' ho' hg' _
    exact hK v' w' (by simpa using ho') (hfr.grown hg' (by intro k hk; simp [Value.ownBlock] at hk; omega))

/-- a frame: the body, and its sum behind it -/
def frm (P : List Nat) : List Nat := P ++ le4 (crc P)
theorem length_frm (P : List Nat) : (frm P).length = P.length + 4 := by simp [frm, le4]
theorem frm_byte (P : List Nat) (h : ∀ x ∈ P, x < 256) : ∀ x ∈ frm P, x < 256 := by
  intro x hx
  rcases List.mem_append.1 hx with hx | hx
  · exact h x hx
  · exact le4_byte _ x hx

set_option maxHeartbeats 1000000 in
theorem seal_ok (w : World) (ao : Option Addr) (cap len : Nat) (P : List Nat) (h : In w ao len cap P) (hL : len ≤ 4096) (ht : Tabf w) :
    Calls Tryz.prog 43 #[.slice ao len cap] w fun e w' => ∃ g cp, e = .returned (.tuple #[.slice (some ⟨g, 0, none⟩) (len + 4) cp, .int .i64 0]) ∧ w'.ownsRow w.heap.size 5 1 (.slice (some ⟨g, 0, none⟩) (len + 4) cp) (len + 4) (vrow (frm P)) ∧ Fr Nobody w w' := by
  obtain ⟨i0, hi, hz0, hz1, hz2⟩ := info_parts Tryz.infoB
  have hmk := make_room (len + 4) (by omega)
  have hcast : ((len + 4 : Nat) : Int) = (len : Int) + 4 := by omega
  rw [hcast] at hmk
  have HI : Hid (In w ao len cap P) := h
  have HT : Hid (Tabf w) := ht
  clear h ht hcast
  go_enter Tryz.func43, Tryz.ntmps43
  go_wp2_with (at_builtin; refine copy_room rfl _ _ rfl ao len cap (len + 4) P HI.out.src HI.out.eqn (by omega) (by omega) rfl rfl ?_)
  clear hmk
  intro v1 w1 ho1 hf1
  have H1 : Hid (w1.ownsRow w.heap.size 5 1 v1 len (vrow P) ∧ Fr Nobody w w1) := ⟨ho1, hf1⟩
  clear ho1 hf1
  go_wp2_with fail
  refine (sum_in _ _ _ _ _ (HI.out.quiet H1.out.2) (by omega) (HT.out.quiet H1.out.2)).mono ?_
  rintro e w2 ⟨rfl, rfl⟩
  have hc := crc_lt P
  have HC : Hid (frm P = P ++ le4 (crc P)) := rfl
  generalize crc P = c at *
  go_wp2
  go_loopw [4, 18] (fun u cc wr => ∃ k : Nat, k ≤ 4 ∧ cc = .int .i64 k ∧ wr.ownsRow w.heap.size 5 1 u (len + k) (vrow (P ++ (le4 c).take k)) ∧ Fr Nobody w wr) (fun _ cc _ => 4 - (intOf cc).toNat)
  case atStart => exact ⟨0, by omega, rfl, by simpa using H1.out.1, H1.out.2⟩
  case round =>
    obtain ⟨k, hk, rfl, ho, hf⟩ := hrel
    have HO : Hid (wr.ownsRow w.heap.size 5 1 u4 (len + k) (vrow (P ++ (le4 c).take k)) ∧ Fr Nobody w wr) := ⟨ho, hf⟩
    clear ho hf
    by_cases hlt : k < 4
    · have HV : Hid (vrow (P ++ (le4 c).take k) ++ [.int .u8 ((c : Int) / 2 ^ (8 * k) % 256)] = vrow (P ++ (le4 c).take (k + 1))) := by
        show _ = _
        rw [List.take_add_one, le4_at c k hlt]
        simp [vrow]
      have hsz := HO.out.2.size
      go_wp2_with (at_builtin; refine wpList_append_own _ rfl _ _ 29 rfl w.heap.size 5 i0 (.int .u8 0) 1 1 Tryz.underlying29 hi hz0 hz1 hz2 rfl (by decide) _ _ _ rfl (HO.out.1.alloc _) ⟨wr.heap.size, 0, none⟩ 1 1 [.int .u8 ((c : Int) / 2 ^ (8 * k) % 256)] rfl rfl (cell_one_new _ _ _) (one_int _ _) (by unfold maxLen; omega) (by omega) (by simp; omega) ?_)
      intro v2 w3 ho2 hg2 _
      have H3 : Hid (w3.ownsRow w.heap.size 5 1 v2 (len + (k + 1)) (vrow (P ++ (le4 c).take (k + 1))) ∧ Fr Nobody w w3) := by
        refine ⟨?_, (HO.out.2.alloc _).grown hg2 (fun q hq => .inr (HO.out.1.lt q hq).1)⟩
        rw [← HV.out]
        exact ho2
      clear ho2 hg2
      go_wp2
      exact ⟨⟨k + 1, by omega, by go_num, H3.out.1, H3.out.2⟩, by simp [intOf]; omega⟩
    · have e : k = 4 := by omega
      subst e
      obtain ⟨g, cp, hv, hg⟩ := row_shape HO.out.1 (by omega)
      subst hv
      go_wp2
      go_ret2
      refine ⟨g, cp, rfl, ?_, HO.out.2⟩
      have h2 := HO.out.1
      rw [HC.out]
      exact h2
end Go.Proofs.YtlncgkbgelejmaaGreatDoor


/-
  told and Open of package frame.
-/
namespace Go.Proofs.YtlncgkbgelejmaaGreatDoor
open Go.RowKit
set_option linter.unusedVariables false

theorem bnum_take_succ (l : List Nat) (k x : Nat) (h : l[k]? = some x) : bnum (l.take (k + 1)) = bnum (l.take k) + 2 ^ (8 * k) * x := by
  have hk : k < l.length := (List.getElem?_eq_some_iff.1 h).1
  rw [List.take_add_one, h]
  show bnum (l.take k ++ [x]) = _
  rw [bnum_append, List.length_take, Nat.min_eq_left (by omega), bnum, bnum, Nat.mul_zero, Nat.add_zero]
theorem bnum_take_lt (l : List Nat) (hb : ∀ x ∈ l, x < 256) (k : Nat) : bnum (l.take k) < 2 ^ (8 * k) := by
  have h := bnum_lt (l.take k) (fun x hx => hb x (List.mem_of_mem_take hx))
  refine Nat.lt_of_lt_of_le h (Nat.pow_le_pow_right (by decide) ?_)
  rw [List.length_take]; omega
theorem or_byte (s x k : Nat) (hs : s < 2 ^ (8 * k)) (hx : x < 256) (hk : k < 4) : bits .or .u32 (s : Int) (IntKind.u32.wrap ((x : Int) * 2 ^ (8 * k))) = ((s + 2 ^ (8 * k) * x : Nat) : Int) := by
  have hp : 2 ^ (8 * k) ≤ 2 ^ 24 := Nat.pow_le_pow_right (by decide) (by omega)
  have h1 : x * 2 ^ (8 * k) ≤ 255 * 2 ^ 24 := Nat.mul_le_mul (by omega) hp
  have h3 : 2 ^ (8 * k) * x < 4294967296 := by rw [Nat.mul_comm]; exact Nat.lt_of_le_of_lt h1 (by decide)
  have h4 : s < 4294967296 := Nat.lt_of_lt_of_le hs (Nat.le_trans hp (by decide))
  have e : IntKind.u32.wrap ((x : Int) * 2 ^ (8 * k)) = ((2 ^ (8 * k) * x : Nat) : Int) := by
    rw [IntKind.wrap_u32]
    have h2 : (x : Int) * 2 ^ (8 * k) = ((2 ^ (8 * k) * x : Nat) : Int) := by simp [Int.mul_comm]
    rw [h2]
    exact Int.emod_eq_of_lt (Int.natCast_nonneg _) (Int.ofNat_lt.2 h3)
  rw [e, u32_or_nat _ _ h4 h3, Nat.or_comm, ← Nat.two_pow_add_eq_or_of_lt hs, Nat.add_comm]

set_option maxHeartbeats 1000000 in
theorem ftold_any (w : World) (ao : Option Addr) (cap d : Nat) (P : List Nat) (h : In w ao (d + 4) cap P) (hL : d ≤ 10000) :
    Calls Tryz.prog 55 #[.slice ao (d + 4) cap] w fun e w' => e = .returned (.int .u32 ((bnum (P.drop d) : Nat) : Int)) ∧ w' = w := by
  obtain ⟨g, o, rfl, hcs⟩ : ∃ g o, ao = some ⟨g, o, none⟩ ∧ ∀ (j x : Nat), P[j]? = some x → w.cell? ⟨g, o + j, none⟩ = some (.int .u8 (x : Int)) := by
    rcases h.at' with hn | hn
    · have := h.eqn; rw [hn] at this; simp at this
    · exact hn
  have HI : Hid (In w (some ⟨g, o, none⟩) (d + 4) cap P) := h
  have HC : Hid (∀ (j x : Nat), P[j]? = some x → w.cell? ⟨g, o + j, none⟩ = some (.int .u8 (x : Int))) := hcs
  have hle := h.le
  clear h hcs
  go_enter Tryz.func55, Tryz.ntmps55
  go_wp2
  go_loopw [3, 12] (fun u c wr => ∃ k : Nat, k ≤ 4 ∧ c = .int .i64 k ∧ u = .int .u32 ((bnum ((P.drop d).take k) : Nat) : Int) ∧ wr = w) (fun _ c _ => 4 - (intOf c).toNat)
  case atStart => exact ⟨0, by omega, rfl, rfl, rfl⟩
  case round =>
    obtain ⟨k, hk, rfl, rfl, rfl⟩ := hrel
    by_cases hlt : k < 4
    · have hP : d + k < P.length := by rw [HI.out.eqn]; omega
      have hx : P[d + k]? = some P[d + k] := List.getElem?_eq_getElem hP
      have hx2 := HI.out.byt P[d + k] (List.getElem_mem _)
      have cx := HC.out _ _ hx
      rw [← Nat.add_assoc] at cx
      have hdx : (P.drop d)[k]? = some P[d + k] := by rw [List.getElem?_drop, hx]
      have HS : Hid _ := bnum_take_succ _ k _ hdx
      have hs := bnum_take_lt (P.drop d) (fun x hx => HI.out.byt x (List.mem_of_mem_drop hx)) k
      have HO : Hid _ := or_byte _ _ k hs hx2 hlt
      generalize P[d + k] = x at *
      generalize bnum ((P.drop d).take k) = s at *
      clear hx hdx hs
      go_wp2
      refine ⟨⟨k + 1, by omega, by go_num, ?_, trivial⟩, by simp [intOf]; omega⟩
      rw [HS.out, ← HO.out, IntKind.wrap_u32]
    · have e : k = 4 := by omega
      subst e
      have HE : Hid ((P.drop d).take 4 = P.drop d) := List.take_of_length_le (by rw [List.length_drop, HI.out.eqn]; omega)
      go_wp2
      go_ret
      exact ⟨ret_int (by rw [HE.out]), rfl⟩

set_option maxHeartbeats 400000 in
theorem open_short (w : World) (ao : Option Addr) (cap len : Nat) (h : len < 4) :
    Calls Tryz.prog 30 #[.slice ao len cap] w fun e w' => e = .returned (.tuple #[.slice none 0 0, .int .i64 2]) ∧ w' = w := by
  go_enter Tryz.func30, Tryz.ntmps30
  go_wp2
  go_ret2
  exact ⟨rfl, rfl⟩
set_option maxHeartbeats 400000 in
theorem open_long (w : World) (ao : Option Addr) (cap len : Nat) (h : 4100 < len) (hmax : len ≤ maxLen) :
    Calls Tryz.prog 30 #[.slice ao len cap] w fun e w' => e = .returned (.tuple #[.slice none 0 0, .int .i64 3]) ∧ w' = w := by
  unfold maxLen at hmax
  go_enter Tryz.func30, Tryz.ntmps30
  go_wp2
  go_ret2
  exact ⟨rfl, rfl⟩
set_option maxHeartbeats 1000000 in
set_option maxRecDepth 100000 in
theorem open_sum (w : World) (ao : Option Addr) (cap d : Nat) (P : List Nat) (h : In w ao (d + 4) cap P) (hL : d ≤ 4096) (ht : Tabf w) (hne : bnum (P.drop d) ≠ crc (P.take d)) :
    Calls Tryz.prog 30 #[.slice ao (d + 4) cap] w fun e w' => e = .returned (.tuple #[.slice none 0 0, .int .i64 6]) ∧ w' = w := by
  obtain ⟨g, o, rfl⟩ := h.some' (by omega)
  have HI : Hid (In w (some ⟨g, o, none⟩) (d + 4) cap P ∧ Tabf w) := ⟨h, ht⟩
  have HN : Hid (bnum (P.drop d) ≠ crc (P.take d)) := hne
  have hle := h.le
  clear h ht hne
  go_enter Tryz.func30, Tryz.ntmps30
  go_wp2_with fail
  refine (ftold_any w _ cap d P HI.out.1 (by omega)).mono ?_
  rintro e w1 ⟨rfl, rfl⟩
  go_wp2_with fail
  refine (sum_in _ _ _ _ _ (HI.out.1.cut d (by omega)) (by omega) HI.out.2).mono ?_
  rintro e w2 ⟨rfl, rfl⟩
  have hq : (((bnum (P.drop d) : Nat) : Int) != ((crc (P.take d) : Nat) : Int)) = true := by have := HN.out; simp; omega
  generalize bnum (P.drop d) = c1 at *
  generalize crc (P.take d) = c2 at *
  go_wp2
  go_ret2
  exact ⟨rfl, rfl⟩
set_option maxHeartbeats 1000000 in
set_option maxRecDepth 100000 in
theorem open_ok (w : World) (ao : Option Addr) (cap d : Nat) (P : List Nat) (h : In w ao (d + 4) cap P) (hL : d ≤ 4096) (ht : Tabf w) (heq : bnum (P.drop d) = crc (P.take d)) :
    Calls Tryz.prog 30 #[.slice ao (d + 4) cap] w fun e w' => ∃ v', e = .returned (.tuple #[v', .int .i64 0]) ∧ w'.ownsRow 0 5 1 v' d (vrow (P.take d)) ∧ Fr Nobody w w' ∧ (∀ k, v'.ownBlock = some k → w.heap.size ≤ k) := by
  obtain ⟨g, o, rfl⟩ := h.some' (by omega)
  have HI : Hid (In w (some ⟨g, o, none⟩) (d + 4) cap P ∧ Tabf w) := ⟨h, ht⟩
  have HN : Hid (bnum (P.drop d) = crc (P.take d)) := heq
  have HL : Hid ((P.take d).length = d) := (h.cut d (by omega)).eqn
  have hle := h.le
  clear h ht heq
  go_enter Tryz.func30, Tryz.ntmps30
  go_wp2_with fail
  refine (ftold_any w _ cap d P HI.out.1 (by omega)).mono ?_
  rintro e w1 ⟨rfl, rfl⟩
  go_wp2_with fail
  refine (sum_in _ _ _ _ _ (HI.out.1.cut d (by omega)) (by omega) HI.out.2).mono ?_
  rintro e w2 ⟨rfl, rfl⟩
  rw [HN.out]
  have HS : Hid (Src w2 (.slice (some ⟨g, o, none⟩) d cap) d (vrow (P.take d))) := by
    have := (HI.out.1.cut d (by omega)).src
    rw [HL.out] at this
    exact this
  generalize crc (P.take d) = c2 at *
  go_wp2_with fail
  refine (clone_any _ _ d (vrow (P.take d)) HS.out (one_vrow _) (by omega)).mono ?_
  rintro e w3 ⟨v', rfl, hv⟩
  have HV : Hid _ := hv
  clear hv
  go_wp2
  go_ret2
  exact ⟨v', rfl, HV.out⟩
end Go.Proofs.YtlncgkbgelejmaaGreatDoor


/-
  A frame of which bits were turned is none.
-/
namespace Go.Proofs.YtlncgkbgelejmaaGreatDoor
open Go.RowKit
set_option linter.unusedVariables false
set_option maxRecDepth 100000

theorem In.of_own {w : World} {B n : Nat} {v : Value} {P : List Nat} (h : w.ownsRow B 5 1 v n (vrow P)) (hl : P.length = n) (hb : ∀ x ∈ P, x < 256) : ∃ ao cap, v = .slice ao n cap ∧ In w ao n cap P := by
  rcases h.2 with ⟨rfl, h0⟩ | ⟨g, cap, cur, rfl, _⟩
  · subst h0
    exact ⟨none, 0, rfl, .inl (List.eq_nil_of_length_eq_zero hl), hl, hb, fun _ => rfl, Nat.le_refl _⟩
  · exact ⟨_, _, rfl, In.of_row h hl hb⟩
theorem burst_no_frame (R Q : List Nat) (m t q : Nat) (hR : R.length = m) (hRb : ∀ x ∈ R, x < 256) (hQ : Q.length = m + 4) (hQb : ∀ x ∈ Q, x < 256) (hodd : q % 2 = 1) (ht : t < 8 * (m + 4)) (h : bnum Q = bnum (frm R) ^^^ (2 ^ t * pats q t (8 * (m + 4)) 32)) : bnum (Q.drop m) ≠ crc (Q.take m) := by
  have hl : (Q.take m).length = m := by rw [List.length_take]; omega
  have e1 : bnum Q = bnum (Q.take m) + 2 ^ (8 * (Q.take m).length) * bnum (Q.drop m) := by
    rw [← bnum_append, List.take_append_drop]
  have e2 : bnum (frm R) = bnum R + 2 ^ (8 * R.length) * crc R := by
    unfold frm; rw [bnum_append, bnum_le4 _ (crc_lt R)]
  have h4 : bnum (Q.drop m) < 4294967296 := by
    have := bnum_lt (Q.drop m) (fun x hx => hQb x (List.mem_of_mem_drop hx))
    rw [List.length_drop, hQ, show m + 4 - m = 4 by omega] at this
    exact this
  rw [e1, e2] at h
  exact seal_apart R (Q.take m) (crc R) (bnum (Q.drop m)) hRb (fun x hx => hQb x (List.mem_of_mem_take hx)) (by rw [hR, hl]) t _ (pats_lt _ _ _) (pats_odd _ _ _ hodd ht) rfl h4 h
end Go.Proofs.YtlncgkbgelejmaaGreatDoor


/-
  spare and kept of the laws on frames; Same of unlike bytes.
-/
namespace Go.Proofs.YtlncgkbgelejmaaGreatDoor
open Go.RowKit
set_option linter.unusedVariables false
set_option maxRecDepth 100000

theorem push_list (l : List Int) (b : ByteArray) : (l.foldl (fun r n => r.push (UInt8.ofNat n.toNat)) b).data.toList = b.data.toList ++ l.map (fun n => UInt8.ofNat n.toNat) := by
  induction l generalizing b with
  | nil => simp
  | cons x l ih => rw [List.foldl_cons, ih]; simp [ByteArray.push]
theorem bstr_inj (P Q : List Nat) (hP : ∀ x ∈ P, x < 256) (hQ : ∀ x ∈ Q, x < 256) (h : (bstr P).toList = (bstr Q).toList) : P = Q := by
  rw [ByteArray.toList_eq, ByteArray.toList_eq] at h
  unfold bstr at h
  rw [push_list, push_list, List.map_map, List.map_map] at h
  have h2 : P.map ((fun n : Int => UInt8.ofNat n.toNat) ∘ fun (n : Nat) => (n : Int)) = Q.map ((fun n : Int => UInt8.ofNat n.toNat) ∘ fun (n : Nat) => (n : Int)) := by simpa using h
  have h3 := congrArg (List.map UInt8.toNat) h2
  rw [List.map_map, List.map_map] at h3
  have e : ∀ L : List Nat, (∀ x ∈ L, x < 256) → L.map (UInt8.toNat ∘ ((fun n : Int => UInt8.ofNat n.toNat) ∘ fun (n : Nat) => (n : Int))) = L := by
    intro L hL
    conv => rhs; rw [← List.map_id L]
    refine List.map_congr_left fun x hx => ?_
    have := hL x hx
    simp [UInt8.toNat_ofNat']
    omega
  rw [e P hP, e Q hQ] at h3
  exact h3
theorem same_no (w : World) (a b : Value) (P Q : List Nat) (ha : Src w a P.length (vrow P)) (hb : Src w b Q.length (vrow Q)) (hP : ∀ x ∈ P, x < 256) (hQ : ∀ x ∈ Q, x < 256) (hne : P ≠ Q) :
    Calls Tryz.prog 13 #[a, b] w fun e w' => e = .returned (.bool false) ∧ w' = w := by
  obtain ⟨aa, an, ac, rfl⟩ : ∃ aa an ac, a = .slice aa an ac := by
    rcases ha with ⟨rfl, _⟩ | ⟨_, _, rfl, _⟩ <;> exact ⟨_, _, _, rfl⟩
  obtain ⟨ba, bn, bc, rfl⟩ : ∃ aa an ac, b = .slice aa an ac := by
    rcases hb with ⟨rfl, _⟩ | ⟨_, _, rfl, _⟩ <;> exact ⟨_, _, _, rfl⟩
  have ca := conv_src w aa an ac P ha
  have cb := conv_src w ba bn bc Q hb
  have hs : ((bstr P).toList == (bstr Q).toList) = false := by
    simp only [beq_eq_false_iff_ne]
    exact fun c => hne (bstr_inj P Q hP hQ c)
  clear ha hb
  generalize bstr P = s at *
  generalize bstr Q = t at *
  go_enter Tryz.func13, Tryz.ntmps13
  go_wp2
  go_ret
  exact ⟨rfl, rfl⟩

/-- bytes of their ownf with a marked place behind them -/
structure Sp (w : World) (B g n cp : Nat) (P : List Nat) : Prop where
  row : w.ownsRow B 5 1 (.slice (some ⟨g, 0, none⟩) (n + 1) cp) (n + 1) (vrow (P ++ [165]))
  eqn : P.length = n
  byt : ∀ x ∈ P, x < 256
theorem Sp.quiet {w w' : World} {B g n cp : Nat} {P : List Nat} (h : Sp w B g n cp P) (hf : Fr Nobody w w') : Sp w' B g n cp P :=
  ⟨hf.row h.row (fun _ _ => id), h.eqn, h.byt⟩
theorem Sp.in' {w : World} {B g n cp : Nat} {P : List Nat} (h : Sp w B g n cp P) : In w (some ⟨g, 0, none⟩) n cp P := by
  have h1 : In w (some ⟨g, 0, none⟩) (n + 1) cp (P ++ [165]) := In.of_row h.row (by rw [List.length_append, h.eqn]; rfl) (fun x hx => by
    rcases List.mem_append.1 hx with hx | hx
    · exact h.byt x hx
    · simp at hx; omega)
  have h2 := h1.cut n (by omega)
  rw [List.take_left' h.eqn] at h2
  exact h2
theorem Sp.last {w : World} {B g n cp : Nat} {P : List Nat} (h : Sp w B g n cp P) : w.cell? ⟨g, n, none⟩ = some (.int .u8 165) ∧ n + 1 ≤ cp := by
  refine ⟨?_, (row_cap h.row).2.1⟩
  rw [h.row.cellAt n (by omega), getElem?_vrow, List.getElem?_append_right (by rw [h.eqn]; exact Nat.le_refl _), h.eqn, Nat.sub_self]; rfl

end Go.Proofs.YtlncgkbgelejmaaGreatDoor


/-
  The document's Seal and Open.
-/
namespace Go.Proofs.YtlncgkbgelejmaaGreatDoor
open Go.RowKit
set_option linter.unusedVariables false

theorem cell_le4 (w : World) (t : TypeId) (b0 b1 b2 b3 : Nat) : ∀ j u, (vrow [b0, b1, b2, b3])[j]? = some u → (w.alloc (.cells #[.int .u8 (b0 : Int), .int .u8 (b1 : Int), .int .u8 (b2 : Int), .int .u8 (b3 : Int)] t)).cell? ((⟨w.heap.size, 0, none⟩ : Addr).add j) = some u := by
  intro j u hu
  rw [addr_add, Nat.zero_add, cell_of_row _ _ _ _ _ _ (heap_alloc_new w _)]
  have e : (#[Value.int .u8 (b0 : Int), .int .u8 (b1 : Int), .int .u8 (b2 : Int), .int .u8 (b3 : Int)] : Array Value) = (vrow [b0, b1, b2, b3]).toArray := rfl
  rw [e, List.getElem?_toArray, hu]

set_option maxHeartbeats 1000000 in
set_option maxRecDepth 100000 in
theorem rseal_ok (w : World) (ao : Option Addr) (cap len : Nat) (P : List Nat) (h : In w ao len cap P) (hL : len ≤ 4096) :
    Calls Tryz.prog 28 #[.slice ao len cap] w fun e w' => ∃ g cp, e = .returned (.tuple #[.slice (some ⟨g, 0, none⟩) (len + 4) cp, .int .i64 0]) ∧ w'.ownsRow w.heap.size 5 1 (.slice (some ⟨g, 0, none⟩) (len + 4) cp) (len + 4) (vrow (frm P)) ∧ Fr Nobody w w' := by
  obtain ⟨i0, hi, hz0, hz1, hz2⟩ := info_parts Tryz.infoB
  have HI : Hid (In w ao len cap P) := h
  clear h
  go_enter Tryz.func28, Tryz.ntmps28
  go_wp2_with fail
  refine (rsum_any w ao cap len (8 * len) P HI.out (by omega) rfl).mono ?_
  rintro e w1 ⟨rfl, hf1⟩
  have HF : Hid _ := hf1
  have hc := crc_lt P
  have HC : Hid (frm P = P ++ le4 (crc P)) := rfl
  clear hf1
  generalize crc P = c at *
  obtain ⟨b0, e0⟩ : ∃ b : Nat, (c : Int) % 256 = (b : Int) := ⟨c % 256, by omega⟩
  obtain ⟨b1, e1⟩ : ∃ b : Nat, (c : Int) / 256 % 256 = (b : Int) := ⟨c / 256 % 256, by omega⟩
  obtain ⟨b2, e2⟩ : ∃ b : Nat, (c : Int) / 65536 % 256 = (b : Int) := ⟨c / 65536 % 256, by omega⟩
  obtain ⟨b3, e3⟩ : ∃ b : Nat, (c : Int) / 16777216 = (b : Int) := ⟨c / 16777216, by omega⟩
  have HB : Hid (le4 c = [b0, b1, b2, b3]) := by
    show _ = _
    unfold le4
    rw [show c % 256 = b0 by omega, show c / 256 % 256 = b1 by omega, show c / 65536 % 256 = b2 by omega, show c / 16777216 % 256 = b3 by omega]
  have H1 : Hid (In w1 ao len cap P) := HI.out.quiet HF.out
  go_wp2_with (at_builtin; refine copy_bytes rfl _ _ rfl ao len cap P H1.out.src H1.out.eqn (by omega) rfl rfl ?_)
  intro v2 w2 ho2 hf2
  have H2 : Hid (w2.ownsRow w.heap.size 5 1 v2 len (vrow P) ∧ Fr Nobody w w2) := ⟨row_low ho2 HF.out.size, HF.out.trans hf2⟩
  have hs2 := H2.out.2.size
  clear ho2 hf2
  go_wp2_with (at_builtin; refine wpList_append_own _ rfl _ _ 29 rfl w.heap.size 5 i0 (.int .u8 0) 1 1 Tryz.underlying29 hi hz0 hz1 hz2 rfl (by decide) _ _ _ rfl (H2.out.1.alloc _) ⟨w2.heap.size, 0, none⟩ 4 4 (vrow [b0, b1, b2, b3]) rfl rfl (cell_le4 _ _ _ _ _ _) (one_vrow _) (by unfold maxLen; omega) (by omega) (by simp; omega) ?_)
  intro v3 w3 ho3 hg3 _
  obtain ⟨g, cp, hv3, hg⟩ := row_shape ho3 (by omega)
  subst hv3
  have H3 : Hid (w3.ownsRow w.heap.size 5 1 (.slice (some ⟨g, 0, none⟩) (len + 4) cp) (len + 4) (vrow (frm P)) ∧ Fr Nobody w w3) := by
    refine ⟨?_, (H2.out.2.alloc _).grown hg3 (fun q hq => .inr (H2.out.1.lt q hq).1)⟩
    rw [HC.out, HB.out, vrow_append]; exact ho3
  clear ho3 hg3
  go_wp2
  go_ret2
  exact ⟨g, cp, rfl, H3.out⟩

theorem frm_opens (R : List Nat) (m : Nat) (h : R.length = m) : bnum ((frm R).drop m) = crc ((frm R).take m) ∧ (frm R).take m = R := by
  unfold frm
  subst h
  rw [List.drop_left, List.take_left]
  exact ⟨bnum_le4 _ (crc_lt R), rfl⟩

theorem bnum_inj (l m : List Nat) (hl : ∀ x ∈ l, x < 256) (hm : ∀ x ∈ m, x < 256) (hlen : l.length = m.length) (h : bnum l = bnum m) : l = m := by
  induction l generalizing m with
  | nil => exact (List.eq_nil_of_length_eq_zero hlen.symm).symm
  | cons a l ih =>
    cases m with
    | nil => simp at hlen
    | cons b m =>
      have ha := hl a (by simp)
      have hb := hm b (by simp)
      simp only [bnum] at h
      have h1 : a = b := by omega
      have h2 := ih m (fun x hx => hl x (by simp [hx])) (fun x hx => hm x (by simp [hx])) (by simpa using hlen) (by omega)
      rw [h1, h2]
theorem frm_iff (P : List Nat) (d : Nat) (hlen : P.length = d + 4) (hb : ∀ x ∈ P, x < 256) : frm (P.take d) = P ↔ bnum (P.drop d) = crc (P.take d) := by
  have hl : (P.take d).length = d := by rw [List.length_take]; omega
  constructor
  · intro h
    have h2 : P.drop d = le4 (crc (P.take d)) := by
      have h3 := congrArg (List.drop d) h
      unfold frm at h3
      rw [List.drop_left' hl] at h3
      exact h3.symm
    rw [h2]
    exact bnum_le4 _ (crc_lt _)
  · intro h
    have h2 : le4 (crc (P.take d)) = P.drop d := by
      refine bnum_inj _ _ (le4_byte _) (fun x hx => hb x (List.mem_of_mem_drop hx)) ?_ (by rw [bnum_le4 _ (crc_lt _), h])
      rw [List.length_drop, hlen]; simp [le4]
    unfold frm
    rw [h2, List.take_append_drop]

set_option maxHeartbeats 400000 in
theorem ropen_short (w : World) (ao : Option Addr) (cap len : Nat) (h : len < 4) :
    Calls Tryz.prog 12 #[.slice ao len cap] w fun e w' => e = .returned (.tuple #[.slice none 0 0, .int .i64 2]) ∧ w' = w := by
  go_enter Tryz.func12, Tryz.ntmps12
  go_wp2
  go_ret2
  exact ⟨rfl, rfl⟩
set_option maxHeartbeats 1000000 in
set_option maxRecDepth 100000 in
theorem ropen_sum (w : World) (ao : Option Addr) (cap d : Nat) (P : List Nat) (h : In w ao (d + 4) cap P) (hL : d ≤ 4096) (hne : bnum (P.drop d) ≠ crc (P.take d)) :
    Calls Tryz.prog 12 #[.slice ao (d + 4) cap] w fun e w' => e = .returned (.tuple #[.slice none 0 0, .int .i64 6]) ∧ Fr Nobody w w' := by
  obtain ⟨g, o, rfl⟩ := h.some' (by omega)
  have HI : Hid (In w (some ⟨g, o, none⟩) (d + 4) cap P) := h
  have HN : Hid (frm (P.take d) ≠ P) := fun c => hne ((frm_iff P d h.eqn h.byt).1 c)
  have HR : Hid _ := h.cut d (by omega)
  have hle := h.le
  clear h hne
  go_enter Tryz.func12, Tryz.ntmps12
  go_wp2_with fail
  refine (rseal_ok w _ cap d (P.take d) HR.out hL).mono ?_
  rintro e w1 ⟨g1, cp1, rfl, ho1, hf1⟩
  have H1 : Hid (In w1 (some ⟨g1, 0, none⟩) (d + 4) cp1 (frm (P.take d)) ∧ Fr Nobody w w1) := ⟨In.of_row ho1 (by rw [length_frm, HR.out.eqn]) (frm_byte _ HR.out.byt), hf1⟩
  clear ho1 hf1
  go_wp2_with fail
  refine (same_no w1 _ _ _ P H1.out.1.src (HI.out.quiet H1.out.2).src H1.out.1.byt HI.out.byt HN.out).mono ?_
  rintro e w2 ⟨rfl, rfl⟩
  go_wp2
  go_ret2
  exact ⟨rfl, H1.out.2⟩
set_option maxHeartbeats 1000000 in
set_option maxRecDepth 100000 in
theorem ropen_ok (w : World) (ao : Option Addr) (cap d : Nat) (P : List Nat) (h : In w ao (d + 4) cap P) (hL : d ≤ 4096) (heq : bnum (P.drop d) = crc (P.take d)) :
    Calls Tryz.prog 12 #[.slice ao (d + 4) cap] w fun e w' => ∃ v', e = .returned (.tuple #[v', .int .i64 0]) ∧ w'.ownsRow w.heap.size 5 1 v' d (vrow (P.take d)) ∧ Fr Nobody w w' := by
  obtain ⟨g, o, rfl⟩ := h.some' (by omega)
  have HI : Hid (In w (some ⟨g, o, none⟩) (d + 4) cap P) := h
  have HN : Hid (frm (P.take d) = P) := (frm_iff P d h.eqn h.byt).2 heq
  have HR : Hid (In w (some ⟨g, o, none⟩) d cap (P.take d)) := h.cut d (by omega)
  have hle := h.le
  clear h heq
  go_enter Tryz.func12, Tryz.ntmps12
  go_wp2_with fail
  refine (rseal_ok w _ cap d (P.take d) HR.out hL).mono ?_
  rintro e w1 ⟨g1, cp1, rfl, ho1, hf1⟩
  have H1 : Hid (In w1 (some ⟨g1, 0, none⟩) (d + 4) cp1 P ∧ Fr Nobody w w1) := by
    refine ⟨?_, hf1⟩
    have := In.of_row ho1 (by rw [length_frm, HR.out.eqn]) (frm_byte _ HR.out.byt)
    rw [HN.out] at this
    exact this
  clear ho1 hf1
  go_wp2_with fail
  refine (same_any w1 _ _ P H1.out.1.src (HI.out.quiet H1.out.2).src).mono ?_
  rintro e w2 ⟨rfl, rfl⟩
  have HR2 : Hid (In w2 (some ⟨g, o, none⟩) d cap (P.take d)) := HR.out.quiet H1.out.2
  go_wp2_with (at_builtin; refine copy_bytes rfl _ _ rfl _ d cap (P.take d) HR2.out.src HR2.out.eqn (by omega) rfl rfl ?_)
  intro v3 w3 ho3 hf3
  have H3 : Hid (w3.ownsRow w.heap.size 5 1 v3 d (vrow (P.take d)) ∧ Fr Nobody w w3) := ⟨row_low ho3 H1.out.2.size, H1.out.2.trans hf3⟩
  clear ho3 hf3
  go_wp2
  go_ret2
  exact ⟨v3, rfl, H3.out⟩
end Go.Proofs.YtlncgkbgelejmaaGreatDoor

