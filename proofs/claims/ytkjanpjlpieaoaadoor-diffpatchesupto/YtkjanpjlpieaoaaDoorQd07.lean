/-
  Masks of components; lists that are alike; the place of a kind.
-/
import Derived.Test.YtkjanpjlpieaoaaDoorQd06
import Derived.Deep.RegionWith
namespace Go.Proofs.YtkjanpjlpieaoaaDoor
open Go.RowKit Go.ChangeShapes Go.WideShapes
set_option linter.unusedVariables false
set_option maxRecDepth 100000

def hasK (L : List Cp) (k : Nat) : Bool := L.any fun q => decide (q.k = k)
theorem hasK_snoc (L : List Cp) (q : Cp) (k : Nat) : hasK (L ++ [q]) k = (hasK L k || decide (q.k = k)) := by simp [hasK]
/-- the mask of the kinds below n -/
def mskN (L : List Cp) : Nat → Nat
  | 0 => 0
  | n + 1 => mskN L n + if hasK L n then 2 ^ n else 0
def msk (L : List Cp) : Nat := mskN L 6
theorem mskN_lt (L : List Cp) (n : Nat) : mskN L n < 2 ^ n := by
  induction n with
  | zero => simp [mskN]
  | succ n ih => rw [mskN, Nat.pow_succ]; split <;> omega
def val (a b c d e f : Bool) : Nat := a.toNat + 2 * b.toNat + 4 * c.toNat + 8 * d.toNat + 16 * e.toNat + 32 * f.toNat
theorem msk_val (L : List Cp) : msk L = val (hasK L 0) (hasK L 1) (hasK L 2) (hasK L 3) (hasK L 4) (hasK L 5) := by
  unfold msk val
  simp only [mskN]
  cases hasK L 0 <;> cases hasK L 1 <;> cases hasK L 2 <;> cases hasK L 3 <;> cases hasK L 4 <;> cases hasK L 5 <;> rfl
theorem msk_nil : msk [] = 0 := by simp [msk, mskN, hasK]
theorem msk_lt (L : List Cp) : msk L < 64 := mskN_lt L 6
theorem val_or : ∀ (k : Fin 6) (a b c d e f : Bool), val (a || decide (k.1 = 0)) (b || decide (k.1 = 1)) (c || decide (k.1 = 2)) (d || decide (k.1 = 3)) (e || decide (k.1 = 4)) (f || decide (k.1 = 5)) = val a b c d e f ||| (1 <<< k.1) := by decide
theorem msk_snoc (L : List Cp) (q : Cp) (h : q.k < 6) : msk (L ++ [q]) = msk L ||| (1 <<< q.k) := by
  rw [msk_val, msk_val]
  simp only [hasK_snoc]
  exact val_or ⟨q.k, h⟩ _ _ _ _ _ _
theorem msk_skip (L : List Cp) (q : Cp) (h : ¬ q.k < 6) : msk (L ++ [q]) = msk L := by
  rw [msk_val, msk_val]
  simp only [hasK_snoc]
  rw [decide_eq_false (by omega : ¬ q.k = 0), decide_eq_false (by omega : ¬ q.k = 1), decide_eq_false (by omega : ¬ q.k = 2), decide_eq_false (by omega : ¬ q.k = 3), decide_eq_false (by omega : ¬ q.k = 4), decide_eq_false (by omega : ¬ q.k = 5)]
  simp
theorem or_sh (m k : Nat) (hm : m < 64) (hk : k < 6) : bits .or .u8 (m : Int) (2 ^ k % 256) = ((m ||| 1 <<< k : Nat) : Int) := by
  have h : k = 0 ∨ k = 1 ∨ k = 2 ∨ k = 3 ∨ k = 4 ∨ k = 5 := by omega
  rcases h with rfl | rfl | rfl | rfl | rfl | rfl
  · exact u8_or_nat m 1 (by omega) (by decide)
  · exact u8_or_nat m 2 (by omega) (by decide)
  · exact u8_or_nat m 4 (by omega) (by decide)
  · exact u8_or_nat m 8 (by omega) (by decide)
  · exact u8_or_nat m 16 (by omega) (by decide)
  · exact u8_or_nat m 32 (by omega) (by decide)
theorem take_snoc {α : Type} (L : List α) (j : Nat) (q : α) (h : L[j]? = some q) : L.take (j + 1) = L.take j ++ [q] := by rw [List.take_add_one, h]; rfl

set_option maxHeartbeats 2000000 in
theorem mask_any (w : World) (ao : Option Addr) (len cap : Nat) (L : List Cp) (hl : L.length = len) (hs : Cs w ao L) (hk : ∀ q ∈ L, q.k < 256) (hm : len ≤ 1000000) :
    Calls Tryd.prog 52 #[.slice ao len cap] w fun e w' => e = .returned (.int .u8 ((msk L : Nat) : Int)) ∧ Fr Nobody w w' := by
  have HL : Hid (L.length = len ∧ Cs w ao L ∧ ∀ q ∈ L, q.k < 256) := ⟨hl, hs, hk⟩
  clear hl hs hk
  go_enter Tryd.func52, Tryd.ntmps52
  go_wp2
  go_loopw [3, 8] (fun m c wr => ∃ j : Nat, j ≤ len ∧ c = .int .i64 j ∧ Fr Nobody w wr ∧ m = .int .u8 ((msk (L.take j) : Nat) : Int)) (fun _ c _ => len - (intOf c).toNat)
  case atStart => exact ⟨0, Nat.zero_le _, rfl, Fr.refl _ _, by simp [msk_nil]⟩
  case round =>
    obtain ⟨j, hj, rfl, hf, rfl⟩ := hrel
    have HF : Hid (Fr Nobody w wr) := hf
    clear hf
    by_cases hlt : j < len
    · obtain ⟨q, hq⟩ : ∃ q, L[j]? = some q := ⟨_, List.getElem?_eq_getElem (by rw [HL.out.1]; exact hlt)⟩
      obtain ⟨g, o, hao, hall, hat⟩ := (HL.out.2.1.quiet HF.out).at j q hq
      subst hao
      have hk2 := HL.out.2.2 q (List.mem_of_getElem? hq)
      obtain ⟨c0, c1, c2, c3⟩ := hat
      have hlt' : (j : Int) < (len : Int) := by omega
      have HT : Hid (L.take (j + 1) = L.take j ++ [q]) := take_snoc L j q hq
      have hm64 := msk_lt (L.take j)
      clear hq hall
      by_cases h6 : q.k < 6
      · have HM : Hid (msk (L.take (j + 1)) = msk (L.take j) ||| (1 <<< q.k)) := by rw [HT.out]; exact msk_snoc _ q h6
        obtain ⟨qk, qa, qb, qc⟩ := q
        simp only at c0 c1 c2 c3 hk2 h6 HM
        have h6' : (qk : Int) < 6 := by omega
        generalize msk (L.take j) = m at *
        go_wp2
        go_roundw
        case rel =>
          refine ⟨j + 1, by omega, by go_num, HF.out.alloc _, ?_⟩
          rw [HM.out, or_sh m qk hm64 h6]
        case measure => simp [intOf]; omega
      · have HM : Hid (msk (L.take (j + 1)) = msk (L.take j)) := by rw [HT.out]; exact msk_skip _ q h6
        obtain ⟨qk, qa, qb, qc⟩ := q
        simp only at c0 c1 c2 c3 hk2 h6 HM
        have h6' : ¬ (qk : Int) < 6 := by omega
        generalize msk (L.take j) = m at *
        go_wp2
        go_roundw
        case rel => exact ⟨j + 1, by omega, by go_num, HF.out.alloc _, by rw [HM.out]⟩
        case measure => simp [intOf]; omega
    · have HN : Hid (L.take j = L) := List.take_of_length_le (by rw [HL.out.1]; omega)
      have hlt' : ¬ (j : Int) < (len : Int) := by omega
      rw [HN.out]
      obtain ⟨m, hm⟩ : ∃ m, msk L = m := ⟨_, rfl⟩
      have HM : Hid (msk L = m) := hm
      rw [hm]
      clear hm
      go_wp2
      go_ret
      exact ⟨by rw [HM.out]; rfl, HF.out⟩

theorem hasK_take_succ {L : List Cp} {j k : Nat} {q : Cp} (hq : L[j]? = some q) : hasK (L.take (j + 1)) k = (hasK (L.take j) k || decide (q.k = k)) := by rw [take_snoc L j q hq, hasK_snoc]
/-- what is added of kind k behind j of them -/
def ad (L : List Cp) (k j : Nat) : Nat := if hasK (L.take j) k then 2 ^ k else 0
end Go.Proofs.YtkjanpjlpieaoaaDoor

/-
  The place of a kind; of components that may be one entity's there are as many as kinds.
-/
namespace Go.Proofs.YtkjanpjlpieaoaaDoor
open Go.RowKit Go.ChangeShapes Go.WideShapes
set_option linter.unusedVariables false
set_option maxRecDepth 100000

theorem lst_ok {p : Int} {L : List Cp} (h : lst p L = 0) : L.Pairwise (fun x y => x.k < y.k) ∧ ∀ q ∈ L, p < (q.k : Int) ∧ q.chk = 0 := by
  induction L generalizing p with
  | nil => exact ⟨List.Pairwise.nil, fun q hq => by simp at hq⟩
  | cons q t ih =>
    rw [lst] at h
    by_cases h1 : q.chk ≠ 0
    · rw [if_pos h1] at h; exact absurd h h1
    · rw [if_neg h1] at h
      by_cases h2 : (q.k : Int) ≤ p
      · rw [if_pos h2] at h; cases h
      · rw [if_neg h2] at h
        obtain ⟨i1, i2⟩ := ih h
        refine ⟨List.Pairwise.cons (fun x hx => ?_) i1, fun x hx => ?_⟩
        · have := (i2 x hx).1; omega
        · rcases List.mem_cons.1 hx with rfl | hx
          · exact ⟨by omega, by omega⟩
          · have := i2 x hx; exact ⟨by omega, this.2⟩
theorem chk_k {q : Cp} (h : q.chk = 0) : q.k < 6 := by
  unfold Cp.chk chk at h
  by_cases c : 6 ≤ q.k
  · rw [if_pos c] at h; cases h
  · omega
theorem hasK_true {L : List Cp} {q : Cp} (h : q ∈ L) : hasK L q.k = true := by
  unfold hasK; rw [List.any_eq_true]; exact ⟨q, h, by simp⟩
set_option maxHeartbeats 2000000 in
theorem find_any (w : World) (ao : Option Addr) (len cap : Nat) (L : List Cp) (hl : L.length = len) (hs : Cs w ao L) (hk : ∀ q ∈ L, q.k < 256) (hm : len ≤ 1000000) (k : Nat) (hkk : k < 256) :
    Calls Tryd.prog 21 #[.slice ao len cap, .int .u8 (k : Int)] w fun e w' => ∃ r : Int, e = .returned (.int .i64 r) ∧ Fr Nobody w w' ∧ ((r = -1 ∧ hasK L k = false) ∨ ∃ i : Nat, r = i ∧ ∃ q : Cp, L[i]? = some q ∧ q.k = k ∧ hasK L k = true) := by
  have HL : Hid (L.length = len ∧ Cs w ao L ∧ ∀ q ∈ L, q.k < 256) := ⟨hl, hs, hk⟩
  clear hl hs hk
  go_enter Tryd.func21, Tryd.ntmps21
  go_wp2
  go_loopw [9] (fun c wr => ∃ j : Nat, j ≤ len ∧ c = .int .i64 j ∧ Fr Nobody w wr ∧ hasK (L.take j) k = false) (fun c _ => len - (intOf c).toNat)
  case atStart => exact ⟨0, Nat.zero_le _, rfl, Fr.refl _ _, by simp [hasK]⟩
  case round =>
    obtain ⟨j, hj, rfl, hf, hno⟩ := hrel
    have HF : Hid (Fr Nobody w wr) := hf
    have HN : Hid (hasK (L.take j) k = false) := hno
    clear hf hno
    by_cases hlt : j < len
    · obtain ⟨q, hq⟩ : ∃ q, L[j]? = some q := ⟨_, List.getElem?_eq_getElem (by rw [HL.out.1]; exact hlt)⟩
      obtain ⟨g, o, hao, hall, hat⟩ := (HL.out.2.1.quiet HF.out).at j q hq
      subst hao
      have hk2 := HL.out.2.2 q (List.mem_of_getElem? hq)
      obtain ⟨c0, c1, c2, c3⟩ := hat
      have hlt' : (j : Int) < (len : Int) := by omega
      have HQ : Hid (L[j]? = some q) := hq
      clear hq hall
      by_cases he : q.k = k
      · have HH : Hid (hasK L k = true) := by rw [← he]; exact hasK_true (List.mem_of_getElem? HQ.out)
        have HE : Hid (q.k = k) := he
        have he' : ((q.k : Int) == (k : Int)) = true := by rw [he]; simp
        clear he
        obtain ⟨qk, qa, qb, qc⟩ := q
        simp only at c0 c1 c2 c3 hk2 he'
        go_wp2
        go_ret
        exact ⟨(j : Int), rfl, HF.out.alloc _, .inr ⟨j, rfl, ⟨qk, qa, qb, qc⟩, HQ.out, HE.out, HH.out⟩⟩
      · have HH : Hid (hasK (L.take (j + 1)) k = false) := by show _ = _; rw [hasK_take_succ HQ.out, HN.out, decide_eq_false he]; rfl
        have he' : ((q.k : Int) == (k : Int)) = false := by rw [beq_eq_false_iff_ne]; omega
        clear he
        obtain ⟨qk, qa, qb, qc⟩ := q
        simp only at c0 c1 c2 c3 hk2 he'
        go_wp2
        go_roundw
        case rel => exact ⟨j + 1, by omega, by go_num, HF.out.alloc _, HH.out⟩
        case measure => simp [intOf]; omega
    · have hlt' : ¬ (j : Int) < (len : Int) := by omega
      have HH : Hid (hasK L k = false) := by
        have := HN.out
        rw [List.take_of_length_le (by rw [HL.out.1]; omega)] at this
        exact this
      go_wp2
      go_ret
      exact ⟨-1, rfl, HF.out, .inl ⟨rfl, HH.out⟩⟩
end Go.Proofs.YtkjanpjlpieaoaaDoor

