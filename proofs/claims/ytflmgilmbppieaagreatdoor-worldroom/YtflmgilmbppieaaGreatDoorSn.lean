/-
  The place of a kind; of components that may be one entity's there are as many as kinds.
-/
import Derived.Test.YtflmgilmbppieaaGreatDoorSm
namespace Go.Proofs.YtflmgilmbppieaaGreatDoor
open Go.RowKit Go.ChangeShapes Go.WideShapes
set_option linter.unusedVariables false
set_option maxRecDepth 100000

theorem lst_ok {p : Int} {L : List Cp} (h : lst p L = 0) : L.Pairwise (fun x y => x.k < y.k) ∧ ∀ q ∈ L, p < (q.k : Int) ∧ q.chk = 0 := by
  induction L generalizing p with
  | nil => exact ⟨List.Pairwise.nil, fun q hq => by simp at hq⟩
  | cons q t ih =>
    rw [lst] at h
    by_cases h1 : q.chk ≠ 0
    · rw [if_pos h1] at h; exact absurd h h1
    · rw [if_neg h1] at h
      by_cases h2 : (q.k : Int) ≤ p
      · rw [if_pos h2] at h; cases h
      · rw [if_neg h2] at h
        obtain ⟨i1, i2⟩ := ih h
        refine ⟨List.Pairwise.cons (fun x hx => ?_) i1, fun x hx => ?_⟩
        · have := (i2 x hx).1; omega
        · rcases List.mem_cons.1 hx with rfl | hx
          · exact ⟨by omega, by omega⟩
          · have := i2 x hx; exact ⟨by omega, this.2⟩
theorem chk_k {q : Cp} (h : q.chk = 0) : q.k < 6 := by
  unfold Cp.chk chk at h
  by_cases c : 6 ≤ q.k
  · rw [if_pos c] at h; cases h
  · omega
theorem hasK_cons (q : Cp) (L : List Cp) (k : Nat) : hasK (q :: L) k = (decide (q.k = k) || hasK L k) := by simp [hasK]
theorem countP_or {α : Type} (l : List α) (p r : α → Bool) (h : ∀ x ∈ l, p x = true → r x = false) : l.countP (fun x => p x || r x) = l.countP p + l.countP r := by
  induction l with
  | nil => rfl
  | cons x l ih =>
    have ih := ih (fun y hy => h y (List.mem_cons_of_mem _ hy))
    have hx := h x List.mem_cons_self
    simp only [List.countP_cons]
    rw [ih]
    cases hp : p x
    · simp; omega
    · rw [hx hp]; simp; omega
theorem count_one : ∀ k : Fin 6, (List.range 8).countP (fun j => decide (k.1 = j)) = 1 := by decide
theorem hasK_false {L : List Cp} {k : Nat} (h : ∀ q ∈ L, q.k ≠ k) : hasK L k = false := by
  unfold hasK; rw [List.any_eq_false]; intro q hq; simpa using h q hq
theorem hasK_true {L : List Cp} {q : Cp} (h : q ∈ L) : hasK L q.k = true := by
  unfold hasK; rw [List.any_eq_true]; exact ⟨q, h, by simp⟩
/-- as many as kinds -/
theorem kinds_len {L : List Cp} (h : L.Pairwise (fun x y => x.k < y.k)) (hk : ∀ q ∈ L, q.k < 6) : (List.range 8).countP (hasK L) = L.length := by
  induction L with
  | nil =>
    have : (List.range 8).countP (hasK []) = 0 := by decide
    exact this
  | cons q t ih =>
    obtain ⟨h1, h2⟩ := List.pairwise_cons.1 h
    have ih := ih h2 (fun x hx => hk x (List.mem_cons_of_mem _ hx))
    have e : hasK (q :: t) = fun k => decide (q.k = k) || hasK t k := by funext k; exact hasK_cons q t k
    rw [e, countP_or (List.range 8) (fun k => decide (q.k = k)) (hasK t) (fun k _ hq => ?_), ih]
    · have := count_one ⟨q.k, hk q List.mem_cons_self⟩
      simp only at this
      rw [this, List.length_cons]; omega
    · simp at hq; subst hq
      exact hasK_false (fun x hx => by have := h1 x hx; omega)
theorem mskN_bit (L : List Cp) (n k : Nat) (h : k < n) : mskN L n / 2 ^ k % 2 = (hasK L k).toNat := by
  induction n with
  | zero => omega
  | succ n ih =>
    rw [mskN]
    by_cases hk : k = n
    · subst hk
      have := mskN_lt L k
      cases hasK L k
      · simp [Nat.div_eq_of_lt this]
      · simp only [if_pos]; rw [Nat.add_div_right _ (Nat.two_pow_pos k), Nat.div_eq_of_lt this]; rfl
    · have ih := ih (by omega)
      cases hasK L n
      · simpa using ih
      · simp only [if_pos]
        have e : 2 ^ n = 2 ^ k * (2 * 2 ^ (n - k - 1)) := by
          rw [show 2 * 2 ^ (n - k - 1) = 2 ^ (n - k) by rw [← Nat.pow_succ']; congr 1; omega, ← Nat.pow_add]; congr 1; omega
        rw [e, Nat.add_mul_div_left _ _ (Nat.two_pow_pos k), Nat.add_mul_mod_self_left]
        exact ih
theorem msk_bit (L : List Cp) (k : Nat) (hL : ∀ q ∈ L, q.k < 6) : msk L / 2 ^ k % 2 = (hasK L k).toNat := by
  by_cases h : k < 6
  · exact mskN_bit L 6 k h
  · have h1 := msk_lt L
    have h2 : 2 ^ 6 ≤ 2 ^ k := Nat.pow_le_pow_right (by decide) (by omega)
    rw [Nat.div_eq_of_lt (by omega), hasK_false (fun q hq => by have := hL q hq; omega)]; rfl

set_option maxHeartbeats 2000000 in
theorem find_any (w : World) (ao : Option Addr) (len cap : Nat) (L : List Cp) (hl : L.length = len) (hs : Cs w ao L) (hk : ∀ q ∈ L, q.k < 256) (hm : len ≤ 1000000) (k : Nat) (hkk : k < 256) :
    Calls Tryz.prog 40 #[.slice ao len cap, .int .u8 (k : Int)] w fun e w' => ∃ r : Int, e = .returned (.int .i64 r) ∧ Fr Nobody w w' ∧ ((r = -1 ∧ hasK L k = false) ∨ ∃ i : Nat, r = i ∧ ∃ q : Cp, L[i]? = some q ∧ q.k = k ∧ hasK L k = true) := by
  have HL : Hid (L.length = len ∧ Cs w ao L ∧ ∀ q ∈ L, q.k < 256) := ⟨hl, hs, hk⟩
  clear hl hs hk
  go_enter Tryz.func40, Tryz.ntmps40
  go_wp2
  go_loopw [9] (fun c wr => ∃ j : Nat, j ≤ len ∧ c = .int .i64 j ∧ Fr Nobody w wr ∧ hasK (L.take j) k = false) (fun c _ => len - (intOf c).toNat)
  case atStart => exact ⟨0, Nat.zero_le _, rfl, Fr.refl _ _, by simp [hasK]⟩
  case round =>
    obtain ⟨j, hj, rfl, hf, hno⟩ := hrel
    have HF : Hid (Fr Nobody w wr) := hf
    have HN : Hid (hasK (L.take j) k = false) := hno
    clear hf hno
    by_cases hlt : j < len
    · obtain ⟨q, hq⟩ : ∃ q, L[j]? = some q := ⟨_, List.getElem?_eq_getElem (by rw [HL.out.1]; exact hlt)⟩
      obtain ⟨g, o, hao, hall, hat⟩ := (HL.out.2.1.quiet HF.out).at j q hq
      subst hao
      have hk2 := HL.out.2.2 q (List.mem_of_getElem? hq)
      obtain ⟨c0, c1, c2, c3⟩ := hat
      have hlt' : (j : Int) < (len : Int) := by omega
      have HQ : Hid (L[j]? = some q) := hq
      clear hq hall
      by_cases he : q.k = k
      · have HH : Hid (hasK L k = true) := by rw [← he]; exact hasK_true (List.mem_of_getElem? HQ.out)
        have HE : Hid (q.k = k) := he
        have he' : ((q.k : Int) == (k : Int)) = true := by rw [he]; simp
        clear he
        obtain ⟨qk, qa, qb, qc⟩ := q
        simp only at c0 c1 c2 c3 hk2 he'
        go_wp2
        go_ret
        exact ⟨(j : Int), rfl, HF.out.alloc _, .inr ⟨j, rfl, ⟨qk, qa, qb, qc⟩, HQ.out, HE.out, HH.out⟩⟩
      · have HH : Hid (hasK (L.take (j + 1)) k = false) := by show _ = _; rw [hasK_take_succ HQ.out, HN.out, decide_eq_false he]; rfl
        have he' : ((q.k : Int) == (k : Int)) = false := by rw [beq_eq_false_iff_ne]; omega
        clear he
        obtain ⟨qk, qa, qb, qc⟩ := q
        simp only at c0 c1 c2 c3 hk2 he'
        go_wp2
        go_roundw
        case rel => exact ⟨j + 1, by omega, by go_num, HF.out.alloc _, HH.out⟩
        case measure => simp [intOf]; omega
    · have hlt' : ¬ (j : Int) < (len : Int) := by omega
      have HH : Hid (hasK L k = false) := by
        have := HN.out
        rw [List.take_of_length_le (by rw [HL.out.1]; omega)] at this
        exact this
      go_wp2
      go_ret
      exact ⟨-1, rfl, HF.out, .inl ⟨rfl, HH.out⟩⟩
end Go.Proofs.YtflmgilmbppieaaGreatDoor
