/-
  Turned bits of bytes, bit by bit: no program is named here.
-/
import Derived.Test.YtiphkndahoageaaPm
namespace Go.Proofs.Ytiphkndahoageaa
set_option linter.unusedVariables false

/-- one bit turned -/
def flp (P : List Nat) (k : Nat) : List Nat := P.set (k / 8) ((P[k / 8]?.getD 0) ^^^ 2 ^ (k % 8))
theorem length_flp (P : List Nat) (k : Nat) : (flp P k).length = P.length := by simp [flp]
theorem flp_byte (P : List Nat) (k : Nat) (hb : ∀ x ∈ P, x < 256) (hk : k < 8 * P.length) : ∀ x ∈ flp P k, x < 256 := by
  intro x hx
  have hi : k / 8 < P.length := by omega
  rcases List.mem_or_eq_of_mem_set hx with hx | hx
  · exact hb x hx
  · rw [hx, List.getElem?_eq_getElem hi]
    exact Nat.xor_lt_two_pow (n := 8) (hb _ (List.getElem_mem _)) (Nat.pow_lt_pow_right (by decide) (by omega))
theorem bit_xor (x r s : Nat) : ((x ^^^ 2 ^ r) / 2 ^ s % 2 == 1) = ((x / 2 ^ s % 2 == 1) ^^ decide (r = s)) := by
  have e : ∀ y : Nat, (y / 2 ^ s % 2 == 1) = y.testBit s := fun y => by rw [Nat.testBit_eq_decide_div_mod_eq]; rfl
  rw [e, e, Nat.testBit_xor, Nat.testBit_two_pow]
theorem bitsB_flp (P : List Nat) (k i : Nat) (hk : k < 8 * P.length) : (bitsB (flp P k))[i]? = ((bitsB P)[i]?).map (fun b => b ^^ decide (k = i)) := by
  rw [getElem?_bitsB, getElem?_bitsB, flp, List.getElem?_set]
  have hi : k / 8 < P.length := by omega
  by_cases c : k / 8 = i / 8
  · rw [if_pos c, if_pos hi, ← c, List.getElem?_eq_getElem hi]
    simp only [Option.getD_some, Option.map_some, Option.some.injEq]
    rw [bit_xor]
    have : (k % 8 = i % 8) ↔ k = i := by omega
    simp [this]
  · rw [if_neg c]
    have : k ≠ i := fun h => c (by rw [h])
    cases P[i / 8]? with
    | none => rfl
    | some x => simp [this]
/-- is the bit i one that a pattern turns, as far as n of its bits? -/
def hit (t : Int) (pat n i : Nat) : Bool := decide (t ≤ (i : Int) ∧ (i : Int) < t + n) && (pat / 2 ^ ((i : Int) - t).toNat % 2 == 1)
/-- bits of a pattern turned, one by one -/
def tun (P : List Nat) (t : Int) (pat : Nat) : Nat → List Nat
  | 0 => P
  | k + 1 => if pat / 2 ^ k % 2 = 1 ∧ 0 ≤ t + k ∧ t + k < 8 * P.length then flp (tun P t pat k) (t + k).toNat else tun P t pat k
theorem length_tun (P : List Nat) (t : Int) (pat k : Nat) : (tun P t pat k).length = P.length := by
  induction k with
  | zero => rfl
  | succ k ih => rw [tun]; split; rw [length_flp, ih]; exact ih
theorem tun_byte (P : List Nat) (t : Int) (pat k : Nat) (hb : ∀ x ∈ P, x < 256) : ∀ x ∈ tun P t pat k, x < 256 := by
  induction k with
  | zero => exact hb
  | succ k ih =>
    rw [tun]
    split
    · rename_i h
      exact flp_byte _ _ ih (by rw [length_tun]; omega)
    · exact ih
theorem bitsB_tun (P : List Nat) (t : Int) (pat k i : Nat) : (bitsB (tun P t pat k))[i]? = ((bitsB P)[i]?).map (fun b => b ^^ hit t pat k i) := by
  induction k with
  | zero =>
    have : ∀ b : Bool, (b ^^ hit t pat 0 i) = b := by
      intro b
      have h : hit t pat 0 i = false := by unfold hit; simp; omega
      rw [h, Bool.xor_false]
    simp only [this, tun]
    cases (bitsB P)[i]? <;> rfl
  | succ k ih =>
    rw [tun]
    by_cases hlen : i < 8 * P.length
    · split
      · rename_i h
        rw [bitsB_flp _ _ _ (by rw [length_tun]; omega), ih, Option.map_map]
        congr 1
        funext b
        simp only [Function.comp]
        rw [Bool.xor_assoc]
        congr 1
        by_cases c : (t + k).toNat = i
        · have e1 : ((i : Int) - t).toNat = k := by omega
          have h1 : hit t pat k i = false := by unfold hit; simp; omega
          have h2 : hit t pat (k + 1) i = true := by unfold hit; rw [e1]; simp [h.1]; omega
          rw [h1, h2]; simp [c]
        · have h1 : hit t pat (k + 1) i = hit t pat k i := by
            unfold hit
            congr 1
            apply Bool.eq_iff_iff.2
            simp; omega
          rw [h1]; simp [c]
      · rename_i h
        rw [ih]
        have h1 : hit t pat (k + 1) i = hit t pat k i := by
          unfold hit
          by_cases c : (i : Int) = t + k
          · have e1 : ((i : Int) - t).toNat = k := by omega
            have h2 : ¬ pat / 2 ^ k % 2 = 1 := fun q => h ⟨q, by omega, by omega⟩
            rw [e1]
            have h3 : (pat / 2 ^ k % 2 == 1) = false := by simpa using h2
            rw [h3]; simp
          · congr 1
            apply Bool.eq_iff_iff.2
            simp; omega
        rw [h1]
    · have h0 : (bitsB P)[i]? = none := List.getElem?_eq_none (by rw [length_bitsB]; omega)
      rw [h0]
      apply List.getElem?_eq_none
      rw [length_bitsB]
      split
      · rw [length_flp, length_tun]; omega
      · rw [length_tun]; omega
/-- bytes are told by their bits -/
theorem bitsB_inj (A B : List Nat) (ha : ∀ x ∈ A, x < 256) (hb : ∀ x ∈ B, x < 256) (h : bitsB A = bitsB B) : A = B := by
  induction A generalizing B with
  | nil =>
    cases B with
    | nil => rfl
    | cons y B => have := congrArg List.length h; rw [length_bitsB, length_bitsB] at this; simp at this
  | cons x A ih =>
    cases B with
    | nil => have := congrArg List.length h; rw [length_bitsB, length_bitsB] at this; simp at this
    | cons y B =>
      have h' : bitsN 8 x ++ bitsB A = bitsN 8 y ++ bitsB B := h
      obtain ⟨h1, h2⟩ := List.append_inj h' (by rw [length_bitsN, length_bitsN])
      have h3 := congrArg num h1
      rw [num_bitsN, num_bitsN, Nat.mod_eq_of_lt (ha x (by simp)), Nat.mod_eq_of_lt (hb y (by simp))] at h3
      rw [h3, ih B (fun z hz => ha z (by simp [hz])) (fun z hz => hb z (by simp [hz])) h2]
theorem pack_bitsB (Q : List Nat) (hb : ∀ x ∈ Q, x < 256) : pack (bitsB Q) = Q := by
  apply bitsB_inj _ _ _ hb
  · rw [bitsB_pack, length_bitsB]
    have : 8 * nb (8 * Q.length) - 8 * Q.length = 0 := by unfold nb; omega
    rw [this]; simp
  · intro x hx
    rw [pack, List.mem_map] at hx
    obtain ⟨i, _, rfl⟩ := hx
    exact byteAt_lt _ _
theorem tun_twice (P : List Nat) (t : Int) (pat : Nat) (hb : ∀ x ∈ P, x < 256) : tun (tun P t pat 32) t pat 32 = P := by
  apply bitsB_inj _ _ (tun_byte _ _ _ _ (tun_byte _ _ _ _ hb)) hb
  apply List.ext_getElem?
  intro i
  rw [bitsB_tun, bitsB_tun, Option.map_map]
  have : ((fun b => b ^^ hit t pat 32 i) ∘ fun b => b ^^ hit t pat 32 i) = id := by
    funext b; simp [Function.comp]
  rw [this]; simp
/-- the first k of the bits turned, where the pattern says so -/
def turB (L : List Bool) (t : Int) (pat k : Nat) : List Bool := L.mapIdx (fun i b => if i < k then b ^^ hit t pat 32 i else b)
theorem length_turB (L : List Bool) (t : Int) (pat k : Nat) : (turB L t pat k).length = L.length := by simp [turB]
theorem turB_zero (L : List Bool) (t : Int) (pat : Nat) : turB L t pat 0 = L := by
  apply List.ext_getElem?
  intro i
  rw [turB, List.getElem?_mapIdx]
  simp
theorem turB_at (L : List Bool) (t : Int) (pat k : Nat) : (turB L t pat k)[k]? = L[k]? := by
  rw [turB, List.getElem?_mapIdx]
  simp
theorem turB_on (L : List Bool) (t : Int) (pat k : Nat) (b : Bool) (hb : L[k]? = some b) (h : hit t pat 32 k = true) : turB L t pat (k + 1) = (turB L t pat k).set k (!b) := by
  apply List.ext_getElem?
  intro i
  have hk := (List.getElem?_eq_some_iff.1 hb).1
  rw [List.getElem?_set, turB, turB, List.getElem?_mapIdx, List.getElem?_mapIdx]
  by_cases c : k = i
  · subst c
    rw [hb]; simp [hk, h]
  · rw [if_neg c]
    have : (i < k + 1) ↔ (i < k) := by omega
    simp [this]
theorem turB_off (L : List Bool) (t : Int) (pat k : Nat) (h : hit t pat 32 k = false) : turB L t pat (k + 1) = turB L t pat k := by
  apply List.ext_getElem?
  intro i
  rw [turB, turB, List.getElem?_mapIdx, List.getElem?_mapIdx]
  by_cases c : k = i
  · subst c
    simp [h]
  · have : (i < k + 1) ↔ (i < k) := by omega
    simp [this]
theorem turB_all (P : List Nat) (t : Int) (pat : Nat) : turB (bitsB P) t pat (bitsB P).length = bitsB (tun P t pat 32) := by
  apply List.ext_getElem?
  intro i
  rw [bitsB_tun, turB, List.getElem?_mapIdx]
  by_cases c : i < (bitsB P).length
  · simp [c]
  · rw [List.getElem?_eq_none (by omega)]; rfl
/-- the places of those that go there -/
def tosK (to : Int) (T : List Int) : Nat → List Nat
  | 0 => []
  | k + 1 => if T[k]? = some to then tosK to T k ++ [k] else tosK to T k
theorem tosK_le (to : Int) (T : List Int) (k : Nat) : (tosK to T k).length ≤ k := by
  induction k with
  | zero => simp [tosK]
  | succ k ih => rw [tosK]; split; rw [List.length_append]; simp; omega; omega
theorem tosK_pre (to : Int) (T : List Int) (j k : Nat) (h : j ≤ k) : ∃ R, tosK to T k = tosK to T j ++ R := by
  induction k with
  | zero => exact ⟨[], by rw [show j = 0 by omega]; rfl⟩
  | succ k ih =>
    by_cases c : j = k + 1
    · exact ⟨[], by rw [c]; simp⟩
    · obtain ⟨R, hR⟩ := ih (by omega)
      rw [tosK, hR]
      split
      · exact ⟨R ++ [k], by simp⟩
      · exact ⟨R, rfl⟩
theorem tosK_at (to : Int) (T : List Int) (j k : Nat) (h : j < k) (ht : T[j]? = some to) : (tosK to T k)[(tosK to T j).length]? = some j := by
  obtain ⟨R, hR⟩ := tosK_pre to T (j + 1) k h
  rw [hR, tosK, if_pos ht]
  simp
end Go.Proofs.Ytiphkndahoageaa
