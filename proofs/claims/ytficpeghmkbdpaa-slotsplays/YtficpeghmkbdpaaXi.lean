/-
  Slots whose generations are used up, as plain lists.
-/
import Derived.Test.YtficpeghmkbdpaaXh
namespace Go.Proofs.Ytficpeghmkbdpaa
open Go.RowKit
set_option linter.unusedVariables false

theorem St.take_new {S : St} (h : S.freed = []) (hl : S.last.length < S.n) : S.take = (S.first * 1024 + S.last.length, 0, S.more) := by
  unfold St.take; rw [h]; simp [hl]
theorem St.take_full {S : St} (h : S.freed = []) (hl : ¬ S.last.length < S.n) : S.take = (0, 8, S) := by
  unfold St.take; rw [h]; simp [hl]
theorem St.take_again {S : St} {f x : Nat} (h : S.freed.getLast? = some f) (hx : S.last[f]? = some x) : S.take = (x + 1024, 0, S.again f) := by
  unfold St.take; rw [h]; simp [List.getD_eq_getElem?_getD, hx]

structure Worn (S : St) (k m F j : Nat) : Prop where
  ok : S.Ok
  n : S.n = k
  first : S.first = F
  live : S.live = 0
  at' : ∃ q r, j = q * m + r ∧ r < m ∧ (r = 0 → S.freed = [] ∧ S.last.length = q) ∧ (0 < r → S.freed = [q] ∧ S.last.length = q + 1 ∧ S.last[q]? = some ((F + r - 1) * 1024 + q))

theorem less_of (S : St) (id q : Nat) (h : id % 1024 = q) : S.less id = { S with used := S.used.set q false, live := S.live - 1, freed := if id / 1024 < 4194303 then S.freed ++ [q] else S.freed } := by unfold St.less; rw [h]

theorem Worn.step {S : St} {k m F j : Nat} (h : Worn S k m F j) (hm : 1 ≤ m) (hF : F + m = 4194304) (hj : j < k * m) (hk : k ≤ 6) :
    ∃ id S1 S2, S.take = (id, 0, S1) ∧ S1.Ok ∧ id < 4294967296 ∧ S1.free id = (0, S2) ∧ Worn S2 k m F (j + 1) := by
  obtain ⟨q, r, hq, hr, h0, h1⟩ := h.at'
  have hqk : q < k := by
    have : q * m < k * m := by omega
    exact Nat.lt_of_mul_lt_mul_right this
  have hn := h.n
  have hf := h.first
  have hlv := h.live
  have hul := h.ok.ul
  have hsm : (q + 1) * m = q * m + m := Nat.succ_mul q m
  rcases Nat.eq_zero_or_pos r with hz | hz
  · obtain ⟨hfr, hll⟩ := h0 hz
    have ht := S.take_new hfr (by omega)
    have hok1 : S.more.Ok := St.more_ok h.ok hfr (by omega)
    have hid : (S.first * 1024 + S.last.length) % 1024 = q := by omega
    have hgn : (S.first * 1024 + S.last.length) / 1024 = F := by omega
    have hlast : S.more.last[q]? = some (S.first * 1024 + S.last.length) := by
      simp only [St.more]; rw [← hll, List.getElem?_append_right (Nat.le_refl _)]; simp
    have hlive : S.more.isLive (S.first * 1024 + S.last.length) = true := by
      rw [St.isLive_iff hok1, hid]
      refine ⟨?_, hlast⟩
      simp only [St.more]; rw [← hll, ← hul, List.getElem?_append_right (Nat.le_refl _)]; simp
    refine ⟨_, _, S.more.less (S.first * 1024 + S.last.length), ht, hok1, by omega, by unfold St.free; rw [if_pos hlive], ⟨St.less_ok hok1 hlive, hn, hf, by simp [St.less, St.more, hlv], ?_⟩⟩
    rw [less_of _ _ q hid, hgn]
    by_cases hm1 : m = 1
    · refine ⟨q + 1, 0, by rw [hsm]; omega, by omega, fun _ => ⟨?_, ?_⟩, fun h => by omega⟩
      · rw [if_neg (by omega)]; exact hfr
      · show (S.last ++ [_]).length = _; rw [List.length_append, List.length_singleton]; omega
    · refine ⟨q, 1, by omega, by omega, fun h => by omega, fun _ => ⟨?_, ?_, ?_⟩⟩
      · rw [if_pos (by omega)]; show S.freed ++ [q] = _; rw [hfr]; rfl
      · show (S.last ++ [_]).length = _; rw [List.length_append, List.length_singleton]; omega
      · show S.more.last[q]? = _; rw [hlast, hf, hll]; simp
  · obtain ⟨hfr, hll, hlq⟩ := h1 hz
    have hgl : S.freed.getLast? = some q := by rw [hfr]; rfl
    have ht := S.take_again hgl hlq
    have hok1 : (S.again q).Ok := St.again_ok h.ok hgl
    have hid : ((F + r - 1) * 1024 + q + 1024) % 1024 = q := by omega
    have hgn : ((F + r - 1) * 1024 + q + 1024) / 1024 = F + r := by omega
    have hlast : (S.again q).last[q]? = some ((F + r - 1) * 1024 + q + 1024) := by
      simp only [St.again]; rw [List.getElem?_set_self (by omega), List.getD_eq_getElem?_getD, hlq]; rfl
    have hlive : (S.again q).isLive ((F + r - 1) * 1024 + q + 1024) = true := by
      rw [St.isLive_iff hok1, hid]
      exact ⟨by simp only [St.again]; rw [List.getElem?_set_self (by omega)], hlast⟩
    refine ⟨_, _, (S.again q).less ((F + r - 1) * 1024 + q + 1024), ht, hok1, by omega, by unfold St.free; rw [if_pos hlive], ⟨St.less_ok hok1 hlive, hn, hf, by simp [St.less, St.again, hlv], ?_⟩⟩
    rw [less_of _ _ q hid, hgn]
    by_cases hm1 : r + 1 = m
    · refine ⟨q + 1, 0, by rw [hsm]; omega, by omega, fun _ => ⟨?_, ?_⟩, fun h => by omega⟩
      · rw [if_neg (by omega)]; show S.freed.dropLast = _; rw [hfr]; rfl
      · show (S.last.set _ _).length = _; rw [List.length_set]; omega
    · refine ⟨q, r + 1, by omega, by omega, fun h => by omega, fun _ => ⟨?_, ?_, ?_⟩⟩
      · rw [if_pos (by omega)]; show S.freed.dropLast ++ [q] = _; rw [hfr]; rfl
      · show (S.last.set _ _).length = _; rw [List.length_set]; omega
      · show (S.again q).last[q]? = _; rw [hlast, show (F + r - 1) * 1024 + q + 1024 = (F + (r + 1) - 1) * 1024 + q by omega]
theorem Worn.start (k m F : Nat) (hm : 1 ≤ m) (hF : F + m = 4194304) (hF1 : 1 ≤ F) (hk : 1 ≤ k) (hk6 : k ≤ 6) : Worn (St.new k F) k m F 0 :=
  ⟨St.new_ok k F hk (by omega) hF1 (by omega), rfl, rfl, rfl, 0, 0, by omega, by omega, fun _ => ⟨rfl, rfl⟩, fun h => by omega⟩
theorem Worn.done {S : St} {k m F : Nat} (h : Worn S k m F (k * m)) (hm : 1 ≤ m) : S.take = (0, 8, S) ∧ S.room = 0 ∧ S.live = 0 := by
  obtain ⟨q, r, hq, hr, h0, h1⟩ := h.at'
  have hqk : q = k := by
    rcases Nat.lt_trichotomy q k with c | c | c
    · have : (q + 1) * m ≤ k * m := Nat.mul_le_mul_right _ c
      rw [Nat.succ_mul] at this; omega
    · exact c
    · have : (k + 1) * m ≤ q * m := Nat.mul_le_mul_right _ c
      rw [Nat.succ_mul] at this; omega
  subst hqk
  obtain ⟨hfr, hll⟩ := h0 (by omega)
  have hn := h.n
  exact ⟨S.take_full hfr (by omega), by unfold St.room; rw [hfr]; simp; omega, h.live⟩
end Go.Proofs.Ytficpeghmkbdpaa
