/-
  A frame of which bits were turned is none.
-/
import Derived.Test.YtekdjebehieekabDoorGf
namespace Go.Proofs.YtekdjebehieekabDoor
open Go.RowKit
set_option linter.unusedVariables false

theorem In.of_own {w : World} {B n : Nat} {v : Value} {P : List Nat} (h : w.ownsRow B 5 1 v n (vrow P)) (hl : P.length = n) (hb : ∀ x ∈ P, x < 256) : ∃ ao cap, v = .slice ao n cap ∧ In w ao n cap P := by
  rcases h.2 with ⟨rfl, h0⟩ | ⟨g, cap, cur, rfl, _⟩
  · subst h0
    exact ⟨none, 0, rfl, .inl (List.eq_nil_of_length_eq_zero hl), hl, hb, fun _ => rfl, Nat.le_refl _⟩
  · exact ⟨_, _, rfl, In.of_row h hl hb⟩
theorem burst_no_frame (R Q : List Nat) (m t q : Nat) (hR : R.length = m) (hRb : ∀ x ∈ R, x < 256) (hQ : Q.length = m + 4) (hQb : ∀ x ∈ Q, x < 256) (hodd : q % 2 = 1) (ht : t < 8 * (m + 4)) (h : bnum Q = bnum (frm R) ^^^ (2 ^ t * pats q t (8 * (m + 4)) 32)) : bnum (Q.drop m) ≠ crc (Q.take m) := by
  have hl : (Q.take m).length = m := by rw [List.length_take]; omega
  have e1 : bnum Q = bnum (Q.take m) + 2 ^ (8 * (Q.take m).length) * bnum (Q.drop m) := by
    rw [← bnum_append, List.take_append_drop]
  have e2 : bnum (frm R) = bnum R + 2 ^ (8 * R.length) * crc R := by
    unfold frm; rw [bnum_append, bnum_le4 _ (crc_lt R)]
  have h4 : bnum (Q.drop m) < 4294967296 := by
    have := bnum_lt (Q.drop m) (fun x hx => hQb x (List.mem_of_mem_drop hx))
    rw [List.length_drop, hQ, show m + 4 - m = 4 by omega] at this
    exact this
  rw [e1, e2] at h
  exact seal_apart R (Q.take m) (crc R) (bnum (Q.drop m)) hRb (fun x hx => hQb x (List.mem_of_mem_take hx)) (by rw [hR, hl]) t _ (pats_lt _ _ _) (pats_odd _ _ _ hodd ht) rfl h4 h
end Go.Proofs.YtekdjebehieekabDoor
