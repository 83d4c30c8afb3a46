/-
  What the laws on frames share: the bytes that came in, cut short.
-/
import Derived.Test.YtekdjebehieekabDoorGb
namespace Go.Proofs.YtekdjebehieekabDoor
open Go.RowKit
set_option linter.unusedVariables false

/-- bytes that came in -/
structure In (w : World) (ao : Option Addr) (len cap : Nat) (P : List Nat) : Prop where
  at' : BytesAt w ao P
  eqn : P.length = len
  byt : ∀ x ∈ P, x < 256
  nil : ao = none → cap = 0
  le : len ≤ cap
theorem In.quiet {w w' : World} {ao : Option Addr} {len cap : Nat} {P : List Nat} (h : In w ao len cap P) (hf : Fr Nobody w w') : In w' ao len cap P := ⟨h.at'.quiet hf, h.eqn, h.byt, h.nil, h.le⟩
theorem In.cut {w : World} {ao : Option Addr} {len cap : Nat} {P : List Nat} (h : In w ao len cap P) (m : Nat) (hm : m ≤ len) : In w ao m cap (P.take m) := by
  refine ⟨?_, by rw [List.length_take, h.eqn]; omega, fun x hx => h.byt x (List.mem_of_mem_take hx), h.nil, Nat.le_trans hm h.le⟩
  rcases h.at' with h1 | ⟨g, o, h1, h2⟩
  · left; rw [h1]; simp
  · right
    refine ⟨g, o, h1, fun j x hx => h2 j x ?_⟩
    rw [List.getElem?_take] at hx
    split at hx
    · exact hx
    · cases hx
theorem In.src {w : World} {ao : Option Addr} {len cap : Nat} {P : List Nat} (h : In w ao len cap P) : Src w (.slice ao len cap) P.length (vrow P) := by
  have := h.at'.src cap h.nil
  rw [h.eqn] at this ⊢
  exact this
theorem In.some' {w : World} {ao : Option Addr} {len cap : Nat} {P : List Nat} (h : In w ao len cap P) (h0 : 0 < len) : ∃ g o, ao = some ⟨g, o, none⟩ := by
  rcases h.at' with h1 | ⟨g, o, h1, h2⟩
  · rw [← h.eqn, h1] at h0; cases h0
  · exact ⟨g, o, h1⟩
/-- a row that a call owns can be read -/
theorem In.of_row {w : World} {B g n cap : Nat} {P : List Nat} (h : w.ownsRow B 5 1 (.slice (some ⟨g, 0, none⟩) n cap) n (vrow P)) (hl : P.length = n) (hb : ∀ x ∈ P, x < 256) : In w (some ⟨g, 0, none⟩) n cap P := by
  refine ⟨.inr ⟨g, 0, rfl, fun j x hx => ?_⟩, hl, hb, (fun e => by cases e), row_cap h⟩
  have hj : j < P.length := (List.getElem?_eq_some_iff.1 hx).1
  rw [Nat.zero_add, h.cellAt j (by omega), getElem?_vrow, hx]; rfl
theorem sum_in (w : World) (ao : Option Addr) (cap len : Nat) (P : List Nat) (h : In w ao len cap P) (hL : len ≤ 1000000000) (ht : Tab w) :
    Calls Tryd.prog 7 #[.slice ao len cap] w fun e w' => e = .returned (.int .u32 ((crc P : Nat) : Int)) ∧ w' = w := sum_any w ao cap len P h.at' h.eqn h.byt hL ht
theorem or_one (p : Nat) (hp : p < 4294967296) : ∃ q : Nat, bits .or .u32 (p : Int) 1 = (q : Int) ∧ q < 4294967296 ∧ q % 2 = 1 := by
  refine ⟨p ||| 1, u32_or_nat p 1 hp (by decide), Nat.or_lt_two_pow (n := 32) hp (by decide), ?_⟩
  have h := @Nat.or_mod_two_eq_one p 1
  exact h.2 (.inr rfl)
end Go.Proofs.YtekdjebehieekabDoor
