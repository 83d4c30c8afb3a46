/-
  The document's side of layer 1: lists of bits in memory, and Put on them.
-/
import Derived.Test.YtiphkndahoageaaWg
namespace Go.Proofs.Ytiphkndahoageaa
open Go.RowKit
set_option linter.unusedVariables false
set_option maxRecDepth 100000

/-- A slice that reads as the bits L: nil, or cells of a row of bools. -/
def Bs (w : World) (v : Value) (L : List Bool) : Prop :=
  (v = .slice none 0 0 ∧ L = []) ∨ ∃ g o cap cur, v = .slice (some ⟨g, o, none⟩) L.length cap ∧ L.length ≤ cap ∧ w.heap[g]? = some (.cells cur 4 (0, 0)) ∧ ∀ j u, (brow L)[j]? = some u → cur[o + j]? = some u

theorem Bs.src {w : World} {v : Value} {L : List Bool} (h : Bs w v L) : Src w v L.length (brow L) := by
  rcases h with ⟨rfl, rfl⟩ | ⟨g, o, cap, cur, rfl, _, hg, hc⟩
  · left; exact ⟨rfl, rfl, rfl⟩
  · right
    refine ⟨_, _, rfl, length_brow L, fun j u hu => ?_⟩
    rw [addr_add, cell_of_row w g _ cur 4 (0, 0) hg]
    exact hc j u hu
theorem Bs.of_row {w : World} {v : Value} {L : List Bool} (h : w.ownsRow 0 4 1 v L.length (brow L)) : Bs w v L := by
  rcases h.2 with ⟨rfl, h0⟩ | ⟨g, cap, cur, rfl, _, hg, hn, _, hs, ht⟩
  · left; exact ⟨rfl, List.eq_nil_of_length_eq_zero h0⟩
  · right
    refine ⟨g, 0, cap, cur, rfl, hn, hg, fun j u hu => ?_⟩
    rw [← ht, List.getElem?_take] at hu
    split at hu
    · simpa using hu
    · cases hu
/-- It stays while only other blocks turn. -/
theorem Bs.keep {S : Nat → Prop} {w w' : World} {v : Value} {L : List Bool} (h : Bs w v L) (hf : Fr S w w') (hs : ∀ k cur, w.heap[k]? = some (.cells cur 4 (0, 0)) → ¬ S k) : Bs w' v L := by
  rcases h with hn | ⟨g, o, cap, cur, rfl, hn, hg, hc⟩
  · exact .inl hn
  · refine .inr ⟨g, o, cap, cur, rfl, hn, ?_, hc⟩
    rw [hf.block g (Array.getElem?_eq_some_iff.1 hg).1 (hs g cur hg)]
    exact hg
theorem Bs.quiet {w w' : World} {v : Value} {L : List Bool} (h : Bs w v L) (hf : Fr Nobody w w') : Bs w' v L := h.keep hf (fun _ _ _ => id)
/-- A slice of bools of the call's own, from block B on. -/
def Bo (B : Nat) (w : World) (v : Value) (L : List Bool) : Prop := w.ownsRow B 4 1 v L.length (brow L)
theorem row_low {w : World} {B B' : Nat} {e : TypeId} {size n : Nat} {v : Value} {xs : List Value} (h : w.ownsRow B e size v n xs) (hB : B' ≤ B) : w.ownsRow B' e size v n xs := by
  refine ⟨h.1, ?_⟩
  rcases h.2 with hn | ⟨g, cap, cur, rfl, hb, rest⟩
  · exact .inl hn
  · exact .inr ⟨g, cap, cur, rfl, Nat.le_trans hB hb, rest⟩
theorem Bo.low {B B' : Nat} {w : World} {v : Value} {L : List Bool} (h : Bo B w v L) (hB : B' ≤ B) : Bo B' w v L := row_low h hB
theorem Bo.bs {B : Nat} {w : World} {v : Value} {L : List Bool} (h : Bo B w v L) : Bs w v L := Bs.of_row (row_low h (Nat.zero_le _))
theorem Bo.keep {S : Nat → Prop} {B : Nat} {w w' : World} {v : Value} {L : List Bool} (h : Bo B w v L) (hf : Fr S w w') (hs : ∀ k cur, w.heap[k]? = some (.cells cur 4 (0, 0)) → ¬ S k) : Bo B w' v L := by
  refine hf.row h (fun k hk => ?_)
  rcases h.2 with ⟨rfl, _⟩ | ⟨g, cap, cur, rfl, _, hg, _⟩
  · simp [Value.ownBlock] at hk
  · simp [Value.ownBlock] at hk
    subst hk
    exact hs _ cur hg
theorem Bo.quiet {B : Nat} {w w' : World} {v : Value} {L : List Bool} (h : Bo B w v L) (hf : Fr Nobody w w') : Bo B w' v L := h.keep hf (fun _ _ _ => id)
theorem Bo.nil (B : Nat) (w : World) : Bo B w (.slice none 0 0) [] := World.ownsRow_nil _ _ _ _

/-- the copy that Put begins with, as a fact on lists of operations -/
theorem copy_bools {w : World} {ops : Array Oper} {rest : List Oper} {o : Oper} {a : Act} {Q : Exit → Act → World → Prop} (hgd : o.guard = none) (s x : Operand)
    (ho : o.op = .call { callee := .builtin .append, args := #[s, x], argTypes := #[65, 65] }) (v : Value) (L : List Bool) (h : Bs w v L) (hL : L.length ≤ 100000000)
    (hs : a.eval s = .slice (some ⟨w.heap.size, 0, none⟩) 0 0) (hx : a.eval x = v)
    (hK : ∀ v' w', w'.ownsRow w.heap.size 4 1 v' L.length (brow L) → Fr Nobody w w' → v' ≠ .slice none 0 0 → wpList Try.prog ops Q rest (a.put o.dst v') w') :
    wpList Try.prog ops Q (o :: rest) a (w.alloc (.cells #[] 4)) := by
  obtain ⟨i0, hi, hz0, hz1, hz2⟩ := info_parts Try.infoBool
  have hown := World.ownsRow_made (e := 4) (size := 1) (base := w.heap.size) w #[] 0 (Nat.le_refl _) (Nat.zero_le _) rfl
  have hfr : Fr Nobody w (w.alloc (.cells #[] 4)) := (Fr.refl _ w).alloc _
  rcases h with ⟨rfl, rfl⟩ | ⟨g, off, cap, cur, rfl, hn, hg, hc⟩
  · refine wpList_plain hgd fun K hK' => ?_
    have hr := run_append_owned_none (P := Try.prog) (w.alloc (.cells #[] 4)) w.heap.size 65 o.type 4 i0 1 Try.underlying65 hi _ 0 [] hown
    unfold Oper.wp
    simp [execOp, ho, resolve, invoke, builtin, hs, hx, hr, Result.andThen]
    exact hK' _ _ (hK _ _ hown hfr (by simp))
  · refine wpList_append_own (w.alloc (.cells #[] 4)) hgd s x 65 ho w.heap.size 4 i0 (.bool false) 1 1 Try.underlying65 hi hz0 hz1 hz2 rfl (by decide) _ 0 [] hs hown ⟨g, off, none⟩ L.length cap (brow L) hx (by rw [length_brow]; omega) ?_ (one_brow L) (by unfold maxLen; omega) (by omega) (by simp) ?_
    · intro j u hu
      refine Lib.cell?_alloc_some _ ?_
      rw [addr_add, cell_of_row w g _ cur 4 (0, 0) hg]
      exact hc j u hu
    · intro v' w' ho' hg' hnil
      refine hK v' w' (by simpa using ho') (hfr.grown hg' (by intro k hk; simp [Value.ownBlock] at hk; omega)) ?_
      intro e
      exact absurd (hnil.1 e).1 (by simp)

/-- what Put of the document makes of a list -/
def rputL (L : List Bool) (x n : Nat) : List Bool := if x / 2 ^ n = 0 ∧ L.length + n ≤ 1048576 then L ++ bitsN n x else L
def rputE (L : List Bool) (x n : Nat) : Int := if x / 2 ^ n = 0 then (if L.length + n ≤ 1048576 then 0 else 3) else 5

/-- what stands behind Put: a new list, or the old one -/
def RPut (w w' : World) (v v' : Value) (M : List Bool) (c : Int) : Prop := ((c = 0 ∧ Bo w.heap.size w' v' M) ∨ (c ≠ 0 ∧ v' = v)) ∧ Fr Nobody w w'
theorem half_pow (x k : Nat) : x / 2 ^ k / 2 = x / 2 ^ (k + 1) := by rw [Nat.div_div_eq_div_mul, ← Nat.pow_succ]

theorem rputL_same (L : List Bool) (x n : Nat) (h : rputE L x n ≠ 0) : rputL L x n = L := by
  unfold rputE at h
  unfold rputL
  by_cases c1 : x / 2 ^ n = 0
  · by_cases c2 : L.length + n ≤ 1048576
    · simp [c1, c2] at h
    · rw [if_neg (fun hh => c2 hh.2)]
  · rw [if_neg (fun hh => c1 hh.1)]
end Go.Proofs.Ytiphkndahoageaa

