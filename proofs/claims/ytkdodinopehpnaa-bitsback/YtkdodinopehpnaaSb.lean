/-
  Rows of numbers and their bits of the call's own; what was written is read again: plain facts.
-/
import Derived.Test.YtkdodinopehpnaaSa
namespace Go.Proofs.Ytkdodinopehpnaa
open Go.RowKit
set_option linter.unusedVariables false

theorem Try.infoNum : (Try.prog.info? 29).map (fun i => (i.zero, i.size, i.bytes)) = some (some (.agg #[.int .u64 0, .int .i64 0]), 2, 16) := by kernel_rfl

def nrow (K : List (Nat × Int)) : List Value := K.flatMap (fun q => [.int .u64 (q.1 : Int), .int .i64 q.2])
theorem length_nrow (K : List (Nat × Int)) : (nrow K).length = K.length * 2 := by
  induction K with
  | nil => rfl
  | cons q K ih => rw [nrow, List.flatMap_cons, List.length_append]; rw [nrow] at ih; rw [ih, List.length_cons]; simp; omega
theorem nrow_snoc (K : List (Nat × Int)) (q : Nat × Int) : nrow (K ++ [q]) = nrow K ++ [.int .u64 (q.1 : Int), .int .i64 q.2] := by simp [nrow]
theorem nrow_at (K : List (Nat × Int)) (j : Nat) (q : Nat × Int) (h : K[j]? = some q) : (nrow K)[j * 2]? = some (.int .u64 (q.1 : Int)) ∧ (nrow K)[j * 2 + 1]? = some (.int .i64 q.2) := by
  induction K generalizing j with
  | nil => simp at h
  | cons p K ih =>
    rw [nrow, List.flatMap_cons]
    cases j with
    | zero => simp at h; subst h; simp
    | succ j =>
      simp at h
      have := ih j h
      rw [nrow] at this
      rw [show (j + 1) * 2 = j * 2 + 2 from by omega, show j * 2 + 2 + 1 = j * 2 + 1 + 2 from by omega]
      simpa using this

/-- the bits of numbers, one behind the other -/
def flat (K : List (Nat × Int)) : List Bool := K.flatMap (fun q => bitsN q.2.toNat q.1)
theorem flat_snoc (K : List (Nat × Int)) (q : Nat × Int) : flat (K ++ [q]) = flat K ++ bitsN q.2.toNat q.1 := by simp [flat]
theorem flat_split (K : List (Nat × Int)) (j : Nat) (q : Nat × Int) (h : K[j]? = some q) : flat K = flat (K.take j) ++ (bitsN q.2.toNat q.1 ++ flat (K.drop (j + 1))) := by
  have hj : j < K.length := by
    rcases Nat.lt_or_ge j K.length with hh | hh
    · exact hh
    · rw [List.getElem?_eq_none hh] at h; cases h
  have e : K = K.take j ++ q :: K.drop (j + 1) := by
    have h2 : K.drop j = q :: K.drop (j + 1) := by
      rw [List.drop_eq_getElem_cons hj]
      rw [List.getElem?_eq_getElem hj] at h
      cases h; rfl
    rw [← h2, List.take_append_drop]
  conv => lhs; rw [e]
  simp [flat]
/-- what was kept: it fits -/
def Fits (q : Nat × Int) : Prop := 0 ≤ q.2 ∧ q.2 ≤ 64 ∧ q.1 < 2 ^ q.2.toNat
theorem read_back (K : List (Nat × Int)) (j : Nat) (q : Nat × Int) (h : K[j]? = some q) (hq : Fits q) : numAt (pack (flat K)) (flat (K.take j)).length q.2.toNat = q.1 := by
  unfold numAt
  rw [bitsB_pack]
  have e := flat_split K j q h
  generalize hz : List.replicate (8 * nb (flat K).length - (flat K).length) false = z
  rw [e, List.append_assoc, List.drop_left, List.append_assoc, List.take_left' (length_bitsN _ _), num_bitsN, Nat.mod_eq_of_lt hq.2.2]
theorem fits_left (K : List (Nat × Int)) (j : Nat) (q : Nat × Int) (h : K[j]? = some q) : (flat (K.take j)).length + q.2.toNat ≤ 8 * (pack (flat K)).length := by
  have e := congrArg List.length (flat_split K j q h)
  rw [List.length_append, List.length_append, length_bitsN] at e
  rw [length_pack]
  unfold nb
  omega
theorem take_succ (K : List (Nat × Int)) (j : Nat) (q : Nat × Int) (h : K[j]? = some q) : (flat (K.take (j + 1))).length = (flat (K.take j)).length + q.2.toNat := by
  rw [List.take_add_one, h]
  show (flat (K.take j ++ [q])).length = _
  rw [flat_snoc, List.length_append, length_bitsN]
theorem num_zeros (n : Nat) : num (List.replicate n false) = 0 := by
  induction n with
  | zero => rfl
  | succ n ih => rw [List.replicate_succ, num, ih]; rfl
theorem end_back (L : List Bool) : endOf (pack L) L.length = 0 ∧ 8 * (pack L).length - L.length < 8 := by
  have h8 : 8 * (pack L).length - L.length < 8 := by rw [length_pack]; unfold nb; omega
  refine ⟨?_, h8⟩
  unfold endOf
  rw [if_neg (by omega)]
  have e : numAt (pack L) L.length (8 * (pack L).length - L.length) = 0 := by
    unfold numAt
    rw [bitsB_pack, List.drop_left, List.take_of_length_le (by rw [List.length_replicate, length_pack]; omega), num_zeros]
  rw [if_pos e]
theorem pack_lt (L : List Bool) : ∀ x ∈ pack L, x < 256 := by
  intro x hx
  obtain ⟨i, _, rfl⟩ := List.mem_map.1 hx
  exact byteAt_lt L i

/-- Rows of a type that is none of a writer's or a reader's stay beside them. -/
theorem Wr.apartT {B : Nat} {w : World} {b : Nat} {g : Option Nat} {M : List Bool} (h : Wr B w b g M) (t : TypeId) (h1 : t ≠ 55) (h2 : t ≠ 5) : ∀ k cur, w.heap[k]? = some (.cells cur t (0, 0)) → ¬ At b g k := by
  obtain ⟨v, hb, ho, hv⟩ := h.obj
  rintro k cur hk (e | e)
  · subst e; rw [hb] at hk; simp at hk; exact h1 hk.2.symm
  · rcases ho.2 with ⟨rfl, _⟩ | ⟨g', cap, cur', rfl, _, hg, _⟩
    · rw [← hv] at e; simp [Value.ownBlock] at e
    · rw [← hv] at e
      simp [Value.ownBlock] at e
      subst e
      rw [hg] at hk; simp at hk; exact h2 hk.2.symm
theorem Rd.apartT {B : Nat} {w : World} {b : Nat} {g : Option Nat} {P : List Nat} {t0 : Nat} (h : Rd B w b g P t0) (t : TypeId) (h1 : t ≠ 60) (h2 : t ≠ 5) : ∀ k cur, w.heap[k]? = some (.cells cur t (0, 0)) → ¬ At b g k := by
  obtain ⟨v, hb, ho, hv⟩ := h.obj
  rintro k cur hk (e | e)
  · subst e; rw [hb] at hk; simp at hk; exact h1 hk.2.symm
  · rcases ho.2 with ⟨rfl, _⟩ | ⟨g', cap, cur', rfl, _, hg, _⟩
    · rw [← hv] at e; simp [Value.ownBlock] at e
    · rw [← hv] at e
      simp [Value.ownBlock] at e
      subst e
      rw [hg] at hk; simp at hk; exact h2 hk.2.symm
theorem row_keepT {S : Nat → Prop} {B : Nat} {w w' : World} {t : TypeId} {s n : Nat} {v : Value} {xs : List Value} (h : w.ownsRow B t s v n xs) (hf : Fr S w w') (hs : ∀ k cur, w.heap[k]? = some (.cells cur t (0, 0)) → ¬ S k) : w'.ownsRow B t s v n xs := by
  refine hf.row h (fun k hk => ?_)
  rcases h.2 with ⟨rfl, _⟩ | ⟨g, cap, cur, rfl, _, hg, _⟩
  · simp [Value.ownBlock] at hk
  · simp [Value.ownBlock] at hk
    subst hk
    exact hs _ cur hg
/-- a row of the call's own, of another type, turns: a writer stays -/
theorem Ow.grownT {w0 w w' : World} {b : Nat} {M : List Bool} {v : Value} {t : TypeId} {s n : Nat} {xs : List Value} (h : Ow w0 w b M) (h1 : t ≠ 55) (h2 : t ≠ 5) (hv : w.ownsRow w0.heap.size t s v n xs) (hg : w.grownBy w' v.ownBlock) : Ow w0 w' b M := by
  obtain ⟨g, hW, hF⟩ := h
  have hfr : Fr (fun k => v.ownBlock = some k) w w' := Fr.grown (S := fun k => v.ownBlock = some k) (Fr.refl _ w) hg (fun k hk => .inl hk)
  have hap : ∀ k, At b g k → ¬ v.ownBlock = some k := by
    intro k hk e
    rcases hv.2 with ⟨rfl, _⟩ | ⟨g', cap, cur, rfl, _, hgg, _⟩
    · simp [Value.ownBlock] at e
    · simp [Value.ownBlock] at e
      subst e
      exact hW.apartT t h1 h2 _ cur hgg hk
  exact ⟨g, hW.keep hfr (hap b (.inl rfl)) (fun k hk => hap k (.inr hk.symm)), hF.fresh hfr (fun k hk => (World.ownsRow.lt hv k hk).1)⟩

end Go.Proofs.Ytkdodinopehpnaa
