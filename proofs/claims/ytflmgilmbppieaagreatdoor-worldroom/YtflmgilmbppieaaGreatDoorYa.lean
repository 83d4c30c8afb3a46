/-
  Rows of things of several cells; the first ones of a row let go; rings as plain lists.
-/
import Derived.Test.YtflmgilmbppieaaGreatDoorXm
import Derived.BigRegion
import Derived.BigQuiet
import Derived.Deep.QuietTactic
import Derived.Deep.RegionLaw
import Derived.Laws.CopyRow
namespace Go.Proofs.YtflmgilmbppieaaGreatDoor
open Go.RowKit
set_option linter.unusedVariables false

section
variable {α : Type}
/-- the cells of a list of things -/
def cat (c : α → List Value) (L : List α) : List Value := L.flatMap c
theorem cat_append (c : α → List Value) (L M : List α) : cat c (L ++ M) = cat c L ++ cat c M := by simp [cat]
theorem length_cat (c : α → List Value) (s : Nat) (hs : ∀ x, (c x).length = s) (L : List α) : (cat c L).length = L.length * s := by
  induction L with
  | nil => simp [cat]
  | cons x L ih => rw [cat, List.flatMap_cons, List.length_append, hs, List.length_cons, Nat.succ_mul]; rw [cat] at ih; rw [ih]; omega
theorem cat_drop (c : α → List Value) (s : Nat) (hs : ∀ x, (c x).length = s) (L : List α) (n : Nat) : (cat c L).drop (n * s) = cat c (L.drop n) := by
  induction n generalizing L with
  | zero => simp
  | succ n ih =>
    cases L with
    | nil => simp [cat]
    | cons x L =>
      rw [List.drop_succ_cons, ← ih L, cat, List.flatMap_cons, Nat.succ_mul, Nat.add_comm, ← List.drop_drop]
      rw [List.drop_left' (hs x)]; rfl
theorem cat_at (c : α → List Value) (s : Nat) (hs : ∀ x, (c x).length = s) (L : List α) (i r : Nat) (x : α) (hx : L[i]? = some x) (hr : r < s) : (cat c L)[i * s + r]? = (c x)[r]? := by
  induction i generalizing L with
  | zero =>
    cases L with
    | nil => simp at hx
    | cons y L =>
      simp at hx
      subst hx
      rw [cat, List.flatMap_cons, Nat.zero_mul, Nat.zero_add, List.getElem?_append_left (by rw [hs]; exact hr)]
  | succ i ih =>
    cases L with
    | nil => simp at hx
    | cons y L =>
      rw [cat, List.flatMap_cons, List.getElem?_append_right (by rw [hs, Nat.succ_mul]; omega), hs]
      have := ih L (by simpa using hx)
      rw [cat] at this
      rw [← this]; congr 1; rw [Nat.succ_mul]; omega
theorem one_cat (c : α → List Value) (h : ∀ x, ∀ u ∈ c x, u.oneCell' = true) (L : List α) : ∀ u ∈ cat c L, u.oneCell' = true := by
  intro u hu
  rw [cat, List.mem_flatMap] at hu
  obtain ⟨x, _, hx⟩ := hu
  exact h x u hx
end

theorem step_run {P : Program} {ops : Array Oper} {o : Oper} {a : Act} {w : World} {K : Act → World → Prop} {Q : Exit → Act → World → Prop} {E : Prop}
    (hg : o.guard = none) (s x : Operand) (t t' ty : TypeId) (hop : o.op = Op.call { callee := Callee.builtin Builtin.append, args := #[s, x], argTypes := #[t, t'] }) (hty : o.type = ty)
    (vs vx v' : Value) (w' : World) (hs : a.eval s = vs) (hx : a.eval x = vx) (hrun : (Builtin.append_ #[t, t'] ty #[vs, vx]).run P w = .ok v' w')
    (hK : K (a.put o.dst v') w') :
    if Region.wanted o (yielded ops a.tmps) = true then Oper.wp P o a w K Q else E := by
  have hw : Region.wanted o (yielded ops a.tmps) = true := by simp [Region.wanted, hg]
  rw [if_pos hw]
  subst hty
  unfold Oper.wp
  simp [execOp, hop, resolve, invoke, builtin, hs, hx, hrun, Result.andThen]
  exact hK

/-- 'append(s[:0], s[n:]...)' of an owned row -/
theorem Own.moved {P : Program} {w0 w : World} {l : List Thing} {e : TypeId} {s len cap g : Nat} {xs : List Value} (h : Own w0 w (Row e s (.slice (some ⟨g, 0, none⟩) len cap) len xs :: l)) (t ty : TypeId) (i : TypeInfo) (ht : P.underlying t = some (.slice e)) (hi : P.info? e = some i) (hsize : i.size = s)
    (h1 : ∀ u ∈ xs, u.oneCell' = true) (n : Nat) (hn : n ≤ len) (A : Addr) (hA : A = if cap = n then ⟨g, 0, none⟩ else ⟨g, n * s, none⟩) :
    ∃ w', (Builtin.append_ #[t, t] ty #[.slice (some ⟨g, 0, none⟩) 0 cap, .slice (some A) (len - n) (cap - n)]).run P w = .ok (.slice (some ⟨g, 0, none⟩) (len - n) cap) w' ∧
      Own w0 w' (Row e s (.slice (some ⟨g, 0, none⟩) (len - n) cap) (len - n) (xs.drop (n * s)) :: l) := by
  have hr := h.row
  have hcap := row_cap hr
  have h0 := row_cut hr (m := 0) (Nat.zero_le _)
  have hl : (xs.drop (n * s)).length = (len - n) * s := by rw [List.length_drop, hr.1, Nat.sub_mul]
  obtain ⟨w', r1, r2, r3⟩ := run_append_fits (P := P) w 0 t ty e i s ht hi hsize g 0 cap _ h0 A (len - n) (cap - n) (xs.drop (n * s)) hl (by
    intro j u hu
    rw [List.getElem?_drop] at hu
    have hj := (List.getElem?_eq_some_iff.1 hu).1
    have hne : cap ≠ n := by
      intro q
      have : len = n := by omega
      rw [hr.1, this] at hj; omega
    rw [hA, if_neg hne, addr_add, hr.cellAt _ (by rw [← hr.1]; exact hj)]
    exact hu) (fun u hu => h1 u (List.mem_of_mem_drop hu)) (by omega)
  rw [Nat.zero_add] at r1 r2
  refine ⟨w', r1, h.grow (by simpa using r2) r3 ?_⟩
  intro k hk
  left; exact hk
/-- 'clear(s[m:m+n])' behind an owned row -/
theorem Own.cleared {P : Program} {w0 w : World} {l : List Thing} {e : TypeId} {s m cap g : Nat} {xs : List Value} (h : Own w0 w (Row e s (.slice (some ⟨g, 0, none⟩) m cap) m xs :: l)) (t : TypeId) (z : Value) (ht : P.underlying t = some (.slice e)) (hz : ∀ w, (zeroValue e).run P w = .ok z w) (hzs : z.cells.size = s) (h1 : ∀ u ∈ z.cells.toList, u.oneCell' = true) (hs : 0 < s)
    (n c : Nat) (hn : 0 < n) (hmn : m + n ≤ cap) :
    ∃ w', (∀ ty, (Builtin.clear_ #[t] ty #[.slice (some ⟨g, m * s, none⟩) n c]).run P w = .ok (.tuple #[]) w') ∧ Own w0 w' (Row e s (.slice (some ⟨g, 0, none⟩) m cap) m xs :: l) := by
  have hr := h.row
  rcases hr.2 with ⟨h0, _⟩ | ⟨g', cap', cur, hv, hb, hgg, k1, k2, k3, k4⟩
  · cases h0
  · cases hv
    have hlen : (Builtin.zeroCells z.cells n).toList.length = n * s := by rw [Array.length_toList, size_zeroCells, hzs]
    have hle : m * s + (Builtin.zeroCells z.cells n).toList.length ≤ cur.size := by
      rw [hlen, k3, ← Nat.add_mul]; exact Nat.mul_le_mul_right _ hmn
    have hone : ∀ v ∈ (Builtin.zeroCells z.cells n).toList, v.oneCell' = true := by
      intro v hv
      rw [Array.mem_toList_iff, Builtin.zeroCells, Array.mem_map] at hv
      obtain ⟨j, hj, rfl⟩ := hv
      apply h1
      have hlt : j % z.cells.size < z.cells.size := Nat.mod_lt _ (by omega)
      rw [getElem!_pos z.cells _ hlt, Array.mem_toList_iff]
      exact Array.getElem_mem hlt
    have hst := run_storeCells_at (P := P) g (m * s) e (Builtin.zeroCells z.cells n).toList 0 cur w hgg (by simpa using hle) hone
    simp only [Nat.add_zero] at hst
    obtain ⟨R, hR⟩ : ∃ R : Array Value, R = (cur.toList.take (m * s) ++ (Builtin.zeroCells z.cells n).toList ++ cur.toList.drop (m * s + (Builtin.zeroCells z.cells n).toList.length)).toArray := ⟨_, rfl⟩
    rw [← hR] at hst
    have hR1 : R.size = cap * s := by
      rw [hR, ← k3]
      simp only [List.size_toArray, List.length_append, List.length_take, List.length_drop, Array.length_toList] at hle ⊢
      omega
    have hR2 : R.toList.take (m * s) = xs := by
      rw [hR]
      show ((cur.toList.take (m * s) ++ _) ++ _).take (m * s) = xs
      rw [List.append_assoc, List.take_left' (by rw [List.length_take, Array.length_toList, k3]; exact Nat.min_eq_left (Nat.mul_le_mul_right _ k1)), ← k4]
    refine ⟨w.setRow g R, fun ty => ?_, h.grow (w' := w.setRow g R) (m := m) (ys := xs) ⟨hr.1, .inr ⟨g, cap, R, rfl, hb, setRow_heap w g cur R e (0, 0) hgg, k1, k2, hR1, hR2⟩⟩ ⟨rfl, rfl, rfl, by simp [World.setRow], fun k _ hk => setRow_other w g k R (fun e => hk (by simp [e, Value.ownBlock]))⟩ (fun k hk => .inl hk)⟩
    obtain ⟨q, rfl⟩ : ∃ q, n = q + 1 := ⟨n - 1, by omega⟩
    simp only [Builtin.clear_]
    simp [run_underlying ht, hz, hst]

section
variable {α : Type}
/-- how many have lesser ticks -/
def below (t : Nat) (L : List (Nat × α)) : Nat := (L.takeWhile (fun e => decide (e.1 < t))).length
theorem below_le (t : Nat) (L : List (Nat × α)) : below t L ≤ L.length := (List.takeWhile_prefix _).length_le
theorem below_lt (t : Nat) (L : List (Nat × α)) (i : Nat) (e : Nat × α) (hi : i < below t L) (he : L[i]? = some e) : e.1 < t := by
  induction L generalizing i with
  | nil => simp at he
  | cons x L ih =>
    unfold below at hi
    rw [List.takeWhile_cons] at hi
    by_cases c : x.1 < t
    · cases i with
      | zero => simp at he; subst he; exact c
      | succ i => simp [c] at hi; exact ih i (by unfold below; exact hi) (by simpa using he)
    · simp [c] at hi
theorem below_at (t : Nat) (L : List (Nat × α)) (e : Nat × α) (he : L[below t L]? = some e) : t ≤ e.1 := by
  induction L with
  | nil => simp at he
  | cons x L ih =>
    unfold below at he
    rw [List.takeWhile_cons] at he
    by_cases c : x.1 < t
    · simp [c] at he; exact ih (by unfold below; exact he)
    · simp [c] at he; subst he; omega
/-- what Put answers, and what is held then -/
def rput (k : Nat) (L : List (Nat × α)) (t : Nat) (v : α) : Int × List (Nat × α) :=
  if ∃ e, L.getLast? = some e ∧ t ≤ e.1 then (12, L) else (0, if k < L.length + 1 then (L ++ [(t, v)]).drop 1 else L ++ [(t, v)])
def rget (L : List (Nat × α)) (t : Nat) : Option α := match L[below t L]? with
  | some e => if e.1 = t then some e.2 else none
  | none => none
structure ROk (k : Nat) (L : List (Nat × α)) : Prop where
  k1 : 1 ≤ k
  k2 : k ≤ 64
  le : L.length ≤ k
  inc : L.Pairwise (fun a b => a.1 < b.1)
  lt : ∀ e ∈ L, e.1 < 4294967296
theorem ROk.nil {k : Nat} (h1 : 1 ≤ k) (h2 : k ≤ 64) : ROk k ([] : List (Nat × α)) := ⟨h1, h2, by simp, by simp, by simp⟩
theorem ROk.drop {k : Nat} {L : List (Nat × α)} (h : ROk k L) (n : Nat) : ROk k (L.drop n) :=
  ⟨h.k1, h.k2, by rw [List.length_drop]; have := h.le; omega, h.inc.sublist (List.drop_sublist _ _), fun e he => h.lt e (List.mem_of_mem_drop he)⟩
theorem last_max {L : List (Nat × α)} (h : L.Pairwise (fun a b => a.1 < b.1)) {e : Nat × α} (he : L.getLast? = some e) (x : Nat × α) (hx : x ∈ L) : x.1 ≤ e.1 := by
  rw [List.getLast?_eq_some_iff] at he
  obtain ⟨ys, rfl⟩ := he
  rw [List.pairwise_append] at h
  rcases List.mem_append.1 hx with hx | hx
  · exact Nat.le_of_lt (h.2.2 x hx e (by simp))
  · have : x = e := by simpa using hx
    rw [this]; exact Nat.le_refl _
theorem rput_ok {k : Nat} {L : List (Nat × α)} (h : ROk k L) (t : Nat) (v : α) (ht : t < 4294967296) : ROk k (rput k L t v).2 := by
  unfold rput
  split
  · exact h
  · rename_i hc
    have hs : (L ++ [(t, v)]).Pairwise (fun a b => a.1 < b.1) := by
      rw [List.pairwise_append]
      refine ⟨h.inc, by simp, ?_⟩
      intro a ha b hb
      have : b = (t, v) := by simpa using hb
      rw [this]
      show a.1 < t
      cases hl : L.getLast? with
      | none => rw [List.getLast?_eq_none_iff.1 hl] at ha; simp at ha
      | some e =>
        have h1 := last_max h.inc hl a ha
        have h2 : ¬ t ≤ e.1 := fun q => hc ⟨e, hl, q⟩
        omega
    have hb : ∀ e ∈ L ++ [(t, v)], e.1 < 4294967296 := by
      intro e he
      rcases List.mem_append.1 he with he | he
      · exact h.lt e he
      · have : e = (t, v) := by simpa using he
        rw [this]; exact ht
    have hle := h.le
    show ROk k (if _ then _ else _)
    split
    · exact ⟨h.k1, h.k2, by simp; omega, hs.sublist (List.drop_sublist _ _), fun e he => hb e (List.mem_of_mem_drop he)⟩
    · exact ⟨h.k1, h.k2, by simp; omega, hs, hb⟩
end
end Go.Proofs.YtflmgilmbppieaaGreatDoor
