/-
  Slices of structs that come in: their elements' cells.
-/
import Derived.Test.YtlncgkbgelejmaaGreatDoorXm
import Derived.Deep.SlicePairs
import Derived.ProofKit
import Derived.OpenShut
import Derived.BigRegion
import Derived.BigQuiet
import Derived.Deep.QuietTactic
import Derived.Deep.RegionLaw
import Derived.Laws.CopyRow
import Derived.Test.YtlncgkbgelejmaaGreatDoorSjg
import Derived.Laws.StructEq
import Derived.ChangeKeysEq
import Derived.Deep.RegionWith
import Derived.Deep.RegionHeld3
import Derived.Deep.AppendLies
namespace Go.Proofs.YtlncgkbgelejmaaGreatDoor
open Go.RowKit Go.ChangeShapes Go.WideShapes Go.Deep
set_option linter.unusedVariables false

/-- elements of s cells each, of which G tells what they are -/
def RowsAt {α : Type} (G : List Value → α → Prop) (s : Nat) (w : World) (ao : Option Addr) (Q : List α) : Prop :=
  Q = [] ∨ ∃ g o, ao = some ⟨g, o, none⟩ ∧ ∀ (j : Nat) q, Q[j]? = some q → ∃ cs, G cs q ∧ cs.length = s ∧ ∀ r, r < s → w.cell? ⟨g, o + j * s + r, none⟩ = cs[r]?
theorem RowsAt.quiet {α : Type} {G : List Value → α → Prop} {s : Nat} {w w' : World} {ao : Option Addr} {Q : List α} (h : RowsAt G s w ao Q) (hf : Fr Nobody w w') : RowsAt G s w' ao Q := by
  rcases h with h | ⟨g, o, ha, hc⟩
  · exact .inl h
  · refine .inr ⟨g, o, ha, fun j q hq => ?_⟩
    obtain ⟨cs, h1, h2, h3⟩ := hc j q hq
    refine ⟨cs, h1, h2, fun r hr => ?_⟩
    have h4 := h3 r hr
    have h5 : cs[r]? = some cs[r] := List.getElem?_eq_getElem (by omega)
    rw [h5] at h4 ⊢
    exact (hf.cell (p := ⟨g, o + j * s + r, none⟩) (World.block_lt_of_cell? w _ h4) id).trans h4

theorem open_rows {H : Type} {enc : TypeId × Value → H} {P : Program} {W : World} {ao : Option Addr} {len cap : Nat} {d : DataW H} {p : List MemPlace} {α : Type} [Inhabited α] {t e : TypeId} (s : Nat) (ht : P.underlying t = some (.slice e)) (hs : P.cellsOf e = s) (h0s : 0 < s) (G : List Value → α → Prop)
    (hG : ∀ fuel cs x, DataW.trod enc P W 0 (fun _ => true) true fuel e cs = some x → ∃ q, G cs q)
    (h : DataW.Trod enc P W 0 (fun _ => true) true t (.slice ao len cap) d p) :
    ∃ Q : List α, Q.length = len ∧ len ≤ cap ∧ cap ≤ maxLen ∧ RowsAt G s W ao Q := by
  obtain ⟨fuel, hf⟩ := h
  rcases open_slice ht hf with ⟨hc, _⟩ | ⟨a, l, c, m, n, D, Pl, hc, _, hl, hm, hmm, _, hx⟩
  · simp [Value.cells] at hc
    obtain ⟨rfl, rfl, rfl⟩ := hc
    exact ⟨[], rfl, Nat.le_refl _, Nat.zero_le _, .inl rfl⟩
  · simp [Value.cells] at hc
    obtain ⟨rfl, rfl, rfl⟩ := hc
    have hml : len ≤ m := by rw [hmm]; simp; omega
    have each : ∀ i, i < len → ∃ q : α, ∃ cs, G cs q ∧ cs.length = s ∧ ∀ r, r < s → W.cell? ((a.add (i * s)).add r) = cs[r]? := by
      intro i hi
      obtain ⟨cs', h1, h2⟩ := hx i (by omega)
      rw [hs] at h1
      obtain ⟨_, hlen, hcell⟩ := World.cells?_some h1
      obtain ⟨q, hq⟩ := hG _ _ _ h2
      exact ⟨q, cs', hq, hlen, fun r hr => by rw [hcell r hr, List.getElem?_eq_getElem (by omega)]⟩
    obtain ⟨f, hfn⟩ := choose_lt each
    refine ⟨(List.range len).map f, by simp, hl, hm, ?_⟩
    by_cases h0 : len = 0
    · subst h0; left; rfl
    · right
      obtain ⟨g, o, spot⟩ := a
      obtain ⟨cs, _, hcl, hcc⟩ := hfn 0 (by omega)
      have h1 := hcc 0 h0s
      rw [List.getElem?_eq_getElem (by omega)] at h1
      have hsp : spot = none := by simpa [Addr.add] using World.cell?_spot h1
      subst hsp
      refine ⟨g, o, rfl, fun j q hj => ?_⟩
      have hjl : j < len := by
        have := (List.getElem?_eq_some_iff.1 hj).1
        simpa using this
      rw [List.getElem?_map, List.getElem?_range hjl] at hj
      simp only [Option.map_some, Option.some.injEq] at hj
      obtain ⟨cs, h1, h2, h3⟩ := hfn j hjl
      rw [hj] at h1
      refine ⟨cs, h1, h2, fun r hr => ?_⟩
      have := h3 r hr
      rw [addr_add, addr_add] at this
      exact this
end Go.Proofs.YtlncgkbgelejmaaGreatDoor


/-
  Rows of things of several cells; the first ones of a row let go; rings as plain lists.
-/
namespace Go.Proofs.YtlncgkbgelejmaaGreatDoor
open Go.RowKit
set_option linter.unusedVariables false

section
variable {α : Type}
/-- the cells of a list of things -/
def cat (c : α → List Value) (L : List α) : List Value := L.flatMap c
theorem cat_append (c : α → List Value) (L M : List α) : cat c (L ++ M) = cat c L ++ cat c M := by simp [cat]
theorem length_cat (c : α → List Value) (s : Nat) (hs : ∀ x, (c x).length = s) (L : List α) : (cat c L).length = L.length * s := by
  induction L with
  | nil => simp [cat]
  | cons x L ih => rw [cat, List.flatMap_cons, List.length_append, hs, List.length_cons, Nat.succ_mul]; rw [cat] at ih; rw [ih]; omega
theorem cat_drop (c : α → List Value) (s : Nat) (hs : ∀ x, (c x).length = s) (L : List α) (n : Nat) : (cat c L).drop (n * s) = cat c (L.drop n) := by
  induction n generalizing L with
  | zero => simp
  | succ n ih =>
    cases L with
    | nil => simp [cat]
    | cons x L =>
      rw [List.drop_succ_cons, ← ih L, cat, List.flatMap_cons, Nat.succ_mul, Nat.add_comm, ← List.drop_drop]
      rw [List.drop_left' (hs x)]; rfl
theorem cat_at (c : α → List Value) (s : Nat) (hs : ∀ x, (c x).length = s) (L : List α) (i r : Nat) (x : α) (hx : L[i]? = some x) (hr : r < s) : (cat c L)[i * s + r]? = (c x)[r]? := by
  induction i generalizing L with
  | zero =>
    cases L with
    | nil => simp at hx
    | cons y L =>
      simp at hx
      subst hx
      rw [cat, List.flatMap_cons, Nat.zero_mul, Nat.zero_add, List.getElem?_append_left (by rw [hs]; exact hr)]
  | succ i ih =>
    cases L with
    | nil => simp at hx
    | cons y L =>
      rw [cat, List.flatMap_cons, List.getElem?_append_right (by rw [hs, Nat.succ_mul]; omega), hs]
      have := ih L (by simpa using hx)
      rw [cat] at this
      rw [← this]; congr 1; rw [Nat.succ_mul]; omega
theorem one_cat (c : α → List Value) (h : ∀ x, ∀ u ∈ c x, u.oneCell' = true) (L : List α) : ∀ u ∈ cat c L, u.oneCell' = true := by
  intro u hu
  rw [cat, List.mem_flatMap] at hu
  obtain ⟨x, _, hx⟩ := hu
  exact h x u hx
end

theorem step_run {P : Program} {ops : Array Oper} {o : Oper} {a : Act} {w : World} {K : Act → World → Prop} {Q : Exit → Act → World → Prop} {E : Prop}
    (hg : o.guard = none) (s x : Operand) (t t' ty : TypeId) (hop : o.op = Op.call { callee := Callee.builtin Builtin.append, args := #[s, x], argTypes := #[t, t'] }) (hty : o.type = ty)
    (vs vx v' : Value) (w' : World) (hs : a.eval s = vs) (hx : a.eval x = vx) (hrun : (Builtin.append_ #[t, t'] ty #[vs, vx]).run P w = .ok v' w')
    (hK : K (a.put o.dst v') w') :
    if Region.wanted o (yielded ops a.tmps) = true then Oper.wp P o a w K Q else E := by
  have hw : Region.wanted o (yielded ops a.tmps) = true := by simp [Region.wanted, hg]
  rw [if_pos hw]
  subst hty
  unfold Oper.wp
  simp [execOp, hop, resolve, invoke, builtin, hs, hx, hrun, Result.andThen]
  exact hK

/-- 'append(s[:0], s[n:]...)' of an owned row -/
theorem Own.moved {P : Program} {w0 w : World} {l : List Thing} {e : TypeId} {s len cap g : Nat} {xs : List Value} (h : Own w0 w (Row e s (.slice (some ⟨g, 0, none⟩) len cap) len xs :: l)) (t ty : TypeId) (i : TypeInfo) (ht : P.underlying t = some (.slice e)) (hi : P.info? e = some i) (hsize : i.size = s)
    (h1 : ∀ u ∈ xs, u.oneCell' = true) (n : Nat) (hn : n ≤ len) (A : Addr) (hA : A = if cap = n then ⟨g, 0, none⟩ else ⟨g, n * s, none⟩) :
    ∃ w', (Builtin.append_ #[t, t] ty #[.slice (some ⟨g, 0, none⟩) 0 cap, .slice (some A) (len - n) (cap - n)]).run P w = .ok (.slice (some ⟨g, 0, none⟩) (len - n) cap) w' ∧
      Own w0 w' (Row e s (.slice (some ⟨g, 0, none⟩) (len - n) cap) (len - n) (xs.drop (n * s)) :: l) := by
  have hr := h.row
  have hcap := row_cap hr
  have h0 := row_cut hr (m := 0) (Nat.zero_le _)
  have hl : (xs.drop (n * s)).length = (len - n) * s := by rw [List.length_drop, hr.1, Nat.sub_mul]
  obtain ⟨w', r1, r2, r3⟩ := run_append_fits (P := P) w 0 t ty e i s ht hi hsize g 0 cap _ h0 A (len - n) (cap - n) (xs.drop (n * s)) hl (by
    intro j u hu
    rw [List.getElem?_drop] at hu
    have hj := (List.getElem?_eq_some_iff.1 hu).1
    have hne : cap ≠ n := by
      intro q
      have : len = n := by omega
      rw [hr.1, this] at hj; omega
    rw [hA, if_neg hne, addr_add, hr.cellAt _ (by rw [← hr.1]; exact hj)]
    exact hu) (fun u hu => h1 u (List.mem_of_mem_drop hu)) (by omega)
  rw [Nat.zero_add] at r1 r2
  refine ⟨w', r1, h.grow (by simpa using r2) r3 ?_⟩
  intro k hk
  left; exact hk
/-- 'clear(s[m:m+n])' behind an owned row -/
theorem Own.cleared {P : Program} {w0 w : World} {l : List Thing} {e : TypeId} {s m cap g : Nat} {xs : List Value} (h : Own w0 w (Row e s (.slice (some ⟨g, 0, none⟩) m cap) m xs :: l)) (t : TypeId) (z : Value) (ht : P.underlying t = some (.slice e)) (hz : ∀ w, (zeroValue e).run P w = .ok z w) (hzs : z.cells.size = s) (h1 : ∀ u ∈ z.cells.toList, u.oneCell' = true) (hs : 0 < s)
    (n c : Nat) (hn : 0 < n) (hmn : m + n ≤ cap) :
    ∃ w', (∀ ty, (Builtin.clear_ #[t] ty #[.slice (some ⟨g, m * s, none⟩) n c]).run P w = .ok (.tuple #[]) w') ∧ Own w0 w' (Row e s (.slice (some ⟨g, 0, none⟩) m cap) m xs :: l) := by
  have hr := h.row
  rcases hr.2 with ⟨h0, _⟩ | ⟨g', cap', cur, hv, hb, hgg, k1, k2, k3, k4⟩
  · cases h0
  · cases hv
    have hlen : (Builtin.zeroCells z.cells n).toList.length = n * s := by rw [Array.length_toList, size_zeroCells, hzs]
    have hle : m * s + (Builtin.zeroCells z.cells n).toList.length ≤ cur.size := by
      rw [hlen, k3, ← Nat.add_mul]; exact Nat.mul_le_mul_right _ hmn
    have hone : ∀ v ∈ (Builtin.zeroCells z.cells n).toList, v.oneCell' = true := by
      intro v hv
      rw [Array.mem_toList_iff, Builtin.zeroCells, Array.mem_map] at hv
      obtain ⟨j, hj, rfl⟩ := hv
      apply h1
      have hlt : j % z.cells.size < z.cells.size := Nat.mod_lt _ (by omega)
      rw [getElem!_pos z.cells _ hlt, Array.mem_toList_iff]
      exact Array.getElem_mem hlt
    have hst := run_storeCells_at (P := P) g (m * s) e (Builtin.zeroCells z.cells n).toList 0 cur w hgg (by simpa using hle) hone
    simp only [Nat.add_zero] at hst
    obtain ⟨R, hR⟩ : ∃ R : Array Value, R = (cur.toList.take (m * s) ++ (Builtin.zeroCells z.cells n).toList ++ cur.toList.drop (m * s + (Builtin.zeroCells z.cells n).toList.length)).toArray := ⟨_, rfl⟩
    rw [← hR] at hst
    have hR1 : R.size = cap * s := by
      rw [hR, ← k3]
      simp only [List.size_toArray, List.length_append, List.length_take, List.length_drop, Array.length_toList] at hle ⊢
      omega
    have hR2 : R.toList.take (m * s) = xs := by
      rw [hR]
      show ((cur.toList.take (m * s) ++ _) ++ _).take (m * s) = xs
      rw [List.append_assoc, List.take_left' (by rw [List.length_take, Array.length_toList, k3]; exact Nat.min_eq_left (Nat.mul_le_mul_right _ k1)), ← k4]
    refine ⟨w.setRow g R, fun ty => ?_, h.grow (w' := w.setRow g R) (m := m) (ys := xs) ⟨hr.1, .inr ⟨g, cap, R, rfl, hb, setRow_heap w g cur R e (0, 0) hgg, k1, k2, hR1, hR2⟩⟩ ⟨rfl, rfl, rfl, by simp [World.setRow], fun k _ hk => setRow_other w g k R (fun e => hk (by simp [e, Value.ownBlock]))⟩ (fun k hk => .inl hk)⟩
    obtain ⟨q, rfl⟩ : ∃ q, n = q + 1 := ⟨n - 1, by omega⟩
    simp only [Builtin.clear_]
    simp [run_underlying ht, hz, hst]

section
variable {α : Type}
/-- how many have lesser ticks -/
def below (t : Nat) (L : List (Nat × α)) : Nat := (L.takeWhile (fun e => decide (e.1 < t))).length
theorem below_le (t : Nat) (L : List (Nat × α)) : below t L ≤ L.length := (List.takeWhile_prefix _).length_le
theorem below_lt (t : Nat) (L : List (Nat × α)) (i : Nat) (e : Nat × α) (hi : i < below t L) (he : L[i]? = some e) : e.1 < t := by
  induction L generalizing i with
  | nil => simp at he
  | cons x L ih =>
    unfold below at hi
    rw [List.takeWhile_cons] at hi
    by_cases c : x.1 < t
    · cases i with
      | zero => simp at he; subst he; exact c
      | succ i => simp [c] at hi; exact ih i (by unfold below; exact hi) (by simpa using he)
    · simp [c] at hi
theorem below_at (t : Nat) (L : List (Nat × α)) (e : Nat × α) (he : L[below t L]? = some e) : t ≤ e.1 := by
  induction L with
  | nil => simp at he
  | cons x L ih =>
    unfold below at he
    rw [List.takeWhile_cons] at he
    by_cases c : x.1 < t
    · simp [c] at he; exact ih (by unfold below; exact he)
    · simp [c] at he; subst he; omega
/-- what Put answers, and what is held then -/
def rput (k : Nat) (L : List (Nat × α)) (t : Nat) (v : α) : Int × List (Nat × α) :=
  if ∃ e, L.getLast? = some e ∧ t ≤ e.1 then (12, L) else (0, if k < L.length + 1 then (L ++ [(t, v)]).drop 1 else L ++ [(t, v)])
def rget (L : List (Nat × α)) (t : Nat) : Option α := match L[below t L]? with
  | some e => if e.1 = t then some e.2 else none
  | none => none
structure ROk (k : Nat) (L : List (Nat × α)) : Prop where
  k1 : 1 ≤ k
  k2 : k ≤ 64
  le : L.length ≤ k
  inc : L.Pairwise (fun a b => a.1 < b.1)
  lt : ∀ e ∈ L, e.1 < 4294967296
theorem ROk.nil {k : Nat} (h1 : 1 ≤ k) (h2 : k ≤ 64) : ROk k ([] : List (Nat × α)) := ⟨h1, h2, by simp, by simp, by simp⟩
theorem ROk.drop {k : Nat} {L : List (Nat × α)} (h : ROk k L) (n : Nat) : ROk k (L.drop n) :=
  ⟨h.k1, h.k2, by rw [List.length_drop]; have := h.le; omega, h.inc.sublist (List.drop_sublist _ _), fun e he => h.lt e (List.mem_of_mem_drop he)⟩
theorem last_max {L : List (Nat × α)} (h : L.Pairwise (fun a b => a.1 < b.1)) {e : Nat × α} (he : L.getLast? = some e) (x : Nat × α) (hx : x ∈ L) : x.1 ≤ e.1 := by
  rw [List.getLast?_eq_some_iff] at he
  obtain ⟨ys, rfl⟩ := he
  rw [List.pairwise_append] at h
  rcases List.mem_append.1 hx with hx | hx
  · exact Nat.le_of_lt (h.2.2 x hx e (by simp))
  · have : x = e := by simpa using hx
    rw [this]; exact Nat.le_refl _
theorem rput_ok {k : Nat} {L : List (Nat × α)} (h : ROk k L) (t : Nat) (v : α) (ht : t < 4294967296) : ROk k (rput k L t v).2 := by
  unfold rput
  split
  · exact h
  · rename_i hc
    have hs : (L ++ [(t, v)]).Pairwise (fun a b => a.1 < b.1) := by
      rw [List.pairwise_append]
      refine ⟨h.inc, by simp, ?_⟩
      intro a ha b hb
      have : b = (t, v) := by simpa using hb
      rw [this]
      show a.1 < t
      cases hl : L.getLast? with
      | none => rw [List.getLast?_eq_none_iff.1 hl] at ha; simp at ha
      | some e =>
        have h1 := last_max h.inc hl a ha
        have h2 : ¬ t ≤ e.1 := fun q => hc ⟨e, hl, q⟩
        omega
    have hb : ∀ e ∈ L ++ [(t, v)], e.1 < 4294967296 := by
      intro e he
      rcases List.mem_append.1 he with he | he
      · exact h.lt e he
      · have : e = (t, v) := by simpa using he
        rw [this]; exact ht
    have hle := h.le
    show ROk k (if _ then _ else _)
    split
    · exact ⟨h.k1, h.k2, by simp; omega, hs.sublist (List.drop_sublist _ _), fun e he => hb e (List.mem_of_mem_drop he)⟩
    · exact ⟨h.k1, h.k2, by simp; omega, hs, hb⟩
end
end Go.Proofs.YtlncgkbgelejmaaGreatDoor


/-
  Slices that are only read, from any place of a row on; what is appended out of them.
-/
namespace Go.Proofs.YtlncgkbgelejmaaGreatDoor
open Go.RowKit
set_option linter.unusedVariables false

/-- a slice of n things of s cells that is read alone -/
def View (s : Nat) (v : Value) (n : Nat) (xs : List Value) : Thing where
  is := fun w A => xs.length = n * s ∧ ∃ ao cap, v = .slice ao n cap ∧ n ≤ cap ∧ cap ≤ maxLen ∧ ((n = 0 ∧ ∀ k, ¬ A k) ∨ (0 < n * s ∧ ∃ g o, ao = some ⟨g, o, none⟩ ∧ (∀ k, A k ↔ k = g) ∧ ∀ j u, xs[j]? = some u → w.cell? ⟨g, o + j, none⟩ = some u))
  lt := by
    rintro w A k ⟨hl, ao, cap, rfl, _, _, ⟨_, h⟩ | ⟨h0, g, o, _, hA, hc⟩⟩ a
    · exact (h k a).elim
    · rw [(hA k).1 a]
      have hx : xs[0]? = some xs[0] := List.getElem?_eq_getElem (by omega)
      exact World.block_lt_of_cell? w _ (hc 0 _ hx)
  keep := by
    rintro w w' A B ⟨hl, ao, cap, rfl, h1, h2, ⟨h3, h⟩ | ⟨h0, g, o, ha, hA, hc⟩⟩ hf hn
    · exact ⟨hl, ao, cap, rfl, h1, h2, .inl ⟨h3, h⟩⟩
    · refine ⟨hl, ao, cap, rfl, h1, h2, .inr ⟨h0, g, o, ha, hA, fun j u hu => ?_⟩⟩
      have h4 := hc j u hu
      exact (hf.cell (p := ⟨g, o + j, none⟩) (World.block_lt_of_cell? w _ h4) (hn g ((hA g).2 rfl))).trans h4

section
variable {w0 w w' : World} {l : List Thing} {t e : TypeId} {s n m cap g : Nat} {v u : Value} {xs ys : List Value}
theorem Own.view (h : Own w0 w (Row e s v n xs :: l)) (hs : 0 < s) : Own w0 w (View s v n xs :: l) := by
  obtain ⟨A, ⟨B, C, hB, hC, hbc, hA⟩, hF, hlo⟩ := h
  have hr := hB.1
  rcases hr.2 with ⟨rfl, rfl⟩ | ⟨g, cap, cur, rfl, _, hgg, h1, h2, h3, h4⟩
  · refine ⟨C, ⟨fun _ => False, C, ⟨hr.1, none, 0, rfl, Nat.le_refl _, Nat.zero_le _, .inl ⟨rfl, fun _ h => h⟩⟩, hC, fun _ h => h.elim, fun k => by simp⟩, hF, fun k c => hlo k ((hA k).2 (.inr c))⟩
  · rcases Nat.eq_zero_or_pos n with h0 | h0
    · refine ⟨C, ⟨fun _ => False, C, ⟨hr.1, _, _, rfl, h1, h2, .inl ⟨h0, fun _ h => h⟩⟩, hC, fun _ h => h.elim, fun k => by simp⟩, hF, fun k c => hlo k ((hA k).2 (.inr c))⟩
    · refine ⟨A, ⟨B, C, ⟨hr.1, _, _, rfl, h1, h2, .inr ⟨Nat.mul_pos h0 hs, g, 0, rfl, fun k => ?_, fun j u hu => ?_⟩⟩, hC, hbc, hA⟩, hF, hlo⟩
      · rw [hB.2 k]; simp [Value.ownBlock]; exact eq_comm
      · have hj := (List.getElem?_eq_some_iff.1 hu).1
        rw [Nat.zero_add, hr.cellAt j (by rw [← hr.1]; exact hj)]; exact hu
theorem Own.vshape (h : Own w0 w (View s v n xs :: l)) : ∃ ao cap, v = .slice ao n cap ∧ n ≤ cap ∧ cap ≤ maxLen := by
  obtain ⟨A, ⟨B, C, ⟨_, ao, cap, h1, h2, h3, _⟩, _⟩, _⟩ := h
  exact ⟨ao, cap, h1, h2, h3⟩
theorem Own.vlen (h : Own w0 w (View s v n xs :: l)) : xs.length = n * s := by
  obtain ⟨A, ⟨B, C, ⟨hl, _⟩, _⟩, _⟩ := h
  exact hl
theorem Own.vcell (h : Own w0 w (View s v n xs :: l)) (hn : 0 < n) : ∃ g o cap, v = .slice (some ⟨g, o, none⟩) n cap ∧ n ≤ cap ∧ cap ≤ maxLen ∧ ∀ j u, xs[j]? = some u → w.cell? ⟨g, o + j, none⟩ = some u := by
  obtain ⟨A, ⟨B, C, ⟨hl, ao, cap, rfl, h1, h2, ⟨h3, _⟩ | ⟨h0, g, o, rfl, hA, hc⟩⟩, _⟩, _⟩ := h
  · omega
  · exact ⟨g, o, cap, rfl, h1, h2, hc⟩
/-- without its first thing -/
theorem Own.vtail {o : Nat} (h : Own w0 w (View s (.slice (some ⟨g, o, none⟩) n cap) n xs :: l)) (hn : 0 < n) (A : Addr) (hA : A = if cap = 1 then ⟨g, o, none⟩ else ⟨g, o + s, none⟩) (hs : 0 < s) : Own w0 w (View s (.slice (some A) (n - 1) (cap - 1)) (n - 1) (xs.drop s) :: l) := by
  obtain ⟨F, ⟨B, C, ⟨hl, ao, cap', hv, h1, h2, ⟨h3, _⟩ | ⟨h0, g', o', ha, hB, hc⟩⟩, hC, hbc, hF0⟩, hF, hlo⟩ := h
  · omega
  · obtain ⟨e1, _, e3⟩ := Value.slice.inj hv
    subst e3
    rw [← e1] at ha
    cases ha
    have hl2 : (xs.drop s).length = (n - 1) * s := by rw [List.length_drop, hl, Nat.sub_mul, Nat.one_mul]
    rcases Nat.eq_zero_or_pos (n - 1) with c | c
    · refine ⟨C, ⟨fun _ => False, C, ⟨hl2, _, _, rfl, by omega, by omega, .inl ⟨c, fun _ h => h⟩⟩, hC, fun _ h => h.elim, fun k => by simp⟩, hF, fun k q => hlo k ((hF0 k).2 (.inr q))⟩
    · refine ⟨F, ⟨B, C, ⟨hl2, _, _, rfl, by omega, by omega, .inr ⟨Nat.mul_pos c hs, g, o + s, ?_, hB, fun j u hu => ?_⟩⟩, hC, hbc, hF0⟩, hF, hlo⟩
      · rw [hA, if_neg (by omega)]
      · rw [List.getElem?_drop] at hu
        have := hc (s + j) u hu
        rw [← Nat.add_assoc] at this; exact this
theorem Own.litRow (h : Own w0 w l) (cs : Array Value) (e : TypeId) (s n : Nat) (hm : n ≤ maxLen) (hs : cs.size = n * s) : Own w0 (w.alloc (.cells cs e)) (Row e s (.slice (some ⟨w.heap.size, 0, none⟩) n n) n cs.toList :: l) :=
  h.new (Row e s (.slice (some ⟨w.heap.size, 0, none⟩) n n) n cs.toList) (fun k => k = w.heap.size) ⟨World.ownsRow_lit (base := 0) w cs n (Nat.zero_le _) hm hs, fun k => by simp [Value.ownBlock]; exact eq_comm⟩ ((Fr.refl _ _).alloc _) (fun k hk => by omega)
end

theorem run_append_empty {P : Program} (w : World) (base : Nat) (t ty e : TypeId) (i : TypeInfo) (size : Nat) (ht : P.underlying t = some (.slice e)) (hi : P.info? e = some i)
    (v : Value) (n : Nat) (xs : List Value) (hown : w.ownsRow base e size v n xs) (xa : Option Addr) (c : Nat) :
    (Builtin.append_ #[t, t] ty #[v, .slice xa 0 c]).run P w = .ok v w := by
  rcases hown.2 with ⟨rfl, rfl⟩ | ⟨g, cap, cur, rfl, _, _, hnc, _⟩
  · cases xa <;> simp [Builtin.append_, run_underlying ht, sizeOf, typeInfo, hi, Builtin.lenOf, Builtin.firstCells, loadCells, loadCellsFrom]
  · cases xa <;> simp [Builtin.append_, run_underlying ht, sizeOf, typeInfo, hi, Builtin.lenOf, Builtin.firstCells, hnc, storeCells, loadCells, loadCellsFrom]
/-- append of all of a slice that is read -/
theorem append_view {P : Program} {w0 w : World} {l : List Thing} {ops : Array Oper} {rest : List Oper} {o : Oper} {a : Act} {Q : Exit → Act → World → Prop} (hgd : o.guard = none) (sx x : Operand) (t : TypeId)
    (ho : o.op = .call { callee := .builtin .append, args := #[sx, x], argTypes := #[t, t] })
    (e : TypeId) (i : TypeInfo) (z : Value) (size bytes : Nat) (ht : P.underlying t = some (.slice e)) (hi : P.info? e = some i) (hz : i.zero = some z)
    (hsize : i.size = size) (hby : i.bytes = bytes) (hzs : z.cells.size = size) (hsz : 0 < size)
    (v : Value) (n : Nat) (xs : List Value) (hs : a.eval sx = v) (vx : Value) (m : Nat) (ys : List Value) (hx : a.eval x = vx) (hown : Own w0 w (Row e size v n xs :: View size vx m ys :: l)) (h1 : ∀ u ∈ ys, u.oneCell' = true)
    (h63 : n + m ≤ maxLen) (hbytes : (n + m) * bytes ≤ 140737488355328)
    (h : ∀ ao cap w', Own w0 w' (Row e size (.slice ao (n + m) cap) (n + m) (xs ++ ys) :: View size vx m ys :: l) → w.heap.size ≤ w'.heap.size → wpList P ops Q rest (a.put o.dst (.slice ao (n + m) cap)) w') : wpList P ops Q (o :: rest) a w := by
  obtain ⟨xa, xc, rfl, _, _⟩ := hown.two.vshape
  rcases Nat.eq_zero_or_pos m with h0 | h0
  · subst h0
    have hy : ys = [] := List.eq_nil_of_length_eq_zero (by rw [hown.two.vlen]; simp)
    subst hy
    obtain ⟨va, vc, rfl⟩ := row_any hown.row
    refine wpList_plain hgd fun K hK' => ?_
    have hr := run_append_empty (P := P) w 0 t o.type e i size ht hi _ n xs hown.row xa xc
    unfold Oper.wp
    simp [execOp, ho, resolve, invoke, builtin, hs, hx, hr, Result.andThen]
    exact hK' _ _ (by simpa using h va vc w (by simpa using hown) (Nat.le_refl _))
  · obtain ⟨g, o', cap, hv, _, _, hc⟩ := hown.two.vcell h0
    have hxa := (Value.slice.inj hv).1
    subst hxa
    refine append_own hgd sx x t ho e i z size bytes ht hi hz hsize hby hzs hsz v n xs hs hown ⟨g, o', none⟩ m xc ys hx hown.two.vlen (fun j u hu => by rw [addr_add]; exact hc j u hu) h1 h0 h63 hbytes ?_
    intro g' cap' w' hO hsz
    exact h _ _ w' hO hsz
end Go.Proofs.YtlncgkbgelejmaaGreatDoor


/-
  Lists of components: read, checked, masked, copied, found.
-/
namespace Go.Proofs.YtlncgkbgelejmaaGreatDoor
open Go.RowKit Go.ChangeShapes Go.WideShapes
set_option linter.unusedVariables false
set_option maxRecDepth 100000

/-- a component -/
structure Cp where
  k : Nat
  a : Int
  b : Int
  c : Int
instance : Inhabited Cp := ⟨⟨0, 0, 0, 0⟩⟩
def Cp.cs (q : Cp) : List Value := [.int .u8 (q.k : Int), .int .i32 q.a, .int .i32 q.b, .int .i32 q.c]
def Cp.chk (q : Cp) : Nat := Go.Proofs.YtlncgkbgelejmaaGreatDoor.chk q.k (f3 q.a q.b q.c)
theorem cs_len (q : Cp) : q.cs.length = 4 := rfl
theorem cs_one (q : Cp) : ∀ u ∈ q.cs, u.oneCell' = true := by
  intro u hu; simp [Cp.cs] at hu; rcases hu with rfl | rfl | rfl | rfl <;> rfl
def At4 (w : World) (g p : Nat) (q : Cp) : Prop := w.cell? ⟨g, p, none⟩ = some (.int .u8 (q.k : Int)) ∧ w.cell? ⟨g, p + 1, none⟩ = some (.int .i32 q.a) ∧ w.cell? ⟨g, p + 2, none⟩ = some (.int .i32 q.b) ∧ w.cell? ⟨g, p + 3, none⟩ = some (.int .i32 q.c)
/-- a list of components that can be read -/
def Cs (w : World) (ao : Option Addr) (L : List Cp) : Prop := L = [] ∨ ∃ g o, ao = some ⟨g, o, none⟩ ∧ ∀ (j : Nat) q, L[j]? = some q → At4 w g (o + j * 4) q
theorem At4.quiet {w w' : World} {g p : Nat} {q : Cp} (h : At4 w g p q) (hf : Fr Nobody w w') : At4 w' g p q := by
  obtain ⟨h0, h1, h2, h3⟩ := h
  have hb := World.block_lt_of_cell? w _ h0
  exact ⟨(hf.cell (p := ⟨g, p, none⟩) hb id).trans h0, (hf.cell (p := ⟨g, p + 1, none⟩) hb id).trans h1, (hf.cell (p := ⟨g, p + 2, none⟩) hb id).trans h2, (hf.cell (p := ⟨g, p + 3, none⟩) hb id).trans h3⟩
theorem Cs.quiet {w w' : World} {ao : Option Addr} {L : List Cp} (h : Cs w ao L) (hf : Fr Nobody w w') : Cs w' ao L := by
  rcases h with h | ⟨g, o, ha, hc⟩
  · exact .inl h
  · exact .inr ⟨g, o, ha, fun j q hq => (hc j q hq).quiet hf⟩
theorem Cs.at {w : World} {ao : Option Addr} {L : List Cp} (h : Cs w ao L) (j : Nat) (q : Cp) (hq : L[j]? = some q) : ∃ g o, ao = some ⟨g, o, none⟩ ∧ (∀ (i : Nat) x, L[i]? = some x → At4 w g (o + i * 4) x) ∧ At4 w g (o + j * 4) q := by
  rcases h with h | ⟨g, o, ha, hc⟩
  · subst h; simp at hq
  · exact ⟨g, o, ha, hc, hc j q hq⟩
theorem Cs.take {w : World} {ao : Option Addr} {L : List Cp} (h : Cs w ao L) (n : Nat) : Cs w ao (L.take n) := by
  rcases h with h | ⟨g, o, ha, hc⟩
  · subst h; exact .inl (by simp)
  · refine .inr ⟨g, o, ha, fun j q hq => hc j q ?_⟩
    rw [List.getElem?_take] at hq
    split at hq
    · exact hq
    · cases hq
/-- the cells of all -/
def ccat (L : List Cp) : List Value := cat Cp.cs L
theorem length_ccat (L : List Cp) : (ccat L).length = L.length * 4 := by
  induction L with
  | nil => rfl
  | cons q L ih => simp [ccat, cat, List.flatMap_cons, cs_len] at ih ⊢; omega
theorem ccat_at (L : List Cp) (j : Nat) (q : Cp) (h : L[j]? = some q) (r : Nat) (hr : r < 4) : (ccat L)[j * 4 + r]? = q.cs[r]? := cat_at Cp.cs 4 cs_len L j r q h hr
theorem Own.cs {w0 w : World} {l : List Thing} {ao : Option Addr} {cap n : Nat} {L : List Cp} (h : Own w0 w (View 4 (.slice ao n cap) n (ccat L) :: l)) (hn : L.length = n) : Cs w ao L := by
  rcases Nat.eq_zero_or_pos n with h0 | h0
  · exact .inl (List.eq_nil_of_length_eq_zero (by omega))
  · obtain ⟨g, o, cap', hv, _, _, hc⟩ := h.vcell h0
    refine .inr ⟨g, o, (Value.slice.inj hv).1, fun j q hq => ?_⟩
    refine ⟨hc (j * 4) _ ((ccat_at L j q hq 0 (by decide)).trans rfl), ?_, ?_, ?_⟩
    · have := hc (j * 4 + 1) _ ((ccat_at L j q hq 1 (by decide)).trans rfl); rw [← Nat.add_assoc] at this; exact this
    · have := hc (j * 4 + 2) _ ((ccat_at L j q hq 2 (by decide)).trans rfl); rw [← Nat.add_assoc] at this; exact this
    · have := hc (j * 4 + 3) _ ((ccat_at L j q hq 3 (by decide)).trans rfl); rw [← Nat.add_assoc] at this; exact this
theorem Cs.cells {w : World} {g o : Nat} {L : List Cp} (h : ∀ (j : Nat) q, L[j]? = some q → At4 w g (o + j * 4) q) : ∀ j u, (ccat L)[j]? = some u → w.cell? ((⟨g, o, none⟩ : Addr).add j) = some u := by
  intro j u hu
  have hj := (List.getElem?_eq_some_iff.1 hu).1
  rw [length_ccat] at hj
  have hd : j / 4 < L.length := by omega
  obtain ⟨q, hq⟩ : ∃ q, L[j / 4]? = some q := ⟨_, List.getElem?_eq_getElem hd⟩
  have e : j = j / 4 * 4 + j % 4 := by omega
  have hm : j % 4 < 4 := Nat.mod_lt _ (by decide)
  rw [e, ccat_at L _ q hq _ hm] at hu
  obtain ⟨h0, h1, h2, h3⟩ := h _ q hq
  rw [addr_add, e]
  generalize j % 4 = r at *
  have c : r = 0 ∨ r = 1 ∨ r = 2 ∨ r = 3 := by omega
  rcases c with rfl | rfl | rfl | rfl <;> simp [Cp.cs] at hu <;> subst hu
  · exact h0
  · rw [← Nat.add_assoc]; exact h1
  · rw [← Nat.add_assoc]; exact h2
  · rw [← Nat.add_assoc]; exact h3

def CompIs (cs : List Value) (q : Cp) : Prop := cs = q.cs ∧ q.k < 256
def IsComps (w : World) (ao : Option Addr) (len cap : Nat) (Q : List Cp) : Prop := Q.length = len ∧ len ≤ cap ∧ cap ≤ maxLen ∧ RowsAt CompIs 4 w ao Q
theorem open_comps {H : Type} {enc : TypeId × Value → H} {W : World} {base : Nat} {ao : Option Addr} {len cap : Nat} {d : DataW H} {p : List MemPlace}
    (hv : Value.okWide Tryz.prog W .any base 60 (.slice ao len cap)) (h : DataW.Trod enc Tryz.prog W 0 (fun _ => true) true 60 (.slice ao len cap) d p) : ∃ Q, IsComps W ao len cap Q :=
  open_rows 4 Tryz.underlying60 cellsComp (by decide) CompIs (fun fuel cs x hx => by
    obtain ⟨k, a, b, c, h1, h2, h3, h4, hcs, _⟩ := comp_cells hx
    obtain ⟨n, rfl, hn⟩ := ok8_nat h1
    exact ⟨⟨n, a, b, c⟩, hcs, hn⟩) h
theorem IsComps.cs {w : World} {ao : Option Addr} {len cap : Nat} {Q : List Cp} (h : IsComps w ao len cap Q) : Cs w ao Q ∧ ∀ q ∈ Q, q.k < 256 := by
  obtain ⟨_, _, _, h | ⟨g, o, ha, hc⟩⟩ := h
  · subst h; exact ⟨.inl rfl, fun q hq => by simp at hq⟩
  · refine ⟨.inr ⟨g, o, ha, fun j q hq => ?_⟩, fun q hq => ?_⟩
    · obtain ⟨cs, ⟨rfl, _⟩, _, h3⟩ := hc j q hq
      exact ⟨h3 0 (by decide), h3 1 (by decide), h3 2 (by decide), h3 3 (by decide)⟩
    · obtain ⟨j, hj⟩ := List.getElem?_of_mem hq
      obtain ⟨cs, ⟨_, h2⟩, _⟩ := hc j q hj
      exact h2

/-- what is told of a list, the kind ahead being p -/
def lst : Int → List Cp → Nat
  | _, [] => 0
  | p, q :: t => if q.chk ≠ 0 then q.chk else if (q.k : Int) ≤ p then 4 else lst q.k t
theorem chk_lt (q : Cp) : q.chk ≤ 5 := by
  unfold Cp.chk chk
  split
  · omega
  · split
    · omega
    · split <;> omega
/-- the kind ahead of place j -/
def prv (L : List Cp) (j : Nat) : Int := match j with
  | 0 => -1
  | i + 1 => (((L[i]?).map (fun q => (q.k : Int))).getD 0)
theorem lst_bad {L : List Cp} {j : Nat} {q : Cp} (hq : L[j]? = some q) (h : lst (prv L j) (L.drop j) = lst (-1) L) (hc : q.chk ≠ 0) : lst (-1) L = q.chk := by
  have hj := (List.getElem?_eq_some_iff.1 hq)
  rw [← h, List.drop_eq_getElem_cons hj.1, hj.2, lst, if_pos hc]
theorem lst_low {L : List Cp} {j : Nat} {q : Cp} (hq : L[j]? = some q) (h : lst (prv L j) (L.drop j) = lst (-1) L) (hc : q.chk = 0) (hl : (q.k : Int) ≤ prv L j) : lst (-1) L = 4 := by
  have hj := (List.getElem?_eq_some_iff.1 hq)
  rw [← h, List.drop_eq_getElem_cons hj.1, hj.2, lst, if_neg (by simp [hc]), if_pos hl]
theorem lst_on {L : List Cp} {j : Nat} {q : Cp} (hq : L[j]? = some q) (h : lst (prv L j) (L.drop j) = lst (-1) L) (hc : q.chk = 0) (hl : ¬ (q.k : Int) ≤ prv L j) : lst (prv L (j + 1)) (L.drop (j + 1)) = lst (-1) L := by
  have hj := (List.getElem?_eq_some_iff.1 hq)
  rw [← h, List.drop_eq_getElem_cons hj.1, hj.2, lst, if_neg (by simp [hc]), if_neg hl]
  simp [prv, hq]
theorem lst_end {L : List Cp} {j : Nat} (h : lst (prv L j) (L.drop j) = lst (-1) L) (hj : L.length ≤ j) : lst (-1) L = 0 := by
  rw [← h, List.drop_eq_nil_of_le hj, lst]

set_option maxHeartbeats 2000000 in
theorem list_any (w : World) (ht : Tab w) (ao : Option Addr) (len cap : Nat) (L : List Cp) (hl : L.length = len) (hs : Cs w ao L) (hk : ∀ q ∈ L, q.k < 256) (hm : len ≤ 1000000) :
    Calls Tryz.prog 94 #[.slice ao len cap] w fun e w' => e = .returned (.int .i64 ((lst (-1) L : Nat) : Int)) ∧ Fr Nobody w w' := by
  have HT : Hid (Tab w) := ht
  have HL : Hid (L.length = len ∧ Cs w ao L ∧ ∀ q ∈ L, q.k < 256) := ⟨hl, hs, hk⟩
  clear ht hl hs hk
  go_enter Tryz.func94, Tryz.ntmps94
  go_wp2
  go_loopw [8] (fun c wr => ∃ j : Nat, j ≤ len ∧ c = .int .i64 j ∧ lst (prv L j) (L.drop j) = lst (-1) L ∧ Fr Nobody w wr) (fun c _ => len - (intOf c).toNat)
  case atStart => exact ⟨0, Nat.zero_le _, rfl, rfl, Fr.refl _ _⟩
  case round =>
    obtain ⟨j, hj, rfl, hI, hf⟩ := hrel
    have HI : Hid (lst (prv L j) (L.drop j) = lst (-1) L) := hI
    have HF : Hid (Fr Nobody w wr) := hf
    clear hI hf
    by_cases hlt : j < len
    · obtain ⟨q, hq⟩ : ∃ q, L[j]? = some q := ⟨_, List.getElem?_eq_getElem (by rw [HL.out.1]; exact hlt)⟩
      obtain ⟨g, o, hao, hall, hat⟩ := (HL.out.2.1.quiet HF.out).at j q hq
      subst hao
      have hk2 := HL.out.2.2 q (List.mem_of_getElem? hq)
      obtain ⟨c0, c1, c2, c3⟩ := hat
      have hlt' : (j : Int) < (len : Int) := by omega
      have HQ : Hid (L[j]? = some q) := hq
      have HA : Hid (∀ (i : Nat) x, L[i]? = some x → At4 wr g (o + i * 4) x) := hall
      obtain ⟨x, hx⟩ : ∃ x, q.chk = x := ⟨_, rfl⟩
      have HX : Hid (q.chk = x) := hx
      have HC : Hid (∀ w, Tab w → Calls Tryz.prog 123 #[.agg #[.int .u8 (q.k : Int), .int .i32 q.a, .int .i32 q.b, .int .i32 q.c]] w fun e w' => e = .returned (.int .i64 (x : Int)) ∧ Fr Nobody w w') := fun w h => by rw [← hx]; exact check3 w h q.k hk2 q.a q.b q.c
      have hx5 : x ≤ 5 := by rw [← hx]; exact chk_lt q
      have HB : Hid (Box (wr.alloc (.cells #[.int .u8 (q.k : Int), .int .i32 q.a, .int .i32 q.b, .int .i32 q.c] 69)) wr.heap.size q.k (f3 q.a q.b q.c)) := Box.new wr q.k (f3 q.a q.b q.c)
      clear hq hall hx
      obtain ⟨qk, qa, qb, qc⟩ := q
      simp only at c0 c1 c2 c3 hk2 HC HB
      go_wp2_with fail
      refine (HC.out _ (HT.out.quiet (HF.out.alloc _))).mono ?_
      rintro e w2 ⟨rfl, hf2⟩
      have HF2 : Hid (Fr Nobody w w2) := (HF.out.alloc _).trans hf2
      have HA2 : Hid (∀ (i : Nat) x, L[i]? = some x → At4 w2 g (o + i * 4) x) := fun i x h => (HA.out i x h).quiet (((Fr.refl _ _).alloc _).trans hf2)
      have cb := (HB.out.quiet hf2).kind
      clear hf2 c0 c1 c2 c3 HC
      by_cases hx0 : x = 0
      · subst hx0
        rcases j with _ | i
        · have HN : Hid (lst (prv L 1) (L.drop 1) = lst (-1) L) := lst_on HQ.out HI.out HX.out (by simp [prv]; omega)
          go_wp2
          go_quiet (fail)
          go_wp2
          go_roundw
          case rel => exact ⟨1, by omega, by go_num, HN.out, HF2.out.drewN _⟩
          case measure => simp [intOf]; omega
        · obtain ⟨p, hp⟩ : ∃ p, L[i]? = some p := ⟨_, List.getElem?_eq_getElem (by rw [HL.out.1]; omega)⟩
          have d0 := (HA2.out i p hp).1
          have hpv : prv L (i + 1) = (p.k : Int) := by simp [prv, hp]
          have hpk := HL.out.2.2 p (List.mem_of_getElem? hp)
          by_cases hle : qk ≤ p.k
          · have HN : Hid (lst (-1) L = 4) := lst_low HQ.out HI.out HX.out (by rw [hpv]; show (qk : Int) ≤ _; omega)
            have hle' : (qk : Int) ≤ (p.k : Int) := by omega
            clear hp hpv
            obtain ⟨pk, pa, pb, pc⟩ := p
            simp only at d0 hpk hle hle'
            go_wp2
            go_quiet (fail)
            go_wp2
            go_ret
            exact ⟨by rw [HN.out]; rfl, HF2.out.drewN _⟩
          · have HN : Hid (lst (prv L (i + 1 + 1)) (L.drop (i + 1 + 1)) = lst (-1) L) := lst_on HQ.out HI.out HX.out (by rw [hpv]; show ¬ (qk : Int) ≤ _; omega)
            have hle' : ¬ (qk : Int) ≤ (p.k : Int) := by omega
            clear hp hpv
            obtain ⟨pk, pa, pb, pc⟩ := p
            simp only at d0 hpk hle hle'
            go_wp2
            go_quiet (fail)
            go_wp2
            go_roundw
            case rel => exact ⟨i + 1 + 1, by omega, by go_num, HN.out, HF2.out.drewN _⟩
            case measure => simp [intOf]; omega
      · have HN : Hid (lst (-1) L = x) := by rw [← HX.out]; exact lst_bad HQ.out HI.out (by rw [HX.out]; exact hx0)
        have hx1 : ((x : Int) != 0) = true := by simpa using hx0
        go_wp2
        go_ret
        exact ⟨by rw [HN.out]; rfl, HF2.out⟩
    · have HN : Hid (lst (-1) L = 0) := lst_end HI.out (by rw [HL.out.1]; omega)
      have hlt' : ¬ (j : Int) < (len : Int) := by omega
      go_wp2
      go_ret
      exact ⟨by rw [HN.out]; rfl, HF.out⟩

set_option maxHeartbeats 2000000 in
theorem rlist_any (w : World) (ao : Option Addr) (len cap : Nat) (L : List Cp) (hl : L.length = len) (hs : Cs w ao L) (hk : ∀ q ∈ L, q.k < 256) (hm : len ≤ 1000000) :
    Calls Tryz.prog 47 #[.slice ao len cap] w fun e w' => e = .returned (.int .i64 ((lst (-1) L : Nat) : Int)) ∧ Fr Nobody w w' := by
  have HL : Hid (L.length = len ∧ Cs w ao L ∧ ∀ q ∈ L, q.k < 256) := ⟨hl, hs, hk⟩
  clear hl hs hk
  go_enter Tryz.func47, Tryz.ntmps47
  go_wp2
  go_loopw [3, 9] (fun p c wr => ∃ j : Nat, j ≤ len ∧ c = .int .i64 j ∧ lst (prv L j) (L.drop j) = lst (-1) L ∧ Fr Nobody w wr ∧ p = .int .i64 (prv L j) ∧ -1 ≤ prv L j ∧ prv L j ≤ 255) (fun _ c _ => len - (intOf c).toNat)
  case atStart => exact ⟨0, Nat.zero_le _, rfl, rfl, Fr.refl _ _, rfl, by simp [prv], by simp [prv]⟩
  case round =>
    obtain ⟨j, hj, rfl, hI, hf, rfl, hp1, hp2⟩ := hrel
    have HI : Hid (lst (prv L j) (L.drop j) = lst (-1) L) := hI
    have HF : Hid (Fr Nobody w wr) := hf
    clear hI hf
    by_cases hlt : j < len
    · obtain ⟨q, hq⟩ : ∃ q, L[j]? = some q := ⟨_, List.getElem?_eq_getElem (by rw [HL.out.1]; exact hlt)⟩
      obtain ⟨g, o, hao, hall, hat⟩ := (HL.out.2.1.quiet HF.out).at j q hq
      subst hao
      have hk2 := HL.out.2.2 q (List.mem_of_getElem? hq)
      obtain ⟨c0, c1, c2, c3⟩ := hat
      have hlt' : (j : Int) < (len : Int) := by omega
      have HQ : Hid (L[j]? = some q) := hq
      obtain ⟨x, hx⟩ : ∃ x, q.chk = x := ⟨_, rfl⟩
      have HX : Hid (q.chk = x) := hx
      have HC : Hid (∀ w, Calls Tryz.prog 50 #[.agg #[.int .u8 (q.k : Int), .int .i32 q.a, .int .i32 q.b, .int .i32 q.c]] w fun e w' => e = .returned (.int .i64 (x : Int)) ∧ Fr Nobody w w') := fun w => by rw [← hx]; exact rcheck3 w q.k hk2 q.a q.b q.c
      have hx5 : x ≤ 5 := by rw [← hx]; exact chk_lt q
      have HB : Hid (Box (wr.alloc (.cells #[.int .u8 (q.k : Int), .int .i32 q.a, .int .i32 q.b, .int .i32 q.c] 69)) wr.heap.size q.k (f3 q.a q.b q.c)) := Box.new wr q.k (f3 q.a q.b q.c)
      have HP : Hid (prv L (j + 1) = (q.k : Int)) := by show _ = _; simp [prv, hq]
      clear hq hall hx
      obtain ⟨qk, qa, qb, qc⟩ := q
      simp only at c0 c1 c2 c3 hk2 HC HB HP
      generalize hpp : prv L j = pj at *
      have HPP : Hid (prv L j = pj) := hpp
      clear hpp
      go_wp2_with fail
      refine (HC.out _).mono ?_
      rintro e w2 ⟨rfl, hf2⟩
      have HF2 : Hid (Fr Nobody w w2) := (HF.out.alloc _).trans hf2
      have cb := (HB.out.quiet hf2).kind
      clear hf2 c0 c1 c2 c3 HC
      by_cases hx0 : x = 0
      · subst hx0
        by_cases hle : (qk : Int) ≤ pj
        · have HN : Hid (lst (-1) L = 4) := lst_low HQ.out (by rw [HPP.out]; exact HI.out) HX.out (by rw [HPP.out]; exact hle)
          go_wp2
          go_ret
          exact ⟨by rw [HN.out]; rfl, HF2.out⟩
        · have HN : Hid (lst (prv L (j + 1)) (L.drop (j + 1)) = lst (-1) L) := lst_on HQ.out (by rw [HPP.out]; exact HI.out) HX.out (by rw [HPP.out]; exact hle)
          go_wp2
          go_roundw
          case rel => exact ⟨j + 1, by omega, by go_num, HN.out, HF2.out, by rw [HP.out], by rw [HP.out]; omega, by rw [HP.out]; omega⟩
          case measure => simp [intOf]; omega
      · have HN : Hid (lst (-1) L = x) := by rw [← HX.out]; exact lst_bad HQ.out (by rw [HPP.out]; exact HI.out) (by rw [HX.out]; exact hx0)
        have hx1 : ((x : Int) != 0) = true := by simpa using hx0
        go_wp2
        go_ret
        exact ⟨by rw [HN.out]; rfl, HF2.out⟩
    · have HN : Hid (lst (-1) L = 0) := lst_end HI.out (by rw [HL.out.1]; omega)
      have hlt' : ¬ (j : Int) < (len : Int) := by omega
      generalize prv L j = pj at *
      go_wp2
      go_ret
      exact ⟨by rw [HN.out]; rfl, HF.out⟩
/-- append([]Comp{}, l...): components of their own -/
theorem append_cs {w0 w : World} {l : List Thing} {ops : Array Oper} {rest : List Oper} {o : Oper} {a : Act} {Q : Exit → Act → World → Prop} (hgd : o.guard = none) (sx x : Operand)
    (ho : o.op = .call { callee := .builtin .append, args := #[sx, x], argTypes := #[60, 60] })
    (i : TypeInfo) (hi : Tryz.prog.info? 69 = some i) (z : Value) (hz : i.zero = some z) (hsize : i.size = 4) (hby : i.bytes = 16) (hzs : z.cells.size = 4)
    (v : Value) (n : Nat) (xs : List Value) (hs : a.eval sx = v) (ao : Option Addr) (m cap : Nat) (L : List Cp) (hx : a.eval x = .slice ao m cap) (hL : L.length = m) (hc : Cs w ao L) (hown : Own w0 w (Row 69 4 v n xs :: l))
    (h63 : n + m ≤ maxLen) (hbytes : (n + m) * 16 ≤ 140737488355328)
    (h : ∀ ao' cap' w', Own w0 w' (Row 69 4 (.slice ao' (n + m) cap') (n + m) (xs ++ ccat L) :: l) → w.heap.size ≤ w'.heap.size → wpList Tryz.prog ops Q rest (a.put o.dst (.slice ao' (n + m) cap')) w') : wpList Tryz.prog ops Q (o :: rest) a w := by
  rcases Nat.eq_zero_or_pos m with h0 | h0
  · subst h0
    have hy : L = [] := List.eq_nil_of_length_eq_zero hL
    subst hy
    obtain ⟨va, vc, rfl⟩ := row_any hown.row
    refine wpList_plain hgd fun K hK' => ?_
    have hr := run_append_empty (P := Tryz.prog) w 0 60 o.type 69 i 4 Tryz.underlying60 hi _ n xs hown.row ao cap
    unfold Oper.wp
    simp [execOp, ho, resolve, invoke, builtin, hs, hx, hr, Result.andThen]
    exact hK' _ _ (by simpa using h va vc w (by simpa [ccat, cat] using hown) (Nat.le_refl _))
  · rcases hc with hc | ⟨g, o', rfl, hc⟩
    · subst hc; simp at hL; omega
    refine append_own hgd sx x 60 ho 69 i z 4 16 Tryz.underlying60 hi hz hsize hby hzs (by decide) v n xs hs hown ⟨g, o', none⟩ m cap (ccat L) hx (by rw [length_ccat, hL]) (Cs.cells hc) (one_cat Cp.cs cs_one L) h0 h63 hbytes ?_
    intro g' cap' w' hO hsz
    exact h _ _ w' hO hsz
theorem Tryz.infoComp : (Tryz.prog.info? 69).map (fun i => (i.zero, i.size, i.bytes)) = some (some (.agg #[.int .u8 0, .int .i32 0, .int .i32 0, .int .i32 0]), 4, 16) := by kernel_rfl
set_option maxHeartbeats 1000000 in
theorem twin_any (w0 w : World) (l : List Thing) (h : Own w0 w l) (ao : Option Addr) (len cap : Nat) (L : List Cp) (hl : L.length = len) (hs : Cs w ao L) (hm : len ≤ 1000000) :
    Calls Tryz.prog 38 #[.slice ao len cap] w fun e w' => ∃ ao' cap', e = .returned (.slice ao' len cap') ∧ Own w0 w' (Row 69 4 (.slice ao' len cap') len (ccat L) :: l) := by
  obtain ⟨i0, hi, hz0, hz1, hz2⟩ := info_parts Tryz.infoComp
  have H : Hid (Own w0 w l) := h
  have HL : Hid (L.length = len ∧ Cs w ao L) := ⟨hl, hs⟩
  clear h hl hs
  go_enter Tryz.func38, Tryz.ntmps38
  go_wp2_with (at_builtin; refine append_cs rfl _ _ rfl i0 hi _ hz0 hz1 hz2 rfl _ 0 [] rfl ao len cap L rfl HL.out.1 (HL.out.2.quiet ((Fr.refl _ _).alloc _)) (H.out.litRow #[] 69 4 0 (by decide) rfl) (by unfold maxLen; omega) (by omega) ?_)
  intro a1 c1 w1 hO1 hsz1
  have H1 : Hid (Own w0 w1 (Row 69 4 (.slice a1 len c1) len (ccat L) :: l)) := by
    show Own _ _ _
    simpa using hO1
  clear hO1 H hsz1
  go_wp2
  go_ret
  exact ⟨_, _, rfl, H1.out⟩
theorem eq_a3 (d : Nat) (a b c a' b' c' : Int) (w : World) : (Op.equalIn (d + 1 + 1) 67 (.agg #[.int .i32 a, .int .i32 b, .int .i32 c]) (.agg #[.int .i32 a', .int .i32 b', .int .i32 c'])).run Tryz.prog w = .ok ((a == a') && (b == b') && (c == c')) w := by
  have hi : ∃ i, Tryz.prog.info? 21 = some i := by
    have : (Tryz.prog.info? 21).isSome = true := by kernel_rfl
    exact Option.isSome_iff_exists.1 this
  obtain ⟨i, hi⟩ := hi
  have c1 : Tryz.prog.cellsOf 21 = 1 := by kernel_rfl
  have hz : (Tryz.prog.info? 21).map (·.size) = some 1 := by kernel_rfl
  have hu := Tryz.underlying21
  rw [run_equalIn_array w (d + 1) _ _ Tryz.underlying67 hi]
  simp only [Op.eqItems, show List.range 3 = [0, 1, 2] from rfl, c1]
  cases ha : (a == a') <;> cases hb : (b == b') <;> cases hc : (c == c') <;> go_simp
end Go.Proofs.YtlncgkbgelejmaaGreatDoor


/-
  Masks of components; lists that are alike; the place of a kind.
-/
namespace Go.Proofs.YtlncgkbgelejmaaGreatDoor
open Go.RowKit Go.ChangeShapes Go.WideShapes
set_option linter.unusedVariables false
set_option maxRecDepth 100000

def hasK (L : List Cp) (k : Nat) : Bool := L.any fun q => decide (q.k = k)
theorem hasK_snoc (L : List Cp) (q : Cp) (k : Nat) : hasK (L ++ [q]) k = (hasK L k || decide (q.k = k)) := by simp [hasK]
/-- the mask of the kinds below n -/
def mskN (L : List Cp) : Nat → Nat
  | 0 => 0
  | n + 1 => mskN L n + if hasK L n then 2 ^ n else 0
def msk (L : List Cp) : Nat := mskN L 6
theorem mskN_lt (L : List Cp) (n : Nat) : mskN L n < 2 ^ n := by
  induction n with
  | zero => simp [mskN]
  | succ n ih => rw [mskN, Nat.pow_succ]; split <;> omega
def val (a b c d e f : Bool) : Nat := a.toNat + 2 * b.toNat + 4 * c.toNat + 8 * d.toNat + 16 * e.toNat + 32 * f.toNat
theorem msk_val (L : List Cp) : msk L = val (hasK L 0) (hasK L 1) (hasK L 2) (hasK L 3) (hasK L 4) (hasK L 5) := by
  unfold msk val
  simp only [mskN]
  cases hasK L 0 <;> cases hasK L 1 <;> cases hasK L 2 <;> cases hasK L 3 <;> cases hasK L 4 <;> cases hasK L 5 <;> rfl
theorem msk_nil : msk [] = 0 := by simp [msk, mskN, hasK]
theorem msk_lt (L : List Cp) : msk L < 64 := mskN_lt L 6
theorem val_or : ∀ (k : Fin 6) (a b c d e f : Bool), val (a || decide (k.1 = 0)) (b || decide (k.1 = 1)) (c || decide (k.1 = 2)) (d || decide (k.1 = 3)) (e || decide (k.1 = 4)) (f || decide (k.1 = 5)) = val a b c d e f ||| (1 <<< k.1) := by decide
theorem msk_snoc (L : List Cp) (q : Cp) (h : q.k < 6) : msk (L ++ [q]) = msk L ||| (1 <<< q.k) := by
  rw [msk_val, msk_val]
  simp only [hasK_snoc]
  exact val_or ⟨q.k, h⟩ _ _ _ _ _ _
theorem msk_skip (L : List Cp) (q : Cp) (h : ¬ q.k < 6) : msk (L ++ [q]) = msk L := by
  rw [msk_val, msk_val]
  simp only [hasK_snoc]
  rw [decide_eq_false (by omega : ¬ q.k = 0), decide_eq_false (by omega : ¬ q.k = 1), decide_eq_false (by omega : ¬ q.k = 2), decide_eq_false (by omega : ¬ q.k = 3), decide_eq_false (by omega : ¬ q.k = 4), decide_eq_false (by omega : ¬ q.k = 5)]
  simp
theorem or_sh (m k : Nat) (hm : m < 64) (hk : k < 6) : bits .or .u8 (m : Int) (2 ^ k % 256) = ((m ||| 1 <<< k : Nat) : Int) := by
  have h : k = 0 ∨ k = 1 ∨ k = 2 ∨ k = 3 ∨ k = 4 ∨ k = 5 := by omega
  rcases h with rfl | rfl | rfl | rfl | rfl | rfl
  · exact u8_or_nat m 1 (by omega) (by decide)
  · exact u8_or_nat m 2 (by omega) (by decide)
  · exact u8_or_nat m 4 (by omega) (by decide)
  · exact u8_or_nat m 8 (by omega) (by decide)
  · exact u8_or_nat m 16 (by omega) (by decide)
  · exact u8_or_nat m 32 (by omega) (by decide)
theorem sh1 (m k : Nat) (h : m < 2 ^ k) : ((((m + 2 ^ k : Nat) : Int) / 2 ^ k).tmod 2 == 0) = false := by
  have h1 : ((2 : Int) ^ k) = ((2 ^ k : Nat) : Int) := by simp
  have h2 : (m + 2 ^ k) / 2 ^ k = 1 := by rw [Nat.add_div_right _ (Nat.two_pow_pos k), Nat.div_eq_of_lt h]
  rw [h1, ← Int.natCast_ediv, h2]; rfl
theorem sh0 (m k : Nat) (h : m < 2 ^ k) : (((m : Int) / 2 ^ k).tmod 2 == 0) = true := by
  have h1 : ((2 : Int) ^ k) = ((2 ^ k : Nat) : Int) := by simp
  rw [h1, ← Int.natCast_ediv, Nat.div_eq_of_lt h]; rfl
theorem take_snoc {α : Type} (L : List α) (j : Nat) (q : α) (h : L[j]? = some q) : L.take (j + 1) = L.take j ++ [q] := by rw [List.take_add_one, h]; rfl

set_option maxHeartbeats 2000000 in
theorem mask_any (w : World) (ao : Option Addr) (len cap : Nat) (L : List Cp) (hl : L.length = len) (hs : Cs w ao L) (hk : ∀ q ∈ L, q.k < 256) (hm : len ≤ 1000000) :
    Calls Tryz.prog 100 #[.slice ao len cap] w fun e w' => e = .returned (.int .u8 ((msk L : Nat) : Int)) ∧ Fr Nobody w w' := by
  have HL : Hid (L.length = len ∧ Cs w ao L ∧ ∀ q ∈ L, q.k < 256) := ⟨hl, hs, hk⟩
  clear hl hs hk
  go_enter Tryz.func100, Tryz.ntmps100
  go_wp2
  go_loopw [3, 8] (fun m c wr => ∃ j : Nat, j ≤ len ∧ c = .int .i64 j ∧ Fr Nobody w wr ∧ m = .int .u8 ((msk (L.take j) : Nat) : Int)) (fun _ c _ => len - (intOf c).toNat)
  case atStart => exact ⟨0, Nat.zero_le _, rfl, Fr.refl _ _, by simp [msk_nil]⟩
  case round =>
    obtain ⟨j, hj, rfl, hf, rfl⟩ := hrel
    have HF : Hid (Fr Nobody w wr) := hf
    clear hf
    by_cases hlt : j < len
    · obtain ⟨q, hq⟩ : ∃ q, L[j]? = some q := ⟨_, List.getElem?_eq_getElem (by rw [HL.out.1]; exact hlt)⟩
      obtain ⟨g, o, hao, hall, hat⟩ := (HL.out.2.1.quiet HF.out).at j q hq
      subst hao
      have hk2 := HL.out.2.2 q (List.mem_of_getElem? hq)
      obtain ⟨c0, c1, c2, c3⟩ := hat
      have hlt' : (j : Int) < (len : Int) := by omega
      have HT : Hid (L.take (j + 1) = L.take j ++ [q]) := take_snoc L j q hq
      have hm64 := msk_lt (L.take j)
      clear hq hall
      by_cases h6 : q.k < 6
      · have HM : Hid (msk (L.take (j + 1)) = msk (L.take j) ||| (1 <<< q.k)) := by rw [HT.out]; exact msk_snoc _ q h6
        obtain ⟨qk, qa, qb, qc⟩ := q
        simp only at c0 c1 c2 c3 hk2 h6 HM
        have h6' : (qk : Int) < 6 := by omega
        generalize msk (L.take j) = m at *
        go_wp2
        go_roundw
        case rel =>
          refine ⟨j + 1, by omega, by go_num, HF.out.alloc _, ?_⟩
          rw [HM.out, or_sh m qk hm64 h6]
        case measure => simp [intOf]; omega
      · have HM : Hid (msk (L.take (j + 1)) = msk (L.take j)) := by rw [HT.out]; exact msk_skip _ q h6
        obtain ⟨qk, qa, qb, qc⟩ := q
        simp only at c0 c1 c2 c3 hk2 h6 HM
        have h6' : ¬ (qk : Int) < 6 := by omega
        generalize msk (L.take j) = m at *
        go_wp2
        go_roundw
        case rel => exact ⟨j + 1, by omega, by go_num, HF.out.alloc _, by rw [HM.out]⟩
        case measure => simp [intOf]; omega
    · have HN : Hid (L.take j = L) := List.take_of_length_le (by rw [HL.out.1]; omega)
      have hlt' : ¬ (j : Int) < (len : Int) := by omega
      rw [HN.out]
      obtain ⟨m, hm⟩ : ∃ m, msk L = m := ⟨_, rfl⟩
      have HM : Hid (msk L = m) := hm
      rw [hm]
      clear hm
      go_wp2
      go_ret
      exact ⟨by rw [HM.out]; rfl, HF.out⟩

theorem hasK_take_succ {L : List Cp} {j k : Nat} {q : Cp} (hq : L[j]? = some q) : hasK (L.take (j + 1)) k = (hasK (L.take j) k || decide (q.k = k)) := by rw [take_snoc L j q hq, hasK_snoc]
/-- what is added of kind k behind j of them -/
def ad (L : List Cp) (k j : Nat) : Nat := if hasK (L.take j) k then 2 ^ k else 0
set_option maxHeartbeats 4000000 in
theorem rmask_any (w : World) (ao : Option Addr) (len cap : Nat) (L : List Cp) (hl : L.length = len) (hs : Cs w ao L) (hk : ∀ q ∈ L, q.k < 256) (hm : len ≤ 1000000) :
    Calls Tryz.prog 23 #[.slice ao len cap] w fun e w' => e = .returned (.int .u8 ((msk L : Nat) : Int)) ∧ Fr Nobody w w' := by
  have HL : Hid (L.length = len ∧ Cs w ao L ∧ ∀ q ∈ L, q.k < 256) := ⟨hl, hs, hk⟩
  clear hl hs hk
  go_enter Tryz.func23, Tryz.ntmps23
  go_wp2
  go_loopw [3, 7] (fun m c wr => ∃ k : Nat, k ≤ 6 ∧ c = .int .u8 k ∧ Fr Nobody w wr ∧ m = .int .u8 ((mskN L k : Nat) : Int)) (fun _ c _ => 6 - (intOf c).toNat)
  case atStart => exact ⟨0, by decide, rfl, Fr.refl _ _, rfl⟩
  case round =>
    obtain ⟨k, hk, rfl, hf, rfl⟩ := hrel
    have HF : Hid (Fr Nobody w wr) := hf
    clear hf
    by_cases hk6 : k < 6
    · have hk6' : (k : Int) < 6 := by omega
      have hmlt := mskN_lt L k
      have hp : 2 ^ k ≤ 32 := by
        have : k = 0 ∨ k = 1 ∨ k = 2 ∨ k = 3 ∨ k = 4 ∨ k = 5 := by omega
        rcases this with rfl | rfl | rfl | rfl | rfl | rfl <;> decide
      have HN : Hid (mskN L (k + 1) = mskN L k + ad L k len) := by
        show _ = _
        rw [mskN, ad, List.take_of_length_le (by rw [HL.out.1]; exact Nat.le_refl _)]
      generalize mskN L k = m0 at *
      go_wp2
      go_loopw [3, 12] (fun m c wr2 => ∃ j : Nat, j ≤ len ∧ c = .int .i64 j ∧ Fr Nobody w wr2 ∧ m = .int .u8 ((m0 + ad L k j : Nat) : Int)) (fun _ c _ => len - (intOf c).toNat)
      case atStart => exact ⟨0, Nat.zero_le _, rfl, HF.out, by simp [ad, hasK]⟩
      case round =>
        obtain ⟨j, hj, rfl, hf2, rfl⟩ := hrel
        have HF2 : Hid (Fr Nobody w _) := hf2
        clear hf2
        by_cases hlt : j < len
        · obtain ⟨q, hq⟩ : ∃ q, L[j]? = some q := ⟨_, List.getElem?_eq_getElem (by rw [HL.out.1]; exact hlt)⟩
          obtain ⟨g, o, hao, hall, hat⟩ := (HL.out.2.1.quiet HF2.out).at j q hq
          subst hao
          have hk2 := HL.out.2.2 q (List.mem_of_getElem? hq)
          obtain ⟨c0, c1, c2, c3⟩ := hat
          have hlt' : (j : Int) < (len : Int) := by omega
          have HA : Hid (ad L k (j + 1) = if (hasK (L.take j) k || decide (q.k = k)) then 2 ^ k else 0) := by show _ = _; rw [ad, hasK_take_succ hq]
          clear hq hall
          obtain ⟨qk, qa, qb, qc⟩ := q
          simp only at c0 c1 c2 c3 hk2 HA
          by_cases he : qk = k
          · subst he
            by_cases hh : hasK (L.take j) qk = true
            · have e1 : ad L qk j = 2 ^ qk := by simp [ad, hh]
              have HA2 : Hid (ad L qk (j + 1) = 2 ^ qk) := by show _ = _; rw [HA.out]; simp
              rw [e1]
              have hsh := sh1 m0 qk hmlt
              clear hh e1
              obtain ⟨M, hM⟩ : ∃ M, M = m0 + 2 ^ qk := ⟨_, rfl⟩
              have HMM : Hid (M = m0 + 2 ^ qk) := hM
              rw [← hM] at hsh ⊢
              have hM2 : M < 64 := by omega
              clear hM
              go_wp2
              go_roundw
              case rel => exact ⟨j + 1, by omega, by go_num, HF2.out.alloc _, by rw [HA2.out, HMM.out]⟩
              case measure => simp [intOf]; omega
            · have e1 : ad L qk j = 0 := by simp [ad, hh]
              have HA2 : Hid (ad L qk (j + 1) = 2 ^ qk) := by show _ = _; rw [HA.out]; simp
              rw [e1, Nat.add_zero]
              have hsh := sh0 m0 qk hmlt
              have HS : Hid (((m0 : Int) + 2 ^ qk % 256) % 256 = ((m0 + 2 ^ qk : Nat) : Int)) := by
                show _ = _
                have h1 : ((2 : Int) ^ qk) = ((2 ^ qk : Nat) : Int) := by simp
                rw [h1]; omega
              clear hh e1
              go_wp2
              go_roundw
              case rel => exact ⟨j + 1, by omega, by go_num, HF2.out.alloc _, by rw [HA2.out, HS.out]⟩
              case measure => simp [intOf]; omega
          · have HA2 : Hid (ad L k (j + 1) = ad L k j) := by show _ = _; rw [HA.out, ad, decide_eq_false he, Bool.or_false]
            have he' : ((qk : Int) == (k : Int)) = false := by rw [beq_eq_false_iff_ne]; omega
            have had : ad L k j ≤ 32 := by unfold ad; split <;> omega
            generalize ad L k j = aj at *
            obtain ⟨M, hM⟩ : ∃ M, M = m0 + aj := ⟨_, rfl⟩
            have HMM : Hid (M = m0 + aj) := hM
            rw [← hM]
            have hM2 : M < 64 := by omega
            clear hM
            go_wp2
            go_roundw
            case rel => exact ⟨j + 1, by omega, by go_num, HF2.out.alloc _, by rw [HA2.out, HMM.out]⟩
            case measure => simp [intOf]; omega
        · have hjl : j = len := by omega
          subst hjl
          have hlt' : ¬ (j : Int) < (j : Int) := by omega
          have HN2 : Hid (mskN L (k + 1) = m0 + ad L k j) := HN.out
          obtain ⟨M, hM⟩ : ∃ M, M = m0 + ad L k j := ⟨_, rfl⟩
          have HMM : Hid (mskN L (k + 1) = M) := by rw [hM]; exact HN.out
          rw [← hM]
          clear hM
          go_wp2
          go_roundw
          case rel => exact ⟨k + 1, by omega, by go_num, HF2.out, by rw [HMM.out]⟩
          case measure => simp [intOf]; omega
    · have hk7 : k = 6 := by omega
      subst hk7
      obtain ⟨M, hM⟩ : ∃ M, M = mskN L 6 := ⟨_, rfl⟩
      have HMM : Hid (msk L = M) := hM.symm
      rw [← hM]
      clear hM
      go_wp2
      go_ret
      exact ⟨by rw [HMM.out]; rfl, HF.out⟩
/-- '!=' of two components that are alike -/
def Alike (w : World) (a1 a2 : Option Addr) (L : List Cp) : Prop := Cs w a1 L ∧ Cs w a2 L
end Go.Proofs.YtlncgkbgelejmaaGreatDoor


/-
  The place of a kind; of components that may be one entity's there are as many as kinds.
-/
namespace Go.Proofs.YtlncgkbgelejmaaGreatDoor
open Go.RowKit Go.ChangeShapes Go.WideShapes
set_option linter.unusedVariables false
set_option maxRecDepth 100000

theorem lst_ok {p : Int} {L : List Cp} (h : lst p L = 0) : L.Pairwise (fun x y => x.k < y.k) ∧ ∀ q ∈ L, p < (q.k : Int) ∧ q.chk = 0 := by
  induction L generalizing p with
  | nil => exact ⟨List.Pairwise.nil, fun q hq => by simp at hq⟩
  | cons q t ih =>
    rw [lst] at h
    by_cases h1 : q.chk ≠ 0
    · rw [if_pos h1] at h; exact absurd h h1
    · rw [if_neg h1] at h
      by_cases h2 : (q.k : Int) ≤ p
      · rw [if_pos h2] at h; cases h
      · rw [if_neg h2] at h
        obtain ⟨i1, i2⟩ := ih h
        refine ⟨List.Pairwise.cons (fun x hx => ?_) i1, fun x hx => ?_⟩
        · have := (i2 x hx).1; omega
        · rcases List.mem_cons.1 hx with rfl | hx
          · exact ⟨by omega, by omega⟩
          · have := i2 x hx; exact ⟨by omega, this.2⟩
theorem chk_k {q : Cp} (h : q.chk = 0) : q.k < 6 := by
  unfold Cp.chk chk at h
  by_cases c : 6 ≤ q.k
  · rw [if_pos c] at h; cases h
  · omega
theorem hasK_cons (q : Cp) (L : List Cp) (k : Nat) : hasK (q :: L) k = (decide (q.k = k) || hasK L k) := by simp [hasK]
theorem countP_or {α : Type} (l : List α) (p r : α → Bool) (h : ∀ x ∈ l, p x = true → r x = false) : l.countP (fun x => p x || r x) = l.countP p + l.countP r := by
  induction l with
  | nil => rfl
  | cons x l ih =>
    have ih := ih (fun y hy => h y (List.mem_cons_of_mem _ hy))
    have hx := h x List.mem_cons_self
    simp only [List.countP_cons]
    rw [ih]
    cases hp : p x
    · simp; omega
    · rw [hx hp]; simp; omega
theorem count_one : ∀ k : Fin 6, (List.range 8).countP (fun j => decide (k.1 = j)) = 1 := by decide
theorem hasK_false {L : List Cp} {k : Nat} (h : ∀ q ∈ L, q.k ≠ k) : hasK L k = false := by
  unfold hasK; rw [List.any_eq_false]; intro q hq; simpa using h q hq
theorem hasK_true {L : List Cp} {q : Cp} (h : q ∈ L) : hasK L q.k = true := by
  unfold hasK; rw [List.any_eq_true]; exact ⟨q, h, by simp⟩
/-- as many as kinds -/
theorem kinds_len {L : List Cp} (h : L.Pairwise (fun x y => x.k < y.k)) (hk : ∀ q ∈ L, q.k < 6) : (List.range 8).countP (hasK L) = L.length := by
  induction L with
  | nil =>
    have : (List.range 8).countP (hasK []) = 0 := by decide
    exact this
  | cons q t ih =>
    obtain ⟨h1, h2⟩ := List.pairwise_cons.1 h
    have ih := ih h2 (fun x hx => hk x (List.mem_cons_of_mem _ hx))
    have e : hasK (q :: t) = fun k => decide (q.k = k) || hasK t k := by funext k; exact hasK_cons q t k
    rw [e, countP_or (List.range 8) (fun k => decide (q.k = k)) (hasK t) (fun k _ hq => ?_), ih]
    · have := count_one ⟨q.k, hk q List.mem_cons_self⟩
      simp only at this
      rw [this, List.length_cons]; omega
    · simp at hq; subst hq
      exact hasK_false (fun x hx => by have := h1 x hx; omega)
theorem mskN_bit (L : List Cp) (n k : Nat) (h : k < n) : mskN L n / 2 ^ k % 2 = (hasK L k).toNat := by
  induction n with
  | zero => omega
  | succ n ih =>
    rw [mskN]
    by_cases hk : k = n
    · subst hk
      have := mskN_lt L k
      cases hasK L k
      · simp [Nat.div_eq_of_lt this]
      · simp only [if_pos]; rw [Nat.add_div_right _ (Nat.two_pow_pos k), Nat.div_eq_of_lt this]; rfl
    · have ih := ih (by omega)
      cases hasK L n
      · simpa using ih
      · simp only [if_pos]
        have e : 2 ^ n = 2 ^ k * (2 * 2 ^ (n - k - 1)) := by
          rw [show 2 * 2 ^ (n - k - 1) = 2 ^ (n - k) by rw [← Nat.pow_succ']; congr 1; omega, ← Nat.pow_add]; congr 1; omega
        rw [e, Nat.add_mul_div_left _ _ (Nat.two_pow_pos k), Nat.add_mul_mod_self_left]
        exact ih
theorem msk_bit (L : List Cp) (k : Nat) (hL : ∀ q ∈ L, q.k < 6) : msk L / 2 ^ k % 2 = (hasK L k).toNat := by
  by_cases h : k < 6
  · exact mskN_bit L 6 k h
  · have h1 := msk_lt L
    have h2 : 2 ^ 6 ≤ 2 ^ k := Nat.pow_le_pow_right (by decide) (by omega)
    rw [Nat.div_eq_of_lt (by omega), hasK_false (fun q hq => by have := hL q hq; omega)]; rfl

set_option maxHeartbeats 2000000 in
theorem find_any (w : World) (ao : Option Addr) (len cap : Nat) (L : List Cp) (hl : L.length = len) (hs : Cs w ao L) (hk : ∀ q ∈ L, q.k < 256) (hm : len ≤ 1000000) (k : Nat) (hkk : k < 256) :
    Calls Tryz.prog 27 #[.slice ao len cap, .int .u8 (k : Int)] w fun e w' => ∃ r : Int, e = .returned (.int .i64 r) ∧ Fr Nobody w w' ∧ ((r = -1 ∧ hasK L k = false) ∨ ∃ i : Nat, r = i ∧ ∃ q : Cp, L[i]? = some q ∧ q.k = k ∧ hasK L k = true) := by
  have HL : Hid (L.length = len ∧ Cs w ao L ∧ ∀ q ∈ L, q.k < 256) := ⟨hl, hs, hk⟩
  clear hl hs hk
  go_enter Tryz.func27, Tryz.ntmps27
  go_wp2
  go_loopw [9] (fun c wr => ∃ j : Nat, j ≤ len ∧ c = .int .i64 j ∧ Fr Nobody w wr ∧ hasK (L.take j) k = false) (fun c _ => len - (intOf c).toNat)
  case atStart => exact ⟨0, Nat.zero_le _, rfl, Fr.refl _ _, by simp [hasK]⟩
  case round =>
    obtain ⟨j, hj, rfl, hf, hno⟩ := hrel
    have HF : Hid (Fr Nobody w wr) := hf
    have HN : Hid (hasK (L.take j) k = false) := hno
    clear hf hno
    by_cases hlt : j < len
    · obtain ⟨q, hq⟩ : ∃ q, L[j]? = some q := ⟨_, List.getElem?_eq_getElem (by rw [HL.out.1]; exact hlt)⟩
      obtain ⟨g, o, hao, hall, hat⟩ := (HL.out.2.1.quiet HF.out).at j q hq
      subst hao
      have hk2 := HL.out.2.2 q (List.mem_of_getElem? hq)
      obtain ⟨c0, c1, c2, c3⟩ := hat
      have hlt' : (j : Int) < (len : Int) := by omega
      have HQ : Hid (L[j]? = some q) := hq
      clear hq hall
      by_cases he : q.k = k
      · have HH : Hid (hasK L k = true) := by rw [← he]; exact hasK_true (List.mem_of_getElem? HQ.out)
        have HE : Hid (q.k = k) := he
        have he' : ((q.k : Int) == (k : Int)) = true := by rw [he]; simp
        clear he
        obtain ⟨qk, qa, qb, qc⟩ := q
        simp only at c0 c1 c2 c3 hk2 he'
        go_wp2
        go_ret
        exact ⟨(j : Int), rfl, HF.out.alloc _, .inr ⟨j, rfl, ⟨qk, qa, qb, qc⟩, HQ.out, HE.out, HH.out⟩⟩
      · have HH : Hid (hasK (L.take (j + 1)) k = false) := by show _ = _; rw [hasK_take_succ HQ.out, HN.out, decide_eq_false he]; rfl
        have he' : ((q.k : Int) == (k : Int)) = false := by rw [beq_eq_false_iff_ne]; omega
        clear he
        obtain ⟨qk, qa, qb, qc⟩ := q
        simp only at c0 c1 c2 c3 hk2 he'
        go_wp2
        go_roundw
        case rel => exact ⟨j + 1, by omega, by go_num, HF.out.alloc _, HH.out⟩
        case measure => simp [intOf]; omega
    · have hlt' : ¬ (j : Int) < (len : Int) := by omega
      have HH : Hid (hasK L k = false) := by
        have := HN.out
        rw [List.take_of_length_le (by rw [HL.out.1]; omega)] at this
        exact this
      go_wp2
      go_ret
      exact ⟨-1, rfl, HF.out, .inl ⟨rfl, HH.out⟩⟩
end Go.Proofs.YtlncgkbgelejmaaGreatDoor


/-
  Two entities that are alike.
-/
namespace Go.Proofs.YtlncgkbgelejmaaGreatDoor
open Go.RowKit
set_option linter.unusedVariables false
set_option maxRecDepth 100000

end Go.Proofs.YtlncgkbgelejmaaGreatDoor


/-
  Entities in lists, with their components; regions that only read.
-/
namespace Go.Proofs.YtlncgkbgelejmaaGreatDoor
open Go.RowKit
set_option linter.unusedVariables false
set_option maxRecDepth 100000

/-- an entity in a list: its number, its components, and where they lie -/
structure EnE where
  id : Nat
  ao : Option Addr
  cap : Nat
  C : List Cp
def EnE.cs (x : EnE) : List Value := [.int .u32 (x.id : Int), .slice x.ao x.C.length x.cap]
def erow (x : EnE) : Thing := Row 69 4 (.slice x.ao x.C.length x.cap) x.C.length (ccat x.C)
theorem Tryz.infoEnt : (Tryz.prog.info? 71).map (fun i => (i.zero, i.size, i.bytes)) = some (some (.agg #[.int .u32 0, .slice none 0 0]), 2, 32) := by kernel_rfl
theorem info3w {P : Program} {t : TypeId} {z : Option Value} {s b : Nat} (h : (P.info? t).map (fun i => (i.zero, i.size, i.bytes)) = some (z, s, b)) : ∃ i, P.info? t = some i ∧ i.zero = z ∧ i.size = s ∧ i.bytes = b := by
  cases hi : P.info? t with
  | none => rw [hi] at h; simp at h
  | some i => rw [hi] at h; simp at h; exact ⟨i, rfl, h.1, h.2.1, h.2.2⟩
theorem ene_one (x : EnE) : ∀ u ∈ x.cs.toArray.toList, u.oneCell' = true := by
  intro u hu
  simp [EnE.cs] at hu
  rcases hu with rfl | rfl <;> rfl
/-- a list of entities with all its components -/
def EntsT (ao : Option Addr) (cap : Nat) (L : List EnE) : Thing := Ex (fun _ : Unit => Row 71 2 (.slice ao L.length cap) L.length (cat EnE.cs L) :: L.map erow)
theorem Own.ents {w0 w : World} {l : List Thing} {ao : Option Addr} {cap : Nat} {L : List EnE} (h : Own w0 w ((Row 71 2 (.slice ao L.length cap) L.length (cat EnE.cs L) :: L.map erow) ++ l)) : Own w0 w (EntsT ao cap L :: l) := Own.ex_iff.2 ⟨(), h⟩
theorem Own.entAt {w0 w : World} {l : List Thing} {ao : Option Addr} {cap : Nat} {L : List EnE} (h : Own w0 w (EntsT ao cap L :: l)) {j : Nat} {x : EnE} (hx : L[j]? = some x) :
    (∃ g, ao = some ⟨g, 0, none⟩ ∧ w.cell? ⟨g, j * 2, none⟩ = some (.int .u32 (x.id : Int)) ∧ w.cell? ⟨g, j * 2 + 1, none⟩ = some (.slice x.ao x.C.length x.cap)) ∧ Cs w x.ao x.C := by
  obtain ⟨_, h1⟩ := Own.ex_iff.1 h
  have hj := (List.getElem?_eq_some_iff.1 hx).1
  constructor
  · obtain ⟨g, cp, hv, _⟩ := row_shape h1.row (by omega)
    have hva := (Value.slice.inj hv).1
    subst hva
    have hr := h1.row
    refine ⟨g, rfl, ?_, ?_⟩
    · rw [hr.cellAt _ (by omega)]
      exact cat_at EnE.cs 2 (fun _ => rfl) L j 0 x hx (by decide)
    · rw [hr.cellAt _ (by omega)]
      exact cat_at EnE.cs 2 (fun _ => rfl) L j 1 x hx (by decide)
  · obtain ⟨L1, L2, rfl⟩ := List.append_of_mem (List.mem_of_getElem? hx)
    have h2 : Own w0 w (erow x :: (L1.map erow ++ (L2.map erow ++ l))) := by
      have h3 : Own w0 w ((L1 ++ x :: L2).map erow ++ l) := h1.tail
      refine h3.perm ?_
      have e : (L1 ++ x :: L2).map erow ++ l = L1.map erow ++ (erow x :: (L2.map erow ++ l)) := by simp
      rw [e]
      exact List.perm_middle
    exact Own.cs (h2.view (by decide)) rfl
/-- a world in which all that was there is as it was -/
structure FrOf (w : World) where
  val : World
  fr : Fr Nobody w val
instance (w : World) : Inhabited (FrOf w) := ⟨⟨w, Fr.refl _ _⟩⟩
theorem wp_region_fr {P : Program} {id : Nat} {Q : Exit → Act → World → Prop} {a : Act} {w : World} {l : List Oper} (hm : P.follows .mixedOrders = true) (hB : Region.lexB .any l.toArray = true)
    (h : wpQuiet P l.toArray (fun w' => ∃ f : FrOf w, w' = f.val) (fun a' => ∀ w', (∃ f : FrOf w, w' = f.val) → Q .normal a' w') l a) : (Code.region id l.toArray true).wp P Q a w :=
  wp_region_quiet (C := fun w' => ∃ f : FrOf w, w' = f.val) hm hB ⟨⟨_, (Fr.refl _ w).drew⟩, rfl⟩ (by simpa using h)
theorem Calls.fr_of {P : Program} {f : FuncId} {args : Array Value} {w : World} {v : Value} {g : FrOf w}
    (h : Calls P f args g.val fun e w' => e = .returned v ∧ Fr Nobody g.val w') : Calls P f args g.val fun e w'' => e = .returned v ∧ ∃ f : FrOf w, w'' = f.val :=
  h.mono fun _ w' ⟨he, hf⟩ => ⟨he, ⟨w', g.fr.trans hf⟩, rfl⟩
theorem Calls.fr_same {P : Program} {f : FuncId} {args : Array Value} {w : World} {v : Value} {g : FrOf w}
    (h : Calls P f args g.val fun e w' => e = .returned v ∧ w' = g.val) : Calls P f args g.val fun e w'' => e = .returned v ∧ ∃ f : FrOf w, w'' = f.val :=
  h.mono fun _ w' ⟨he, hf⟩ => ⟨he, g, hf⟩
theorem Own.frCells {w0 w : World} {l : List Thing} {b : Nat} {cur : Array Value} {t : TypeId} (h : Own w0 w (Cells b cur t :: l)) (f : FrOf w) (i : Nat) : f.val.cell? ⟨b, i, none⟩ = cur[i]? := (h.quiet f.fr).cell i
theorem step_allW {P : Program} {w0 w : World} {l : List Thing} {ops : Array Oper} {o : Oper} {a : Act} {K : Act → World → Prop} {Q : Exit → Act → World → Prop} {E : Prop} (hgd : o.guard = none) (sx x : Operand) (t : TypeId)
    (ho : o.op = .call { callee := .builtin .append, args := #[sx, x], argTypes := #[t, t] })
    (e : TypeId) (i : TypeInfo) (z : Value) (size bytes : Nat) (ht : P.underlying t = some (.slice e)) (hi : P.info? e = some i) (hz : i.zero = some z)
    (hsize : i.size = size) (hby : i.bytes = bytes) (hzs : z.cells.size = size) (hsz : 0 < size)
    (v : Value) (n : Nat) (xs : List Value) (hs : a.eval sx = v) (xa : Option Addr) (m xc : Nat) (ys : List Value) (hx : a.eval x = .slice xa m xc) (hown : Own w0 w (Row e size v n xs :: l)) (hr : w.ownsRow 0 e size (.slice xa m xc) m ys) (h1 : ∀ u ∈ ys, u.oneCell' = true)
    (h63 : n + m ≤ maxLen) (hbytes : (n + m) * bytes ≤ 140737488355328)
    (h : ∀ ao cap w', Own w0 w' (Row e size (.slice ao (n + m) cap) (n + m) (xs ++ ys) :: l) → K (a.put o.dst (.slice ao (n + m) cap)) w') :
    if Region.wanted o (yielded ops a.tmps) = true then Oper.wp P o a w K Q else E := by
  have hw : Region.wanted o (yielded ops a.tmps) = true := by simp [Region.wanted, hgd]
  rw [if_pos hw]
  rcases Nat.eq_zero_or_pos m with h0 | h0
  · subst h0
    have hy : ys = [] := List.eq_nil_of_length_eq_zero (by rw [hr.1]; simp)
    subst hy
    obtain ⟨va, vc, rfl⟩ := row_any hown.row
    have hr := run_append_empty (P := P) w 0 t o.type e i size ht hi _ n xs hown.row xa xc
    unfold Oper.wp
    simp [execOp, ho, resolve, invoke, builtin, hs, hx, hr, Result.andThen]
    have := h va vc w (by simpa using hown)
    simp at this
    exact this
  · obtain ⟨g, cap, hv, _⟩ := row_shape hr h0
    have hxa := (Value.slice.inj hv).1
    subst hxa
    refine wp_append_lies w sx x t ho 0 e i z size bytes ht hi hz hsize hby hzs hsz v n xs hs hown.row ⟨g, 0, none⟩ m xc ys hx hr.1 (fun j u hu => by
      rw [addr_add, Nat.zero_add, hr.cellAt j (by rw [← hr.1]; exact (List.getElem?_eq_some_iff.1 hu).1)]; exact hu) h1 h0 h63 hbytes (Nat.zero_le _) _ rfl ?_
    intro g' cap' w' h2 h3 h4 h5
    refine h _ _ w' (hown.grow h2 h3 (fun k hk => ?_))
    have hk' : g' = k := by simpa [Value.ownBlock] using hk
    subst hk'
    rcases h4 with h4 | h4
    · exact .inl h4
    · exact .inr (by omega)

end Go.Proofs.YtlncgkbgelejmaaGreatDoor

