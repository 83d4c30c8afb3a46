/-
  Slices that are only read, from any place of a row on; what is appended out of them.
-/
import Derived.Test.YtflmgilmbppieaaGreatDoorYa
namespace Go.Proofs.YtflmgilmbppieaaGreatDoor
open Go.RowKit
set_option linter.unusedVariables false

/-- a slice of n things of s cells that is read alone -/
def View (s : Nat) (v : Value) (n : Nat) (xs : List Value) : Thing where
  is := fun w A => xs.length = n * s ∧ ∃ ao cap, v = .slice ao n cap ∧ n ≤ cap ∧ cap ≤ maxLen ∧ ((n = 0 ∧ ∀ k, ¬ A k) ∨ (0 < n * s ∧ ∃ g o, ao = some ⟨g, o, none⟩ ∧ (∀ k, A k ↔ k = g) ∧ ∀ j u, xs[j]? = some u → w.cell? ⟨g, o + j, none⟩ = some u))
  lt := by
    rintro w A k ⟨hl, ao, cap, rfl, _, _, ⟨_, h⟩ | ⟨h0, g, o, _, hA, hc⟩⟩ a
    · exact (h k a).elim
    · rw [(hA k).1 a]
      have hx : xs[0]? = some xs[0] := List.getElem?_eq_getElem (by omega)
      exact World.block_lt_of_cell? w _ (hc 0 _ hx)
  keep := by
    rintro w w' A B ⟨hl, ao, cap, rfl, h1, h2, ⟨h3, h⟩ | ⟨h0, g, o, ha, hA, hc⟩⟩ hf hn
    · exact ⟨hl, ao, cap, rfl, h1, h2, .inl ⟨h3, h⟩⟩
    · refine ⟨hl, ao, cap, rfl, h1, h2, .inr ⟨h0, g, o, ha, hA, fun j u hu => ?_⟩⟩
      have h4 := hc j u hu
      exact (hf.cell (p := ⟨g, o + j, none⟩) (World.block_lt_of_cell? w _ h4) (hn g ((hA g).2 rfl))).trans h4

section
variable {w0 w w' : World} {l : List Thing} {t e : TypeId} {s n m cap g : Nat} {v u : Value} {xs ys : List Value}
theorem Own.view (h : Own w0 w (Row e s v n xs :: l)) (hs : 0 < s) : Own w0 w (View s v n xs :: l) := by
  obtain ⟨A, ⟨B, C, hB, hC, hbc, hA⟩, hF, hlo⟩ := h
  have hr := hB.1
  rcases hr.2 with ⟨rfl, rfl⟩ | ⟨g, cap, cur, rfl, _, hgg, h1, h2, h3, h4⟩
  · refine ⟨C, ⟨fun _ => False, C, ⟨hr.1, none, 0, rfl, Nat.le_refl _, Nat.zero_le _, .inl ⟨rfl, fun _ h => h⟩⟩, hC, fun _ h => h.elim, fun k => by simp⟩, hF, fun k c => hlo k ((hA k).2 (.inr c))⟩
  · rcases Nat.eq_zero_or_pos n with h0 | h0
    · refine ⟨C, ⟨fun _ => False, C, ⟨hr.1, _, _, rfl, h1, h2, .inl ⟨h0, fun _ h => h⟩⟩, hC, fun _ h => h.elim, fun k => by simp⟩, hF, fun k c => hlo k ((hA k).2 (.inr c))⟩
    · refine ⟨A, ⟨B, C, ⟨hr.1, _, _, rfl, h1, h2, .inr ⟨Nat.mul_pos h0 hs, g, 0, rfl, fun k => ?_, fun j u hu => ?_⟩⟩, hC, hbc, hA⟩, hF, hlo⟩
      · rw [hB.2 k]; simp [Value.ownBlock]; exact eq_comm
      · have hj := (List.getElem?_eq_some_iff.1 hu).1
        rw [Nat.zero_add, hr.cellAt j (by rw [← hr.1]; exact hj)]; exact hu
theorem Own.vshape (h : Own w0 w (View s v n xs :: l)) : ∃ ao cap, v = .slice ao n cap ∧ n ≤ cap ∧ cap ≤ maxLen := by
  obtain ⟨A, ⟨B, C, ⟨_, ao, cap, h1, h2, h3, _⟩, _⟩, _⟩ := h
  exact ⟨ao, cap, h1, h2, h3⟩
theorem Own.vlen (h : Own w0 w (View s v n xs :: l)) : xs.length = n * s := by
  obtain ⟨A, ⟨B, C, ⟨hl, _⟩, _⟩, _⟩ := h
  exact hl
theorem Own.vcell (h : Own w0 w (View s v n xs :: l)) (hn : 0 < n) : ∃ g o cap, v = .slice (some ⟨g, o, none⟩) n cap ∧ n ≤ cap ∧ cap ≤ maxLen ∧ ∀ j u, xs[j]? = some u → w.cell? ⟨g, o + j, none⟩ = some u := by
  obtain ⟨A, ⟨B, C, ⟨hl, ao, cap, rfl, h1, h2, ⟨h3, _⟩ | ⟨h0, g, o, rfl, hA, hc⟩⟩, _⟩, _⟩ := h
  · omega
  · exact ⟨g, o, cap, rfl, h1, h2, hc⟩
/-- without its first thing -/
theorem Own.vtail {o : Nat} (h : Own w0 w (View s (.slice (some ⟨g, o, none⟩) n cap) n xs :: l)) (hn : 0 < n) (A : Addr) (hA : A = if cap = 1 then ⟨g, o, none⟩ else ⟨g, o + s, none⟩) (hs : 0 < s) : Own w0 w (View s (.slice (some A) (n - 1) (cap - 1)) (n - 1) (xs.drop s) :: l) := by
  obtain ⟨F, ⟨B, C, ⟨hl, ao, cap', hv, h1, h2, ⟨h3, _⟩ | ⟨h0, g', o', ha, hB, hc⟩⟩, hC, hbc, hF0⟩, hF, hlo⟩ := h
  · omega
  · obtain ⟨e1, _, e3⟩ := Value.slice.inj hv
    subst e3
    rw [← e1] at ha
    cases ha
    have hl2 : (xs.drop s).length = (n - 1) * s := by rw [List.length_drop, hl, Nat.sub_mul, Nat.one_mul]
    rcases Nat.eq_zero_or_pos (n - 1) with c | c
    · refine ⟨C, ⟨fun _ => False, C, ⟨hl2, _, _, rfl, by omega, by omega, .inl ⟨c, fun _ h => h⟩⟩, hC, fun _ h => h.elim, fun k => by simp⟩, hF, fun k q => hlo k ((hF0 k).2 (.inr q))⟩
    · refine ⟨F, ⟨B, C, ⟨hl2, _, _, rfl, by omega, by omega, .inr ⟨Nat.mul_pos c hs, g, o + s, ?_, hB, fun j u hu => ?_⟩⟩, hC, hbc, hF0⟩, hF, hlo⟩
      · rw [hA, if_neg (by omega)]
      · rw [List.getElem?_drop] at hu
        have := hc (s + j) u hu
        rw [← Nat.add_assoc] at this; exact this
theorem Own.litRow (h : Own w0 w l) (cs : Array Value) (e : TypeId) (s n : Nat) (hm : n ≤ maxLen) (hs : cs.size = n * s) : Own w0 (w.alloc (.cells cs e)) (Row e s (.slice (some ⟨w.heap.size, 0, none⟩) n n) n cs.toList :: l) :=
  h.new (Row e s (.slice (some ⟨w.heap.size, 0, none⟩) n n) n cs.toList) (fun k => k = w.heap.size) ⟨World.ownsRow_lit (base := 0) w cs n (Nat.zero_le _) hm hs, fun k => by simp [Value.ownBlock]; exact eq_comm⟩ ((Fr.refl _ _).alloc _) (fun k hk => by omega)
end

theorem run_append_empty {P : Program} (w : World) (base : Nat) (t ty e : TypeId) (i : TypeInfo) (size : Nat) (ht : P.underlying t = some (.slice e)) (hi : P.info? e = some i)
    (v : Value) (n : Nat) (xs : List Value) (hown : w.ownsRow base e size v n xs) (xa : Option Addr) (c : Nat) :
    (Builtin.append_ #[t, t] ty #[v, .slice xa 0 c]).run P w = .ok v w := by
  rcases hown.2 with ⟨rfl, rfl⟩ | ⟨g, cap, cur, rfl, _, _, hnc, _⟩
  · cases xa <;> simp [Builtin.append_, run_underlying ht, sizeOf, typeInfo, hi, Builtin.lenOf, Builtin.firstCells, loadCells, loadCellsFrom]
  · cases xa <;> simp [Builtin.append_, run_underlying ht, sizeOf, typeInfo, hi, Builtin.lenOf, Builtin.firstCells, hnc, storeCells, loadCells, loadCellsFrom]
/-- append of all of a slice that is read -/
theorem append_view {P : Program} {w0 w : World} {l : List Thing} {ops : Array Oper} {rest : List Oper} {o : Oper} {a : Act} {Q : Exit → Act → World → Prop} (hgd : o.guard = none) (sx x : Operand) (t : TypeId)
    (ho : o.op = .call { callee := .builtin .append, args := #[sx, x], argTypes := #[t, t] })
    (e : TypeId) (i : TypeInfo) (z : Value) (size bytes : Nat) (ht : P.underlying t = some (.slice e)) (hi : P.info? e = some i) (hz : i.zero = some z)
    (hsize : i.size = size) (hby : i.bytes = bytes) (hzs : z.cells.size = size) (hsz : 0 < size)
    (v : Value) (n : Nat) (xs : List Value) (hs : a.eval sx = v) (vx : Value) (m : Nat) (ys : List Value) (hx : a.eval x = vx) (hown : Own w0 w (Row e size v n xs :: View size vx m ys :: l)) (h1 : ∀ u ∈ ys, u.oneCell' = true)
    (h63 : n + m ≤ maxLen) (hbytes : (n + m) * bytes ≤ 140737488355328)
    (h : ∀ ao cap w', Own w0 w' (Row e size (.slice ao (n + m) cap) (n + m) (xs ++ ys) :: View size vx m ys :: l) → w.heap.size ≤ w'.heap.size → wpList P ops Q rest (a.put o.dst (.slice ao (n + m) cap)) w') : wpList P ops Q (o :: rest) a w := by
  obtain ⟨xa, xc, rfl, _, _⟩ := hown.two.vshape
  rcases Nat.eq_zero_or_pos m with h0 | h0
  · subst h0
    have hy : ys = [] := List.eq_nil_of_length_eq_zero (by rw [hown.two.vlen]; simp)
    subst hy
    obtain ⟨va, vc, rfl⟩ := row_any hown.row
    refine wpList_plain hgd fun K hK' => ?_
    have hr := run_append_empty (P := P) w 0 t o.type e i size ht hi _ n xs hown.row xa xc
    unfold Oper.wp
    simp [execOp, ho, resolve, invoke, builtin, hs, hx, hr, Result.andThen]
    exact hK' _ _ (by simpa using h va vc w (by simpa using hown) (Nat.le_refl _))
  · obtain ⟨g, o', cap, hv, _, _, hc⟩ := hown.two.vcell h0
    have hxa := (Value.slice.inj hv).1
    subst hxa
    refine append_own hgd sx x t ho e i z size bytes ht hi hz hsize hby hzs hsz v n xs hs hown ⟨g, o', none⟩ m xc ys hx hown.two.vlen (fun j u hu => by rw [addr_add]; exact hc j u hu) h1 h0 h63 hbytes ?_
    intro g' cap' w' hO hsz
    exact h _ _ w' hO hsz
end Go.Proofs.YtflmgilmbppieaaGreatDoor
