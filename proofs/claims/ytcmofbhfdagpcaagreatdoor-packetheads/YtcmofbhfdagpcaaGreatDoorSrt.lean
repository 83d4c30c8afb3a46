/-
  Rows that the library's sort has sorted: as things.
-/
import Derived.Test.YtcmofbhfdagpcaaGreatDoorYa
import Derived.Shelf.SlSortCmp.WholeK
namespace Go.Proofs.YtcmofbhfdagpcaaGreatDoor
open Go.RowKit Go.Sort Go.Shelf
set_option linter.unusedVariables false
set_option maxRecDepth 100000

section
variable {α : Type} {enc : α → List Value} {k : Nat}
theorem cat_lenK (hk : ∀ x, (enc x).length = k) (L : List α) : (cat enc L).length = L.length * k := by
  induction L with
  | nil => simp [cat]
  | cons a L ih =>
    have : cat enc (a :: L) = enc a ++ cat enc L := by simp [cat]
    rw [this, List.length_append, ih, hk, List.length_cons, Nat.succ_mul, Nat.add_comm]
variable [Inhabited α]
theorem flat_cat (hk : ∀ x, (enc x).length = k) (hk0 : 0 < k) (L : List α) : (flatK enc k L.toArray).toList = cat enc L := by
  apply List.ext_getElem?
  intro t
  by_cases ht : t < L.length * k
  · have h1 : t < (flatK enc k L.toArray).size := by rw [size_flatK]; simpa using ht
    have h2 := get_flatK enc k L.toArray t (by simpa using ht)
    have hd : t / k < L.length := Nat.div_lt_of_lt_mul (by rw [Nat.mul_comm]; exact ht)
    have hr : t % k < k := Nat.mod_lt _ hk0
    rw [Array.getElem?_toList, Array.getElem?_eq_getElem h1, ← getElem!_pos (flatK enc k L.toArray) t h1, h2]
    have e := cat_at enc k hk L (t / k) (t % k) L[t / k] (List.getElem?_eq_getElem hd) hr
    rw [Nat.mul_comm, Nat.div_add_mod] at e
    rw [e]
    have e3 : L.toArray[t / k]! = L[t / k] := by rw [getElem!_pos L.toArray (t / k) (by simpa using hd)]; simp
    rw [e3]
    have hl : t % k < (enc L[t / k]).length := by rw [hk]; exact hr
    rw [List.getElem?_eq_getElem hl, getElem!_pos (enc L[t / k]) (t % k) hl]
  · have h1 : (flatK enc k L.toArray).size ≤ t := by rw [size_flatK]; simpa using Nat.le_of_not_lt ht
    rw [Array.getElem?_toList, Array.getElem?_eq_none h1, List.getElem?_eq_none (by rw [cat_lenK hk]; omega)]
variable {w0 w : World} {l : List Thing} {e : TypeId} {g cap : Nat} {L L' : List α}
theorem Own.holdsK (hk : ∀ x, (enc x).length = k) (hk0 : 0 < k) (h : Own w0 w (Row e k (.slice (some ⟨g, 0, none⟩) L.length cap) L.length (cat enc L) :: l)) : HoldsK enc k w g 0 L.toArray := by
  intro j hj
  have hr := h.row
  have hj2 : j < L.length * k := by rw [size_flatK] at hj; simpa using hj
  refine ⟨?_, hr.frozenAt _⟩
  rw [Nat.zero_add, hr.cellAt _ hj2, ← flat_cat hk hk0, Array.getElem?_toList, Array.getElem?_eq_getElem hj, getElem!_pos _ j hj]
  rfl
theorem sort_heap (m : Nat) (d : Array α) (os : Array Obj) (j : Nat) (hj : j < w.heap.size) : (sortWorldK enc k w g 0 m d os).heap[j]? = if g = j then (w.heap[j]?).map (onCells (putCells id 0 (flatK enc k d))) else w.heap[j]? := by
  show ((w.heap.modify g (onCells (putCells id 0 (flatK enc k d)))) ++ os)[j]? = _
  rw [Array.getElem?_append_left (by simpa using hj), Array.getElem?_modify]
theorem Own.sortK (hk : ∀ x, (enc x).length = k) (hk0 : 0 < k) (h : Own w0 w (Row e k (.slice (some ⟨g, 0, none⟩) L.length cap) L.length (cat enc L) :: l)) (hl : L'.length = L.length) (m : Nat) (os : Array Obj) : Own w0 (sortWorldK enc k w g 0 m L'.toArray os) (Row e k (.slice (some ⟨g, 0, none⟩) L'.length cap) L'.length (cat enc L') :: l) := by
  obtain ⟨h1, h2⟩ := h.row
  rcases h2 with ⟨hv, _⟩ | ⟨g', cap', cur, hv, hb, hgg, hc1, hc2, hc3, hc4⟩
  · cases hv
  · obtain ⟨rfl, rfl⟩ : g' = g ∧ cap' = cap := by
      simp only [Value.slice.injEq, Option.some.injEq, Addr.mk.injEq] at hv
      exact ⟨hv.1.1.symm, hv.2.2.symm⟩
    have hlt : g' < w.heap.size := (Array.getElem?_eq_some_iff.1 hgg).1
    refine h.grow (v' := .slice (some ⟨g', 0, none⟩) L'.length cap') ⟨by rw [cat_lenK hk], .inr ⟨g', cap', putCells id 0 (flatK enc k L'.toArray) cur, rfl, Nat.zero_le _, ?_, by omega, hc2, ?_, ?_⟩⟩ ⟨rfl, rfl, rfl, ?_, ?_⟩ (fun q hq => .inl hq)
    · rw [sort_heap _ _ _ _ hlt, if_pos rfl, hgg]
      rfl
    · simp [putCells, hc3]
    · apply List.ext_getElem?
      intro t
      rw [← flat_cat hk hk0]
      by_cases ht : t < L'.length * k
      · have h1' : t < (flatK enc k L'.toArray).size := by rw [size_flatK]; simpa using ht
        have htc : t < cur.size := by
          rw [hc3]
          have : L'.length * k ≤ cap' * k := Nat.mul_le_mul_right k (by omega)
          omega
        rw [List.getElem?_take_of_lt ht, Array.getElem?_toList, Array.getElem?_toList]
        simp only [putCells, Array.getElem?_mapIdx, Array.getElem?_eq_getElem htc, Option.map_some, Nat.zero_le, true_and, Nat.zero_add, Nat.sub_zero]
        rw [if_pos h1', Array.getElem?_eq_getElem h1', getElem!_pos _ t h1']
        rfl
      · rw [List.getElem?_eq_none (by rw [List.length_take]; omega), List.getElem?_eq_none (by rw [Array.length_toList, size_flatK]; simpa using Nat.le_of_not_lt ht)]
    · show w.heap.size ≤ ((w.heap.modify g' (onCells (putCells id 0 (flatK enc k L'.toArray)))) ++ os).size
      simp
    · intro q hq hne
      rw [sort_heap _ _ _ _ hq, if_neg (fun e => hne (by rw [← e]; rfl))]
end
end Go.Proofs.YtcmofbhfdagpcaaGreatDoor

