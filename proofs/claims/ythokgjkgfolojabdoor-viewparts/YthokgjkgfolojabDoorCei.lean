/-
  The grid: New, Where, Len, Used; a nil grid.
-/
import Derived.Test.YthokgjkgfolojabDoorCef
import Derived.Carry
namespace Go.Proofs.YthokgjkgfolojabDoor
open Go.RowKit Go.Maps
set_option linter.unusedVariables false
set_option maxRecDepth 100000

/-- how many cells have somebody, among the first k -/
def usedN (L : List Spt) : Nat → Nat
  | 0 => 0
  | k + 1 => usedN L k + (match L[k]? with | none => 0 | some s => if scl s ∈ (L.take k).map scl then 0 else 1)
def usedL (L : List Spt) : Nat := usedN L L.length
theorem usedN_list (L : List Spt) : ∀ k, k ≤ L.length → ∃ N : List Cll, N.Nodup ∧ (∀ c, c ∈ N ↔ c ∈ (L.take k).map scl) ∧ N.length = usedN L k := by
  intro k
  induction k with
  | zero => intro _; exact ⟨[], List.nodup_nil, by simp, rfl⟩
  | succ k ih =>
    intro hk
    obtain ⟨N, h1, h2, h3⟩ := ih (by omega)
    have hg : L[k]? = some L[k] := List.getElem?_eq_getElem (by omega)
    have ht : (L.take (k + 1)).map scl = (L.take k).map scl ++ [scl L[k]] := by
      rw [List.take_add_one, hg, List.map_append]; rfl
    by_cases hm : scl L[k] ∈ (L.take k).map scl
    · refine ⟨N, h1, fun c => ?_, ?_⟩
      · rw [h2, ht, List.mem_append]
        constructor
        · exact .inl
        · rintro (h | h)
          · exact h
          · simp at h; rw [h]; exact hm
      · show N.length = usedN L k + _
        rw [hg]
        simp only
        rw [if_pos hm, h3, Nat.add_zero]
    · refine ⟨N ++ [scl L[k]], ?_, fun c => ?_, ?_⟩
      · rw [List.nodup_append]
        refine ⟨h1, by simp, fun a ha b hb => ?_⟩
        simp at hb
        subst hb
        exact fun e => hm (by rw [← e]; exact (h2 a).1 ha)
      · rw [List.mem_append, h2, ht, List.mem_append]
      · show (N ++ [scl L[k]]).length = usedN L k + _
        rw [hg]
        simp only
        rw [if_neg hm, ← h3]
        simp
theorem M_used {L : List Spt} {M : List (Cll × Nat)} (nd : (M.map (·.1)).Nodup) (mem : ∀ c, c ∈ M.map (·.1) ↔ crd L c ≠ []) : M.length = usedL L := by
  obtain ⟨N, h1, h2, h3⟩ := usedN_list L L.length (Nat.le_refl _)
  unfold usedL
  rw [← h3]
  have := len_same (A := M.map (·.1)) (B := N) nd h1 (fun c => by
    rw [mem c, h2, List.take_length, List.mem_map]
    constructor
    · intro h
      obtain ⟨y, hy⟩ := List.exists_mem_of_ne_nil _ h
      obtain ⟨s, hs, _, e⟩ := mem_crd.1 hy
      exact ⟨s, hs, e⟩
    · rintro ⟨s, hs, rfl⟩ e
      have : s.1 ∈ crd L (scl s) := mem_crd.2 ⟨s, hs, rfl, rfl⟩
      rw [e] at this
      cases this)
  simpa using this
set_option maxHeartbeats 1000000 in
theorem gnew (w0 w : World) (l : List Thing) (h : Own w0 w l) (K : Nat) : Calls Tryd.prog 7 #[] w fun e w' => ∃ g, e = .returned (.pointer (some ⟨g, 0, none⟩)) ∧ Own w0 w' (Grid g [] K :: l) := by
  have h1 := Own.gmNew clK h
  have h2 := Own.gmNew idK h1
  have h3 := h2.allocC #[.map (some w.heap.size), .map (some (w.heap.size + 1))] 51
  simp only [World.size_alloc] at h2 h3
  have a := Own.gmIs (m := K) (q := cmap []) h3.three (Nat.zero_le _) (fun x _ => rfl)
  have b := Own.gmIs (m := K) (q := hmap []) a.three (Nat.zero_le _) (fun x _ => rfl)
  have c := Grid.shut (M := []) (L := []) (by simp) (fun c => by simp [crd]) (b.back3.two)
  have H : Hid (Own w0 _ (Grid (w.heap.size + 1 + 1) [] K :: l)) := c
  have hm1 := fun w => @run_makeMap Tryd.prog 48 w
  have hm2 := fun w => @run_makeMap Tryd.prog 49 w
  clear h h1 h2 h3 a b c
  go_enter Tryd.func7, Tryd.ntmps7
  go_wp2
  go_ret
  exact ⟨_, rfl, H.out⟩
end Go.Proofs.YthokgjkgfolojabDoor
