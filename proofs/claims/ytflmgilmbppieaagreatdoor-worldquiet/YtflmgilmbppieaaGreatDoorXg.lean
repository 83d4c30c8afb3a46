/-
  Package slots: List on slots.
-/
import Derived.Test.YtflmgilmbppieaaGreatDoorXf
namespace Go.Proofs.YtflmgilmbppieaaGreatDoor
open Go.RowKit
set_option linter.unusedVariables false
set_option maxHeartbeats 400000 in
theorem list_nil (w : World) : Calls Tryz.prog 129 #[.pointer none] w fun e w' => e = .returned (.slice none 0 0) ∧ w' = w := by
  go_enter Tryz.func129, Tryz.ntmps129
  go_wp2
  go_ret
  exact ⟨rfl, rfl⟩
theorem pick_le (l : List Nat) (m : List Bool) : (pick l m).length ≤ l.length := by
  induction l generalizing m with
  | nil => cases m <;> simp [pick]
  | cons x l ih => cases m with
    | nil => simp [pick]
    | cons u m => have := ih m; cases u <;> simp [pick] <;> omega
theorem pick_step (S : St) (hS : S.Ok) (k x : Nat) (u : Bool) (hx : S.last[k]? = some x) (hu : S.used[k]? = some u) : pick (S.last.take (k + 1)) (S.used.take (k + 1)) = pick (S.last.take k) (S.used.take k) ++ if u then [x] else [] := by
  rw [List.take_add_one, List.take_add_one, hx, hu]
  exact pick_snoc _ _ (by rw [List.length_take, List.length_take, hS.ul]) x u

set_option maxHeartbeats 2000000 in
set_option maxRecDepth 100000 in
theorem list_ok (w0 w : World) (l : List Thing) (b : Nat) (S : St) (h : Own w0 w (Slots b S :: l)) (hS : S.Ok) :
    Calls Tryz.prog 129 #[.pointer (some ⟨b, 0, none⟩)] w fun e w' => ∃ v, e = .returned v ∧ Own w0 w' (Row 38 1 v S.list.length (irow .u32 S.list) :: Slots b S :: l) := by
  obtain ⟨⟨v1, v2, v3⟩, h⟩ := Own.ex_iff.1 h
  have q5 := h.cell 5
  have q2 := h.cell 2
  have hn := hS.n2
  have hle := hS.le
  have hul := hS.ul
  have hlv : S.live ≤ 1024 := by have := hS.cnt; have := hS.le; omega
  obtain ⟨i0, hi, hz0, hz1, hz2⟩ := info_parts Tryz.infoID
  obtain ⟨a1, c1, rfl⟩ := row_any h.two.row
  obtain ⟨a2, c2, rfl⟩ := row_any h.three.row
  obtain ⟨w1, hmk, hO, hf⟩ := make_own (P := Tryz.prog) h 55 38 i0 (.int .u32 0) 1 Tryz.underlying55 hi hz0 hz1 S.live (by rw [hz2]; omega) (by unfold maxLen; omega)
  have q2' := hO.two.cell 2
  simp at q2 q5 q2'
  have HS : Hid S.Ok := hS
  have HU : Hid (S.used.length = S.last.length) := hul
  have H1 : Hid (Own w0 w1 (Row 38 1 (.slice (some ⟨w.heap.size, 0, none⟩) 0 S.live) (pick (S.last.take 0) (S.used.take 0)).length (irow .u32 (pick (S.last.take 0) (S.used.take 0))) :: _)) := hO
  clear h hS hO hul hf
  go_enter Tryz.func129, Tryz.ntmps129
  go_wp2
  go_loopw [3, 18] (fun lv c wr => ∃ k : Nat, k ≤ S.last.length ∧ c = .int .i64 k ∧ ∃ g cap, lv = .slice (some ⟨g, 0, none⟩) (pick (S.last.take k) (S.used.take k)).length cap ∧
      Own w0 wr (Row 38 1 (.slice (some ⟨g, 0, none⟩) (pick (S.last.take k) (S.used.take k)).length cap) (pick (S.last.take k) (S.used.take k)).length (irow .u32 (pick (S.last.take k) (S.used.take k))) ::
        Cells b #[.int .i64 (S.n : Int), .int .i64 (S.first : Int), .slice a1 S.last.length c1, .slice a2 S.used.length c2, v3, .int .i64 (S.live : Int)] 262 ::
        Row 38 1 (.slice a1 S.last.length c1) S.last.length (irow .u32 S.last) :: Row 4 1 (.slice a2 S.used.length c2) S.used.length (brow S.used) :: Row 3 1 v3 S.freed.length (irow .i64 S.freed) :: l)) (fun _ c _ => S.last.length - (intOf c).toNat)
  case atStart => exact ⟨0, Nat.zero_le _, rfl, _, _, rfl, H1.out⟩
  case round =>
    obtain ⟨k, hk, rfl, g, cap, rfl, hO⟩ := hrel
    have q3 := hO.two.cell 3
    simp at q3
    by_cases hlt : k < S.last.length
    · have hlu : k < S.used.length := by have := HU.out; omega
      have r1 := hO.three.row
      have r2 := hO.four.row
      obtain ⟨g1, c1', he1, _⟩ := row_shape r1 (by omega)
      obtain ⟨g2, c2', he2, _⟩ := row_shape r2 (by omega)
      cases he1
      cases he2
      obtain ⟨u, hu⟩ : ∃ u, S.used[k]? = some u := ⟨_, List.getElem?_eq_getElem hlu⟩
      obtain ⟨x, hx⟩ : ∃ x, S.last[k]? = some x := ⟨_, List.getElem?_eq_getElem hlt⟩
      have p1 : wr.cell? ⟨g1, k, none⟩ = some (.int .u32 (x : Int)) := by rw [r1.cellAt _ (by omega), getElem?_irow, hx]; rfl
      have p2 : wr.cell? ⟨g2, k, none⟩ = some (.bool u) := by rw [r2.cellAt _ (by omega), getElem?_brow, hu]; rfl
      have HP : Hid (pick (S.last.take (k + 1)) (S.used.take (k + 1)) = pick (S.last.take k) (S.used.take k) ++ if u then [x] else []) := pick_step S HS.out k x u hx hu
      have hpl := pick_le (S.last.take k) (S.used.take k)
      rw [List.length_take] at hpl
      have HO : Hid (Own w0 wr _) := hO
      clear hO r1 r2 hu hx H1 hmk q2 q2' q5
      have hlu' : (k : Int) < (S.used.length : Int) := by omega
      generalize pick (S.last.take k) (S.used.take k) = pk at *
      cases u
      · go_wp2
        go_roundw
        case rel => exact ⟨k + 1, by omega, by go_num, g, cap, by rw [HP.out]; simp, by rw [HP.out]; simpa using HO.out⟩
        case measure => simp [intOf]; omega
      · go_wp2_with (at_builtin; refine append1_own rfl _ _ 55 rfl 38 i0 (.int .u32 0) 1 4 Tryz.underlying55 hi hz0 hz1 hz2 rfl (by decide) _ _ _ rfl HO.out _ _ (by simp) rfl rfl (one_int _ _) (by unfold maxLen; omega) (by omega) ?_)
        intro g' cap' w2 hO2 hsz
        have H2 : Hid (Own w0 w2 _) := hO2
        clear hO2 HO
        go_wp2
        go_roundw
        case rel => exact ⟨k + 1, by omega, by go_num, g', cap', by rw [HP.out]; simp, by rw [HP.out]; simpa [irow] using H2.out⟩
        case measure => simp [intOf]; omega
    · have ek : k = S.last.length := by omega
      subst ek
      have HUL : S.used.length ≤ S.last.length := by rw [HU.out]; exact Nat.le_refl _
      rw [List.take_of_length_le (Nat.le_refl S.last.length), List.take_of_length_le HUL] at hO
      rw [List.take_of_length_le (Nat.le_refl S.last.length), List.take_of_length_le HUL]
      have HO : Hid (Own w0 wr _) := hO
      clear hO HUL H1 hmk q2 q2' q5
      go_wp2
      go_ret
      exact ⟨_, rfl, Own.ex2.2 ⟨(.slice a1 S.last.length c1, .slice a2 S.used.length c2, v3), HO.out⟩⟩
end Go.Proofs.YtflmgilmbppieaaGreatDoor
