/-
  Package slots: Live, Free, Len, Room, List on slots.
-/
import Derived.Test.YtflmgilmbppieaaGreatDoorXd
namespace Go.Proofs.YtflmgilmbppieaaGreatDoor
open Go.RowKit
set_option linter.unusedVariables false

set_option maxHeartbeats 1000000 in
set_option maxRecDepth 100000 in
theorem live_ok (w0 w : World) (l : List Thing) (b : Nat) (S : St) (id : Nat) (h : Own w0 w (Slots b S :: l)) (hS : S.Ok) (hid : id < 4294967296) :
    Calls Tryz.prog 183 #[.pointer (some ⟨b, 0, none⟩), .int .u32 (id : Int)] w fun e w' => e = .returned (.bool (S.isLive id)) ∧ w' = w := by
  obtain ⟨⟨v1, v2, v3⟩, h⟩ := Own.ex_iff.1 h
  have q2 := h.cell 2
  have q3 := h.cell 3
  have r1 := h.two.row
  have r2 := h.three.row
  have hul := hS.ul
  have hn := hS.n2
  have hle := hS.le
  obtain ⟨a1, c1, rfl⟩ := row_any r1
  obtain ⟨a2, c2, rfl⟩ := row_any r2
  simp at q2 q3
  by_cases hl : id % 1024 < S.last.length
  · have hlu : id % 1024 < S.used.length := by omega
    obtain ⟨g1, c1', he1, _⟩ := row_shape r1 (by show 0 < S.last.length; omega)
    obtain ⟨g2, c2', he2, _⟩ := row_shape r2 (by show 0 < S.used.length; omega)
    cases he1
    cases he2
    obtain ⟨u, hu⟩ : ∃ u, S.used[id % 1024]? = some u := ⟨_, List.getElem?_eq_getElem hlu⟩
    obtain ⟨x, hx⟩ : ∃ x, S.last[id % 1024]? = some x := ⟨_, List.getElem?_eq_getElem hl⟩
    have p1 : w.cell? ⟨g1, id % 1024, none⟩ = some (.int .u32 (x : Int)) := by rw [r1.cellAt _ (by omega), getElem?_irow, hx]; rfl
    have p2 : w.cell? ⟨g2, id % 1024, none⟩ = some (.bool u) := by rw [r2.cellAt _ (by omega), getElem?_brow, hu]; rfl
    have e : S.isLive id = (u && x == id) := by unfold St.isLive; rw [List.getD_eq_getElem?_getD, List.getD_eq_getElem?_getD, hu, hx]; rfl
    rw [e]
    clear e h r1 r2 hS hu hx hle
    have hl' : ((id % 1024 : Nat) : Int) < (S.last.length : Int) := by omega
    have hlu' : ((id % 1024 : Nat) : Int) < (S.used.length : Int) := by omega
    generalize hm : id % 1024 = m at *
    clear hl hlu hul
    cases u
    · go_enter Tryz.func183, Tryz.ntmps183
      go_wp2_with (go_at_call 144; refine (slot_any id _ hid).mono ?_; rw [hm]; rintro e w' ⟨rfl, rfl⟩)
      go_ret
      exact ⟨rfl, rfl⟩
    · by_cases hc : x = id
      · subst hc
        go_enter Tryz.func183, Tryz.ntmps183
        go_wp2_with (go_at_call 144; refine (slot_any x _ hid).mono ?_; rw [hm]; rintro e w' ⟨rfl, rfl⟩)
        go_ret
        exact ⟨by simp, rfl⟩
      · have hc' : ((x : Int) == (id : Int)) = false := by simp; omega
        go_enter Tryz.func183, Tryz.ntmps183
        go_wp2_with (go_at_call 144; refine (slot_any id _ hid).mono ?_; rw [hm]; rintro e w' ⟨rfl, rfl⟩)
        go_ret
        exact ⟨by simp [hc], rfl⟩
  · have e : S.isLive id = false := by unfold St.isLive; rw [List.getD_eq_getElem?_getD, List.getElem?_eq_none (by omega)]; rfl
    rw [e]
    have hl' : decide (((id % 1024 : Nat) : Int) < (S.last.length : Int)) = false := by simp; omega
    clear e h r1 r2 hS
    generalize hm : id % 1024 = m at *
    go_enter Tryz.func183, Tryz.ntmps183
    go_wp2_with (go_at_call 144; refine (slot_any id _ hid).mono ?_; rw [hm]; rintro e w' ⟨rfl, rfl⟩)
    go_ret
    exact ⟨rfl, rfl⟩
set_option maxHeartbeats 400000 in
theorem live_nil (w : World) (id : Int) : Calls Tryz.prog 183 #[.pointer none, .int .u32 id] w fun e w' => e = .returned (.bool false) ∧ w' = w := by
  go_enter Tryz.func183, Tryz.ntmps183
  go_wp2
  go_ret
  exact ⟨rfl, rfl⟩
end Go.Proofs.YtflmgilmbppieaaGreatDoor
