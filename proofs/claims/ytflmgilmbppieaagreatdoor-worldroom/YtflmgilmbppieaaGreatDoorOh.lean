/-
  What is told of a store's numbers: Live, Len, Room, List; a nil store.
-/
import Derived.Test.YtflmgilmbppieaaGreatDoorOg
namespace Go.Proofs.YtflmgilmbppieaaGreatDoor
open Go.RowKit Go.Maps
set_option linter.unusedVariables false

set_option maxHeartbeats 400000 in
theorem sused (w0 w : World) (l : List Thing) (b bs : Nat) (v : Value) (p : Nat → Option Nat) (σ : Sto) (K : Nat) (h : Own w0 w (StoX b σ K (bs, v, p) :: l)) :
    Calls Tryz.prog 128 #[.pointer (some ⟨b, 0, none⟩)] w fun e w' => e = .returned (.pointer (some ⟨bs, 0, none⟩)) ∧ w' = w := by
  obtain ⟨q0, _, _⟩ := stoCells h
  clear h
  go_enter Tryz.func128, Tryz.ntmps128
  go_wp2
  go_ret
  exact ⟨rfl, rfl⟩
set_option maxHeartbeats 400000 in
theorem sused_nil (w : World) : Calls Tryz.prog 128 #[.pointer none] w fun e w' => e = .returned (.pointer none) ∧ w' = w := by
  go_enter Tryz.func128, Tryz.ntmps128
  go_wp2
  go_ret
  exact ⟨rfl, rfl⟩
set_option maxHeartbeats 400000 in
theorem slive (w0 w : World) (l : List Thing) (b : Nat) (σ : Sto) (K : Nat) (h : Own w0 w (Store b σ K :: l)) (hσ : σ.S.Ok) (id : Nat) (hid : id < 4294967296) :
    Calls Tryz.prog 127 #[.pointer (some ⟨b, 0, none⟩), .int .u32 (id : Int)] w fun e w' => e = .returned (.bool (σ.S.isLive id)) ∧ Own w0 w' (Store b σ K :: l) := by
  have H : Hid (Own w0 w (Store b σ K :: l)) := h
  obtain ⟨bs, v, p, h⟩ := h.stoX
  have HU : Hid (Calls _ _ _ _ _) := sused w0 w l b bs v p σ K h
  have HL : Hid (Calls _ _ _ _ _) := live_ok w0 w _ bs σ.S id h.stoO.two hσ hid
  clear h
  go_enter Tryz.func127, Tryz.ntmps127
  go_wp2_with (first | (go_at_call 128; refine HU.out.mono ?_; rintro e w' ⟨rfl, rfl⟩) | (go_at_call 183; refine HL.out.mono ?_; rintro e w' ⟨rfl, rfl⟩))
  go_ret
  exact ⟨rfl, H.out⟩
set_option maxHeartbeats 400000 in
theorem slist (w0 w : World) (l : List Thing) (b : Nat) (σ : Sto) (K : Nat) (h : Own w0 w (Store b σ K :: l)) (hσ : σ.S.Ok) :
    Calls Tryz.prog 73 #[.pointer (some ⟨b, 0, none⟩)] w fun e w' => ∃ v, e = .returned v ∧ Own w0 w' (Row 38 1 v σ.S.list.length (irow .u32 σ.S.list) :: Store b σ K :: l) := by
  obtain ⟨bs, v, p, h⟩ := h.stoX
  have HU : Hid (Calls _ _ _ _ _) := sused w0 w l b bs v p σ K h
  have HL : Hid (Calls _ _ _ _ _) := list_ok w0 w _ bs σ.S h.stoO.two hσ
  clear h
  go_enter Tryz.func73, Tryz.ntmps73
  go_wp2_with (go_at_call 128; refine HU.out.mono ?_; rintro e w' ⟨rfl, rfl⟩)
  refine HL.out.mono ?_
  rintro e w' ⟨vv, rfl, hO⟩
  have H1 : Hid (Own w0 w' (Row 38 1 vv σ.S.list.length (irow .u32 σ.S.list) :: Store b σ K :: l)) := by
    have k := Own.sink (l := [Cells b (scells bs v p) 199, Slots bs σ.S, Row 5 1 v σ.mks.length (irow .u8 σ.mks), Tabs p σ.T K]) (m := l) hO.in23
    exact (Own.stoS k).xSto.two
  clear hO
  go_wp2
  go_ret
  exact ⟨_, rfl, H1.out⟩
set_option maxHeartbeats 400000 in
theorem slive_nil (w : World) (id : Int) : Calls Tryz.prog 127 #[.pointer none, .int .u32 id] w fun e w' => e = .returned (.bool false) ∧ w' = w := by
  go_enter Tryz.func127, Tryz.ntmps127
  go_wp2_with (first | (go_at_call 128; refine (sused_nil _).mono ?_; rintro e w' ⟨rfl, rfl⟩) | (go_at_call 183; refine (live_nil _ _).mono ?_; rintro e w' ⟨rfl, rfl⟩))
  go_ret
  exact ⟨rfl, rfl⟩
end Go.Proofs.YtflmgilmbppieaaGreatDoor
