/-
  Two entities that are alike.
-/
import Derived.Test.YtmblhaoapinbiaaDoorSm
import Derived.Test.YtmblhaoapinbiaaDoorOig
namespace Go.Proofs.YtmblhaoapinbiaaDoor
open Go.RowKit
set_option linter.unusedVariables false
set_option maxRecDepth 100000

set_option maxHeartbeats 1000000 in
theorem sameEnt_any (w : World) (id : Nat) (a1 a2 : Option Addr) (n c1 c2 : Nat) (C : List Cp) (h1 : Cs w a1 C) (h2 : Cs w a2 C) (hn : C.length = n) (hm : n ≤ 1000000) :
    Calls Tryd.prog 13 #[.agg #[.int .u32 (id : Int), .slice a1 n c1], .agg #[.int .u32 (id : Int), .slice a2 n c2]] w fun e w' => e = .returned (.bool true) ∧ Fr Nobody w w' := by
  have HF : Hid (Fr Nobody w ((w.alloc (.cells #[.int .u32 (id : Int), .slice a1 n c1] 40)).alloc (.cells #[.int .u32 (id : Int), .slice a2 n c2] 40))) := ((Fr.refl _ _).alloc _).alloc _
  have HS : Hid (Calls _ _ _ _ _) := same_cs _ a1 a2 n c1 c2 C (h1.quiet HF.out) (h2.quiet HF.out) hn hm
  have hii : ((id : Int) == (id : Int)) = true := by simp
  clear h1 h2 hn
  go_enter Tryd.func13, Tryd.ntmps13
  go_wp2_with fail
  refine HS.out.mono ?_
  rintro e w1 ⟨rfl, hf⟩
  have H1 : Hid (Fr Nobody w w1) := HF.out.trans hf
  clear hf HS
  go_wp2
  go_ret
  exact ⟨rfl, H1.out⟩

end Go.Proofs.YtmblhaoapinbiaaDoor

/-
  What is told of a store's numbers: Live, Len, Room, List; a nil store.
-/
namespace Go.Proofs.YtmblhaoapinbiaaDoor
open Go.RowKit Go.Maps
set_option linter.unusedVariables false

set_option maxHeartbeats 400000 in
theorem sused (w0 w : World) (l : List Thing) (b bs : Nat) (v : Value) (p : Nat → Option Nat) (σ : Sto) (K : Nat) (h : Own w0 w (StoX b σ K (bs, v, p) :: l)) :
    Calls Tryd.prog 19 #[.pointer (some ⟨b, 0, none⟩)] w fun e w' => e = .returned (.pointer (some ⟨bs, 0, none⟩)) ∧ w' = w := by
  obtain ⟨q0, _, _⟩ := stoCells h
  clear h
  go_enter Tryd.func19, Tryd.ntmps19
  go_wp2
  go_ret
  exact ⟨rfl, rfl⟩
set_option maxHeartbeats 400000 in
theorem sused_nil (w : World) : Calls Tryd.prog 19 #[.pointer none] w fun e w' => e = .returned (.pointer none) ∧ w' = w := by
  go_enter Tryd.func19, Tryd.ntmps19
  go_wp2
  go_ret
  exact ⟨rfl, rfl⟩
set_option maxHeartbeats 400000 in
theorem slen (w0 w : World) (l : List Thing) (b : Nat) (σ : Sto) (K : Nat) (h : Own w0 w (Store b σ K :: l)) :
    Calls Tryd.prog 10 #[.pointer (some ⟨b, 0, none⟩)] w fun e w' => e = .returned (.int .i64 (σ.S.live : Int)) ∧ Own w0 w' (Store b σ K :: l) := by
  have H : Hid (Own w0 w (Store b σ K :: l)) := h
  obtain ⟨bs, v, p, h⟩ := h.stoX
  have HU : Hid (Calls _ _ _ _ _) := sused w0 w l b bs v p σ K h
  have HL : Hid (Calls _ _ _ _ _) := len_ok w0 w _ bs σ.S h.stoO.two
  clear h
  go_enter Tryd.func10, Tryd.ntmps10
  go_wp2_with (first | (go_at_call 19; refine HU.out.mono ?_; rintro e w' ⟨rfl, rfl⟩) | (go_at_call 20; refine HL.out.mono ?_; rintro e w' ⟨rfl, rfl⟩))
  go_ret
  exact ⟨rfl, H.out⟩
set_option maxHeartbeats 400000 in
theorem slist (w0 w : World) (l : List Thing) (b : Nat) (σ : Sto) (K : Nat) (h : Own w0 w (Store b σ K :: l)) (hσ : σ.S.Ok) :
    Calls Tryd.prog 11 #[.pointer (some ⟨b, 0, none⟩)] w fun e w' => ∃ v, e = .returned v ∧ Own w0 w' (Row 37 1 v σ.S.list.length (irow .u32 σ.S.list) :: Store b σ K :: l) := by
  obtain ⟨bs, v, p, h⟩ := h.stoX
  have HU : Hid (Calls _ _ _ _ _) := sused w0 w l b bs v p σ K h
  have HL : Hid (Calls _ _ _ _ _) := list_ok w0 w _ bs σ.S h.stoO.two hσ
  clear h
  go_enter Tryd.func11, Tryd.ntmps11
  go_wp2_with (go_at_call 19; refine HU.out.mono ?_; rintro e w' ⟨rfl, rfl⟩)
  refine HL.out.mono ?_
  rintro e w' ⟨vv, rfl, hO⟩
  have H1 : Hid (Own w0 w' (Row 37 1 vv σ.S.list.length (irow .u32 σ.S.list) :: Store b σ K :: l)) := by
    have k := Own.sink (l := [Cells b (scells bs v p) 61, Slots bs σ.S, Row 5 1 v σ.mks.length (irow .u8 σ.mks), Tabs p σ.T K]) (m := l) hO.in23
    exact (Own.stoS k).xSto.two
  clear hO
  go_wp2
  go_ret
  exact ⟨_, rfl, H1.out⟩
end Go.Proofs.YtmblhaoapinbiaaDoor
