/-
  Package slots: Free and List on slots.
-/
import Derived.Test.YtflmgilmbppieaaGreatDoorXe
namespace Go.Proofs.YtflmgilmbppieaaGreatDoor
open Go.RowKit
set_option linter.unusedVariables false

set_option maxHeartbeats 2000000 in
set_option maxRecDepth 100000 in
theorem free_ok (w0 w : World) (l : List Thing) (b : Nat) (S : St) (id : Nat) (h : Own w0 w (Slots b S :: l)) (hS : S.Ok) (hid : id < 4294967296) :
    Calls Tryz.prog 173 #[.pointer (some ⟨b, 0, none⟩), .int .u32 (id : Int)] w fun e w' => e = .returned (.int .i64 (S.free id).1) ∧ Own w0 w' (Slots b (S.free id).2 :: l) := by
  have HL := live_ok w0 w l b S id h hS hid
  have H0 : Hid (Own w0 w (Slots b S :: l)) := h
  unfold St.free
  by_cases hlive : S.isLive id = true
  · rw [if_pos hlive]
    rw [hlive] at HL
    obtain ⟨hu, hx⟩ := (S.isLive_iff hS id).1 hlive
    have hlu : id % 1024 < S.used.length := (List.getElem?_eq_some_iff.1 hu).1
    have hl1 : 1 ≤ S.live := by rw [hS.live]; exact List.count_pos_iff.2 (List.mem_of_getElem? hu)
    have hn := hS.n2
    have hle := hS.le
    have hul := hS.ul
    have hcnt := hS.cnt
    obtain ⟨i0, hi, hz0, hz1, hz2⟩ := info_parts Tryz.infoInt
    obtain ⟨⟨v1, v2, v3⟩, h⟩ := Own.ex_iff.1 h
    have r2 := h.three.row
    obtain ⟨g2, c2, rfl, _⟩ := row_shape r2 (by show 0 < S.used.length; omega)
    obtain ⟨a3, c3, rfl⟩ := row_any h.four.row
    have q3 := h.cell 3
    have q4 := h.cell 4
    have q5 := h.cell 5
    have z4 := h.froz 4
    have z5 := h.froz 5
    have d2 := h.in23.ne
    have e2 : g2 ≠ b := fun q => d2 (by rw [q]; rfl)
    have p2 : w.cell? ⟨g2, id % 1024, none⟩ = some (.bool true) := by rw [r2.cellAt _ (by omega), getElem?_brow, hu]; rfl
    have y2 : w.frozen? ⟨g2, id % 1024, none⟩ = false := r2.frozenAt _
    have H : Hid (Own w0 w _) := h
    have hlu' : ((id % 1024 : Nat) : Int) < (S.used.length : Int) := by omega
    have HM : Hid (id % 1024 = id % 1024) := rfl
    simp at q3 q4 q5
    clear h r2 d2 hu hx hlive hlu H0 hul
    have hm4 : id % 1024 < 1024 := by omega
    have e5 : ((S.live - 1 : Nat) : Int) = (S.live : Int) - 1 := by omega
    have E5 : Hid (((S.live - 1 : Nat) : Int) = (S.live : Int) - 1) := e5
    clear e5
    have HW : Hid (∀ m, m = id % 1024 → S.less id = { S with used := S.used.set m false, live := S.live - 1, freed := if id / 1024 < 4194303 then S.freed ++ [m] else S.freed }) := by rintro m rfl; rfl
    generalize hm' : id % 1024 = m at *
    have hm : Hid (id % 1024 = m) := hm'
    have HLV : Hid (Calls _ _ _ _ _) := HL
    clear hm' HL HM
    by_cases hg : id / 1024 < 4194303
    · obtain ⟨gg, hgg⟩ : ∃ gg : Int, gg = ((id / 1024 : Nat) : Int) := ⟨_, rfl⟩
      have hg' : gg < 4194303 := by omega
      have HG : Hid (id / 1024 < 4194303) := hg
      have HGG : Hid (((id / 1024 : Nat) : Int) = gg) := hgg.symm
      clear hg hgg
      go_enter Tryz.func173, Tryz.ntmps173
      go_wp2_with (first | (go_at_call 183; refine HLV.out.mono ?_; rintro e w' ⟨rfl, hw⟩; subst hw) | (go_at_call 144; refine (slot_any id _ hid).mono ?_; rw [hm.out]; rintro e w' ⟨rfl, hw⟩; subst hw) | (go_at_call 145; refine (gen_any id _ hid).mono ?_; rw [HGG.out]; rintro e w' ⟨rfl, hw⟩; subst hw) | (at_builtin; refine append1_own rfl _ _ 260 rfl 3 i0 (.int .i64 0) 1 8 Tryz.underlying260 hi hz0 hz1 hz2 rfl (by decide) _ _ _ rfl ((H.out.three.setR m (.bool false)).back3.setC 5 (.int .i64 ((S.live : Int) - 1))).four _ _ (by simp) rfl rfl (one_int _ _) (by unfold maxLen; omega) (by omega) ?_))
      intro g3 c3' w1 hO hsz
      have k4 := hO.two.cell 4
      have z4' := hO.two.froz 4
      have H1 : Hid (Own w0 w1 _) := hO
      simp at k4
      clear hO H
      go_wp2
      go_ret
      refine ⟨rfl, Own.ex_iff.2 ⟨(v1, .slice (some ⟨g2, 0, none⟩) S.used.length c2, .slice (some ⟨g3, 0, none⟩) (S.freed.length + 1) c3'), ?_⟩⟩
      have k := (H1.out.two.setC 4 (.slice (some ⟨g3, 0, none⟩) (S.freed.length + 1) c3')).two.back4
      rw [HW.out m rfl, if_pos HG.out]
      have e1 : irow .i64 (S.freed ++ [m]) = irow .i64 S.freed ++ [.int .i64 (m : Int)] := by simp [irow]
      have e3 : (S.freed ++ [m]).length = S.freed.length + 1 := by simp
      have e4 : (S.used.set m false).length = S.used.length := by simp
      show Own w0 _ (Cells b #[.int .i64 (S.n : Int), .int .i64 (S.first : Int), v1, .slice (some ⟨g2, 0, none⟩) S.used.length c2, .slice (some ⟨g3, 0, none⟩) (S.freed.length + 1) c3', .int .i64 ((S.live - 1 : Nat) : Int)] 262 ::
        Row 38 1 v1 S.last.length (irow .u32 S.last) :: Row 4 1 (.slice (some ⟨g2, 0, none⟩) S.used.length c2) (S.used.set m false).length (brow (S.used.set m false)) :: Row 3 1 (.slice (some ⟨g3, 0, none⟩) (S.freed.length + 1) c3') (S.freed ++ [m]).length (irow .i64 (S.freed ++ [m])) :: l)
      rw [e1, brow_set, e3, e4, E5.out]
      exact k
    · obtain ⟨gg, hgg⟩ : ∃ gg : Int, gg = ((id / 1024 : Nat) : Int) := ⟨_, rfl⟩
      have hg' : ¬ gg < 4194303 := by omega
      have HG : Hid (¬ id / 1024 < 4194303) := hg
      have HGG : Hid (((id / 1024 : Nat) : Int) = gg) := hgg.symm
      clear hg hgg
      go_enter Tryz.func173, Tryz.ntmps173
      go_wp2_with (first | (go_at_call 183; refine HLV.out.mono ?_; rintro e w' ⟨rfl, hw⟩; subst hw) | (go_at_call 144; refine (slot_any id _ hid).mono ?_; rw [hm.out]; rintro e w' ⟨rfl, hw⟩; subst hw) | (go_at_call 145; refine (gen_any id _ hid).mono ?_; rw [HGG.out]; rintro e w' ⟨rfl, hw⟩; subst hw))
      go_ret
      refine ⟨rfl, Own.ex_iff.2 ⟨(v1, .slice (some ⟨g2, 0, none⟩) S.used.length c2, .slice a3 S.freed.length c3), ?_⟩⟩
      have k := ((H.out.three.setR m (.bool false)).back3.setC 5 (.int .i64 ((S.live : Int) - 1)))
      rw [HW.out m rfl, if_neg HG.out]
      have e4 : (S.used.set m false).length = S.used.length := by simp
      show Own w0 _ (Cells b #[.int .i64 (S.n : Int), .int .i64 (S.first : Int), v1, .slice (some ⟨g2, 0, none⟩) S.used.length c2, .slice a3 S.freed.length c3, .int .i64 ((S.live - 1 : Nat) : Int)] 262 ::
        Row 38 1 v1 S.last.length (irow .u32 S.last) :: Row 4 1 (.slice (some ⟨g2, 0, none⟩) S.used.length c2) (S.used.set m false).length (brow (S.used.set m false)) :: Row 3 1 (.slice a3 S.freed.length c3) S.freed.length (irow .i64 S.freed) :: l)
      rw [brow_set, e4, E5.out]
      exact k
  · rw [if_neg hlive]
    have hlive' : S.isLive id = false := by simpa using hlive
    rw [hlive'] at HL
    have HLV : Hid (Calls _ _ _ _ _) := HL
    clear HL hlive hlive' h
    go_enter Tryz.func173, Tryz.ntmps173
    go_wp2_with (first | (go_at_call 183; refine HLV.out.mono ?_; rintro e w' ⟨rfl, hw⟩; subst hw))
    go_ret
    exact ⟨rfl, H0.out⟩
set_option maxHeartbeats 400000 in
theorem free_nil (w : World) (id : Int) : Calls Tryz.prog 173 #[.pointer none, .int .u32 id] w fun e w' => e = .returned (.int .i64 10) ∧ w' = w := by
  go_enter Tryz.func173, Tryz.ntmps173
  go_wp2
  go_ret
  exact ⟨rfl, rfl⟩
end Go.Proofs.YtflmgilmbppieaaGreatDoor
