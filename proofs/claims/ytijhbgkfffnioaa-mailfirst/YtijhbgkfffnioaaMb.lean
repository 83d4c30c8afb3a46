/-
  Put and Take of boxes: a select of one case with a default.
-/
import Derived.Test.YtijhbgkfffnioaaMa
namespace Go.Proofs.Ytijhbgkfffnioaa
open Go.RowKit Go.Conc
set_option linter.unusedVariables false

set_option maxHeartbeats 1000000 in
set_option maxRecDepth 100000 in
theorem mput_room (w0 w : World) (l : List Thing) (b n : Nat) (L : List Int) (x : Int) (h : Own w0 w (Bx b n L :: l)) (hr : L.length < n) :
    Calls Try.prog 17 #[.pointer (some ⟨b, 0, none⟩), .int .i64 x] w fun e w' => e = .returned (.int .i64 0) ∧ Own w0 w' (Bx b n (L ++ [x]) :: l) := by
  obtain ⟨c, s, r, q0, hc, hO⟩ := h.bx
  have HO : Hid _ := hO (L ++ [x])
  clear h hO
  refine calls_of_loneTo (fun cs => ?_) ?_
  · have e : Frame.enter Try.prog 17 #[.pointer (some ⟨b, 0, none⟩), .int .i64 x] .normal = (base 17).at ⟨#[.pointer (some ⟨b, 0, none⟩), .int .i64 x, undef, undef, undef, undef, undef, undef, undef, undef, undef, undef, undef, undef, undef], []⟩ [.code (Try.f17.body.getD .skip)] := by
      simp [Frame.enter, Frame.at, Try.func17, base, Try.f17]
    rw [e]
    refine LoneTo.goes (n := 25) ?_
    simp only [Try.f17, Option.getD_some]
    s_c stepG_seq
    s_reg
    s_op
    s_c stepG_region_end
    s_c stepG_seq
    s_c stepG_seq
    s_reg
    s_op
    s_op
    s_c stepG_region_end
    s_cond false
    s_c stepG_skip
    s_c stepG_seq
    s_c stepG_seq
    s_reg
    s_op
    s_op
    s_op
    s_op
    s_c stepG_region_end
    s_reg
    s_op
    s_c stepG_region_end
    s_c stepG_seq
    s_reg
    s_stop
    refine LoneTo.step (step_lone_select_send_room (c := c) (cap := n) (buf := (lrow L).toArray) (s := s) (r := r) (tm := false) (v := .int .i64 x) (z' := .int .i64 0)
      (stepG_comm (cases := #[scase c (.int .i64 x) (.int .i64 0)]) (blocking := false) (shape := .select) (w' := w) rfl rfl (by decide) (by simp [go_sem, execOp, scase, Act.eval])) hc (by simpa [lrow] using hr)) ?_
    rw [Frame.finish_at]
    walk_nrm
    refine LoneTo.goes (n := 10) ?_
    s_op
    s_op
    s_c stepG_region_end
    s_c stepG_block
    s_cond true
    s_c stepG_seq
    s_reg
    s_op
    s_c stepG_region_end
    s_c stepG_ret'
    s_stop
    refine LoneTo.done ⟨.returned (.int .i64 0), _, rfl, ⟨rfl, ?_⟩, rfl, rfl, rfl, rfl, _, Try.func17, by simp [results, Try.f17, Frame.at]⟩
    have := HO.out (s + 1) r
    simpa [lrow] using this
  · rintro w' ⟨h, _⟩; cases h
set_option maxHeartbeats 1000000 in
set_option maxRecDepth 100000 in
theorem mput_full (w0 w : World) (l : List Thing) (b n : Nat) (L : List Int) (x : Int) (h : Own w0 w (Bx b n L :: l)) (hr : n ≤ L.length) :
    Calls Try.prog 17 #[.pointer (some ⟨b, 0, none⟩), .int .i64 x] w fun e w' => e = .returned (.int .i64 8) ∧ Own w0 w' (Bx b n L :: l) := by
  obtain ⟨c, s, r, q0, hc, hO⟩ := h.bx
  have HO : Hid _ := h
  clear h hO
  refine calls_of_loneTo (fun cs => ?_) ?_
  · have e : Frame.enter Try.prog 17 #[.pointer (some ⟨b, 0, none⟩), .int .i64 x] .normal = (base 17).at ⟨#[.pointer (some ⟨b, 0, none⟩), .int .i64 x, undef, undef, undef, undef, undef, undef, undef, undef, undef, undef, undef, undef, undef], []⟩ [.code (Try.f17.body.getD .skip)] := by
      simp [Frame.enter, Frame.at, Try.func17, base, Try.f17]
    rw [e]
    refine LoneTo.goes (n := 25) ?_
    simp only [Try.f17, Option.getD_some]
    s_c stepG_seq
    s_reg
    s_op
    s_c stepG_region_end
    s_c stepG_seq
    s_c stepG_seq
    s_reg
    s_op
    s_op
    s_c stepG_region_end
    s_cond false
    s_c stepG_skip
    s_c stepG_seq
    s_c stepG_seq
    s_reg
    s_op
    s_op
    s_op
    s_op
    s_c stepG_region_end
    s_reg
    s_op
    s_c stepG_region_end
    s_c stepG_seq
    s_reg
    s_stop
    refine LoneTo.step (step_lone_select_send_full (c := c) (cap := n) (buf := (lrow L).toArray) (s := s) (r := r) (tm := false) (v := .int .i64 x) (z' := .int .i64 0)
      (stepG_comm (cases := #[scase c (.int .i64 x) (.int .i64 0)]) (blocking := false) (shape := .select) (w' := w) rfl rfl (by decide) (by simp [go_sem, execOp, scase, Act.eval])) hc (by simpa [lrow] using hr)) ?_
    rw [Frame.finish_at]
    walk_nrm
    refine LoneTo.goes (n := 10) ?_
    s_op
    s_op
    s_c stepG_region_end
    s_c stepG_block
    s_cond false
    s_c stepG_seq
    s_reg
    s_op
    s_c stepG_region_end
    s_c stepG_ret'
    s_stop
    exact LoneTo.done ⟨.returned (.int .i64 8), _, rfl, ⟨rfl, HO.out⟩, rfl, rfl, rfl, rfl, _, Try.func17, by simp [results, Try.f17, Frame.at]⟩
  · rintro w' ⟨h, _⟩; cases h
theorem mput_nil (w : World) (x : Int) : Calls Try.prog 17 #[.pointer none, .int .i64 x] w fun e w' => e = .returned (.int .i64 10) ∧ w' = w := by
  go_enter Try.func17, Try.ntmps17
  go_wp2
  go_ret
  exact ⟨rfl, rfl⟩
set_option maxHeartbeats 1000000 in
set_option maxRecDepth 100000 in
theorem mtake_some (w0 w : World) (l : List Thing) (b n : Nat) (L : List Int) (x : Int) (h : Own w0 w (Bx b n (x :: L) :: l)) :
    Calls Try.prog 21 #[.pointer (some ⟨b, 0, none⟩)] w fun e w' => e = .returned (.tuple #[.int .i64 x, .bool true]) ∧ Own w0 w' (Bx b n L :: l) := by
  obtain ⟨c, s, r, q0, hc, hO⟩ := h.bx
  have HO : Hid _ := hO L
  clear h hO
  refine calls_of_loneTo (fun cs => ?_) ?_
  · have e : Frame.enter Try.prog 21 #[.pointer (some ⟨b, 0, none⟩)] .normal = (base 21).at ⟨#[.pointer (some ⟨b, 0, none⟩), undef, undef, undef, undef, undef, undef, undef, undef, undef, undef, undef, undef, undef, undef, undef, undef, undef, undef], []⟩ [.code (Try.f21.body.getD .skip)] := by
      simp [Frame.enter, Frame.at, Try.func21, base, Try.f21]
    rw [e]
    refine LoneTo.goes (n := 27) ?_
    simp only [Try.f21, Option.getD_some]
    s_c stepG_seq
    s_reg
    s_op
    s_op
    s_c stepG_region_end
    s_c stepG_seq
    s_reg
    s_op
    s_c stepG_region_end
    s_c stepG_seq
    s_c stepG_seq
    s_reg
    s_op
    s_op
    s_c stepG_region_end
    s_cond false
    s_c stepG_skip
    s_c stepG_seq
    s_reg
    s_op
    s_op
    s_op
    s_op
    s_c stepG_region_end
    s_c stepG_seq
    s_reg
    s_stop
    refine LoneTo.step (step_lone_select_recv_buf (c := c) (cap := n) (buf := (lrow (x :: L)).toArray) (closed := false) (s := s) (r := r) (tm := false) (z := .int .i64 0)
      (stepG_comm (cases := #[rcase c (.int .i64 0)]) (blocking := false) (shape := .select) (w' := w) rfl rfl (by decide) (by simp [go_sem, execOp, rcase, Act.eval])) hc (by simp [lrow])) ?_
    have e1 : ((lrow (x :: L)).toArray).getD 0 undef = .int .i64 x := by simp [lrow]
    have e2 : ((lrow (x :: L)).toArray).extract 1 ((lrow (x :: L)).toArray).size = (lrow L).toArray := by simp [lrow]; exact List.take_of_length_le (by simp)
    rw [Frame.finish_at, e1, e2]
    walk_nrm
    refine LoneTo.goes (n := 17) ?_
    s_op
    s_op
    s_c stepG_region_end
    s_c stepG_block
    s_cond true
    s_c stepG_seq
    s_reg
    s_op
    s_op
    s_c stepG_region_end
    s_c stepG_seq
    s_reg
    s_op
    s_op
    s_op
    s_c stepG_region_end
    s_c stepG_ret'
    s_stop
    exact LoneTo.done ⟨.returned (.tuple #[.int .i64 x, .bool true]), _, rfl, ⟨rfl, HO.out s (r + 1)⟩, rfl, rfl, rfl, rfl, _, Try.func21, by simp [results, Try.f21, Frame.at]⟩
  · rintro w' ⟨h, _⟩; cases h
set_option maxHeartbeats 1000000 in
set_option maxRecDepth 100000 in
theorem mtake_none (w0 w : World) (l : List Thing) (b n : Nat) (h : Own w0 w (Bx b n [] :: l)) :
    Calls Try.prog 21 #[.pointer (some ⟨b, 0, none⟩)] w fun e w' => e = .returned (.tuple #[.int .i64 0, .bool false]) ∧ Own w0 w' (Bx b n [] :: l) := by
  obtain ⟨c, s, r, q0, hc, hO⟩ := h.bx
  have HO : Hid _ := h
  clear h hO
  refine calls_of_loneTo (fun cs => ?_) ?_
  · have e : Frame.enter Try.prog 21 #[.pointer (some ⟨b, 0, none⟩)] .normal = (base 21).at ⟨#[.pointer (some ⟨b, 0, none⟩), undef, undef, undef, undef, undef, undef, undef, undef, undef, undef, undef, undef, undef, undef, undef, undef, undef, undef], []⟩ [.code (Try.f21.body.getD .skip)] := by
      simp [Frame.enter, Frame.at, Try.func21, base, Try.f21]
    rw [e]
    refine LoneTo.goes (n := 27) ?_
    simp only [Try.f21, Option.getD_some]
    s_c stepG_seq
    s_reg
    s_op
    s_op
    s_c stepG_region_end
    s_c stepG_seq
    s_reg
    s_op
    s_c stepG_region_end
    s_c stepG_seq
    s_c stepG_seq
    s_reg
    s_op
    s_op
    s_c stepG_region_end
    s_cond false
    s_c stepG_skip
    s_c stepG_seq
    s_reg
    s_op
    s_op
    s_op
    s_op
    s_c stepG_region_end
    s_c stepG_seq
    s_reg
    s_stop
    refine LoneTo.step (step_lone_select_default (c := c) (cap := n) (s := s) (r := r) (tm := false) (z := .int .i64 0)
      (stepG_comm (cases := #[rcase c (.int .i64 0)]) (blocking := false) (shape := .select) (w' := w) rfl rfl (by decide) (by simp [go_sem, execOp, rcase, Act.eval])) hc) ?_
    rw [Frame.finish_at]
    walk_nrm
    refine LoneTo.goes (n := 12) ?_
    s_op
    s_op
    s_c stepG_region_end
    s_c stepG_block
    s_cond false
    s_c stepG_seq
    s_reg
    s_op
    s_op
    s_op
    s_c stepG_region_end
    s_c stepG_ret'
    s_stop
    exact LoneTo.done ⟨.returned (.tuple #[.int .i64 0, .bool false]), _, rfl, ⟨rfl, HO.out⟩, rfl, rfl, rfl, rfl, _, Try.func21, by simp [results, Try.f21, Frame.at]⟩
  · rintro w' ⟨h, _⟩; cases h
theorem mtake_nil (w : World) : Calls Try.prog 21 #[.pointer none] w fun e w' => e = .returned (.tuple #[.int .i64 0, .bool false]) ∧ w' = w := by
  go_enter Try.func21, Try.ntmps21
  go_wp2
  go_ret2
  exact ⟨rfl, rfl⟩
end Go.Proofs.Ytijhbgkfffnioaa
