/-
  Package slots: Take, Free, Live, Len, Room.
-/
import Derived.Test.YtflmgilmbppieaaGreatDoorXb
namespace Go.Proofs.YtflmgilmbppieaaGreatDoor
open Go.RowKit
set_option linter.unusedVariables false

set_option maxHeartbeats 1000000 in
set_option maxRecDepth 100000 in
theorem again0 (w : World) (b g1 g2 g3 n1 n2 k c1 c2 c3 f x : Nat) (lv : Int) (hx : x + 1024 < 4294967296) (hf1 : f < n1) (hf2 : f < n2) (hl0 : 0 ≤ lv) (hl1 : lv ≤ 1024) (hk : k ≤ 1024) (hkc : k ≤ c3)
    (q2 : w.cell? ⟨b, 2, none⟩ = some (.slice (some ⟨g1, 0, none⟩) n1 c1)) (q3 : w.cell? ⟨b, 3, none⟩ = some (.slice (some ⟨g2, 0, none⟩) n2 c2)) (q4 : w.cell? ⟨b, 4, none⟩ = some (.slice (some ⟨g3, 0, none⟩) (k + 1) c3)) (q5 : w.cell? ⟨b, 5, none⟩ = some (.int .i64 lv))
    (z4 : w.frozen? ⟨b, 4, none⟩ = false) (z5 : w.frozen? ⟨b, 5, none⟩ = false) (p3 : w.cell? ⟨g3, k, none⟩ = some (.int .i64 (f : Int))) (p1 : w.cell? ⟨g1, f, none⟩ = some (.int .u32 (x : Int))) (y1 : w.frozen? ⟨g1, f, none⟩ = false) (y2 : w.frozen? ⟨g2, f, none⟩ = false)
    (e1 : g1 ≠ b) (e2 : g2 ≠ b) (e3 : g3 ≠ b) (e12 : g1 ≠ g2) (p2 : ∃ u, w.cell? ⟨g2, f, none⟩ = some u) :
    Calls Tryz.prog 243 #[.pointer (some ⟨b, 0, none⟩)] w fun e w' => e = .returned (.int .u32 ((x + 1024 : Nat) : Int)) ∧
      w' = (((w.setCell ⟨b, 4, none⟩ (.slice (some ⟨g3, 0, none⟩) k c3)).setCell ⟨g1, f, none⟩ (.int .u32 ((x + 1024 : Nat) : Int))).setCell ⟨g2, f, none⟩ (.bool true)).setCell ⟨b, 5, none⟩ (.int .i64 (lv + 1)) := by
  obtain ⟨u2, p2⟩ := p2
  have hx' : ((x + 1024 : Nat) : Int) = (x : Int) + 1024 := by omega
  go_enter Tryz.func243, Tryz.ntmps243
  go_wp2
  go_ret
  exact ⟨ret_int (by omega), by rw [hx']⟩

set_option maxHeartbeats 1000000 in
set_option maxRecDepth 100000 in
theorem takeNew_ok (w0 w : World) (l : List Thing) (b : Nat) (S : St) (h : Own w0 w (Slots b S :: l)) (hS : S.Ok) (hl : S.last.length < S.n) :
    Calls Tryz.prog 244 #[.pointer (some ⟨b, 0, none⟩)] w fun e w' => e = .returned (.int .u32 ((S.first * 1024 + S.last.length : Nat) : Int)) ∧ Own w0 w' (Slots b S.more :: l) := by
  obtain ⟨⟨v1, v2, v3⟩, h⟩ := Own.ex_iff.1 h
  obtain ⟨i0, hi, hz0, hz1, hz2⟩ := info_parts Tryz.infoID
  obtain ⟨i1, hi1, hz10, hz11, hz12⟩ := info_parts Tryz.infoBool
  have hn := hS.n2
  have hf := hS.f2
  have hlv : S.live ≤ 1024 := by have := hS.cnt; have := hS.le; omega
  have hul := hS.ul
  have q1 := h.cell 1
  have q2 := h.cell 2
  obtain ⟨a1, c1, rfl⟩ : ∃ a c, v1 = .slice a S.last.length c := by
    rcases h.two.row.2 with ⟨rfl, e⟩ | ⟨g, cap, cur, rfl, _⟩
    · exact ⟨_, _, by rw [e]⟩
    · exact ⟨_, _, rfl⟩
  have H : Hid (Own w0 w _) := h
  have HS : Hid S.Ok := hS
  clear h hS
  simp at q1 q2
  go_enter Tryz.func244, Tryz.ntmps244
  go_wp2
  go_quiet ((go_at_call 186; exact Calls.quiet_of_same (number_any S.last.length S.first _ (by omega) (by omega))))
  go_wp2_with (at_builtin; refine append1_own rfl _ _ 55 rfl 38 i0 (.int .u32 0) 1 4 Tryz.underlying55 hi hz0 hz1 hz2 rfl (by decide) _ _ _ rfl (H.out.drewN _).two _ _ (by simp) rfl rfl (one_int _ _) (by unfold maxLen; omega) (by omega) ?_)
  intro g1 c1' w1 hO hsz
  have q3 := hO.two.cell 3
  have k2 := hO.two.cell 2
  have z2 := hO.two.froz 2
  have H1 : Hid (Own w0 w1 _) := hO
  clear hO H q1 q2
  simp at q3 k2
  go_wp2_with (at_builtin; refine append1_own rfl _ _ 259 rfl 4 i1 (.bool false) 1 1 Tryz.underlying259 hi1 hz10 hz11 hz12 rfl (by decide) _ _ _ rfl (H1.out.two.setC 2 (.slice (some ⟨g1, 0, none⟩) (S.last.length + 1) c1')).three _ _ (by simp) rfl rfl (one_bool _) (by unfold maxLen; omega) (by omega) ?_)
  intro g2 c2' w2 hO2 hsz2
  have k3 := hO2.two.cell 3
  have z3 := hO2.two.froz 3
  have z5 := hO2.two.froz 5
  have q5 := hO2.two.cell 5
  have H2 : Hid (Own w0 w2 _) := hO2
  clear hO2 H1 q3 k2
  simp at q5 k3
  go_wp2
  go_ret
  refine ⟨ret_int (by omega), Own.ex_iff.2 ⟨(.slice (some ⟨g1, 0, none⟩) (S.last.length + 1) c1', .slice (some ⟨g2, 0, none⟩) (S.last.length + 1) c2', v3), ?_⟩⟩
  have k := ((H2.out.two.setC 3 (.slice (some ⟨g2, 0, none⟩) (S.last.length + 1) c2')).setC 5 (.int .i64 ((S.live : Int) + 1))).in23
  have e1 : irow .u32 S.more.last = irow .u32 S.last ++ [.int .u32 ((S.first : Int) * 1024 + (S.last.length : Int))] := by simp [irow, St.more]
  have e2 : brow S.more.used = brow S.used ++ [.bool true] := by simp [brow, St.more]
  have e3 : S.more.last.length = S.last.length + 1 := by simp [St.more]
  have e4 : S.more.used.length = S.last.length + 1 := by simp [St.more, hul]
  have e5 : (S.more.live : Int) = (S.live : Int) + 1 := by simp [St.more]
  rw [e1, e2, e3, e4, e5]
  exact k
end Go.Proofs.YtflmgilmbppieaaGreatDoor
