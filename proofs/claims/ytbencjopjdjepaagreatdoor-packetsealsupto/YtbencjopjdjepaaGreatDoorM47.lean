/-
  The packet's reader: all of a packet with entities.
-/
import Derived.Test.YtbencjopjdjepaaGreatDoorM46
import Derived.Defers
import Derived.Recover
import Derived.Deep.RegionHeld3
import Derived.Test.YtbencjopjdjepaaGreatDoorM19
import Derived.Test.YtbencjopjdjepaaGreatDoorM25
import Derived.Deep.RegionLaw
import Derived.Test.YtbencjopjdjepaaGreatDoorM36
namespace Go.Proofs.YtbencjopjdjepaaGreatDoor
open Go.RowKit
set_option linter.unusedVariables false
set_option maxRecDepth 100000

set_option maxHeartbeats 2000000 in
theorem rdallW1 (w0 w : World) (l : List Thing) (b : Nat) (P : List Nat) (t t2 : Nat) (aw : Option Addr) (nw cw : Nat) (N : List En) (h : Own w0 w (RdT b P t :: l)) (c e tk s : Nat) (hR : Right 1 c e tk s) (R : List Bool) (hb : (bitsB P).drop t = headB 1 c e tk s ++ R) (hE : AtEnd P t2)
    (hS : ∀ W X1 X2 X3, Own w0 W (RdT b P (t + (headB 1 c e tk s).length) :: X1 :: X2 :: X3 :: l) → Calls Tryz.prog 117 #[.agg #[.pointer (some ⟨b, 0, none⟩)]] W fun x w' => ∃ ao cap, x = .returned (.slice ao N.length cap) ∧ ∃ M : List EnE, evs M = N ∧ EIn M ∧ Own w0 w' (EntsT ao cap M :: RdT b P t2 :: X1 :: X2 :: X3 :: l)) :
    Calls Tryz.prog 68 #[.agg #[.pointer (some ⟨b, 0, none⟩)], .slice aw nw cw] w fun x w' => ∃ ao cap, x = .returned (.agg #[.int .u8 1, .int .u8 (c : Int), .int .u32 (e : Int), .int .u32 (tk : Int), .int .u32 (s : Int), .slice ao N.length cap]) ∧ ∃ M : List EnE, evs M = N ∧ EIn M ∧ Own w0 w' (EntsT ao cap M :: l) := by
  have h1' := (h.allocC #[.pointer (some ⟨b, 0, none⟩)] 123).allocC #[.int .u8 0, .int .u8 0, .int .u32 0, .int .u32 0, .int .u32 0, .slice none 0 0] 127
  have s1 : (w.alloc (.cells #[.pointer (some ⟨b, 0, none⟩)] 123)).heap.size = w.heap.size + 1 := Array.size_push _
  rw [s1] at h1'
  have q0 := h1'.two.cell 0
  simp at q0
  have HH : Hid (Calls Tryz.prog 65 #[.agg #[.pointer (some ⟨b, 0, none⟩)]] _ fun x w' => x = .returned (.agg #[.int .u8 1, .int .u8 (c : Int), .int .u32 (e : Int), .int .u32 (tk : Int), .int .u32 (s : Int)]) ∧ Own w0 w' (RdT b P (t + (headB 1 c e tk s).length) :: _)) := rdhead w0 _ _ b P t h1'.three 1 c e tk s hR _ hb
  have d1 := drop_next hb rfl
  have HE : Hid (AtEnd P t2) := hE
  have HS : Hid (∀ W X1 X2 X3, Own w0 W (RdT b P (t + (headB 1 c e tk s).length) :: X1 :: X2 :: X3 :: l) → _) := hS
  clear h h1' hb s1 hR hE d1 hS
  generalize (t + (headB 1 c e tk s).length) = t1 at *
  go_enter Tryz.func68, Tryz.ntmps68
  go_wp2_with fail
  refine HH.out.mono ?_
  rintro x w1 ⟨rfl, h1⟩
  generalize hbx : w.heap.size = bx at *
  clear hbx
  have h2 := h1.allocC #[.int .u8 1, .int .u8 (c : Int), .int .u32 (e : Int), .int .u32 (tk : Int), .int .u32 (s : Int), .slice none 0 0] 127
  have q1 := h2.cell 0
  have q2 := h2.four.cell 0
  simp at q1 q2
  have HS1 : Hid (Calls _ _ _ _ _) := HS.out _ _ _ _ h2.two
  clear h1 h2 HH q0 HS
  go_wp2_with fail
  refine HS1.out.mono ?_
  rintro x w2 ⟨ao, cap, rfl, M, hM, hI, h3'⟩
  have HMM : Hid (evs M = N ∧ EIn M) := ⟨hM, hI⟩
  clear hM hI
  generalize w1.heap.size = bt at *
  have h3 : Own w0 w2 ([RdT b P t2, Cells bt #[.int .u8 1, .int .u8 (c : Int), .int .u32 (e : Int), .int .u32 (tk : Int), .int .u32 (s : Int), .slice none 0 0] 127, Cells (bx + 1) #[.int .u8 0, .int .u8 0, .int .u32 0, .int .u32 0, .int .u32 0, .slice none 0 0] 127, Cells bx #[.pointer (some ⟨b, 0, none⟩)] 123] ++ EntsT ao cap M :: l)  := Own.perm List.perm_middle.symm h3'
  replace h3 : Own w0 w2 (RdT b P t2 :: Cells bt #[.int .u8 1, .int .u8 (c : Int), .int .u32 (e : Int), .int .u32 (tk : Int), .int .u32 (s : Int), .slice none 0 0] 127 :: Cells (bx + 1) #[.int .u8 0, .int .u8 0, .int .u32 0, .int .u32 0, .int .u32 0, .slice none 0 0] 127 :: Cells bx #[.pointer (some ⟨b, 0, none⟩)] 123 :: EntsT ao cap M :: l) := h3
  clear h3'
  have z5 := h3.two.froz 5
  have y5 := h3.two.cell 5
  have h4 : Own w0 (w2.setCell ⟨bt, 5, none⟩ (.slice ao N.length cap)) (Cells bt #[.int .u8 1, .int .u8 (c : Int), .int .u32 (e : Int), .int .u32 (tk : Int), .int .u32 (s : Int), .slice ao N.length cap] 127 :: RdT b P t2 :: Cells (bx + 1) #[.int .u8 0, .int .u8 0, .int .u32 0, .int .u32 0, .int .u32 0, .slice none 0 0] 127 :: Cells bx #[.pointer (some ⟨b, 0, none⟩)] 123 :: EntsT ao cap M :: l) := h3.two.setC 5 (.slice ao N.length cap)
  have q3 := h4.four.cell 0
  simp at q3 y5
  have HN : Hid (Calls _ _ _ _ _) := end_own w0 _ _ b P t2 h4.two HE.out.1 HE.out.2
  clear h3 h4 HS1 q1 q2
  go_wp2_with fail
  refine HN.out.mono ?_
  rintro x w3 ⟨rfl, h5⟩
  have HM : Hid (Calls _ _ _ _ _) := must_ok w3
  have H5 : Hid (Own w0 w3 (Cells bt #[.int .u8 1, .int .u8 (c : Int), .int .u32 (e : Int), .int .u32 (tk : Int), .int .u32 (s : Int), .slice ao N.length cap] 127 :: RdT b P t2 :: Cells (bx + 1) #[.int .u8 0, .int .u8 0, .int .u32 0, .int .u32 0, .int .u32 0, .slice none 0 0] 127 :: Cells bx #[.pointer (some ⟨b, 0, none⟩)] 123 :: EntsT ao cap M :: l)) := h5.two
  clear h5 HN q3 z5 y5
  go_wp2_with fail
  refine HM.out.mono ?_
  rintro x w4 ⟨rfl, rfl⟩
  have p0 := H5.out.cell 0
  have p1 := H5.out.cell 1
  have p2 := H5.out.cell 2
  have p3 := H5.out.cell 3
  have p4 := H5.out.cell 4
  have p5 := H5.out.cell 5
  simp at p0 p1 p2 p3 p4 p5
  have f0 := H5.out.three.froz 0
  have r0 := H5.out.three.cell 0
  have f1 := H5.out.three.froz 1
  have r1 := H5.out.three.cell 1
  have f2 := H5.out.three.froz 2
  have r2 := H5.out.three.cell 2
  have f3 := H5.out.three.froz 3
  have r3 := H5.out.three.cell 3
  have f4 := H5.out.three.froz 4
  have r4 := H5.out.three.cell 4
  have f5 := H5.out.three.froz 5
  have r5 := H5.out.three.cell 5
  simp at r0 r1 r2 r3 r4 r5
  have H10 : Hid (Own w0 ((((((w4.setCell ⟨bx + 1, 0, none⟩ (.int .u8 1)).setCell ⟨bx + 1, 1, none⟩ (.int .u8 (c : Int))).setCell ⟨bx + 1, 2, none⟩ (.int .u32 (e : Int))).setCell ⟨bx + 1, 3, none⟩ (.int .u32 (tk : Int))).setCell ⟨bx + 1, 4, none⟩ (.int .u32 (s : Int))).setCell ⟨bx + 1, 5, none⟩ (.slice ao N.length cap)) (Cells (bx + 1) #[.int .u8 1, .int .u8 (c : Int), .int .u32 (e : Int), .int .u32 (tk : Int), .int .u32 (s : Int), .slice ao N.length cap] 127 :: Cells bt #[.int .u8 1, .int .u8 (c : Int), .int .u32 (e : Int), .int .u32 (tk : Int), .int .u32 (s : Int), .slice ao N.length cap] 127 :: RdT b P t2 :: Cells bx #[.pointer (some ⟨b, 0, none⟩)] 123 :: EntsT ao cap M :: l)) := ((((((H5.out.three.setC 0 (.int .u8 1)).setC 1 (.int .u8 (c : Int))).setC 2 (.int .u32 (e : Int))).setC 3 (.int .u32 (tk : Int))).setC 4 (.int .u32 (s : Int))).setC 5 (.slice ao N.length cap))
  clear H5 HM
  go_wp2
  (try simp only [Exit.inBlock, Exit.then])
  refine bodyPost_ret (results_cell_row rfl _ _ (bx + 1) 127 #[.int .u8 1, .int .u8 (c : Int), .int .u32 (e : Int), .int .u32 (tk : Int), .int .u32 (s : Int), .slice ao N.length cap] _ _ rfl H10.out.obj Tryz.underlying127 rfl (by kernel_rfl)) rfl ?_
  exact ⟨ao, cap, rfl, M, HMM.out.1, HMM.out.2, H10.out.tail.tail.tail.tail⟩
set_option maxHeartbeats 2000000 in
theorem rdallW2 (w0 w : World) (l : List Thing) (b : Nat) (P : List Nat) (t t2 : Nat) (aw : Option Addr) (nw cw : Nat) (N : List En) (h : Own w0 w (RdT b P t :: l)) (c e tk s : Nat) (hR : Right 2 c e tk s) (R : List Bool) (hb : (bitsB P).drop t = headB 2 c e tk s ++ R) (hE : AtEnd P t2)
    (hS : ∀ W X1 X2 X3, Own w0 W (RdT b P (t + (headB 2 c e tk s).length) :: X1 :: X2 :: X3 :: l) → Calls Tryz.prog 118 #[.agg #[.pointer (some ⟨b, 0, none⟩)], .slice aw nw cw] W fun x w' => ∃ ao cap, x = .returned (.slice ao N.length cap) ∧ ∃ M : List EnE, evs M = N ∧ EIn M ∧ Own w0 w' (EntsT ao cap M :: RdT b P t2 :: X1 :: X2 :: X3 :: l)) :
    Calls Tryz.prog 68 #[.agg #[.pointer (some ⟨b, 0, none⟩)], .slice aw nw cw] w fun x w' => ∃ ao cap, x = .returned (.agg #[.int .u8 2, .int .u8 (c : Int), .int .u32 (e : Int), .int .u32 (tk : Int), .int .u32 (s : Int), .slice ao N.length cap]) ∧ ∃ M : List EnE, evs M = N ∧ EIn M ∧ Own w0 w' (EntsT ao cap M :: l) := by
  have h1' := (h.allocC #[.pointer (some ⟨b, 0, none⟩)] 123).allocC #[.int .u8 0, .int .u8 0, .int .u32 0, .int .u32 0, .int .u32 0, .slice none 0 0] 127
  have s1 : (w.alloc (.cells #[.pointer (some ⟨b, 0, none⟩)] 123)).heap.size = w.heap.size + 1 := Array.size_push _
  rw [s1] at h1'
  have q0 := h1'.two.cell 0
  simp at q0
  have HH : Hid (Calls Tryz.prog 65 #[.agg #[.pointer (some ⟨b, 0, none⟩)]] _ fun x w' => x = .returned (.agg #[.int .u8 2, .int .u8 (c : Int), .int .u32 (e : Int), .int .u32 (tk : Int), .int .u32 (s : Int)]) ∧ Own w0 w' (RdT b P (t + (headB 2 c e tk s).length) :: _)) := rdhead w0 _ _ b P t h1'.three 2 c e tk s hR _ hb
  have d1 := drop_next hb rfl
  have HE : Hid (AtEnd P t2) := hE
  have HS : Hid (∀ W X1 X2 X3, Own w0 W (RdT b P (t + (headB 2 c e tk s).length) :: X1 :: X2 :: X3 :: l) → _) := hS
  clear h h1' hb s1 hR hE d1 hS
  generalize (t + (headB 2 c e tk s).length) = t1 at *
  go_enter Tryz.func68, Tryz.ntmps68
  go_wp2_with fail
  refine HH.out.mono ?_
  rintro x w1 ⟨rfl, h1⟩
  generalize hbx : w.heap.size = bx at *
  clear hbx
  have h2 := h1.allocC #[.int .u8 2, .int .u8 (c : Int), .int .u32 (e : Int), .int .u32 (tk : Int), .int .u32 (s : Int), .slice none 0 0] 127
  have q1 := h2.cell 0
  have q2 := h2.four.cell 0
  simp at q1 q2
  have HS1 : Hid (Calls _ _ _ _ _) := HS.out _ _ _ _ h2.two
  clear h1 h2 HH q0 HS
  go_wp2_with fail
  refine HS1.out.mono ?_
  rintro x w2 ⟨ao, cap, rfl, M, hM, hI, h3'⟩
  have HMM : Hid (evs M = N ∧ EIn M) := ⟨hM, hI⟩
  clear hM hI
  generalize w1.heap.size = bt at *
  have h3 : Own w0 w2 ([RdT b P t2, Cells bt #[.int .u8 2, .int .u8 (c : Int), .int .u32 (e : Int), .int .u32 (tk : Int), .int .u32 (s : Int), .slice none 0 0] 127, Cells (bx + 1) #[.int .u8 0, .int .u8 0, .int .u32 0, .int .u32 0, .int .u32 0, .slice none 0 0] 127, Cells bx #[.pointer (some ⟨b, 0, none⟩)] 123] ++ EntsT ao cap M :: l)  := Own.perm List.perm_middle.symm h3'
  replace h3 : Own w0 w2 (RdT b P t2 :: Cells bt #[.int .u8 2, .int .u8 (c : Int), .int .u32 (e : Int), .int .u32 (tk : Int), .int .u32 (s : Int), .slice none 0 0] 127 :: Cells (bx + 1) #[.int .u8 0, .int .u8 0, .int .u32 0, .int .u32 0, .int .u32 0, .slice none 0 0] 127 :: Cells bx #[.pointer (some ⟨b, 0, none⟩)] 123 :: EntsT ao cap M :: l) := h3
  clear h3'
  have z5 := h3.two.froz 5
  have y5 := h3.two.cell 5
  have h4 : Own w0 (w2.setCell ⟨bt, 5, none⟩ (.slice ao N.length cap)) (Cells bt #[.int .u8 2, .int .u8 (c : Int), .int .u32 (e : Int), .int .u32 (tk : Int), .int .u32 (s : Int), .slice ao N.length cap] 127 :: RdT b P t2 :: Cells (bx + 1) #[.int .u8 0, .int .u8 0, .int .u32 0, .int .u32 0, .int .u32 0, .slice none 0 0] 127 :: Cells bx #[.pointer (some ⟨b, 0, none⟩)] 123 :: EntsT ao cap M :: l) := h3.two.setC 5 (.slice ao N.length cap)
  have q3 := h4.four.cell 0
  simp at q3 y5
  have HN : Hid (Calls _ _ _ _ _) := end_own w0 _ _ b P t2 h4.two HE.out.1 HE.out.2
  clear h3 h4 HS1 q1 q2
  go_wp2_with fail
  refine HN.out.mono ?_
  rintro x w3 ⟨rfl, h5⟩
  have HM : Hid (Calls _ _ _ _ _) := must_ok w3
  have H5 : Hid (Own w0 w3 (Cells bt #[.int .u8 2, .int .u8 (c : Int), .int .u32 (e : Int), .int .u32 (tk : Int), .int .u32 (s : Int), .slice ao N.length cap] 127 :: RdT b P t2 :: Cells (bx + 1) #[.int .u8 0, .int .u8 0, .int .u32 0, .int .u32 0, .int .u32 0, .slice none 0 0] 127 :: Cells bx #[.pointer (some ⟨b, 0, none⟩)] 123 :: EntsT ao cap M :: l)) := h5.two
  clear h5 HN q3 z5 y5
  go_wp2_with fail
  refine HM.out.mono ?_
  rintro x w4 ⟨rfl, rfl⟩
  have p0 := H5.out.cell 0
  have p1 := H5.out.cell 1
  have p2 := H5.out.cell 2
  have p3 := H5.out.cell 3
  have p4 := H5.out.cell 4
  have p5 := H5.out.cell 5
  simp at p0 p1 p2 p3 p4 p5
  have f0 := H5.out.three.froz 0
  have r0 := H5.out.three.cell 0
  have f1 := H5.out.three.froz 1
  have r1 := H5.out.three.cell 1
  have f2 := H5.out.three.froz 2
  have r2 := H5.out.three.cell 2
  have f3 := H5.out.three.froz 3
  have r3 := H5.out.three.cell 3
  have f4 := H5.out.three.froz 4
  have r4 := H5.out.three.cell 4
  have f5 := H5.out.three.froz 5
  have r5 := H5.out.three.cell 5
  simp at r0 r1 r2 r3 r4 r5
  have H10 : Hid (Own w0 ((((((w4.setCell ⟨bx + 1, 0, none⟩ (.int .u8 2)).setCell ⟨bx + 1, 1, none⟩ (.int .u8 (c : Int))).setCell ⟨bx + 1, 2, none⟩ (.int .u32 (e : Int))).setCell ⟨bx + 1, 3, none⟩ (.int .u32 (tk : Int))).setCell ⟨bx + 1, 4, none⟩ (.int .u32 (s : Int))).setCell ⟨bx + 1, 5, none⟩ (.slice ao N.length cap)) (Cells (bx + 1) #[.int .u8 2, .int .u8 (c : Int), .int .u32 (e : Int), .int .u32 (tk : Int), .int .u32 (s : Int), .slice ao N.length cap] 127 :: Cells bt #[.int .u8 2, .int .u8 (c : Int), .int .u32 (e : Int), .int .u32 (tk : Int), .int .u32 (s : Int), .slice ao N.length cap] 127 :: RdT b P t2 :: Cells bx #[.pointer (some ⟨b, 0, none⟩)] 123 :: EntsT ao cap M :: l)) := ((((((H5.out.three.setC 0 (.int .u8 2)).setC 1 (.int .u8 (c : Int))).setC 2 (.int .u32 (e : Int))).setC 3 (.int .u32 (tk : Int))).setC 4 (.int .u32 (s : Int))).setC 5 (.slice ao N.length cap))
  clear H5 HM
  go_wp2
  (try simp only [Exit.inBlock, Exit.then])
  refine bodyPost_ret (results_cell_row rfl _ _ (bx + 1) 127 #[.int .u8 2, .int .u8 (c : Int), .int .u32 (e : Int), .int .u32 (tk : Int), .int .u32 (s : Int), .slice ao N.length cap] _ _ rfl H10.out.obj Tryz.underlying127 rfl (by kernel_rfl)) rfl ?_
  exact ⟨ao, cap, rfl, M, HMM.out.1, HMM.out.2, H10.out.tail.tail.tail.tail⟩
end Go.Proofs.YtbencjopjdjepaaGreatDoor

/-
  A call that is caught: the deferred closure where nothing has panicked.
-/
namespace Go.Proofs.YtbencjopjdjepaaGreatDoor
open Go.RowKit
set_option linter.unusedVariables false
set_option maxRecDepth 100000

set_option maxHeartbeats 400000 in
theorem catch_idle (p : Addr) (w : World) :
    CallsD Tryz.prog 116 #[.pointer (some p)] .returning w fun e u' w' => e = .returned (.tuple #[]) ∧ u' = .returning ∧ w' = w := by
  refine callsD_of_wpS Tryz.func116 rfl fun c₀ cs hu => ?_
  apply wpS_seq
  apply wpS_region
  simp [wpOpsS, go_sem, recoverD, hu, Tryz.ntmps116, Exit.thenS]
  refine wpS_of_wp ?_
  go_wp2
  cases c₀
  simp_all [bodyPostS, results, Tryz.results116]
end Go.Proofs.YtbencjopjdjepaaGreatDoor

/-
  packet.Open of the frame of a packet that has no entities.
-/
namespace Go.Proofs.YtbencjopjdjepaaGreatDoor
open Go.RowKit
set_option linter.unusedVariables false
set_option maxRecDepth 100000

theorem num_zerosh (n : Nat) : num (List.replicate n false) = 0 := by
  induction n with
  | zero => rfl
  | succ n ih => simp [List.replicate_succ, num, ih]
theorem atEnd_pack (L : List Bool) : AtEnd (pack L) L.length := by
  have hp : (pack L).length = nb L.length := by simp [pack]
  have hle : L.length ≤ 8 * nb L.length ∧ 8 * nb L.length < L.length + 8 := by unfold nb; omega
  refine ⟨by rw [hp]; omega, ?_⟩
  unfold numAt
  rw [hp, bitsB_pack, List.drop_left, List.take_of_length_le (by rw [List.length_replicate]; exact Nat.le_refl _)]
  exact num_zerosh _
theorem perm_o (X Y A B C D : Thing) (l : List Thing) : (A :: D :: X :: Y :: B :: C :: l).Perm (X :: Y :: A :: B :: C :: D :: l) := by
  have h1 : ([0, 1, 2, 3, 4, 5] : List Nat).Perm [2, 3, 0, 4, 5, 1] := by decide
  exact (h1.map (ix8 A D X Y B C C C)).append_right l
end Go.Proofs.YtbencjopjdjepaaGreatDoor

