/-
  The packet's reader: a head that is there is read.
-/
import Derived.Test.YtbencjopjdjepaaGreatDoorM36
import Derived.Deep.RegionHeld3
import Derived.Test.YtbencjopjdjepaaGreatDoorM14
import Derived.Shelf.SlSortCmp.WholeK
namespace Go.Proofs.YtbencjopjdjepaaGreatDoor
open Go.RowKit
set_option linter.unusedVariables false
set_option maxRecDepth 100000

theorem bfit2 {t s : Nat} (h : bfit 2 t s = true) : s < t := by unfold bfit at h; simpa using h
theorem headB_split {k c e tk s : Nat} {L R : List Bool} (h : L = headB k c e tk s ++ R) : L = bitsN (wid 1 5) (k - 1) ++ (bitsN (wid 0 15) c ++ (var e ++ ((if hasT k = true then bitsN 32 tk else []) ++ ((if k = 2 then var (tk - s - 1) else []) ++ R)))) := by
  rw [h]; unfold headB; simp only [List.append_assoc]
set_option maxHeartbeats 4000000 in
theorem rdhead1 (w0 w : World) (l : List Thing) (b : Nat) (P : List Nat) (t : Nat) (h : Own w0 w (RdT b P t :: l)) (c e tk s : Nat) (hR : Right 2 c e tk s) (R : List Bool) (hb : (bitsB P).drop t = headB 2 c e tk s ++ R) (hT : hasT 2 = true) :
    Calls Tryz.prog 65 #[.agg #[.pointer (some ⟨b, 0, none⟩)]] w fun x w' => x = .returned (.agg (hvs 2 c e tk s)) ∧ Own w0 w' (RdT b P (t + (headB 2 c e tk s).length) :: l) := by
  have h1 := ((h.allocC #[.pointer (some ⟨b, 0, none⟩)] 123).allocC #[.int .u8 0, .int .u8 0, .int .u32 0, .int .u32 0, .int .u32 0] 24).allocC #[.int .u8 0, .int .u8 0, .int .u32 0, .int .u32 0, .int .u32 0] 24
  have s1 : (w.alloc (.cells #[.pointer (some ⟨b, 0, none⟩)] 123)).heap.size = w.heap.size + 1 := Array.size_push _
  have s2 : ((w.alloc (.cells #[.pointer (some ⟨b, 0, none⟩)] 123)).alloc (.cells #[.int .u8 0, .int .u8 0, .int .u32 0, .int .u32 0, .int .u32 0] 24)).heap.size = w.heap.size + 1 + 1 := (Array.size_push _).trans (by rw [s1])
  rw [s1, s2] at h1
  have q0 := h1.three.cell 0
  simp at q0
  have d0 := headB_split hb
  have wd3 := wid15
  have wd4 := wid015
  rw [wd3, wd4] at d0
  have d1 := drop_next d0 (length_bitsN _ _)
  have d2 := drop_next d1 (length_bitsN _ _)
  have d3 := drop_next d2 (length_var _)
  have c15 := hR.c15
  have e32 := hR.e32
  have t32 := hR.t32
  have s32 := hR.s32
  have H1 : Hid (Calls _ _ _ _ _) := rdgetIn w0 _ _ b P t 1 _ 1 5 2 h1.four (by omega) (by omega) (by rw [wd3]; exact d0) (by omega) (by omega)
  rw [wd3] at H1
  have HR : Hid (Right 2 c e tk s) := hR
  have m2 : (c : Int) % 256 = (c : Int) := by omega
  have m3 : (e : Int) % 4294967296 = (e : Int) := by omega
  have m4 : (tk : Int) % 4294967296 = (tk : Int) := by omega
  clear h h1 hb hR d0 s1 s2
  go_enter Tryz.func65, Tryz.ntmps65
  go_wp2_with fail
  refine H1.out.mono ?_
  rintro x w1 ⟨rfl, h1⟩
  generalize hbx : w.heap.size = bx at *
  clear hbx
  have z0 := h1.two.froz 0
  have y0 := h1.two.cell 0
  simp at y0
  have h2 : Own w0 (w1.setCell ⟨bx + 1 + 1, 0, none⟩ (.int .u8 2)) (Cells (bx + 1 + 1) #[.int .u8 2, .int .u8 0, .int .u32 0, .int .u32 0, .int .u32 0] 24 :: RdT b P (t + 3) :: Cells (bx + 1) #[.int .u8 0, .int .u8 0, .int .u32 0, .int .u32 0, .int .u32 0] 24 :: Cells bx #[.pointer (some ⟨b, 0, none⟩)] 123 :: l) := h1.two.setC 0 (.int .u8 2)
  have q1 := h2.four.cell 0
  simp at q1
  have H2 : Hid (Calls _ _ _ _ _) := rdgetIn w0 _ _ b P (t + 3) c _ 0 15 (c : Int) h2.two (by omega) (by omega) (by rw [wd4]; exact d1) (by omega) (by omega)
  rw [wd4] at H2
  clear h1 h2 H1 q0 d1
  go_wp2_with fail
  refine H2.out.mono ?_
  rintro x w2 ⟨rfl, h3⟩
  have z1 := h3.two.froz 1
  have y1 := h3.two.cell 1
  simp at y1
  have h4 : Own w0 (w2.setCell ⟨bx + 1 + 1, 1, none⟩ (.int .u8 (c : Int))) (Cells (bx + 1 + 1) #[.int .u8 2, .int .u8 (c : Int), .int .u32 0, .int .u32 0, .int .u32 0] 24 :: RdT b P (t + 3 + 4) :: Cells (bx + 1) #[.int .u8 0, .int .u8 0, .int .u32 0, .int .u32 0, .int .u32 0] 24 :: Cells bx #[.pointer (some ⟨b, 0, none⟩)] 123 :: l) := h3.two.setC 1 (.int .u8 (c : Int))
  have q2 := h4.four.cell 0
  simp at q2
  have H3 : Hid (Calls Tryz.prog 113 #[.agg #[.pointer (some ⟨b, 0, none⟩)], .int .u64 4294967296] _ _) := rdbelow w0 _ _ b P (t + 3 + 4) e 4294967296 _ h4.two (by omega) d2 (by omega) (by omega)
  clear h3 h4 H2 q1 d2 z0 y0
  go_wp2_with fail
  refine H3.out.mono ?_
  rintro x w3 ⟨rfl, h5⟩
  have z2 := h5.two.froz 2
  have y2 := h5.two.cell 2
  simp at y2
  have h6 : Own w0 (w3.setCell ⟨bx + 1 + 1, 2, none⟩ (.int .u32 (e : Int))) (Cells (bx + 1 + 1) #[.int .u8 2, .int .u8 (c : Int), .int .u32 (e : Int), .int .u32 0, .int .u32 0] 24 :: RdT b P (t + 3 + 4 + 5 * grp e) :: Cells (bx + 1) #[.int .u8 0, .int .u8 0, .int .u32 0, .int .u32 0, .int .u32 0] 24 :: Cells bx #[.pointer (some ⟨b, 0, none⟩)] 123 :: l) := h5.two.setC 2 (.int .u32 (e : Int))
  have q3 := h6.cell 0
  simp at q3
  have HTK : Hid (∀ W, Calls Tryz.prog 95 #[.int .u8 2] W fun e w' => e = .returned (.bool (hasT 2)) ∧ w' = W) := fun W => hasTick_any W 2 (by omega)
  have H6 : Hid (Own w0 _ _) := h6
  clear h5 h6 H3 q2 z1 y1
  go_wp2_with fail
  refine (HTK.out _).mono ?_
  rintro x w4' ⟨rfl, rfl⟩
  clear HTK q3
  rw [if_pos hT] at d3
  have d4 := drop_next d3 (length_bitsN _ _)
  have H4 : Hid (Calls Tryz.prog 114 #[.agg #[.pointer (some ⟨b, 0, none⟩)], .int .i64 32] _ _) := rdget w0 _ _ b P (t + 3 + 4 + 5 * grp e) 32 tk H6.out.two (by decide) (room_of d3 (by decide)) (numAt_of d3 (by show _ < 4294967296; omega))
  have q4 := H6.out.four.cell 0
  simp at q4
  rw [hT]
  have HTT : Hid (hasT 2 = true) := hT
  clear H6 d3 hT z2 y2
  go_wp2_with fail
  refine H4.out.mono ?_
  rintro x w5 ⟨rfl, h7⟩
  have z3 := h7.two.froz 3
  have y3 := h7.two.cell 3
  simp at y3
  have h8 : Own w0 (w5.setCell ⟨bx + 1 + 1, 3, none⟩ (.int .u32 (tk : Int))) (Cells (bx + 1 + 1) #[.int .u8 2, .int .u8 (c : Int), .int .u32 (e : Int), .int .u32 (tk : Int), .int .u32 0] 24 :: RdT b P (t + 3 + 4 + 5 * grp e + 32) :: Cells (bx + 1) #[.int .u8 0, .int .u8 0, .int .u32 0, .int .u32 0, .int .u32 0] 24 :: Cells bx #[.pointer (some ⟨b, 0, none⟩)] 123 :: l) := h7.two.setC 3 (.int .u32 (tk : Int))
  have q5 := h8.cell 0
  have q6 := h8.cell 3
  simp at q5 q6
  clear h7 H4 q4
  have d4 := (show List.drop _ (bitsB P) = var (tk - s - 1) ++ R by first | (rw [if_pos rfl] at d4; exact d4) | (rw [if_pos trivial] at d4; exact d4))
  have hst : s < tk := bfit2 HR.out.bf
  have q7 := h8.four.cell 0
  simp at q7
  have m8 : IntKind.u64.wrap (tk : Int) = (tk : Int) := by rw [IntKind.wrap_u64]; omega
  have H5 : Hid (∀ W v, v = (tk : Int) → Own w0 W (Cells (bx + 1 + 1) #[.int .u8 2, .int .u8 (c : Int), .int .u32 (e : Int), .int .u32 (tk : Int), .int .u32 0] 24 :: RdT b P (t + 3 + 4 + 5 * grp e + 32) :: Cells (bx + 1) #[.int .u8 0, .int .u8 0, .int .u32 0, .int .u32 0, .int .u32 0] 24 :: Cells bx #[.pointer (some ⟨b, 0, none⟩)] 123 :: l) → Calls Tryz.prog 113 #[.agg #[.pointer (some ⟨b, 0, none⟩)], .int .u64 v] W fun x w' => x = .returned (.int .u64 ((tk - s - 1 : Nat) : Int)) ∧ Own w0 w' (RdT b P (t + 3 + 4 + 5 * grp e + 32 + 5 * grp (tk - s - 1)) :: Cells (bx + 1 + 1) #[.int .u8 2, .int .u8 (c : Int), .int .u32 (e : Int), .int .u32 (tk : Int), .int .u32 0] 24 :: Cells (bx + 1) #[.int .u8 0, .int .u8 0, .int .u32 0, .int .u32 0, .int .u32 0] 24 :: Cells bx #[.pointer (some ⟨b, 0, none⟩)] 123 :: l)) := fun W v hv hW => by rw [hv]; exact rdbelow w0 W _ b P (t + 3 + 4 + 5 * grp e + 32) (tk - s - 1) tk _ hW.two (by omega) d4 (by omega) (by omega)
  have m6 : ((tk - s - 1 : Nat) : Int) % 4294967296 = ((tk - s - 1 : Nat) : Int) := by omega
  have m5 : ((tk : Int) - ((tk - s - 1 : Nat) : Int) - 1) % 4294967296 = (s : Int) := by omega
  have m7 : ((tk : Int) - ((tk - s - 1 : Nat) : Int)) % 4294967296 = (s : Int) + 1 := by omega
  have m9 : IntKind.u32.wrap (IntKind.u32.wrap ((tk : Int) - IntKind.u32.wrap ((tk - s - 1 : Nat) : Int)) - 1) = (s : Int) := by rw [IntKind.wrap_u32, IntKind.wrap_u32, IntKind.wrap_u32]; omega
  have O1 := h8.drew
  clear h8 d4
  go_wp2
  go_region_held3 (fun w' => w'.cell? ⟨bx + 1 + 1, 3, none⟩ = some (.int .u32 (tk : Int)) ∧ w'.cell? ⟨bx, 0, none⟩ = some (.pointer (some ⟨b, 0, none⟩))) (first | go_keep | exact ⟨K3 _, K0 _⟩)
    ((go_at_call 113; with_reducible refine (H5.out _ _ (by first | rfl | exact m8) O1).mono ?_; rintro x w6 ⟨rfl, h9⟩
      have u3 := (Own.two h9).cell 3
      have u4 := (Own.two h9).cell 4
      have u0 := (Own.four h9).cell 0
      have v4 := (Own.two h9).froz 4
      simp at u0 u3 u4
      have K3 : ∀ u, (w6.setCell ⟨bx + 1 + 1, 4, none⟩ u).cell? ⟨bx + 1 + 1, 3, none⟩ = some (.int .u32 (tk : Int)) := fun u => by have := ((Own.two h9).setC 4 u).cell 3; simpa using this
      have K0 : ∀ u, (w6.setCell ⟨bx + 1 + 1, 4, none⟩ u).cell? ⟨bx, 0, none⟩ = some (.pointer (some ⟨b, 0, none⟩)) := fun u => by have := (Own.four ((Own.two h9).setC 4 u)).cell 0; simpa using this))
  have hn : (t + 3 + 4 + 5 * grp e + 32 + 5 * grp (tk - s - 1)) = t + (headB 2 c e tk s).length := by
    unfold headB; rw [if_pos HTT.out, if_pos rfl]
    simp only [List.length_append, length_bitsN, length_var, wd3, wd4]; omega
  generalize tk - s - 1 = dd at *
  have h8 : Own w0 (w6.setCell ⟨bx + 1 + 1, 4, none⟩ (.int .u32 (s : Int))) (Cells (bx + 1 + 1) #[.int .u8 2, .int .u8 (c : Int), .int .u32 (e : Int), .int .u32 (tk : Int), .int .u32 (s : Int)] 24 :: RdT b P (t + (headB 2 c e tk s).length) :: Cells (bx + 1) #[.int .u8 0, .int .u8 0, .int .u32 0, .int .u32 0, .int .u32 0] 24 :: Cells bx #[.pointer (some ⟨b, 0, none⟩)] 123 :: l) := by rw [← hn]; exact h9.two.setC 4 (.int .u32 (s : Int))
  clear hn h9 H5 O1 q5 q6 q7 z3 y3 u0 u3 u4 v4 K3 K0
  have p0 := h8.cell 0
  have p1 := h8.cell 1
  have p2 := h8.cell 2
  have p3 := h8.cell 3
  have p4 := h8.cell 4
  simp at p0 p1 p2 p3 p4
  have HC : Hid (∀ W, Calls Tryz.prog 16 #[.agg #[.int .u8 2, .int .u8 (c : Int), .int .u32 (e : Int), .int .u32 (tk : Int), .int .u32 (s : Int)]] W fun x w' => x = .returned (.int .i64 0) ∧ Fr Nobody W w') := fun W => check_ok W 2 c e tk s HR.out
  have H8 : Hid (Own w0 _ _) := h8
  clear h8
  go_wp2_with fail
  refine (HC.out _).mono ?_
  rintro x w7 ⟨rfl, hf7⟩
  have h9 := H8.out.quiet hf7
  have HM : Hid (Calls _ _ _ _ _) := must_ok w7
  have H9 : Hid (Own w0 w7 _) := h9
  clear hf7 H8 HC p0 p1 p2 p3 p4 h9
  go_wp2_with fail
  refine HM.out.mono ?_
  rintro x w8 ⟨rfl, rfl⟩
  have p0 := H9.out.cell 0
  have p1 := H9.out.cell 1
  have p2 := H9.out.cell 2
  have p3 := H9.out.cell 3
  have p4 := H9.out.cell 4
  simp at p0 p1 p2 p3 p4
  have f0 := H9.out.three.froz 0
  have f1 := H9.out.three.froz 1
  have f2 := H9.out.three.froz 2
  have f3 := H9.out.three.froz 3
  have f4 := H9.out.three.froz 4
  have r0 := H9.out.three.cell 0
  have r1 := H9.out.three.cell 1
  have r2 := H9.out.three.cell 2
  have r3 := H9.out.three.cell 3
  have r4 := H9.out.three.cell 4
  simp at r0 r1 r2 r3 r4
  have H10 : Hid (Own w0 (((((w8.setCell ⟨bx + 1, 0, none⟩ (.int .u8 2)).setCell ⟨bx + 1, 1, none⟩ (.int .u8 (c : Int))).setCell ⟨bx + 1, 2, none⟩ (.int .u32 (e : Int))).setCell ⟨bx + 1, 3, none⟩ (.int .u32 (tk : Int))).setCell ⟨bx + 1, 4, none⟩ (.int .u32 (s : Int))) (Cells (bx + 1) #[.int .u8 2, .int .u8 (c : Int), .int .u32 (e : Int), .int .u32 (tk : Int), .int .u32 (s : Int)] 24 :: Cells (bx + 1 + 1) #[.int .u8 2, .int .u8 (c : Int), .int .u32 (e : Int), .int .u32 (tk : Int), .int .u32 (s : Int)] 24 :: RdT b P (t + (headB 2 c e tk s).length) :: Cells bx #[.pointer (some ⟨b, 0, none⟩)] 123 :: l)) := ((((H9.out.three.setC 0 (.int .u8 2)).setC 1 (.int .u8 (c : Int))).setC 2 (.int .u32 (e : Int))).setC 3 (.int .u32 (tk : Int))).setC 4 (.int .u32 (s : Int))
  clear H9 HM
  go_wp2
  (try simp only [Exit.inBlock, Exit.then])
  refine bodyPost_ret (results_cell_row rfl _ _ (bx + 1) 24 #[.int .u8 2, .int .u8 (c : Int), .int .u32 (e : Int), .int .u32 (tk : Int), .int .u32 (s : Int)] _ _ rfl H10.out.obj Tryz.underlying24 rfl (by kernel_rfl)) rfl ?_
  exact ⟨rfl, H10.out.tail.tail.two.tail⟩
set_option maxHeartbeats 4000000 in
theorem rdhead2 (w0 w : World) (l : List Thing) (b : Nat) (P : List Nat) (t : Nat) (h : Own w0 w (RdT b P t :: l)) (k c e tk s : Nat) (hR : Right k c e tk s) (R : List Bool) (hb : (bitsB P).drop t = headB k c e tk s ++ R) (k2 : k ≠ 2) (hT : hasT k = true) :
    Calls Tryz.prog 65 #[.agg #[.pointer (some ⟨b, 0, none⟩)]] w fun x w' => x = .returned (.agg (hvs k c e tk s)) ∧ Own w0 w' (RdT b P (t + (headB k c e tk s).length) :: l) := by
  have h1 := ((h.allocC #[.pointer (some ⟨b, 0, none⟩)] 123).allocC #[.int .u8 0, .int .u8 0, .int .u32 0, .int .u32 0, .int .u32 0] 24).allocC #[.int .u8 0, .int .u8 0, .int .u32 0, .int .u32 0, .int .u32 0] 24
  have s1 : (w.alloc (.cells #[.pointer (some ⟨b, 0, none⟩)] 123)).heap.size = w.heap.size + 1 := Array.size_push _
  have s2 : ((w.alloc (.cells #[.pointer (some ⟨b, 0, none⟩)] 123)).alloc (.cells #[.int .u8 0, .int .u8 0, .int .u32 0, .int .u32 0, .int .u32 0] 24)).heap.size = w.heap.size + 1 + 1 := (Array.size_push _).trans (by rw [s1])
  rw [s1, s2] at h1
  have q0 := h1.three.cell 0
  simp at q0
  have d0 := headB_split hb
  have wd3 := wid15
  have wd4 := wid015
  rw [wd3, wd4] at d0
  have d1 := drop_next d0 (length_bitsN _ _)
  have d2 := drop_next d1 (length_bitsN _ _)
  have d3 := drop_next d2 (length_var _)
  have k1 := hR.k1
  have k5 := hR.k5
  have c15 := hR.c15
  have e32 := hR.e32
  have t32 := hR.t32
  have s32 := hR.s32
  have H1 : Hid (Calls _ _ _ _ _) := rdgetIn w0 _ _ b P t (k - 1) _ 1 5 (k : Int) h1.four (by omega) (by omega) (by rw [wd3]; exact d0) (by omega) (by omega)
  rw [wd3] at H1
  have HR : Hid (Right k c e tk s) := hR
  have m1 : (k : Int) % 256 = (k : Int) := by omega
  have m2 : (c : Int) % 256 = (c : Int) := by omega
  have m3 : (e : Int) % 4294967296 = (e : Int) := by omega
  have m4 : (tk : Int) % 4294967296 = (tk : Int) := by omega
  clear h h1 hb hR d0 s1 s2
  go_enter Tryz.func65, Tryz.ntmps65
  go_wp2_with fail
  refine H1.out.mono ?_
  rintro x w1 ⟨rfl, h1⟩
  generalize hbx : w.heap.size = bx at *
  clear hbx
  have z0 := h1.two.froz 0
  have y0 := h1.two.cell 0
  simp at y0
  have h2 : Own w0 (w1.setCell ⟨bx + 1 + 1, 0, none⟩ (.int .u8 (k : Int))) (Cells (bx + 1 + 1) #[.int .u8 (k : Int), .int .u8 0, .int .u32 0, .int .u32 0, .int .u32 0] 24 :: RdT b P (t + 3) :: Cells (bx + 1) #[.int .u8 0, .int .u8 0, .int .u32 0, .int .u32 0, .int .u32 0] 24 :: Cells bx #[.pointer (some ⟨b, 0, none⟩)] 123 :: l) := h1.two.setC 0 (.int .u8 (k : Int))
  have q1 := h2.four.cell 0
  simp at q1
  have H2 : Hid (Calls _ _ _ _ _) := rdgetIn w0 _ _ b P (t + 3) c _ 0 15 (c : Int) h2.two (by omega) (by omega) (by rw [wd4]; exact d1) (by omega) (by omega)
  rw [wd4] at H2
  clear h1 h2 H1 q0 d1
  go_wp2_with fail
  refine H2.out.mono ?_
  rintro x w2 ⟨rfl, h3⟩
  have z1 := h3.two.froz 1
  have y1 := h3.two.cell 1
  simp at y1
  have h4 : Own w0 (w2.setCell ⟨bx + 1 + 1, 1, none⟩ (.int .u8 (c : Int))) (Cells (bx + 1 + 1) #[.int .u8 (k : Int), .int .u8 (c : Int), .int .u32 0, .int .u32 0, .int .u32 0] 24 :: RdT b P (t + 3 + 4) :: Cells (bx + 1) #[.int .u8 0, .int .u8 0, .int .u32 0, .int .u32 0, .int .u32 0] 24 :: Cells bx #[.pointer (some ⟨b, 0, none⟩)] 123 :: l) := h3.two.setC 1 (.int .u8 (c : Int))
  have q2 := h4.four.cell 0
  simp at q2
  have H3 : Hid (Calls Tryz.prog 113 #[.agg #[.pointer (some ⟨b, 0, none⟩)], .int .u64 4294967296] _ _) := rdbelow w0 _ _ b P (t + 3 + 4) e 4294967296 _ h4.two (by omega) d2 (by omega) (by omega)
  clear h3 h4 H2 q1 d2 z0 y0
  go_wp2_with fail
  refine H3.out.mono ?_
  rintro x w3 ⟨rfl, h5⟩
  have z2 := h5.two.froz 2
  have y2 := h5.two.cell 2
  simp at y2
  have h6 : Own w0 (w3.setCell ⟨bx + 1 + 1, 2, none⟩ (.int .u32 (e : Int))) (Cells (bx + 1 + 1) #[.int .u8 (k : Int), .int .u8 (c : Int), .int .u32 (e : Int), .int .u32 0, .int .u32 0] 24 :: RdT b P (t + 3 + 4 + 5 * grp e) :: Cells (bx + 1) #[.int .u8 0, .int .u8 0, .int .u32 0, .int .u32 0, .int .u32 0] 24 :: Cells bx #[.pointer (some ⟨b, 0, none⟩)] 123 :: l) := h5.two.setC 2 (.int .u32 (e : Int))
  have q3 := h6.cell 0
  simp at q3
  have HTK : Hid (∀ W, Calls Tryz.prog 95 #[.int .u8 (k : Int)] W fun e w' => e = .returned (.bool (hasT k)) ∧ w' = W) := fun W => hasTick_any W k (by omega)
  have H6 : Hid (Own w0 _ _) := h6
  clear h5 h6 H3 q2 z1 y1
  go_wp2_with fail
  refine (HTK.out _).mono ?_
  rintro x w4' ⟨rfl, rfl⟩
  clear HTK q3
  rw [if_pos hT] at d3
  have d4 := drop_next d3 (length_bitsN _ _)
  have H4 : Hid (Calls Tryz.prog 114 #[.agg #[.pointer (some ⟨b, 0, none⟩)], .int .i64 32] _ _) := rdget w0 _ _ b P (t + 3 + 4 + 5 * grp e) 32 tk H6.out.two (by decide) (room_of d3 (by decide)) (numAt_of d3 (by show _ < 4294967296; omega))
  have q4 := H6.out.four.cell 0
  simp at q4
  rw [hT]
  have HTT : Hid (hasT k = true) := hT
  clear H6 d3 hT z2 y2
  go_wp2_with fail
  refine H4.out.mono ?_
  rintro x w5 ⟨rfl, h7⟩
  have z3 := h7.two.froz 3
  have y3 := h7.two.cell 3
  simp at y3
  have h8 : Own w0 (w5.setCell ⟨bx + 1 + 1, 3, none⟩ (.int .u32 (tk : Int))) (Cells (bx + 1 + 1) #[.int .u8 (k : Int), .int .u8 (c : Int), .int .u32 (e : Int), .int .u32 (tk : Int), .int .u32 0] 24 :: RdT b P (t + 3 + 4 + 5 * grp e + 32) :: Cells (bx + 1) #[.int .u8 0, .int .u8 0, .int .u32 0, .int .u32 0, .int .u32 0] 24 :: Cells bx #[.pointer (some ⟨b, 0, none⟩)] 123 :: l) := h7.two.setC 3 (.int .u32 (tk : Int))
  have q5 := h8.cell 0
  have q6 := h8.cell 3
  simp at q5 q6
  clear h7 H4 q4
  have e1 : ((k : Int) == 2) = false := by rw [beq_eq_false_iff_ne]; omega
  have s0 : s = 0 := by have := HR.out.bf; unfold bfit at this; rw [if_neg k2] at this; simpa using this
  subst s0
  rw [if_neg k2] at d4
  have hn : (t + 3 + 4 + 5 * grp e + 32) = t + (headB k c e tk 0).length := by
    unfold headB; rw [if_pos HTT.out, if_neg k2]
    simp only [List.length_append, length_bitsN, length_var, wd3, wd4, List.length_nil]; omega
  rw [hn] at h8
  clear hn d4 k2
  have p0 := h8.cell 0
  have p1 := h8.cell 1
  have p2 := h8.cell 2
  have p3 := h8.cell 3
  have p4 := h8.cell 4
  simp at p0 p1 p2 p3 p4
  have HC : Hid (∀ W, Calls Tryz.prog 16 #[.agg #[.int .u8 (k : Int), .int .u8 (c : Int), .int .u32 (e : Int), .int .u32 (tk : Int), .int .u32 0]] W fun x w' => x = .returned (.int .i64 0) ∧ Fr Nobody W w') := fun W => check_ok W k c e tk 0 HR.out
  have H8 : Hid (Own w0 _ _) := h8
  clear h8
  go_wp2_with fail
  refine (HC.out _).mono ?_
  rintro x w7 ⟨rfl, hf7⟩
  have h9 := H8.out.quiet hf7
  have HM : Hid (Calls _ _ _ _ _) := must_ok w7
  have H9 : Hid (Own w0 w7 _) := h9
  clear hf7 H8 HC p0 p1 p2 p3 p4 h9
  go_wp2_with fail
  refine HM.out.mono ?_
  rintro x w8 ⟨rfl, rfl⟩
  have p0 := H9.out.cell 0
  have p1 := H9.out.cell 1
  have p2 := H9.out.cell 2
  have p3 := H9.out.cell 3
  have p4 := H9.out.cell 4
  simp at p0 p1 p2 p3 p4
  have f0 := H9.out.three.froz 0
  have f1 := H9.out.three.froz 1
  have f2 := H9.out.three.froz 2
  have f3 := H9.out.three.froz 3
  have f4 := H9.out.three.froz 4
  have r0 := H9.out.three.cell 0
  have r1 := H9.out.three.cell 1
  have r2 := H9.out.three.cell 2
  have r3 := H9.out.three.cell 3
  have r4 := H9.out.three.cell 4
  simp at r0 r1 r2 r3 r4
  have H10 : Hid (Own w0 (((((w8.setCell ⟨bx + 1, 0, none⟩ (.int .u8 (k : Int))).setCell ⟨bx + 1, 1, none⟩ (.int .u8 (c : Int))).setCell ⟨bx + 1, 2, none⟩ (.int .u32 (e : Int))).setCell ⟨bx + 1, 3, none⟩ (.int .u32 (tk : Int))).setCell ⟨bx + 1, 4, none⟩ (.int .u32 0)) (Cells (bx + 1) #[.int .u8 (k : Int), .int .u8 (c : Int), .int .u32 (e : Int), .int .u32 (tk : Int), .int .u32 0] 24 :: Cells (bx + 1 + 1) #[.int .u8 (k : Int), .int .u8 (c : Int), .int .u32 (e : Int), .int .u32 (tk : Int), .int .u32 0] 24 :: RdT b P (t + (headB k c e tk 0).length) :: Cells bx #[.pointer (some ⟨b, 0, none⟩)] 123 :: l)) := ((((H9.out.three.setC 0 (.int .u8 (k : Int))).setC 1 (.int .u8 (c : Int))).setC 2 (.int .u32 (e : Int))).setC 3 (.int .u32 (tk : Int))).setC 4 (.int .u32 0)
  clear H9 HM
  go_wp2
  (try simp only [Exit.inBlock, Exit.then])
  refine bodyPost_ret (results_cell_row rfl _ _ (bx + 1) 24 #[.int .u8 (k : Int), .int .u8 (c : Int), .int .u32 (e : Int), .int .u32 (tk : Int), .int .u32 0] _ _ rfl H10.out.obj Tryz.underlying24 rfl (by kernel_rfl)) rfl ?_
  exact ⟨rfl, H10.out.tail.tail.two.tail⟩
set_option maxHeartbeats 4000000 in
theorem rdhead3 (w0 w : World) (l : List Thing) (b : Nat) (P : List Nat) (t : Nat) (h : Own w0 w (RdT b P t :: l)) (k c e tk s : Nat) (hR : Right k c e tk s) (R : List Bool) (hb : (bitsB P).drop t = headB k c e tk s ++ R) (hT : hasT k = false) :
    Calls Tryz.prog 65 #[.agg #[.pointer (some ⟨b, 0, none⟩)]] w fun x w' => x = .returned (.agg (hvs k c e tk s)) ∧ Own w0 w' (RdT b P (t + (headB k c e tk s).length) :: l) := by
  have h1 := ((h.allocC #[.pointer (some ⟨b, 0, none⟩)] 123).allocC #[.int .u8 0, .int .u8 0, .int .u32 0, .int .u32 0, .int .u32 0] 24).allocC #[.int .u8 0, .int .u8 0, .int .u32 0, .int .u32 0, .int .u32 0] 24
  have s1 : (w.alloc (.cells #[.pointer (some ⟨b, 0, none⟩)] 123)).heap.size = w.heap.size + 1 := Array.size_push _
  have s2 : ((w.alloc (.cells #[.pointer (some ⟨b, 0, none⟩)] 123)).alloc (.cells #[.int .u8 0, .int .u8 0, .int .u32 0, .int .u32 0, .int .u32 0] 24)).heap.size = w.heap.size + 1 + 1 := (Array.size_push _).trans (by rw [s1])
  rw [s1, s2] at h1
  have q0 := h1.three.cell 0
  simp at q0
  have d0 := headB_split hb
  have wd3 := wid15
  have wd4 := wid015
  rw [wd3, wd4] at d0
  have d1 := drop_next d0 (length_bitsN _ _)
  have d2 := drop_next d1 (length_bitsN _ _)
  have d3 := drop_next d2 (length_var _)
  have k1 := hR.k1
  have k5 := hR.k5
  have c15 := hR.c15
  have e32 := hR.e32
  have t32 := hR.t32
  have s32 := hR.s32
  have H1 : Hid (Calls _ _ _ _ _) := rdgetIn w0 _ _ b P t (k - 1) _ 1 5 (k : Int) h1.four (by omega) (by omega) (by rw [wd3]; exact d0) (by omega) (by omega)
  rw [wd3] at H1
  have HR : Hid (Right k c e tk s) := hR
  have m1 : (k : Int) % 256 = (k : Int) := by omega
  have m2 : (c : Int) % 256 = (c : Int) := by omega
  have m3 : (e : Int) % 4294967296 = (e : Int) := by omega
  have m4 : (tk : Int) % 4294967296 = (tk : Int) := by omega
  clear h h1 hb hR d0 s1 s2
  go_enter Tryz.func65, Tryz.ntmps65
  go_wp2_with fail
  refine H1.out.mono ?_
  rintro x w1 ⟨rfl, h1⟩
  generalize hbx : w.heap.size = bx at *
  clear hbx
  have z0 := h1.two.froz 0
  have y0 := h1.two.cell 0
  simp at y0
  have h2 : Own w0 (w1.setCell ⟨bx + 1 + 1, 0, none⟩ (.int .u8 (k : Int))) (Cells (bx + 1 + 1) #[.int .u8 (k : Int), .int .u8 0, .int .u32 0, .int .u32 0, .int .u32 0] 24 :: RdT b P (t + 3) :: Cells (bx + 1) #[.int .u8 0, .int .u8 0, .int .u32 0, .int .u32 0, .int .u32 0] 24 :: Cells bx #[.pointer (some ⟨b, 0, none⟩)] 123 :: l) := h1.two.setC 0 (.int .u8 (k : Int))
  have q1 := h2.four.cell 0
  simp at q1
  have H2 : Hid (Calls _ _ _ _ _) := rdgetIn w0 _ _ b P (t + 3) c _ 0 15 (c : Int) h2.two (by omega) (by omega) (by rw [wd4]; exact d1) (by omega) (by omega)
  rw [wd4] at H2
  clear h1 h2 H1 q0 d1
  go_wp2_with fail
  refine H2.out.mono ?_
  rintro x w2 ⟨rfl, h3⟩
  have z1 := h3.two.froz 1
  have y1 := h3.two.cell 1
  simp at y1
  have h4 : Own w0 (w2.setCell ⟨bx + 1 + 1, 1, none⟩ (.int .u8 (c : Int))) (Cells (bx + 1 + 1) #[.int .u8 (k : Int), .int .u8 (c : Int), .int .u32 0, .int .u32 0, .int .u32 0] 24 :: RdT b P (t + 3 + 4) :: Cells (bx + 1) #[.int .u8 0, .int .u8 0, .int .u32 0, .int .u32 0, .int .u32 0] 24 :: Cells bx #[.pointer (some ⟨b, 0, none⟩)] 123 :: l) := h3.two.setC 1 (.int .u8 (c : Int))
  have q2 := h4.four.cell 0
  simp at q2
  have H3 : Hid (Calls Tryz.prog 113 #[.agg #[.pointer (some ⟨b, 0, none⟩)], .int .u64 4294967296] _ _) := rdbelow w0 _ _ b P (t + 3 + 4) e 4294967296 _ h4.two (by omega) d2 (by omega) (by omega)
  clear h3 h4 H2 q1 d2 z0 y0
  go_wp2_with fail
  refine H3.out.mono ?_
  rintro x w3 ⟨rfl, h5⟩
  have z2 := h5.two.froz 2
  have y2 := h5.two.cell 2
  simp at y2
  have h6 : Own w0 (w3.setCell ⟨bx + 1 + 1, 2, none⟩ (.int .u32 (e : Int))) (Cells (bx + 1 + 1) #[.int .u8 (k : Int), .int .u8 (c : Int), .int .u32 (e : Int), .int .u32 0, .int .u32 0] 24 :: RdT b P (t + 3 + 4 + 5 * grp e) :: Cells (bx + 1) #[.int .u8 0, .int .u8 0, .int .u32 0, .int .u32 0, .int .u32 0] 24 :: Cells bx #[.pointer (some ⟨b, 0, none⟩)] 123 :: l) := h5.two.setC 2 (.int .u32 (e : Int))
  have q3 := h6.cell 0
  simp at q3
  have HTK : Hid (∀ W, Calls Tryz.prog 95 #[.int .u8 (k : Int)] W fun e w' => e = .returned (.bool (hasT k)) ∧ w' = W) := fun W => hasTick_any W k (by omega)
  have H6 : Hid (Own w0 _ _) := h6
  clear h5 h6 H3 q2 z1 y1
  go_wp2_with fail
  refine (HTK.out _).mono ?_
  rintro x w4' ⟨rfl, rfl⟩
  clear HTK q3
  have h8 := H6.out
  have q5 := h8.cell 0
  simp at q5
  rw [hT]
  clear H6 z2 y2
  have k2 : k ≠ 2 := by rintro rfl; cases hT
  have e1 : ((k : Int) == 2) = false := by rw [beq_eq_false_iff_ne]; omega
  have s0 : s = 0 := by have := HR.out.bf; unfold bfit at this; rw [if_neg k2] at this; simpa using this
  have t0 : tk = 0 := by have := HR.out.tf; unfold tfit at this; rw [hT] at this; simpa using this
  subst s0 t0
  have hn : (t + 3 + 4 + 5 * grp e) = t + (headB k c e 0 0).length := by
    unfold headB; rw [if_neg (by rw [hT]; decide), if_neg k2]
    simp only [List.length_append, length_bitsN, length_var, wd3, wd4, List.length_nil]; omega
  rw [hn] at h8
  clear hn d3 k2 hT
  have p0 := h8.cell 0
  have p1 := h8.cell 1
  have p2 := h8.cell 2
  have p3 := h8.cell 3
  have p4 := h8.cell 4
  simp at p0 p1 p2 p3 p4
  have HC : Hid (∀ W, Calls Tryz.prog 16 #[.agg #[.int .u8 (k : Int), .int .u8 (c : Int), .int .u32 (e : Int), .int .u32 0, .int .u32 0]] W fun x w' => x = .returned (.int .i64 0) ∧ Fr Nobody W w') := fun W => check_ok W k c e 0 0 HR.out
  have H8 : Hid (Own w0 _ _) := h8
  clear h8
  go_wp2_with fail
  refine (HC.out _).mono ?_
  rintro x w7 ⟨rfl, hf7⟩
  have h9 := H8.out.quiet hf7
  have HM : Hid (Calls _ _ _ _ _) := must_ok w7
  have H9 : Hid (Own w0 w7 _) := h9
  clear hf7 H8 HC p0 p1 p2 p3 p4 h9
  go_wp2_with fail
  refine HM.out.mono ?_
  rintro x w8 ⟨rfl, rfl⟩
  have p0 := H9.out.cell 0
  have p1 := H9.out.cell 1
  have p2 := H9.out.cell 2
  have p3 := H9.out.cell 3
  have p4 := H9.out.cell 4
  simp at p0 p1 p2 p3 p4
  have f0 := H9.out.three.froz 0
  have f1 := H9.out.three.froz 1
  have f2 := H9.out.three.froz 2
  have f3 := H9.out.three.froz 3
  have f4 := H9.out.three.froz 4
  have r0 := H9.out.three.cell 0
  have r1 := H9.out.three.cell 1
  have r2 := H9.out.three.cell 2
  have r3 := H9.out.three.cell 3
  have r4 := H9.out.three.cell 4
  simp at r0 r1 r2 r3 r4
  have H10 : Hid (Own w0 (((((w8.setCell ⟨bx + 1, 0, none⟩ (.int .u8 (k : Int))).setCell ⟨bx + 1, 1, none⟩ (.int .u8 (c : Int))).setCell ⟨bx + 1, 2, none⟩ (.int .u32 (e : Int))).setCell ⟨bx + 1, 3, none⟩ (.int .u32 0)).setCell ⟨bx + 1, 4, none⟩ (.int .u32 0)) (Cells (bx + 1) #[.int .u8 (k : Int), .int .u8 (c : Int), .int .u32 (e : Int), .int .u32 0, .int .u32 0] 24 :: Cells (bx + 1 + 1) #[.int .u8 (k : Int), .int .u8 (c : Int), .int .u32 (e : Int), .int .u32 0, .int .u32 0] 24 :: RdT b P (t + (headB k c e 0 0).length) :: Cells bx #[.pointer (some ⟨b, 0, none⟩)] 123 :: l)) := ((((H9.out.three.setC 0 (.int .u8 (k : Int))).setC 1 (.int .u8 (c : Int))).setC 2 (.int .u32 (e : Int))).setC 3 (.int .u32 0)).setC 4 (.int .u32 0)
  clear H9 HM
  go_wp2
  (try simp only [Exit.inBlock, Exit.then])
  refine bodyPost_ret (results_cell_row rfl _ _ (bx + 1) 24 #[.int .u8 (k : Int), .int .u8 (c : Int), .int .u32 (e : Int), .int .u32 0, .int .u32 0] _ _ rfl H10.out.obj Tryz.underlying24 rfl (by kernel_rfl)) rfl ?_
  exact ⟨rfl, H10.out.tail.tail.two.tail⟩
theorem rdhead (w0 w : World) (l : List Thing) (b : Nat) (P : List Nat) (t : Nat) (h : Own w0 w (RdT b P t :: l)) (k c e tk s : Nat) (hR : Right k c e tk s) (R : List Bool) (hb : (bitsB P).drop t = headB k c e tk s ++ R) :
    Calls Tryz.prog 65 #[.agg #[.pointer (some ⟨b, 0, none⟩)]] w fun x w' => x = .returned (.agg (hvs k c e tk s)) ∧ Own w0 w' (RdT b P (t + (headB k c e tk s).length) :: l) := by
  by_cases hT : hasT k = true
  · by_cases k2 : k = 2
    · subst k2
      exact rdhead1 w0 w l b P t h c e tk s hR R hb hT
    · exact rdhead2 w0 w l b P t h k c e tk s hR R hb k2 hT
  · exact rdhead3 w0 w l b P t h k c e tk s hR R hb (by simpa using hT)
end Go.Proofs.YtbencjopjdjepaaGreatDoor

/-
  Rows that the library's sort has sorted: as things.
-/
namespace Go.Proofs.YtbencjopjdjepaaGreatDoor
open Go.RowKit Go.Sort Go.Shelf
set_option linter.unusedVariables false
set_option maxRecDepth 100000

section
variable {α : Type} {enc : α → List Value} {k : Nat}
theorem cat_lenK (hk : ∀ x, (enc x).length = k) (L : List α) : (cat enc L).length = L.length * k := by
  induction L with
  | nil => simp [cat]
  | cons a L ih =>
    have : cat enc (a :: L) = enc a ++ cat enc L := by simp [cat]
    rw [this, List.length_append, ih, hk, List.length_cons, Nat.succ_mul, Nat.add_comm]
variable [Inhabited α]
theorem flat_cat (hk : ∀ x, (enc x).length = k) (hk0 : 0 < k) (L : List α) : (flatK enc k L.toArray).toList = cat enc L := by
  apply List.ext_getElem?
  intro t
  by_cases ht : t < L.length * k
  · have h1 : t < (flatK enc k L.toArray).size := by rw [size_flatK]; simpa using ht
    have h2 := get_flatK enc k L.toArray t (by simpa using ht)
    have hd : t / k < L.length := Nat.div_lt_of_lt_mul (by rw [Nat.mul_comm]; exact ht)
    have hr : t % k < k := Nat.mod_lt _ hk0
    rw [Array.getElem?_toList, Array.getElem?_eq_getElem h1, ← getElem!_pos (flatK enc k L.toArray) t h1, h2]
    have e := cat_at enc k hk L (t / k) (t % k) L[t / k] (List.getElem?_eq_getElem hd) hr
    rw [Nat.mul_comm, Nat.div_add_mod] at e
    rw [e]
    have e3 : L.toArray[t / k]! = L[t / k] := by rw [getElem!_pos L.toArray (t / k) (by simpa using hd)]; simp
    rw [e3]
    have hl : t % k < (enc L[t / k]).length := by rw [hk]; exact hr
    rw [List.getElem?_eq_getElem hl, getElem!_pos (enc L[t / k]) (t % k) hl]
  · have h1 : (flatK enc k L.toArray).size ≤ t := by rw [size_flatK]; simpa using Nat.le_of_not_lt ht
    rw [Array.getElem?_toList, Array.getElem?_eq_none h1, List.getElem?_eq_none (by rw [cat_lenK hk]; omega)]
variable {w0 w : World} {l : List Thing} {e : TypeId} {g cap : Nat} {L L' : List α}
theorem Own.holdsK (hk : ∀ x, (enc x).length = k) (hk0 : 0 < k) (h : Own w0 w (Row e k (.slice (some ⟨g, 0, none⟩) L.length cap) L.length (cat enc L) :: l)) : HoldsK enc k w g 0 L.toArray := by
  intro j hj
  have hr := h.row
  have hj2 : j < L.length * k := by rw [size_flatK] at hj; simpa using hj
  refine ⟨?_, hr.frozenAt _⟩
  rw [Nat.zero_add, hr.cellAt _ hj2, ← flat_cat hk hk0, Array.getElem?_toList, Array.getElem?_eq_getElem hj, getElem!_pos _ j hj]
  rfl
theorem sort_heap (m : Nat) (d : Array α) (os : Array Obj) (j : Nat) (hj : j < w.heap.size) : (sortWorldK enc k w g 0 m d os).heap[j]? = if g = j then (w.heap[j]?).map (onCells (putCells id 0 (flatK enc k d))) else w.heap[j]? := by
  show ((w.heap.modify g (onCells (putCells id 0 (flatK enc k d)))) ++ os)[j]? = _
  rw [Array.getElem?_append_left (by simpa using hj), Array.getElem?_modify]
theorem Own.sortK (hk : ∀ x, (enc x).length = k) (hk0 : 0 < k) (h : Own w0 w (Row e k (.slice (some ⟨g, 0, none⟩) L.length cap) L.length (cat enc L) :: l)) (hl : L'.length = L.length) (m : Nat) (os : Array Obj) : Own w0 (sortWorldK enc k w g 0 m L'.toArray os) (Row e k (.slice (some ⟨g, 0, none⟩) L'.length cap) L'.length (cat enc L') :: l) := by
  obtain ⟨h1, h2⟩ := h.row
  rcases h2 with ⟨hv, _⟩ | ⟨g', cap', cur, hv, hb, hgg, hc1, hc2, hc3, hc4⟩
  · cases hv
  · obtain ⟨rfl, rfl⟩ : g' = g ∧ cap' = cap := by
      simp only [Value.slice.injEq, Option.some.injEq, Addr.mk.injEq] at hv
      exact ⟨hv.1.1.symm, hv.2.2.symm⟩
    have hlt : g' < w.heap.size := (Array.getElem?_eq_some_iff.1 hgg).1
    refine h.grow (v' := .slice (some ⟨g', 0, none⟩) L'.length cap') ⟨by rw [cat_lenK hk], .inr ⟨g', cap', putCells id 0 (flatK enc k L'.toArray) cur, rfl, Nat.zero_le _, ?_, by omega, hc2, ?_, ?_⟩⟩ ⟨rfl, rfl, rfl, ?_, ?_⟩ (fun q hq => .inl hq)
    · rw [sort_heap _ _ _ _ hlt, if_pos rfl, hgg]
      rfl
    · simp [putCells, hc3]
    · apply List.ext_getElem?
      intro t
      rw [← flat_cat hk hk0]
      by_cases ht : t < L'.length * k
      · have h1' : t < (flatK enc k L'.toArray).size := by rw [size_flatK]; simpa using ht
        have htc : t < cur.size := by
          rw [hc3]
          have : L'.length * k ≤ cap' * k := Nat.mul_le_mul_right k (by omega)
          omega
        rw [List.getElem?_take_of_lt ht, Array.getElem?_toList, Array.getElem?_toList]
        simp only [putCells, Array.getElem?_mapIdx, Array.getElem?_eq_getElem htc, Option.map_some, Nat.zero_le, true_and, Nat.zero_add, Nat.sub_zero]
        rw [if_pos h1', Array.getElem?_eq_getElem h1', getElem!_pos _ t h1']
        rfl
      · rw [List.getElem?_eq_none (by rw [List.length_take]; omega), List.getElem?_eq_none (by rw [Array.length_toList, size_flatK]; simpa using Nat.le_of_not_lt ht)]
    · show w.heap.size ≤ ((w.heap.modify g' (onCells (putCells id 0 (flatK enc k L'.toArray)))) ++ os).size
      simp
    · intro q hq hne
      rw [sort_heap _ _ _ _ hq, if_neg (fun e => hne (by rw [← e]; rfl))]
end
end Go.Proofs.YtbencjopjdjepaaGreatDoor


