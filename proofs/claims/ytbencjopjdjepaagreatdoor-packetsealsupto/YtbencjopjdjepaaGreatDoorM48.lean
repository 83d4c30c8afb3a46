/-
  packet.Open of the frame of a packet, with its entities.
-/
import Derived.Test.YtbencjopjdjepaaGreatDoorM47
import Derived.Test.YtbencjopjdjepaaGreatDoorM20
import Derived.Test.YtbencjopjdjepaaGreatDoorM14
import Derived.OpenShut
import Derived.Test.YtbencjopjdjepaaGreatDoorM46
namespace Go.Proofs.YtbencjopjdjepaaGreatDoor
open Go.RowKit
set_option linter.unusedVariables false
set_option maxRecDepth 100000

theorem own_rot3 {w0 w : World} {X A B C : Thing} {l : List Thing} (h : Own w0 w (X :: A :: B :: C :: l)) : Own w0 w (A :: B :: C :: X :: l) := by
  have h1 : ([0, 1, 2, 3] : List Nat).Perm [1, 2, 3, 0] := by decide
  exact h.perm ((h1.map (ix8 X A B C C C C C)).append_right l)
theorem own_rot2 {w0 w : World} {X A B : Thing} {l : List Thing} (h : Own w0 w (X :: A :: B :: l)) : Own w0 w (A :: B :: X :: l) := by
  have h1 : ([0, 1, 2] : List Nat).Perm [1, 2, 0] := by decide
  exact h.perm ((h1.map (ix8 X A B B B B B B)).append_right l)
set_option maxHeartbeats 4000000 in
theorem open1_W (w0 w : World) (l : List Thing) (bb bw : Nat) (body : Value) (P : List Nat) (k c e tk s : Nat) (aw : Option Addr) (nw cw nn : Nat) (N : List En) (h : Own w0 w (Cells bb #[body] 29 :: Cells bw #[.slice aw nw cw] 25 :: l)) (hv : ∀ w', Own w0 w' l → Src w' body P.length (vrow P)) (hp : ∀ x ∈ P, x < 256) (hn : P.length ≤ 1048576)
    (hall : ∀ W b X1 X2 X3, Own w0 W (RdT b P 0 :: X1 :: X2 :: X3 :: l) → Calls Tryz.prog 68 #[.agg #[.pointer (some ⟨b, 0, none⟩)], .slice aw nw cw] W fun x w' => ∃ ao cap, x = .returned (.agg #[.int .u8 (k : Int), .int .u8 (c : Int), .int .u32 (e : Int), .int .u32 (tk : Int), .int .u32 (s : Int), .slice ao nn cap]) ∧ ∃ M : List EnE, evs M = N ∧ EIn M ∧ Own w0 w' (EntsT ao cap M :: X1 :: X2 :: X3 :: l)) :
    Calls Tryz.prog 67 #[.pointer (some ⟨bb, 0, none⟩), .pointer (some ⟨bw, 0, none⟩)] w fun x w' => ∃ ao cap, x = .returned (.agg #[.int .u8 (k : Int), .int .u8 (c : Int), .int .u32 (e : Int), .int .u32 (tk : Int), .int .u32 (s : Int), .slice ao nn cap]) ∧ ∃ M : List EnE, evs M = N ∧ EIn M ∧ Own w0 w' (EntsT ao cap M :: Cells bb #[body] 29 :: Cells bw #[.slice aw nw cw] 25 :: l) := by
  have h1 := h.allocC #[.int .u8 0, .int .u8 0, .int .u32 0, .int .u32 0, .int .u32 0, .slice none 0 0] 127
  have HNR : Hid (∀ W, Own w0 W (Cells w.heap.size #[.int .u8 0, .int .u8 0, .int .u32 0, .int .u32 0, .int .u32 0, .slice none 0 0] 127 :: Cells bb #[body] 29 :: Cells bw #[.slice aw nw cw] 25 :: l) → Calls Tryz.prog 64 #[body] W fun e w' => ∃ b, e = .returned (.agg #[.pointer (some ⟨b, 0, none⟩)]) ∧ Own w0 w' (RdT b P 0 :: Cells w.heap.size #[.int .u8 0, .int .u8 0, .int .u32 0, .int .u32 0, .int .u32 0, .slice none 0 0] 127 :: Cells bb #[body] 29 :: Cells bw #[.slice aw nw cw] 25 :: l)) := fun W hW => newReader_ok w0 W _ hW body P (fun w' hw => hv w' hw.tail.tail.tail) hp hn
  have HAL : Hid (∀ W b, Own w0 W (RdT b P 0 :: Cells w.heap.size #[.int .u8 0, .int .u8 0, .int .u32 0, .int .u32 0, .int .u32 0, .slice none 0 0] 127 :: Cells bb #[body] 29 :: Cells bw #[.slice aw nw cw] 25 :: l) → Calls Tryz.prog 68 #[.agg #[.pointer (some ⟨b, 0, none⟩)], .slice aw nw cw] W fun x w' => ∃ ao cap, x = .returned (.agg #[.int .u8 (k : Int), .int .u8 (c : Int), .int .u32 (e : Int), .int .u32 (tk : Int), .int .u32 (s : Int), .slice ao nn cap]) ∧ ∃ M : List EnE, evs M = N ∧ EIn M ∧ Own w0 w' (EntsT ao cap M :: Cells w.heap.size #[.int .u8 0, .int .u8 0, .int .u32 0, .int .u32 0, .int .u32 0, .slice none 0 0] 127 :: Cells bb #[body] 29 :: Cells bw #[.slice aw nw cw] 25 :: l)) := fun W b hW => hall W b _ _ _ hW
  have p0 := h1.two.cell 0
  have p1 := h1.three.cell 0
  simp at p0 p1
  have HO : Hid (Own w0 _ _) := h1
  clear h h1 hv hp hn hall
  go_enter Tryz.func67, Tryz.ntmps67
  go_wp2
  generalize hWg : w.alloc (.cells #[.int .u8 0, .int .u8 0, .int .u32 0, .int .u32 0, .int .u32 0, .slice none 0 0] 127) = W1 at *
  generalize w.heap.size = bo at *
  clear hWg
  have O1 := HO.out.drew
  clear HO
  go_region_held3 (fun w' => w'.cell? ⟨bb, 0, none⟩ = some body ∧ w'.cell? ⟨bw, 0, none⟩ = some (.slice aw nw cw)) (first | go_keep | exact ⟨K0, K1⟩)
    (first
      | (go_at_call 64; with_reducible refine (HNR.out _ O1).mono ?_; rintro x w6 ⟨b, rfl, O6⟩
         have u0 := (Own.three O6).cell 0
         have u1 := (Own.four O6).cell 0
         simp at u0 u1)
      | (go_at_call 68; with_reducible refine (HAL.out _ b O6).mono ?_; rintro x w7 ⟨ao, cap, rfl, M, hMv, hMI, O7x⟩
         have O7 := own_rot3 O7x
         have u0 := (Own.two O7).cell 0
         have u1 := (Own.three O7).cell 0
         have f0 := O7.froz 0
         have r0 := O7.cell 0
         have f1 := O7.froz 1
         have r1 := O7.cell 1
         have f2 := O7.froz 2
         have r2 := O7.cell 2
         have f3 := O7.froz 3
         have r3 := O7.cell 3
         have f4 := O7.froz 4
         have r4 := O7.cell 4
         have f5 := O7.froz 5
         have r5 := O7.cell 5
         simp at u0 u1 r0 r1 r2 r3 r4 r5
         have O8 := ((((((O7.setC 0 (.int .u8 (k : Int))).setC 1 (.int .u8 (c : Int))).setC 2 (.int .u32 (e : Int))).setC 3 (.int .u32 (tk : Int))).setC 4 (.int .u32 (s : Int))).setC 5 (.slice ao nn cap))
         have K0 := (Own.two O8).cell 0
         have K1 := (Own.three O8).cell 0
         simp at K0 K1))
  have H8 : Hid (Own w0 ((((((w7.setCell ⟨bo, 0, none⟩ (.int .u8 (k : Int))).setCell ⟨bo, 1, none⟩ (.int .u8 (c : Int))).setCell ⟨bo, 2, none⟩ (.int .u32 (e : Int))).setCell ⟨bo, 3, none⟩ (.int .u32 (tk : Int))).setCell ⟨bo, 4, none⟩ (.int .u32 (s : Int))).setCell ⟨bo, 5, none⟩ (.slice ao nn cap)) (Cells bo #[.int .u8 (k : Int), .int .u8 (c : Int), .int .u32 (e : Int), .int .u32 (tk : Int), .int .u32 (s : Int), .slice ao nn cap] 127 :: Cells bb #[body] 29 :: Cells bw #[.slice aw nw cw] 25 :: EntsT ao cap M :: l)) := O8
  have HMM : Hid (evs M = N ∧ EIn M) := ⟨hMv, hMI⟩
  clear O1 O6 O7 O7x O8 hMv hMI HNR HAL p0 p1 u0 u1 K0 K1 f0 f1 f2 f3 f4 f5 r0 r1 r2 r3 r4 r5
  go_wp2
  (try simp only [Exit.inBlock, Exit.then])
  refine bodyPost_ret (results_cell_row rfl _ _ bo 127 #[.int .u8 (k : Int), .int .u8 (c : Int), .int .u32 (e : Int), .int .u32 (tk : Int), .int .u32 (s : Int), .slice ao nn cap] _ _ rfl H8.out.obj Tryz.underlying127 rfl (by kernel_rfl)) rfl ?_
  exact ⟨ao, cap, rfl, M, HMM.out.1, HMM.out.2, H8.out.tail.three⟩
set_option maxHeartbeats 4000000 in
theorem caught_W (w0 w : World) (l : List Thing) (p1 p2 : Value) (k c e tk s nn : Nat) (N : List En) (h : Own w0 w l)
    (hcl : ∀ W (X Y : Thing), Own w0 W (X :: Y :: l) → Calls Tryz.prog 67 #[p1, p2] W fun x w' => ∃ ao cap, x = .returned (.agg #[.int .u8 (k : Int), .int .u8 (c : Int), .int .u32 (e : Int), .int .u32 (tk : Int), .int .u32 (s : Int), .slice ao nn cap]) ∧ ∃ M : List EnE, evs M = N ∧ EIn M ∧ Own w0 w' (EntsT ao cap M :: X :: Y :: l)) :
    Calls Tryz.prog 66 #[.func (.func 67) #[] #[p1, p2]] w fun x w' => ∃ ao cap, x = .returned (.tuple #[.agg #[.int .u8 (k : Int), .int .u8 (c : Int), .int .u32 (e : Int), .int .u32 (tk : Int), .int .u32 (s : Int), .slice ao nn cap], .int .i64 0]) ∧ ∃ M : List EnE, evs M = N ∧ EIn M ∧ Own w0 w' (EntsT ao cap M :: l) := by
  have hmf : ∀ (fn : Fn) (first cap : Array Value) (w : World), (Instr.makeFunc fn first cap).run Tryz.prog w = .ok (.func fn first cap) w := fun _ _ _ _ => rfl
  have h1 := (h.allocC #[.int .u8 0, .int .u8 0, .int .u32 0, .int .u32 0, .int .u32 0, .slice none 0 0] 127).allocC #[.int .i64 0] 30
  have s1 : (w.alloc (.cells #[.int .u8 0, .int .u8 0, .int .u32 0, .int .u32 0, .int .u32 0, .slice none 0 0] 127)).heap.size = w.heap.size + 1 := Array.size_push _
  rw [s1] at h1
  have HC : Hid (Calls _ _ _ _ _) := hcl _ _ _ h1
  clear h h1 hcl s1
  go_enter_defers Tryz.func66, Tryz.ntmps66
  go_wp2_with fail
  refine HC.out.mono ?_
  rintro x w1 ⟨ao, cap, rfl, M, hMv, hMI, h2x⟩
  have h2 := own_rot2 h2x
  have HMM : Hid (evs M = N ∧ EIn M) := ⟨hMv, hMI⟩
  clear h2x hMv hMI
  generalize hbx : w.heap.size = bx at *
  clear hbx
  have f0 := h2.two.froz 0
  have r0 := h2.two.cell 0
  have f1 := h2.two.froz 1
  have r1 := h2.two.cell 1
  have f2 := h2.two.froz 2
  have r2 := h2.two.cell 2
  have f3 := h2.two.froz 3
  have r3 := h2.two.cell 3
  have f4 := h2.two.froz 4
  have r4 := h2.two.cell 4
  have f5 := h2.two.froz 5
  have r5 := h2.two.cell 5
  simp at r0 r1 r2 r3 r4 r5
  have h3 : Own w0 ((((((w1.setCell ⟨bx, 0, none⟩ (.int .u8 (k : Int))).setCell ⟨bx, 1, none⟩ (.int .u8 (c : Int))).setCell ⟨bx, 2, none⟩ (.int .u32 (e : Int))).setCell ⟨bx, 3, none⟩ (.int .u32 (tk : Int))).setCell ⟨bx, 4, none⟩ (.int .u32 (s : Int))).setCell ⟨bx, 5, none⟩ (.slice ao nn cap)) (Cells bx #[.int .u8 (k : Int), .int .u8 (c : Int), .int .u32 (e : Int), .int .u32 (tk : Int), .int .u32 (s : Int), .slice ao nn cap] 127 :: Cells (bx + 1) #[.int .i64 0] 30 :: EntsT ao cap M :: l) := ((((((h2.two.setC 0 (.int .u8 (k : Int))).setC 1 (.int .u8 (c : Int))).setC 2 (.int .u32 (e : Int))).setC 3 (.int .u32 (tk : Int))).setC 4 (.int .u32 (s : Int))).setC 5 (.slice ao nn cap))
  have g0 := h3.two.froz 0
  have g1 := h3.two.cell 0
  simp at g1
  have h4 : Own w0 (((((((w1.setCell ⟨bx, 0, none⟩ (.int .u8 (k : Int))).setCell ⟨bx, 1, none⟩ (.int .u8 (c : Int))).setCell ⟨bx, 2, none⟩ (.int .u32 (e : Int))).setCell ⟨bx, 3, none⟩ (.int .u32 (tk : Int))).setCell ⟨bx, 4, none⟩ (.int .u32 (s : Int))).setCell ⟨bx, 5, none⟩ (.slice ao nn cap)).setCell ⟨bx + 1, 0, none⟩ (.int .i64 0)) (Cells (bx + 1) #[.int .i64 0] 30 :: Cells bx #[.int .u8 (k : Int), .int .u8 (c : Int), .int .u32 (e : Int), .int .u32 (tk : Int), .int .u32 (s : Int), .slice ao nn cap] 127 :: EntsT ao cap M :: l) := h3.two.setC 0 (.int .i64 0)
  have H4 : Hid (Own w0 _ _) := h4
  clear h2 h3 h4 HC
  go_wp2
  refine leaves_cons (f := 116) (args := #[.pointer (some ⟨bx + 1, 0, none⟩)]) (by simp) (by simp [go_sem]) ?_
  refine (catch_idle ⟨bx + 1, 0, none⟩ _).mono ?_
  rintro x u' w'' ⟨rfl, rfl, rfl⟩
  generalize ((((((w1.setCell ⟨bx, 0, none⟩ (.int .u8 (k : Int))).setCell ⟨bx, 1, none⟩ (.int .u8 (c : Int))).setCell ⟨bx, 2, none⟩ (.int .u32 (e : Int))).setCell ⟨bx, 3, none⟩ (.int .u32 (tk : Int))).setCell ⟨bx, 4, none⟩ (.int .u32 (s : Int))).setCell ⟨bx, 5, none⟩ (.slice ao nn cap)).setCell ⟨bx + 1, 0, none⟩ (.int .i64 0) = WW at H4 ⊢
  clear r0 r1 r2 r3 r4 r5 f0 f1 f2 f3 f4 f5 g0 g1
  have a0 := H4.out.cell 0
  have b0 := H4.out.two.cell 0
  have b1 := H4.out.two.cell 1
  have b2 := H4.out.two.cell 2
  have b3 := H4.out.two.cell 3
  have b4 := H4.out.two.cell 4
  have b5 := H4.out.two.cell 5
  simp at a0 b0 b1 b2 b3 b4 b5
  simp [Leaves, settle, results, Tryz.results66, go_sem, a0, b0, b1, b2, b3, b4, b5]
  refine ⟨ao, cap, ?_, M, HMM.out.1, HMM.out.2, H4.out.tail.tail⟩
  first | exact ⟨rfl, rfl⟩ | simp
theorem own_end4 {w0 w : World} {X A B C D : Thing} {l : List Thing} (h : Own w0 w (X :: A :: B :: C :: D :: l)) : Own w0 w (A :: B :: C :: D :: X :: l) := by
  have h1 : ([0, 1, 2, 3, 4] : List Nat).Perm [1, 2, 3, 4, 0] := by decide
  exact h.perm ((h1.map (ix8 X A B C D D D D)).append_right l)
set_option maxHeartbeats 8000000 in
theorem popenW (w0 w : World) (htb : Tab w0) (htf : Tabf w0) (l : List Thing) (h : Own w0 w l) (ap : Option Addr) (cp d : Nat) (L : List Bool) (k c e tk s : Nat) (aw : Option Addr) (nw cw nn : Nat) (N : List En) (hd : nb L.length = d) (hd4 : d ≤ 4096) (hin : ∀ w', Own w0 w' l → In w' ap (d + 4) cp (frm (pack L)))
    (hall : ∀ W b X1 X2 X3 X4 X5 X6 X7, Own w0 W (RdT b (pack L) 0 :: X1 :: X2 :: X3 :: X4 :: X5 :: X6 :: X7 :: l) → Calls Tryz.prog 68 #[.agg #[.pointer (some ⟨b, 0, none⟩)], .slice aw nw cw] W fun x w' => ∃ ao cap, x = .returned (.agg #[.int .u8 (k : Int), .int .u8 (c : Int), .int .u32 (e : Int), .int .u32 (tk : Int), .int .u32 (s : Int), .slice ao nn cap]) ∧ ∃ M : List EnE, evs M = N ∧ EIn M ∧ Own w0 w' (EntsT ao cap M :: X1 :: X2 :: X3 :: X4 :: X5 :: X6 :: X7 :: l)) :
    Calls Tryz.prog 20 #[.slice ap (d + 4) cp, .slice aw nw cw] w fun x w' => ∃ ao cap, x = .returned (.tuple #[.agg #[.int .u8 (k : Int), .int .u8 (c : Int), .int .u32 (e : Int), .int .u32 (tk : Int), .int .u32 (s : Int)], .slice ao nn cap, .int .i64 0]) ∧ ∃ M : List EnE, evs M = N ∧ EIn M ∧ Own w0 w' (EntsT ao cap M :: l) := by
  have hmf : ∀ (fn : Fn) (first cap : Array Value) (w : World), (Instr.makeFunc fn first cap).run Tryz.prog w = .ok (.func fn first cap) w := fun _ _ _ _ => rfl
  have hpl : (pack L).length = d := by rw [← hd]; simp [pack]
  have h1 := (h.allocC #[.slice aw nw cw] 25).allocC #[.int .u8 0, .int .u8 0, .int .u32 0, .int .u32 0, .int .u32 0] 24
  have s1 : (w.alloc (.cells #[.slice aw nw cw] 25)).heap.size = w.heap.size + 1 := Array.size_push _
  rw [s1] at h1
  obtain ⟨o1, o2⟩ := frm_opens (pack L) d hpl
  have hO := open_ok _ ap cp d (frm (pack L)) (hin _ h1.tail.tail) hd4 (htf.quiet h1.fr) o1
  rw [o2] at hO
  have HO : Hid (Calls _ _ _ _ _) := hO
  have H1 : Hid (Own w0 _ _) := h1
  have HCL : Hid (∀ (bb bw : Nat) (v : Value) W (X Y : Thing), Own w0 W (X :: Y :: Cells bb #[v] 29 :: Row 5 1 v d (vrow (pack L)) :: Cells (bw + 1) #[.int .u8 0, .int .u8 0, .int .u32 0, .int .u32 0, .int .u32 0] 24 :: Cells bw #[.slice aw nw cw] 25 :: l) → Calls Tryz.prog 67 #[.pointer (some ⟨bb, 0, none⟩), .pointer (some ⟨bw, 0, none⟩)] W fun x w' => ∃ ao cap, x = .returned (.agg #[.int .u8 (k : Int), .int .u8 (c : Int), .int .u32 (e : Int), .int .u32 (tk : Int), .int .u32 (s : Int), .slice ao nn cap]) ∧ ∃ M : List EnE, evs M = N ∧ EIn M ∧ Own w0 w' (EntsT ao cap M :: X :: Y :: Cells bb #[v] 29 :: Row 5 1 v d (vrow (pack L)) :: Cells (bw + 1) #[.int .u8 0, .int .u8 0, .int .u32 0, .int .u32 0, .int .u32 0] 24 :: Cells bw #[.slice aw nw cw] 25 :: l)) := fun bb bw v W X Y hW => by
    refine (open1_W w0 W (X :: Y :: Row 5 1 v d (vrow (pack L)) :: Cells (bw + 1) #[.int .u8 0, .int .u8 0, .int .u32 0, .int .u32 0, .int .u32 0] 24 :: l) bb bw v (pack L) k c e tk s aw nw cw nn N (hW.perm (perm_o X Y _ _ _ _ l).symm) (fun w' hw => by rw [hpl]; exact Src.of_row hw.three.row) (pack_byte L) (by rw [hpl]; omega) (fun W b X1 X2 X3 hW' => hall W b X1 X2 X3 _ _ _ _ hW')).mono ?_
    rintro x w' ⟨ao, cap, rfl, M, hMv, hMI, hw⟩
    exact ⟨ao, cap, rfl, M, hMv, hMI, hw.perm (List.Perm.cons _ (perm_o X Y _ _ _ _ l))⟩
  clear h h1 hO hin hall hd s1 o1 o2 htb htf
  go_enter Tryz.func20, Tryz.ntmps20
  go_wp2_with fail
  refine HO.out.mono ?_
  rintro x w1 ⟨v, rfl, hr, hf, hk⟩
  obtain ⟨av, cv, rfl⟩ := row_any hr
  generalize hbw : w.heap.size = bw at *
  have h2 : Own w0 w1 (Row 5 1 (.slice av d cv) d (vrow (pack L)) :: Cells (bw + 1) #[.int .u8 0, .int .u8 0, .int .u32 0, .int .u32 0, .int .u32 0] 24 :: Cells bw #[.slice aw nw cw] 25 :: l) := H1.out.new (Row 5 1 (.slice av d cv) d (vrow (pack L))) (fun j => (Value.slice av d cv).ownBlock = some j) ⟨hr, fun _ => Iff.rfl⟩ hf (fun j hj => hk j hj)
  have h3 := h2.allocC #[.slice av d cv] 29
  have HC : Hid (Calls _ _ _ _ _) := caught_W w0 _ _ (.pointer (some ⟨w1.heap.size, 0, none⟩)) (.pointer (some ⟨bw, 0, none⟩)) k c e tk s nn N h3 (HCL.out w1.heap.size bw (.slice av d cv))
  clear h2 h3 hr hf hk HO H1 HCL hbw
  go_wp2_with fail
  refine HC.out.mono ?_
  rintro x w2 ⟨ao, cap, rfl, M, hMv, hMI, h4x⟩
  have HMM : Hid (evs M = N ∧ EIn M) := ⟨hMv, hMI⟩
  have h4 := own_end4 h4x
  clear h4x hMv hMI
  generalize w1.heap.size = bb at *
  have h5 := h4.allocC #[.int .u8 (k : Int), .int .u8 (c : Int), .int .u32 (e : Int), .int .u32 (tk : Int), .int .u32 (s : Int), .slice ao nn cap] 127
  have H5 : Hid (Own w0 _ _) := h5
  clear h4 h5 HC
  go_wp2
  generalize hWg : w2.alloc (.cells #[.int .u8 (k : Int), .int .u8 (c : Int), .int .u32 (e : Int), .int .u32 (tk : Int), .int .u32 (s : Int), .slice ao nn cap] 127) = w3 at *
  generalize w2.heap.size = bt at *
  clear hWg
  have O2 := (((((H5.out.four.setC 0 (.int .u8 (k : Int))).setC 1 (.int .u8 (c : Int))).setC 2 (.int .u32 (e : Int))).setC 3 (.int .u32 (tk : Int))).setC 4 (.int .u32 (s : Int))).drew
  have p0 := H5.out.cell 0
  have p1 := H5.out.cell 1
  have p2 := H5.out.cell 2
  have p3 := H5.out.cell 3
  have p4 := H5.out.cell 4
  have p5 := H5.out.cell 5
  simp at p0 p1 p2 p3 p4 p5
  have f0 := H5.out.four.froz 0
  have r0 := H5.out.four.cell 0
  have f1 := H5.out.four.froz 1
  have r1 := H5.out.four.cell 1
  have f2 := H5.out.four.froz 2
  have r2 := H5.out.four.cell 2
  have f3 := H5.out.four.froz 3
  have r3 := H5.out.four.cell 3
  have f4 := H5.out.four.froz 4
  have r4 := H5.out.four.cell 4
  simp at r0 r1 r2 r3 r4
  have K0 : (((((w3.setCell ⟨bw + 1, 0, none⟩ (.int .u8 (k : Int))).setCell ⟨bw + 1, 1, none⟩ (.int .u8 (c : Int))).setCell ⟨bw + 1, 2, none⟩ (.int .u32 (e : Int))).setCell ⟨bw + 1, 3, none⟩ (.int .u32 (tk : Int))).setCell ⟨bw + 1, 4, none⟩ (.int .u32 (s : Int))).drew.cell? ⟨bt, 0, none⟩ = some (.int .u8 (k : Int)) := by have := O2.two.cell 0; simpa using this
  have K1 : (((((w3.setCell ⟨bw + 1, 0, none⟩ (.int .u8 (k : Int))).setCell ⟨bw + 1, 1, none⟩ (.int .u8 (c : Int))).setCell ⟨bw + 1, 2, none⟩ (.int .u32 (e : Int))).setCell ⟨bw + 1, 3, none⟩ (.int .u32 (tk : Int))).setCell ⟨bw + 1, 4, none⟩ (.int .u32 (s : Int))).drew.cell? ⟨bt, 1, none⟩ = some (.int .u8 (c : Int)) := by have := O2.two.cell 1; simpa using this
  have K2 : (((((w3.setCell ⟨bw + 1, 0, none⟩ (.int .u8 (k : Int))).setCell ⟨bw + 1, 1, none⟩ (.int .u8 (c : Int))).setCell ⟨bw + 1, 2, none⟩ (.int .u32 (e : Int))).setCell ⟨bw + 1, 3, none⟩ (.int .u32 (tk : Int))).setCell ⟨bw + 1, 4, none⟩ (.int .u32 (s : Int))).drew.cell? ⟨bt, 2, none⟩ = some (.int .u32 (e : Int)) := by have := O2.two.cell 2; simpa using this
  have K3 : (((((w3.setCell ⟨bw + 1, 0, none⟩ (.int .u8 (k : Int))).setCell ⟨bw + 1, 1, none⟩ (.int .u8 (c : Int))).setCell ⟨bw + 1, 2, none⟩ (.int .u32 (e : Int))).setCell ⟨bw + 1, 3, none⟩ (.int .u32 (tk : Int))).setCell ⟨bw + 1, 4, none⟩ (.int .u32 (s : Int))).drew.cell? ⟨bt, 3, none⟩ = some (.int .u32 (tk : Int)) := by have := O2.two.cell 3; simpa using this
  have K4 : (((((w3.setCell ⟨bw + 1, 0, none⟩ (.int .u8 (k : Int))).setCell ⟨bw + 1, 1, none⟩ (.int .u8 (c : Int))).setCell ⟨bw + 1, 2, none⟩ (.int .u32 (e : Int))).setCell ⟨bw + 1, 3, none⟩ (.int .u32 (tk : Int))).setCell ⟨bw + 1, 4, none⟩ (.int .u32 (s : Int))).drew.cell? ⟨bt, 4, none⟩ = some (.int .u32 (s : Int)) := by have := O2.two.cell 4; simpa using this
  have K5 : (((((w3.setCell ⟨bw + 1, 0, none⟩ (.int .u8 (k : Int))).setCell ⟨bw + 1, 1, none⟩ (.int .u8 (c : Int))).setCell ⟨bw + 1, 2, none⟩ (.int .u32 (e : Int))).setCell ⟨bw + 1, 3, none⟩ (.int .u32 (tk : Int))).setCell ⟨bw + 1, 4, none⟩ (.int .u32 (s : Int))).drew.cell? ⟨bt, 5, none⟩ = some (.slice ao nn cap) := by have := O2.two.cell 5; simpa using this
  have H6 : Hid (Own w0 _ (Cells (bw + 1) #[.int .u8 (k : Int), .int .u8 (c : Int), .int .u32 (e : Int), .int .u32 (tk : Int), .int .u32 (s : Int)] 24 :: Cells bt #[.int .u8 (k : Int), .int .u8 (c : Int), .int .u32 (e : Int), .int .u32 (tk : Int), .int .u32 (s : Int), .slice ao nn cap] 127 :: Cells bb #[.slice av d cv] 29 :: Row 5 1 (.slice av d cv) d (vrow (pack L)) :: Cells bw #[.slice aw nw cw] 25 :: EntsT ao cap M :: l)) := O2
  clear H5 O2
  go_region_held3 (fun w' => w'.cell? ⟨bt, 0, none⟩ = some (.int .u8 (k : Int)) ∧ w'.cell? ⟨bt, 1, none⟩ = some (.int .u8 (c : Int)) ∧ w'.cell? ⟨bt, 2, none⟩ = some (.int .u32 (e : Int)) ∧ w'.cell? ⟨bt, 3, none⟩ = some (.int .u32 (tk : Int)) ∧ w'.cell? ⟨bt, 4, none⟩ = some (.int .u32 (s : Int)) ∧ w'.cell? ⟨bt, 5, none⟩ = some (.slice ao nn cap)) (first | go_keep | exact ⟨K0, K1, K2, K3, K4, K5⟩) (fail)
  clear K0 K1 K2 K3 K4 K5 p0 p1 p2 p3 p4 p5 f0 f1 f2 f3 f4 r0 r1 r2 r3 r4
  go_wp2
  (try simp only [Exit.inBlock, Exit.then])
  refine bodyPost_ret (v := .tuple #[.agg #[.int .u8 (k : Int), .int .u8 (c : Int), .int .u32 (e : Int), .int .u32 (tk : Int), .int .u32 (s : Int)], .slice ao nn cap, .int .i64 0]) ?_ rfl ⟨ao, cap, rfl, M, HMM.out.1, HMM.out.2, H6.out.tail.tail.tail.tail.tail⟩
  rw [results_cell_tmp_tmp rfl]
  have r0 := H6.out.cell 0
  have r1 := H6.out.cell 1
  have r2 := H6.out.cell 2
  have r3 := H6.out.cell 3
  have r4 := H6.out.cell 4
  simp at r0 r1 r2 r3 r4
  go_simp
set_option maxHeartbeats 4000000 in
theorem rdall3W (w0 w : World) (ht : Tab w0) (l : List Thing) (b : Nat) (P : List Nat) (t : Nat) (h : Own w0 w (RdT b P t :: l)) (k c e tk s : Nat) (aw : Option Addr) (nw cw : Nat) (hR : Right k c e tk s) (h1 : k ≠ 1) (h2 : k ≠ 2) (R : List Bool) (hb : (bitsB P).drop t = headB k c e tk s ++ (R)) (hE : AtEnd P (t + (headB k c e tk s).length)) :
    Calls Tryz.prog 68 #[.agg #[.pointer (some ⟨b, 0, none⟩)], .slice aw nw cw] w fun x w' => x = .returned (.agg #[.int .u8 (k : Int), .int .u8 (c : Int), .int .u32 (e : Int), .int .u32 (tk : Int), .int .u32 (s : Int), .slice none 0 0]) ∧ Own w0 w' l := by
  have h1' := (h.allocC #[.pointer (some ⟨b, 0, none⟩)] 123).allocC #[.int .u8 0, .int .u8 0, .int .u32 0, .int .u32 0, .int .u32 0, .slice none 0 0] 127
  have s1 : (w.alloc (.cells #[.pointer (some ⟨b, 0, none⟩)] 123)).heap.size = w.heap.size + 1 := Array.size_push _
  rw [s1] at h1'
  have q0 := h1'.two.cell 0
  simp at q0
  have HH : Hid (Calls Tryz.prog 65 #[.agg #[.pointer (some ⟨b, 0, none⟩)]] _ fun x w' => x = .returned (.agg #[.int .u8 (k : Int), .int .u8 (c : Int), .int .u32 (e : Int), .int .u32 (tk : Int), .int .u32 (s : Int)]) ∧ Own w0 w' (RdT b P (t + (headB k c e tk s).length) :: _)) := rdhead w0 _ _ b P t h1'.three k c e tk s hR _ hb
  have d1 := drop_next hb rfl
  have HE : Hid (AtEnd P (t + (headB k c e tk s).length)) := hE
  have e1 : ((k : Int) == 1) = false := by rw [beq_eq_false_iff_ne]; omega
  have e2 : ((k : Int) == 2) = false := by rw [beq_eq_false_iff_ne]; omega
  clear h h1' hb s1 ht hR hE d1 h1 h2
  generalize (t + (headB k c e tk s).length) = t1 at *
  go_enter Tryz.func68, Tryz.ntmps68
  go_wp2_with fail
  refine HH.out.mono ?_
  rintro x w1 ⟨rfl, h1⟩
  generalize hbx : w.heap.size = bx at *
  clear hbx
  have h2 := h1.allocC #[.int .u8 (k : Int), .int .u8 (c : Int), .int .u32 (e : Int), .int .u32 (tk : Int), .int .u32 (s : Int), .slice none 0 0] 127
  have q1 := h2.cell 0
  have q2 := h2.four.cell 0
  simp at q1 q2
  have HN : Hid (Calls _ _ _ _ _) := end_own w0 _ _ b P t1 h2.two HE.out.1 HE.out.2
  clear h1 h2 HH q0
  go_wp2_with fail
  refine HN.out.mono ?_
  rintro x w3 ⟨rfl, h5⟩
  generalize w1.heap.size = bt at *
  have HM : Hid (Calls _ _ _ _ _) := must_ok w3
  have H5 : Hid (Own w0 w3 (Cells bt #[.int .u8 (k : Int), .int .u8 (c : Int), .int .u32 (e : Int), .int .u32 (tk : Int), .int .u32 (s : Int), .slice none 0 0] 127 :: RdT b P t1 :: Cells (bx + 1) #[.int .u8 0, .int .u8 0, .int .u32 0, .int .u32 0, .int .u32 0, .slice none 0 0] 127 :: Cells bx #[.pointer (some ⟨b, 0, none⟩)] 123 :: l)) := h5.two
  clear h5 HN q1 q2
  go_wp2_with fail
  refine HM.out.mono ?_
  rintro x w4 ⟨rfl, rfl⟩
  have p0 := H5.out.cell 0
  have p1 := H5.out.cell 1
  have p2 := H5.out.cell 2
  have p3 := H5.out.cell 3
  have p4 := H5.out.cell 4
  have p5 := H5.out.cell 5
  simp at p0 p1 p2 p3 p4 p5
  have f0 := H5.out.three.froz 0
  have r0 := H5.out.three.cell 0
  have f1 := H5.out.three.froz 1
  have r1 := H5.out.three.cell 1
  have f2 := H5.out.three.froz 2
  have r2 := H5.out.three.cell 2
  have f3 := H5.out.three.froz 3
  have r3 := H5.out.three.cell 3
  have f4 := H5.out.three.froz 4
  have r4 := H5.out.three.cell 4
  have f5 := H5.out.three.froz 5
  have r5 := H5.out.three.cell 5
  simp at r0 r1 r2 r3 r4 r5
  have H10 : Hid (Own w0 ((((((w4.setCell ⟨bx + 1, 0, none⟩ (.int .u8 (k : Int))).setCell ⟨bx + 1, 1, none⟩ (.int .u8 (c : Int))).setCell ⟨bx + 1, 2, none⟩ (.int .u32 (e : Int))).setCell ⟨bx + 1, 3, none⟩ (.int .u32 (tk : Int))).setCell ⟨bx + 1, 4, none⟩ (.int .u32 (s : Int))).setCell ⟨bx + 1, 5, none⟩ (.slice none 0 0)) (Cells (bx + 1) #[.int .u8 (k : Int), .int .u8 (c : Int), .int .u32 (e : Int), .int .u32 (tk : Int), .int .u32 (s : Int), .slice none 0 0] 127 :: Cells bt #[.int .u8 (k : Int), .int .u8 (c : Int), .int .u32 (e : Int), .int .u32 (tk : Int), .int .u32 (s : Int), .slice none 0 0] 127 :: RdT b P t1 :: Cells bx #[.pointer (some ⟨b, 0, none⟩)] 123 :: l)) := ((((((H5.out.three.setC 0 (.int .u8 (k : Int))).setC 1 (.int .u8 (c : Int))).setC 2 (.int .u32 (e : Int))).setC 3 (.int .u32 (tk : Int))).setC 4 (.int .u32 (s : Int))).setC 5 (.slice none 0 0))
  clear H5 HM
  go_wp2
  (try simp only [Exit.inBlock, Exit.then])
  refine bodyPost_ret (results_cell_row rfl _ _ (bx + 1) 127 #[.int .u8 (k : Int), .int .u8 (c : Int), .int .u32 (e : Int), .int .u32 (tk : Int), .int .u32 (s : Int), .slice none 0 0] _ _ rfl H10.out.obj Tryz.underlying127 rfl (by kernel_rfl)) rfl ?_
  exact ⟨rfl, H10.out.tail.tail.tail.tail⟩
end Go.Proofs.YtbencjopjdjepaaGreatDoor

/-
  Lists of entities that come in, and how many values they hold.
-/
namespace Go.Proofs.YtbencjopjdjepaaGreatDoor
open Go.ChangeShapes Go.WideShapes Go.ChangeAt Go.RowKit Go.Deep
set_option linter.unusedVariables false
set_option maxRecDepth 100000

theorem bulk_pos {H : Type} (d : DataW H) : 1 ≤ Rows.uptoBulk d := by
  cases d with
  | lit v => cases v <;> simp [Rows.uptoBulk]
  | _ => simp [Rows.uptoBulk]
theorem bulk_in {H : Type} {d : DataW H} {m : List (DataW H)} (h : d ∈ m) : Rows.uptoBulk d ≤ Rows.uptoBulkAll m := by
  induction m with
  | nil => cases h
  | cons y m ih =>
    simp only [Rows.uptoBulkAll]
    rcases List.mem_cons.1 h with rfl | h
    · omega
    · have := ih h; omega
theorem bulk_sum {H : Type} {D : Nat → DataW H} {s : Nat → Nat} : ∀ (R : List Nat), (∀ i ∈ R, s i ≤ Rows.uptoBulk (D i)) → (R.map s).sum ≤ Rows.uptoBulkAll (R.map D) := by
  intro R
  induction R with
  | nil => intro _; exact Nat.zero_le _
  | cons i R ih =>
    intro h
    have h1 := h i (by simp)
    have h2 := ih (fun j hj => h j (List.mem_cons_of_mem _ hj))
    simp only [List.map_cons, List.sum_cons, Rows.uptoBulkAll]
    omega
theorem bulk_slice {H : Type} (a b : List (DataW H)) : Rows.uptoBulk (.slice a b) = Rows.uptoBulkAll a + Rows.uptoBulkAll b + 1 := by simp only [Rows.uptoBulk]
theorem bulk_agg {H : Type} (a : List (DataW H)) : Rows.uptoBulk (.agg a) = Rows.uptoBulkAll a + 1 := by simp only [Rows.uptoBulk]
/-- elements of a slice that comes in, and how many values they hold -/
theorem open_rowsB {H : Type} {enc : TypeId × Value → H} {P : Program} {W : World} {ao : Option Addr} {len cap : Nat} {d : DataW H} {p : List MemPlace} {α : Type} [Inhabited α] {t e : TypeId} (s : Nat) (ht : P.underlying t = some (.slice e)) (hs : P.cellsOf e = s) (h0s : 0 < s) (G : List Value → α → Prop) (sz : α → Nat)
    (hG : ∀ fuel cs x, DataW.trod enc P W 0 (fun _ => true) true fuel e cs = some x → ∃ q, G cs q ∧ sz q ≤ Rows.uptoBulk x.1)
    (h : DataW.Trod enc P W 0 (fun _ => true) true t (.slice ao len cap) d p) :
    ∃ Q : List α, Q.length = len ∧ len ≤ cap ∧ cap ≤ maxLen ∧ RowsAt G s W ao Q ∧ (Q.map sz).sum ≤ Rows.uptoBulk d := by
  obtain ⟨fuel, hf⟩ := h
  rcases open_slice ht hf with ⟨hc, hd⟩ | ⟨a, l, c, m, n, D, Pl, hc, _, hl, hm, hmm, hd, hx⟩
  · simp [Value.cells] at hc
    obtain ⟨rfl, rfl, rfl⟩ := hc
    exact ⟨[], rfl, Nat.le_refl _, Nat.zero_le _, .inl rfl, Nat.zero_le _⟩
  · simp [Value.cells] at hc
    obtain ⟨rfl, rfl, rfl⟩ := hc
    simp only [Prod.mk.injEq] at hd
    obtain ⟨rfl, _⟩ := hd
    have hml : len ≤ m := by rw [hmm]; simp; omega
    have each : ∀ i, i < len → ∃ q : α, sz q ≤ Rows.uptoBulk (D i) ∧ ∃ cs, G cs q ∧ cs.length = s ∧ ∀ r, r < s → W.cell? ((a.add (i * s)).add r) = cs[r]? := by
      intro i hi
      obtain ⟨cs', h1, h2⟩ := hx i (by omega)
      rw [hs] at h1
      obtain ⟨_, hlen, hcell⟩ := World.cells?_some h1
      obtain ⟨q, hq, hb⟩ := hG _ _ _ h2
      exact ⟨q, hb, cs', hq, hlen, fun r hr => by rw [hcell r hr, List.getElem?_eq_getElem (by omega)]⟩
    obtain ⟨f, hfn⟩ := choose_lt each
    refine ⟨(List.range len).map f, by simp, hl, hm, ?_, ?_⟩
    · by_cases h0 : len = 0
      · subst h0; left; rfl
      · right
        obtain ⟨g, o, spot⟩ := a
        obtain ⟨_, cs, _, hcl, hcc⟩ := hfn 0 (by omega)
        have h1 := hcc 0 h0s
        rw [List.getElem?_eq_getElem (by omega)] at h1
        have hsp : spot = none := by simpa [Addr.add] using World.cell?_spot h1
        subst hsp
        refine ⟨g, o, rfl, fun j q hj => ?_⟩
        have hjl : j < len := by
          have := (List.getElem?_eq_some_iff.1 hj).1
          simpa using this
        rw [List.getElem?_map, List.getElem?_range hjl] at hj
        simp only [Option.map_some, Option.some.injEq] at hj
        obtain ⟨_, cs, h1, h2, h3⟩ := hfn j hjl
        rw [hj] at h1
        refine ⟨cs, h1, h2, fun r hr => ?_⟩
        have := h3 r hr
        rw [addr_add, addr_add] at this
        exact this
    · have h1 := bulk_sum (D := D) (s := fun i => sz (f i)) (List.range len) (fun i hi => (hfn i (by simpa using hi)).1)
      rw [bulk_slice, List.map_map]
      have e : sz ∘ f = fun i => sz (f i) := rfl
      rw [e]
      omega
theorem cellsEnt : Tryz.prog.cellsOf 65 = 2 := by kernel_rfl
theorem cellsEntC : Tryz.prog.cellsOf 63 = 1 := by kernel_rfl
theorem cellsEntI : Tryz.prog.cellsOf 62 = 1 := by kernel_rfl
theorem duo {β : Type} {l : List β} (h : l.length = 2) : ∃ a b, l = [a, b] := by
  match l, h with
  | [a, b], _ => exact ⟨a, b, rfl⟩
def EntI (W : World) (cs : List Value) (x : EnE) : Prop := cs = x.cs ∧ x.id < 4294967296 ∧ IsComps W x.ao x.C.length x.cap x.C
theorem ones_sum {α : Type} (Q : List α) : (Q.map (fun _ => 1)).sum = Q.length := by
  induction Q with
  | nil => rfl
  | cons a t ih => rw [List.map_cons, List.sum_cons, ih, List.length_cons]; omega
/-- components that come in, and how many there are -/
theorem open_csB {H : Type} {enc : TypeId × Value → H} {W : World} {fuel : Nat} {cs : List Value} {x : DataW H × List MemPlace} (h : DataW.trod enc Tryz.prog W 0 (fun _ => true) true fuel 63 cs = some x) : ∃ ao cap C, cs = [.slice ao (List.length C) cap] ∧ IsComps W ao (List.length C) cap C ∧ C.length ≤ Rows.uptoBulk x.1 := by
  obtain ⟨ao, len, cap, hv⟩ : ∃ ao len cap, cs = [.slice ao len cap] := by
    rcases open_slice Tryz.underlying63 h with ⟨hc, _⟩ | ⟨a, l, c, m, n, D, Pl, hc, _⟩
    · exact ⟨_, _, _, hc⟩
    · exact ⟨_, _, _, hc⟩
  subst hv
  obtain ⟨d, p⟩ := x
  obtain ⟨Q, h1, h2, h3, h4, h5⟩ := open_rowsB 4 Tryz.underlying63 cellsComp (by decide) CompIs (fun _ => 1) (fun fuel cs x hx => by
    obtain ⟨k, a, b, c, g1, g2, g3, g4, hcs, _⟩ := comp_cells hx
    obtain ⟨n, rfl, hn⟩ := ok8_nat g1
    exact ⟨⟨n, a, b, c⟩, ⟨hcs, hn⟩, bulk_pos _⟩) (d := d) (p := p) ⟨fuel, h⟩
  subst h1
  refine ⟨ao, cap, Q, rfl, ⟨rfl, h2, h3, h4⟩, ?_⟩
  rw [ones_sum] at h5
  exact h5
theorem ent_is {H : Type} {enc : TypeId × Value → H} {W : World} (fuel : Nat) (cs : List Value) (x : DataW H × List MemPlace)
    (h : DataW.trod enc Tryz.prog W 0 (fun _ => true) true fuel 65 cs = some x) : ∃ e, EntI W cs e ∧ e.C.length + 1 ≤ Rows.uptoBulk x.1 := by
  obtain ⟨xs, n, _, hx, hl, hlen, hf⟩ := DataW.trod_struct Tryz.underlying65 h
  rw [cellsEnt] at hl
  obtain ⟨c0, c1, rfl⟩ := duo hl
  obtain ⟨y0, y1, rfl⟩ := duo hlen
  have h0 := hf 0 _ rfl
  have h1 := hf 1 _ rfl
  simp [cellsEntC, cellsEntI] at h0 h1
  obtain ⟨b, b0, _, wb⟩ := DataW.trod_int Tryz.underlying62 h0
  simp at b0
  subst b0
  have hb : 0 ≤ b ∧ b ≤ 4294967295 := by simpa [Lit.wf, IntKind.min, IntKind.max, IntKind.signed, IntKind.bits] using wb
  obtain ⟨bn, rfl⟩ := Int.eq_ofNat_of_zero_le hb.1
  obtain ⟨ao, cap, C, hv, hC, hs⟩ := open_csB h1
  simp at hv
  subst hv
  refine ⟨⟨bn, ao, cap, C⟩, ⟨rfl, by show bn < _; omega, hC⟩, ?_⟩
  subst hx
  show _ ≤ Rows.uptoBulk (.agg [y0.1, y1.1])
  rw [bulk_agg]
  have := bulk_in (d := y1.1) (m := [y0.1, y1.1]) (by simp)
  show C.length + 1 ≤ _
  omega
def IsEnts (w : World) (ao : Option Addr) (len cap : Nat) (Q : List EnE) : Prop := Q.length = len ∧ len ≤ cap ∧ cap ≤ maxLen ∧ RowsAt (EntI w) 2 w ao Q
theorem esz_sum (Q : List EnE) : (Q.map (fun x => x.C.length + 1)).sum = esz Q := by
  unfold esz
  induction Q with
  | nil => rfl
  | cons x t ih => simp only [List.map_cons, List.sum_cons, List.length_cons, csz, ih]; omega
theorem open_ents {H : Type} {enc : TypeId × Value → H} {W : World} {ao : Option Addr} {len cap : Nat} {d : DataW H} {p : List MemPlace}
    (h : DataW.Trod enc Tryz.prog W 0 (fun _ => true) true 25 (.slice ao len cap) d p) : ∃ Q, IsEnts W ao len cap Q ∧ esz Q ≤ Rows.uptoBulk d := by
  haveI : Inhabited EnE := ⟨⟨0, none, 0, []⟩⟩
  obtain ⟨Q, h1, h2, h3, h4, h5⟩ := open_rowsB 2 Tryz.underlying25 cellsEnt (by decide) (EntI W) (fun x => x.C.length + 1) (fun fuel cs x hx => ent_is fuel cs x hx) h
  rw [esz_sum] at h5
  exact ⟨Q, ⟨h1, h2, h3, h4⟩, h5⟩
theorem IsEnts.ents {w : World} {ao : Option Addr} {len cap : Nat} {Q : List EnE} (h : IsEnts w ao len cap Q) : EntsAt w ao Q ∧ EIn Q := by
  obtain ⟨hl, _, _, hR⟩ := h
  have key : ∀ x ∈ Q, x.id < 4294967296 ∧ IsComps w x.ao x.C.length x.cap x.C := by
    intro x hx
    obtain ⟨j, hj⟩ := List.getElem?_of_mem hx
    rcases hR with h | ⟨g, of, ha, hc⟩
    · subst h; simp at hj
    · obtain ⟨cs, ⟨_, h3, h4⟩, _⟩ := hc j x hj
      exact ⟨h3, h4⟩
  refine ⟨⟨?_, fun x hx => (key x hx).2.cs.1⟩, fun x hx => ⟨(key x hx).1, (key x hx).2.cs.2⟩⟩
  rcases hR with h | ⟨g, of, ha, hc⟩
  · exact .inl h
  · refine .inr ⟨g, of, ha, fun j x hj => ?_⟩
    obtain ⟨cs, ⟨rfl, _⟩, _, h3⟩ := hc j x hj
    exact ⟨h3 0 (by decide), h3 1 (by decide)⟩
end Go.Proofs.YtbencjopjdjepaaGreatDoor


/-
  What a delta between two snapshots is made of.
-/
namespace Go.Proofs.YtbencjopjdjepaaGreatDoor
open Go.RowKit
set_option linter.unusedVariables false
set_option maxRecDepth 100000

theorem btw_mem (W N : List En) : (∀ x ∈ (btw W N).come, x ∈ N) ∧ ∀ c ∈ (btw W N).chg, ∀ q ∈ c.new, ∃ n ∈ N, q ∈ n.2 := by
  fun_induction btw W N with
  | case1 => exact ⟨(fun x hx => by cases hx), (fun c hc => by cases hc)⟩
  | case2 w ws ih => exact ih
  | case3 n ns ih =>
    refine ⟨fun x hx => ?_, fun c hc q hq => ?_⟩
    · simp only [addE] at hx
      rcases List.mem_cons.1 hx with rfl | hx
      · exact List.mem_cons_self ..
      · exact List.mem_cons_of_mem _ (ih.1 x hx)
    · obtain ⟨y, hy, h⟩ := ih.2 c hc q hq
      exact ⟨y, List.mem_cons_of_mem _ hy, h⟩
  | case4 w ws n ns h ih => exact ih
  | case5 w ws n ns h h2 ih =>
    refine ⟨fun x hx => ?_, fun c hc q hq => ?_⟩
    · simp only [addE] at hx
      rcases List.mem_cons.1 hx with rfl | hx
      · exact List.mem_cons_self ..
      · exact List.mem_cons_of_mem _ (ih.1 x hx)
    · obtain ⟨y, hy, h⟩ := ih.2 c hc q hq
      exact ⟨y, List.mem_cons_of_mem _ hy, h⟩
  | case6 w ws n ns h h2 ih =>
    refine ⟨fun x hx => List.mem_cons_of_mem _ (ih.1 x hx), fun c hc q hq => ?_⟩
    simp only [addC] at hc
    split at hc
    · obtain ⟨y, hy, h⟩ := ih.2 c hc q hq
      exact ⟨y, List.mem_cons_of_mem _ hy, h⟩
    · rcases List.mem_cons.1 hc with rfl | hc
      · exact ⟨n, List.mem_cons_self .., (List.mem_filter.1 hq).1⟩
      · obtain ⟨y, hy, h⟩ := ih.2 c hc q hq
        exact ⟨y, List.mem_cons_of_mem _ hy, h⟩
theorem EIn.iff (L : List EnE) : EIn L ↔ ∀ e ∈ evs L, e.1 < 4294967296 ∧ ∀ q ∈ e.2, q.k < 256 := by
  constructor
  · intro h e he
    obtain ⟨x, hx, rfl⟩ := List.mem_map.1 he
    exact h x hx
  · intro h x hx
    exact h (x.id, x.C) (List.mem_map.2 ⟨x, hx, rfl⟩)
theorem Own.rowCap {w0 w : World} {l : List Thing} {e : TypeId} {z : Nat} {ao : Option Addr} {cap n : Nat} {xs : List Value} (h : Own w0 w (Row e z (.slice ao n cap) n xs :: l)) : n ≤ cap ∧ cap ≤ 9223372036854775807 := by
  rcases h.row.2 with ⟨hv, h0⟩ | ⟨g, cp, cur, hv, _, _, h3, h4, _⟩
  · simp only [Value.slice.injEq] at hv
    omega
  · simp only [Value.slice.injEq] at hv
    unfold maxLen at h4
    omega
theorem dlOk_of {w0 w : World} {l : List Thing} {W N : List EnE} {d : DlE} (h : Own w0 w (d.things ++ l)) (hd : d.v = btw (evs W) (evs N)) (hIN : EIn N) (hW : esz W ≤ 30000) (hN : esz N ≤ 30000) : DlOk d := by
  obtain ⟨a, b, c, e, f⟩ := btw_sz (evs W) (evs N)
  obtain ⟨m1, m2⟩ := btw_mem (evs W) (evs N)
  have cs := come_sz (evs W) (evs N)
  rw [← hd] at a b c e f cs m1 m2
  rw [evs_len] at a b c
  rw [cszV_evs] at e cs
  have hb : (evs d.M).length ≤ N.length := b
  have hcs : cszV (evs d.M) ≤ csz N := cs
  have hc : (chv d.H).length ≤ N.length := c
  have he : hszV (chv d.H) ≤ 2 * csz N := e
  have ha : d.G.length ≤ W.length := a
  rw [evs_len] at hb
  rw [cszV_evs] at hcs
  rw [chv_len] at hc
  rw [hszV_chv] at he
  unfold esz at hW hN
  have h1 : Own w0 w (grow1 d.G d.ga d.gc :: EntsT d.ma d.mc d.M :: hrow1 d.H d.ha d.hc :: (hrows d.H ++ l)) := h
  have g1 := Own.rowCap h1
  have g2 := Own.rowCap h1.tail.tail
  have hI := (EIn.iff N).1 hIN
  refine ⟨⟨g1.1, g2.1, g1.2, g2.2⟩, (EIn.iff _).2 (fun x hx => hI x (m1 x hx)), by unfold esz; omega, by omega, fun x hx => ?_, by omega⟩
  have hxc : x.v ∈ d.v.chg := List.mem_map.2 ⟨x, hx, rfl⟩
  have h2 := f x.v hxc
  have h3 : x.v.lost = x.lost := rfl
  refine ⟨by omega, fun q hq => ?_⟩
  obtain ⟨n, hn, hq2⟩ := m2 x.v hxc q hq
  exact (hI n hn).2 q hq2
end Go.Proofs.YtbencjopjdjepaaGreatDoor


