/-
  What stands behind the head, and the whole frame: packets of nobody, steps from a snapshot to itself.
-/
import Derived.Test.YtcmofbhfdagpcaaGreatDoorPrdg
import Derived.Test.YtcmofbhfdagpcaaGreatDoorGkg
import Derived.Test.YtcmofbhfdagpcaaGreatDoorEnmg
import Derived.Test.YtcmofbhfdagpcaaGreatDoorPrhg
import Derived.Deep.RegionLaw
import Derived.Test.YtcmofbhfdagpcaaGreatDoorSjg
import Derived.Test.YtcmofbhfdagpcaaGreatDoorSc
import Derived.Test.YtcmofbhfdagpcaaGreatDoorTie
import Derived.Test.YtcmofbhfdagpcaaGreatDoorCards
import Derived.ProofKit
import Derived.OpenShut
import Derived.LaidMore
import Derived.SevenTiedAt
import Derived.Stop.Joined
namespace Go.Proofs.YtcmofbhfdagpcaaGreatDoor
open Go.RowKit
set_option linter.unusedVariables false
set_option maxRecDepth 100000

set_option maxHeartbeats 400000 in
/-- of those kinds that have no entities -/
theorem content_no (w0 w : World) (l : List Thing) (p k : Nat) (wv : Value) (a : Option Addr) (c : Nat) (h : Own w0 w l) (h1 : k ≠ 1) (h2 : k ≠ 2) :
    Calls Tryz.prog 13 #[.pointer (some ⟨p, 0, none⟩), .int .u8 (k : Int), wv, .slice a 0 c] w fun e w' => e = .returned (.int .i64 0) ∧ Own w0 w' l := by
  have e1 : ((k : Int) == 1) = false := by rw [beq_eq_false_iff_ne]; omega
  have e2 : ((k : Int) == 2) = false := by rw [beq_eq_false_iff_ne]; omega
  have H : Hid (Own w0 w l) := h
  clear h h1 h2
  go_enter Tryz.func13, Tryz.ntmps13
  go_wp2
  go_ret
  exact ⟨rfl, H.out⟩
set_option maxHeartbeats 1000000 in
/-- of a step that changes nothing -/
theorem content_same (w0 w : World) (ht : Tab w0) (l : List Thing) (p b : Nat) (L : List Bool) (h : Own w0 w (penC p b :: WrT b L :: l)) (aw an : Option Addr) (nw nn cw cn : Nat) (W N : List EnE) (hQ : ∀ w', Own w0 w' l → EntsAt w' aw W ∧ EntsAt w' an N) (hW : W.length = nw) (hN : N.length = nn) (hcw : nw ≤ cw) (hcn : nn ≤ cn) (hmw : cw ≤ 9223372036854775807) (hmn : cn ≤ 9223372036854775807) (hIW : EIn W) (hIN : EIn N) (hzW : esz W ≤ 1000000) (hzN : esz N ≤ 1000000) (hf : fm 0 (evs W) = 0) (he : evs W = evs N) (hl : L.length + 128 ≤ 1048576) :
    Calls Tryz.prog 13 #[.pointer (some ⟨p, 0, none⟩), .int .u8 2, .slice aw nw cw, .slice an nn cn] w fun e w' => e = .returned (.int .i64 0) ∧ Own w0 w' (penC p b :: WrT b (((L ++ var 0) ++ var 0) ++ var 0) :: l) := by
  have HD : Hid (Calls _ _ _ _ _) := diff_any w0 w ht _ h aw an nw nn cw cn W N (fun w' hw => hQ w' hw.tail.tail) hW hN hcw hcn hmw hmn hIW hIN hzW hzN
  have hdc : dcode (evs W) (evs N) = 0 := by unfold dcode; rw [← he]; simp [hf]
  have hdv : dlv (evs W) (evs N) = ⟨[], [], []⟩ := by unfold dlv; rw [if_pos hdc, ← he]; exact btw_self _ (Snap.of hf)
  rw [hdc, hdv] at HD
  clear h hQ hW hN hcw hcn hmw hmn hIW hIN hzW hzN hf he hdc hdv
  go_enter Tryz.func13, Tryz.ntmps13
  go_wp2_with fail
  refine HD.out.mono ?_
  rintro e w1 ⟨d, rfl, hd, h1⟩
  have g0 : d.G.length = 0 := by have := congrArg Dl.gone hd; exact congrArg List.length this
  have g1 : d.M.length = 0 := by rw [← evs_len]; have := congrArg Dl.come hd; exact congrArg List.length this
  have g2 : d.H.length = 0 := by have := congrArg (fun x => x.chg.length) hd; simpa [DlE.v] using this
  unfold DlE.vs
  rw [g0, g1, g2]
  have h2 := (Own.dropA h1).allocC #[.slice d.ga 0 d.gc, .slice d.ma 0 d.mc, .slice d.ha 0 d.hc] 70
  have q0 := h2.cell 0
  have q1 := h2.cell 1
  have q2 := h2.cell 2
  simp at q0 q1 q2
  have HP : Hid (Calls _ _ _ _ _) := pdelta0 w0 _ _ p b L (.slice aw nw cw) d.ga d.ma d.ha d.gc d.mc d.hc h2.two.in23 hl
  have z0 : ((0 : Int) != 0) = false := rfl
  clear h1 h2 hd g0 g1 g2 HD
  go_wp2_with fail
  refine HP.out.mono ?_
  rintro e w2 ⟨rfl, h3⟩
  have H3 : Hid (Own w0 w2 _) := h3.three.tail
  clear h3 HP q0 q1 q2
  go_wp2
  go_ret
  exact ⟨rfl, H3.out⟩
theorem pack_len (L : List Bool) : (pack L).length = nb L.length := by simp [pack]
theorem pack_byte (L : List Bool) : ∀ x ∈ pack L, x < 256 := by
  intro x hx
  unfold pack at hx
  obtain ⟨i, _, rfl⟩ := List.mem_map.1 hx
  exact byteAt_lt L i
set_option maxHeartbeats 4000000 in
/-- a packet whose head is right and whose content has room -/
theorem pseal_ok (w0 w : World) (ht : Tabf w0) (l : List Thing) (h : Own w0 w l) (k c e t s : Nat) (hR : Right k c e t s) (wv nv : Value) (C : List Bool) (hC0 : 0 < C.length + (headB k c e t s).length) (hC : C.length ≤ 32000)
    (hcont : ∀ (w' : World) (p b : Nat) (X : Thing), Own w0 w' (penC p b :: WrT b (headB k c e t s) :: X :: l) → Calls Tryz.prog 13 #[.pointer (some ⟨p, 0, none⟩), .int .u8 (k : Int), wv, nv] w' fun x w'' => x = .returned (.int .i64 0) ∧ Own w0 w'' (penC p b :: WrT b (headB k c e t s ++ C) :: X :: l)) :
    Calls Tryz.prog 5 #[.agg (hvs k c e t s), wv, nv] w fun x w' => ∃ g cp, x = .returned (.tuple #[.slice (some ⟨g, 0, none⟩) (nb (headB k c e t s ++ C).length + 4) cp, .int .i64 0]) ∧ Own w0 w' (Row 5 1 (.slice (some ⟨g, 0, none⟩) (nb (headB k c e t s ++ C).length + 4) cp) (nb (headB k c e t s ++ C).length + 4) (vrow (frm (pack (headB k c e t s ++ C)))) :: l) := by
  have hB := h.allocC (hvs k c e t s) 24
  have HCH : Hid (Calls _ _ _ _ _) := check_ok (w.alloc (.cells (hvs k c e t s) 24)) k c e t s hR
  have HR : Hid (Right k c e t s) := hR
  have HB : Hid (Own w0 _ _) := hB
  have HCO : Hid (∀ (w' : World) (p b : Nat) (X : Thing), Own w0 w' (penC p b :: WrT b (headB k c e t s) :: X :: l) → Calls Tryz.prog 13 #[.pointer (some ⟨p, 0, none⟩), .int .u8 (k : Int), wv, nv] w' fun x w'' => x = .returned (.int .i64 0) ∧ Own w0 w'' (penC p b :: WrT b (headB k c e t s ++ C) :: X :: l)) := hcont
  have HTF : Hid (Tabf w0) := ht
  have hhl := headB_le k c e t s hR.e32 hR.t32
  obtain ⟨L, hL⟩ : ∃ L, L = headB k c e t s ++ C := ⟨_, rfl⟩
  rw [← hL] at HCO
  rw [← hL]
  have hll : L.length ≤ 32300 ∧ 0 < L.length := by rw [hL, List.length_append]; omega
  clear hL
  have q0 := hB.cell 0
  have q1 := hB.cell 1
  have q2 := hB.cell 2
  have q3 := hB.cell 3
  have q4 := hB.cell 4
  simp [hvs] at q0 q1 q2 q3 q4
  unfold hvs at HCH
  clear h hB hcont hR ht
  unfold hvs
  go_enter Tryz.func5, Tryz.ntmps5
  go_wp2_with fail
  refine HCH.out.mono ?_
  rintro x w1 ⟨rfl, hf1⟩
  have h1 := HB.out.quiet hf1
  have HNW : Hid (Calls _ _ _ _ _) := new_own w0 w1 _ h1
  clear hf1 h1 HCH HB q0 q1 q2 q3 q4
  generalize w.heap.size = bh at *
  go_wp2_with fail
  refine HNW.out.mono ?_
  rintro x w2 ⟨b, rfl, h2⟩
  have h3 := h2.allocC #[.pointer (some ⟨b, 0, none⟩), .int .i64 0] 43
  have q0 := h3.three.cell 0
  have q1 := h3.three.cell 1
  have q2 := h3.three.cell 2
  have q3 := h3.three.cell 3
  have q4 := h3.three.cell 4
  simp [hvs] at q0 q1 q2 q3 q4
  have HHD : Hid (Calls _ _ _ _ _) := phead w0 _ _ w2.heap.size b h3 k c e t s HR.out
  unfold hvs at HHD
  clear h2 h3 HNW
  go_wp2_with fail
  refine HHD.out.mono ?_
  rintro x w3 ⟨rfl, h4⟩
  generalize w2.heap.size = p at *
  have r0 := h4.three.cell 0
  simp at r0
  have HCN : Hid (Calls _ _ _ _ _) := HCO.out w3 p b _ h4
  clear h4 HHD q0 q1 q2 q3 q4
  go_wp2_with fail
  refine HCN.out.mono ?_
  rintro x w4 ⟨rfl, h5⟩
  have z0 := Own.cell (show Own w0 w4 (Cells p #[.pointer (some ⟨b, 0, none⟩), .int .i64 0] 43 :: _) from h5) 0
  have z1 := Own.cell (show Own w0 w4 (Cells p #[.pointer (some ⟨b, 0, none⟩), .int .i64 0] 43 :: _) from h5) 1
  simp at z0 z1
  have HBY : Hid (Calls _ _ _ _ _) := bytesW w0 w4 _ b L h5.two (by omega)
  clear h5 HCN r0
  go_wp2_with fail
  refine HBY.out.mono ?_
  rintro x w5 ⟨v, rfl, h6⟩
  have hnb : 0 < nb L.length := by unfold nb; omega
  obtain ⟨g, cap, hv, _⟩ := row_shape h6.row hnb
  subst hv
  have hin := In.of_row h6.row (by rw [pack_len]) (pack_byte L)
  have HSE : Hid (Calls _ _ _ _ _) := seal_ok w5 (some ⟨g, 0, none⟩) cap (nb L.length) (pack L) hin (by unfold nb; omega) (HTF.out.quiet h6.fr)
  have H6 : Hid (Own w0 w5 _) := h6
  clear h6 HBY hin z0 z1
  go_wp2_with fail
  refine HSE.out.mono ?_
  rintro x w6 ⟨g6, cp6, rfl, hr6, hf6⟩
  have H7 : Hid (Own w0 w6 (Row 5 1 (.slice (some ⟨g6, 0, none⟩) (nb L.length + 4) cp6) (nb L.length + 4) (vrow (frm (pack L))) :: l)) := by
    have h7 := (H6.out.tail.tail.tail.tail)
    exact h7.new (Row 5 1 (.slice (some ⟨g6, 0, none⟩) (nb L.length + 4) cp6) (nb L.length + 4) (vrow (frm (pack L)))) (fun j => (Value.slice (some ⟨g6, 0, none⟩) (nb L.length + 4) cp6).ownBlock = some j) ⟨row_weak hr6, fun _ => Iff.rfl⟩ hf6 (fun j hj => (hr6.lt j hj).1)
  clear hr6 hf6 HSE H6
  go_wp2
  go_ret2
  exact ⟨g6, cp6, rfl, H7.out⟩
end Go.Proofs.YtcmofbhfdagpcaaGreatDoor

/-
  packet.Open of the frame of a packet that has no entities.
-/
namespace Go.Proofs.YtcmofbhfdagpcaaGreatDoor
open Go.RowKit
set_option linter.unusedVariables false
set_option maxRecDepth 100000

set_option maxHeartbeats 4000000 in
theorem caught_ok (w0 w : World) (l : List Thing) (p1 p2 : Value) (k c e tk s : Nat) (h : Own w0 w l)
    (hcl : ∀ W (X Y : Thing), Own w0 W (X :: Y :: l) → Calls Tryz.prog 18 #[p1, p2] W fun x w' => ∃ ao cap, x = .returned (.agg #[.int .u8 (k : Int), .int .u8 (c : Int), .int .u32 (e : Int), .int .u32 (tk : Int), .int .u32 (s : Int), .slice ao 0 cap]) ∧ Own w0 w' (X :: Y :: l)) :
    Calls Tryz.prog 17 #[.func (.func 18) #[] #[p1, p2]] w fun x w' => ∃ ao cap, x = .returned (.tuple #[.agg #[.int .u8 (k : Int), .int .u8 (c : Int), .int .u32 (e : Int), .int .u32 (tk : Int), .int .u32 (s : Int), .slice ao 0 cap], .int .i64 0]) ∧ Own w0 w' l := by
  have hmf : ∀ (fn : Fn) (first cap : Array Value) (w : World), (Instr.makeFunc fn first cap).run Tryz.prog w = .ok (.func fn first cap) w := fun _ _ _ _ => rfl
  have h1 := (h.allocC #[.int .u8 0, .int .u8 0, .int .u32 0, .int .u32 0, .int .u32 0, .slice none 0 0] 49).allocC #[.int .i64 0] 27
  have s1 : (w.alloc (.cells #[.int .u8 0, .int .u8 0, .int .u32 0, .int .u32 0, .int .u32 0, .slice none 0 0] 49)).heap.size = w.heap.size + 1 := Array.size_push _
  rw [s1] at h1
  have HC : Hid (Calls _ _ _ _ _) := hcl _ _ _ h1
  clear h h1 hcl s1
  go_enter_defers Tryz.func17, Tryz.ntmps17
  go_wp2_with fail
  refine HC.out.mono ?_
  rintro x w1 ⟨ao, cap, rfl, h2⟩
  generalize hbx : w.heap.size = bx at *
  clear hbx
  have f0 := h2.two.froz 0
  have r0 := h2.two.cell 0
  have f1 := h2.two.froz 1
  have r1 := h2.two.cell 1
  have f2 := h2.two.froz 2
  have r2 := h2.two.cell 2
  have f3 := h2.two.froz 3
  have r3 := h2.two.cell 3
  have f4 := h2.two.froz 4
  have r4 := h2.two.cell 4
  have f5 := h2.two.froz 5
  have r5 := h2.two.cell 5
  simp at r0 r1 r2 r3 r4 r5
  have h3 : Own w0 ((((((w1.setCell ⟨bx, 0, none⟩ (.int .u8 (k : Int))).setCell ⟨bx, 1, none⟩ (.int .u8 (c : Int))).setCell ⟨bx, 2, none⟩ (.int .u32 (e : Int))).setCell ⟨bx, 3, none⟩ (.int .u32 (tk : Int))).setCell ⟨bx, 4, none⟩ (.int .u32 (s : Int))).setCell ⟨bx, 5, none⟩ (.slice ao 0 cap)) (Cells bx #[.int .u8 (k : Int), .int .u8 (c : Int), .int .u32 (e : Int), .int .u32 (tk : Int), .int .u32 (s : Int), .slice ao 0 cap] 49 :: Cells (bx + 1) #[.int .i64 0] 27 :: l) := ((((((h2.two.setC 0 (.int .u8 (k : Int))).setC 1 (.int .u8 (c : Int))).setC 2 (.int .u32 (e : Int))).setC 3 (.int .u32 (tk : Int))).setC 4 (.int .u32 (s : Int))).setC 5 (.slice ao 0 cap))
  have g0 := h3.two.froz 0
  have g1 := h3.two.cell 0
  simp at g1
  have h4 : Own w0 (((((((w1.setCell ⟨bx, 0, none⟩ (.int .u8 (k : Int))).setCell ⟨bx, 1, none⟩ (.int .u8 (c : Int))).setCell ⟨bx, 2, none⟩ (.int .u32 (e : Int))).setCell ⟨bx, 3, none⟩ (.int .u32 (tk : Int))).setCell ⟨bx, 4, none⟩ (.int .u32 (s : Int))).setCell ⟨bx, 5, none⟩ (.slice ao 0 cap)).setCell ⟨bx + 1, 0, none⟩ (.int .i64 0)) (Cells (bx + 1) #[.int .i64 0] 27 :: Cells bx #[.int .u8 (k : Int), .int .u8 (c : Int), .int .u32 (e : Int), .int .u32 (tk : Int), .int .u32 (s : Int), .slice ao 0 cap] 49 :: l) := h3.two.setC 0 (.int .i64 0)
  have H4 : Hid (Own w0 _ _) := h4
  clear h2 h3 h4 HC
  go_wp2
  refine leaves_cons (f := 35) (args := #[.pointer (some ⟨bx + 1, 0, none⟩)]) (by simp) (by simp [go_sem]) ?_
  refine (catch_idle ⟨bx + 1, 0, none⟩ _).mono ?_
  rintro x u' w'' ⟨rfl, rfl, rfl⟩
  generalize ((((((w1.setCell ⟨bx, 0, none⟩ (.int .u8 (k : Int))).setCell ⟨bx, 1, none⟩ (.int .u8 (c : Int))).setCell ⟨bx, 2, none⟩ (.int .u32 (e : Int))).setCell ⟨bx, 3, none⟩ (.int .u32 (tk : Int))).setCell ⟨bx, 4, none⟩ (.int .u32 (s : Int))).setCell ⟨bx, 5, none⟩ (.slice ao 0 cap)).setCell ⟨bx + 1, 0, none⟩ (.int .i64 0) = WW at H4 ⊢
  clear r0 r1 r2 r3 r4 r5 f0 f1 f2 f3 f4 f5 g0 g1
  have a0 := H4.out.cell 0
  have b0 := H4.out.two.cell 0
  have b1 := H4.out.two.cell 1
  have b2 := H4.out.two.cell 2
  have b3 := H4.out.two.cell 3
  have b4 := H4.out.two.cell 4
  have b5 := H4.out.two.cell 5
  simp at a0 b0 b1 b2 b3 b4 b5
  simp [Leaves, settle, results, Tryz.results17, go_sem, a0, b0, b1, b2, b3, b4, b5]
  exact H4.out.tail.tail
theorem num_zerosh (n : Nat) : num (List.replicate n false) = 0 := by
  induction n with
  | zero => rfl
  | succ n ih => simp [List.replicate_succ, num, ih]
theorem atEnd_pack (L : List Bool) : AtEnd (pack L) L.length := by
  have hp : (pack L).length = nb L.length := by simp [pack]
  have hle : L.length ≤ 8 * nb L.length ∧ 8 * nb L.length < L.length + 8 := by unfold nb; omega
  refine ⟨by rw [hp]; omega, ?_⟩
  unfold numAt
  rw [hp, bitsB_pack, List.drop_left, List.take_of_length_le (by rw [List.length_replicate]; exact Nat.le_refl _)]
  exact num_zerosh _
theorem results_cell_tmp_tmp {fn : Func} {p u v : Tmp} {ty : TypeId} (h : fn.results = #[.cell p ty, .tmp u, .tmp v]) (tmps : Array Value) (P : Program) (w : World) :
    (results fn tmps).run P w =
      ((asAddr (tmps.getD p undef)).run P w).andThen fun a w₁ => ((loadVar ty a).run P w₁).andThen fun x w₂ => .ok (.tuple #[x, tmps.getD u undef, tmps.getD v undef]) w₂ := by
  simp only [results, h]
  simp [Sem.run_bind, Result.andThen]
theorem perm_o (X Y A B C D : Thing) (l : List Thing) : (A :: D :: X :: Y :: B :: C :: l).Perm (X :: Y :: A :: B :: C :: D :: l) := by
  have h1 : ([0, 1, 2, 3, 4, 5] : List Nat).Perm [2, 3, 0, 4, 5, 1] := by decide
  exact (h1.map (ix8 A D X Y B C C C)).append_right l
set_option maxHeartbeats 8000000 in
theorem popen0 (w0 w : World) (htb : Tab w0) (htf : Tabf w0) (l : List Thing) (h : Own w0 w l) (ap : Option Addr) (cp d : Nat) (L : List Bool) (k c e tk s : Nat) (hR : Right k c e tk s) (hL : L = headB k c e tk s ++ cont0 k) (hd : nb L.length = d) (hd4 : d ≤ 4096) (hin : ∀ w', Own w0 w' l → In w' ap (d + 4) cp (frm (pack L))) :
    Calls Tryz.prog 7 #[.slice ap (d + 4) cp, .slice none 0 0] w fun x w' => ∃ ao cap, x = .returned (.tuple #[.agg #[.int .u8 (k : Int), .int .u8 (c : Int), .int .u32 (e : Int), .int .u32 (tk : Int), .int .u32 (s : Int)], .slice ao 0 cap, .int .i64 0]) ∧ Own w0 w' l := by
  have hmf : ∀ (fn : Fn) (first cap : Array Value) (w : World), (Instr.makeFunc fn first cap).run Tryz.prog w = .ok (.func fn first cap) w := fun _ _ _ _ => rfl
  have hpl : (pack L).length = d := by rw [← hd]; simp [pack]
  have h1 := (h.allocC #[.slice none 0 0] 31).allocC #[.int .u8 0, .int .u8 0, .int .u32 0, .int .u32 0, .int .u32 0] 24
  have s1 : (w.alloc (.cells #[.slice none 0 0] 31)).heap.size = w.heap.size + 1 := Array.size_push _
  rw [s1] at h1
  obtain ⟨o1, o2⟩ := frm_opens (pack L) d hpl
  have hO := open_ok _ ap cp d (frm (pack L)) (hin _ h1.tail.tail) hd4 (htf.quiet h1.fr) o1
  rw [o2] at hO
  have HO : Hid (Calls _ _ _ _ _) := hO
  have H1 : Hid (Own w0 _ _) := h1
  have HCL : Hid (∀ (bb bw : Nat) (v : Value) W (X Y : Thing), Own w0 W (X :: Y :: Cells bb #[v] 26 :: Row 5 1 v d (vrow (pack L)) :: Cells (bw + 1) #[.int .u8 0, .int .u8 0, .int .u32 0, .int .u32 0, .int .u32 0] 24 :: Cells bw #[.slice none 0 0] 31 :: l) → Calls Tryz.prog 18 #[.pointer (some ⟨bb, 0, none⟩), .pointer (some ⟨bw, 0, none⟩)] W fun x w' => ∃ ao cap, x = .returned (.agg #[.int .u8 (k : Int), .int .u8 (c : Int), .int .u32 (e : Int), .int .u32 (tk : Int), .int .u32 (s : Int), .slice ao 0 cap]) ∧ Own w0 w' (X :: Y :: Cells bb #[v] 26 :: Row 5 1 v d (vrow (pack L)) :: Cells (bw + 1) #[.int .u8 0, .int .u8 0, .int .u32 0, .int .u32 0, .int .u32 0] 24 :: Cells bw #[.slice none 0 0] 31 :: l)) := fun bb bw v W X Y hW => by
    refine (open1_ok w0 W (X :: Y :: Row 5 1 v d (vrow (pack L)) :: Cells (bw + 1) #[.int .u8 0, .int .u8 0, .int .u32 0, .int .u32 0, .int .u32 0] 24 :: l) bb bw v (pack L) k c e tk s (hW.perm (perm_o X Y _ _ _ _ l).symm) (fun w' hw => by rw [hpl]; exact Src.of_row hw.three.row) (pack_byte L) (by rw [hpl]; omega) (fun W b l' hW' => rdall w0 W htb l' b (pack L) hW' k c e tk s hR _ (by rw [bitsB_pack, hL, List.append_assoc]) (by rw [← hL]; exact atEnd_pack L))).mono ?_
    rintro x w' ⟨ao, cap, rfl, hw⟩
    exact ⟨ao, cap, rfl, hw.perm (perm_o X Y _ _ _ _ l)⟩
  clear h h1 hO hin hR hL hd s1 o1 o2 htb htf
  go_enter Tryz.func7, Tryz.ntmps7
  go_wp2_with fail
  refine HO.out.mono ?_
  rintro x w1 ⟨v, rfl, hr, hf, hk⟩
  obtain ⟨av, cv, rfl⟩ := row_any hr
  generalize hbw : w.heap.size = bw at *
  have h2 : Own w0 w1 (Row 5 1 (.slice av d cv) d (vrow (pack L)) :: Cells (bw + 1) #[.int .u8 0, .int .u8 0, .int .u32 0, .int .u32 0, .int .u32 0] 24 :: Cells bw #[.slice none 0 0] 31 :: l) := H1.out.new (Row 5 1 (.slice av d cv) d (vrow (pack L))) (fun j => (Value.slice av d cv).ownBlock = some j) ⟨hr, fun _ => Iff.rfl⟩ hf (fun j hj => hk j hj)
  have h3 := h2.allocC #[.slice av d cv] 26
  have HC : Hid (Calls _ _ _ _ _) := caught_ok w0 _ _ (.pointer (some ⟨w1.heap.size, 0, none⟩)) (.pointer (some ⟨bw, 0, none⟩)) k c e tk s h3 (HCL.out w1.heap.size bw (.slice av d cv))
  clear h2 h3 hr hf hk HO H1 HCL hbw
  go_wp2_with fail
  refine HC.out.mono ?_
  rintro x w2 ⟨ao, cap, rfl, h4⟩
  generalize w1.heap.size = bb at *
  have h5 := h4.allocC #[.int .u8 (k : Int), .int .u8 (c : Int), .int .u32 (e : Int), .int .u32 (tk : Int), .int .u32 (s : Int), .slice ao 0 cap] 49
  have H5 : Hid (Own w0 _ _) := h5
  clear h4 h5 HC
  go_wp2
  generalize hWg : w2.alloc (.cells #[.int .u8 (k : Int), .int .u8 (c : Int), .int .u32 (e : Int), .int .u32 (tk : Int), .int .u32 (s : Int), .slice ao 0 cap] 49) = w3 at *
  generalize w2.heap.size = bt at *
  clear hWg
  have O2 := (((((H5.out.four.setC 0 (.int .u8 (k : Int))).setC 1 (.int .u8 (c : Int))).setC 2 (.int .u32 (e : Int))).setC 3 (.int .u32 (tk : Int))).setC 4 (.int .u32 (s : Int))).drew
  have p0 := H5.out.cell 0
  have p1 := H5.out.cell 1
  have p2 := H5.out.cell 2
  have p3 := H5.out.cell 3
  have p4 := H5.out.cell 4
  have p5 := H5.out.cell 5
  simp at p0 p1 p2 p3 p4 p5
  have f0 := H5.out.four.froz 0
  have r0 := H5.out.four.cell 0
  have f1 := H5.out.four.froz 1
  have r1 := H5.out.four.cell 1
  have f2 := H5.out.four.froz 2
  have r2 := H5.out.four.cell 2
  have f3 := H5.out.four.froz 3
  have r3 := H5.out.four.cell 3
  have f4 := H5.out.four.froz 4
  have r4 := H5.out.four.cell 4
  simp at r0 r1 r2 r3 r4
  have K0 : (((((w3.setCell ⟨bw + 1, 0, none⟩ (.int .u8 (k : Int))).setCell ⟨bw + 1, 1, none⟩ (.int .u8 (c : Int))).setCell ⟨bw + 1, 2, none⟩ (.int .u32 (e : Int))).setCell ⟨bw + 1, 3, none⟩ (.int .u32 (tk : Int))).setCell ⟨bw + 1, 4, none⟩ (.int .u32 (s : Int))).drew.cell? ⟨bt, 0, none⟩ = some (.int .u8 (k : Int)) := by have := O2.two.cell 0; simpa using this
  have K1 : (((((w3.setCell ⟨bw + 1, 0, none⟩ (.int .u8 (k : Int))).setCell ⟨bw + 1, 1, none⟩ (.int .u8 (c : Int))).setCell ⟨bw + 1, 2, none⟩ (.int .u32 (e : Int))).setCell ⟨bw + 1, 3, none⟩ (.int .u32 (tk : Int))).setCell ⟨bw + 1, 4, none⟩ (.int .u32 (s : Int))).drew.cell? ⟨bt, 1, none⟩ = some (.int .u8 (c : Int)) := by have := O2.two.cell 1; simpa using this
  have K2 : (((((w3.setCell ⟨bw + 1, 0, none⟩ (.int .u8 (k : Int))).setCell ⟨bw + 1, 1, none⟩ (.int .u8 (c : Int))).setCell ⟨bw + 1, 2, none⟩ (.int .u32 (e : Int))).setCell ⟨bw + 1, 3, none⟩ (.int .u32 (tk : Int))).setCell ⟨bw + 1, 4, none⟩ (.int .u32 (s : Int))).drew.cell? ⟨bt, 2, none⟩ = some (.int .u32 (e : Int)) := by have := O2.two.cell 2; simpa using this
  have K3 : (((((w3.setCell ⟨bw + 1, 0, none⟩ (.int .u8 (k : Int))).setCell ⟨bw + 1, 1, none⟩ (.int .u8 (c : Int))).setCell ⟨bw + 1, 2, none⟩ (.int .u32 (e : Int))).setCell ⟨bw + 1, 3, none⟩ (.int .u32 (tk : Int))).setCell ⟨bw + 1, 4, none⟩ (.int .u32 (s : Int))).drew.cell? ⟨bt, 3, none⟩ = some (.int .u32 (tk : Int)) := by have := O2.two.cell 3; simpa using this
  have K4 : (((((w3.setCell ⟨bw + 1, 0, none⟩ (.int .u8 (k : Int))).setCell ⟨bw + 1, 1, none⟩ (.int .u8 (c : Int))).setCell ⟨bw + 1, 2, none⟩ (.int .u32 (e : Int))).setCell ⟨bw + 1, 3, none⟩ (.int .u32 (tk : Int))).setCell ⟨bw + 1, 4, none⟩ (.int .u32 (s : Int))).drew.cell? ⟨bt, 4, none⟩ = some (.int .u32 (s : Int)) := by have := O2.two.cell 4; simpa using this
  have K5 : (((((w3.setCell ⟨bw + 1, 0, none⟩ (.int .u8 (k : Int))).setCell ⟨bw + 1, 1, none⟩ (.int .u8 (c : Int))).setCell ⟨bw + 1, 2, none⟩ (.int .u32 (e : Int))).setCell ⟨bw + 1, 3, none⟩ (.int .u32 (tk : Int))).setCell ⟨bw + 1, 4, none⟩ (.int .u32 (s : Int))).drew.cell? ⟨bt, 5, none⟩ = some (.slice ao 0 cap) := by have := O2.two.cell 5; simpa using this
  have H6 : Hid (Own w0 _ (Cells (bw + 1) #[.int .u8 (k : Int), .int .u8 (c : Int), .int .u32 (e : Int), .int .u32 (tk : Int), .int .u32 (s : Int)] 24 :: Cells bt #[.int .u8 (k : Int), .int .u8 (c : Int), .int .u32 (e : Int), .int .u32 (tk : Int), .int .u32 (s : Int), .slice ao 0 cap] 49 :: Cells bb #[.slice av d cv] 26 :: Row 5 1 (.slice av d cv) d (vrow (pack L)) :: Cells bw #[.slice none 0 0] 31 :: l)) := O2
  clear H5 O2
  go_region_held3 (fun w' => w'.cell? ⟨bt, 0, none⟩ = some (.int .u8 (k : Int)) ∧ w'.cell? ⟨bt, 1, none⟩ = some (.int .u8 (c : Int)) ∧ w'.cell? ⟨bt, 2, none⟩ = some (.int .u32 (e : Int)) ∧ w'.cell? ⟨bt, 3, none⟩ = some (.int .u32 (tk : Int)) ∧ w'.cell? ⟨bt, 4, none⟩ = some (.int .u32 (s : Int)) ∧ w'.cell? ⟨bt, 5, none⟩ = some (.slice ao 0 cap)) (first | go_keep | exact ⟨K0, K1, K2, K3, K4, K5⟩) (fail)
  clear K0 K1 K2 K3 K4 K5 p0 p1 p2 p3 p4 p5 f0 f1 f2 f3 f4 r0 r1 r2 r3 r4
  go_wp2
  (try simp only [Exit.inBlock, Exit.then])
  refine bodyPost_ret (v := .tuple #[.agg #[.int .u8 (k : Int), .int .u8 (c : Int), .int .u32 (e : Int), .int .u32 (tk : Int), .int .u32 (s : Int)], .slice ao 0 cap, .int .i64 0]) ?_ rfl ⟨ao, cap, rfl, H6.out.tail.tail.tail.tail.tail⟩
  rw [results_cell_tmp_tmp rfl]
  have r0 := H6.out.cell 0
  have r1 := H6.out.cell 1
  have r2 := H6.out.cell 2
  have r3 := H6.out.cell 3
  have r4 := H6.out.cell 4
  simp at r0 r1 r2 r3 r4
  go_simp
end Go.Proofs.YtcmofbhfdagpcaaGreatDoor

/-
  Is a head right? Whatever it is.
-/
namespace Go.Proofs.YtcmofbhfdagpcaaGreatDoor
open Go.RowKit
set_option linter.unusedVariables false
set_option maxRecDepth 100000

set_option maxHeartbeats 4000000 in
theorem hcheck_any (w : World) (k c e t s : Nat) (hI : HIn k c e t s) : Calls Tryz.prog 10 #[.agg (hvs k c e t s)] w fun x w' => x = .returned (.int .i64 ((hchk k c e t s : Nat) : Int)) ∧ Fr Nobody w w' := by
  have HT : Hid (∀ W, Calls Tryz.prog 22 #[.agg (hvs k c e t s)] W fun x w' => x = .returned (.bool (tfit k t)) ∧ Fr Nobody W w') := fun W => tickFits_any W k c e t s hI
  have HB : Hid (∀ W, Calls Tryz.prog 23 #[.agg (hvs k c e t s)] W fun x w' => x = .returned (.bool (bfit k t s)) ∧ Fr Nobody W w') := fun W => baseFits_any W k c e t s hI
  have HA : Hid (Own w _ _) := (Own.start w).allocC (hvs k c e t s) 24
  by_cases h1 : k < 1
  · have hc : hchk k c e t s = 1 := by unfold hchk; rw [if_pos (.inl h1)]
    rw [hc]
    have g1 : (k : Int) < 1 := by omega
    have HF : Hid (Fr Nobody w _) := HA.out.fr
    clear h1 hc HT HB HA hI
    unfold hvs at *
    go_enter Tryz.func10, Tryz.ntmps10
    go_wp2
    go_ret
    exact ⟨rfl, HF.out⟩
  · have g1 : ¬ (k : Int) < 1 := by omega
    by_cases h2 : 5 < k
    · have hc : hchk k c e t s = 1 := by unfold hchk; rw [if_pos (.inr (.inl h2))]
      rw [hc]
      have g2 : (5 : Int) < (k : Int) := by omega
      have HF : Hid (Fr Nobody w _) := HA.out.fr
      clear h1 h2 hc HT HB HA hI
      unfold hvs at *
      go_enter Tryz.func10, Tryz.ntmps10
      go_wp2
      go_ret
      exact ⟨rfl, HF.out⟩
    · have g2 : ¬ (5 : Int) < (k : Int) := by omega
      by_cases h3 : 16 ≤ c
      · have hc : hchk k c e t s = 1 := by unfold hchk; rw [if_pos (.inr (.inr h3))]
        rw [hc]
        have g3 : (16 : Int) ≤ (c : Int) := by omega
        have HF : Hid (Fr Nobody w _) := HA.out.fr
        clear h1 h2 h3 hc HT HB HA hI
        unfold hvs at *
        go_enter Tryz.func10, Tryz.ntmps10
        go_wp2
        go_ret
        exact ⟨rfl, HF.out⟩
      · have g3 : ¬ (16 : Int) ≤ (c : Int) := by omega
        have hn : ¬ (k < 1 ∨ 5 < k ∨ 16 ≤ c) := by omega
        by_cases h4 : e = 0
        · have hc : hchk k c e t s = 4 := by unfold hchk; rw [if_neg hn, if_pos (.inl h4)]
          rw [hc]
          subst h4
          have HF : Hid (Fr Nobody w _) := HA.out.fr
          clear h1 h2 h3 hn hc HT HB HA hI
          unfold hvs at *
          go_enter Tryz.func10, Tryz.ntmps10
          go_wp2
          go_ret
          exact ⟨rfl, HF.out⟩
        · have g4 : ((e : Int) == 0) = false := by rw [beq_eq_false_iff_ne]; omega
          have hc : hchk k c e t s = if tfit k t = false ∨ bfit k t s = false then 4 else 0 := by
            unfold hchk
            rw [if_neg hn]
            simp [h4]
          rw [hc]
          clear h1 h2 h3 h4 hn hc hI
          generalize tfit k t = tf at *
          generalize bfit k t s = bf at *
          unfold hvs at *
          cases tf
          · rw [if_pos (.inl rfl)]
            go_enter Tryz.func10, Tryz.ntmps10
            go_wp2_with fail
            refine (HT.out _).mono ?_
            rintro x w1 ⟨rfl, hf1⟩
            have HF : Hid (Fr Nobody w w1) := HA.out.fr.trans hf1
            clear hf1 HA HT HB
            go_wp2
            go_ret
            exact ⟨rfl, HF.out⟩
          · cases bf
            · rw [if_pos (.inr rfl)]
              go_enter Tryz.func10, Tryz.ntmps10
              go_wp2_with fail
              refine (HT.out _).mono ?_
              rintro x w1 ⟨rfl, hf1⟩
              have hA1 := HA.out.quiet hf1
              have r0 := hA1.cell 0
              have r1 := hA1.cell 1
              have r2 := hA1.cell 2
              have r3 := hA1.cell 3
              have r4 := hA1.cell 4
              simp at r0 r1 r2 r3 r4
              have HA1 : Hid (Own w w1 _) := hA1
              clear hf1 hA1 HA HT
              go_wp2_with fail
              refine (HB.out _).mono ?_
              rintro x w2 ⟨rfl, hf2⟩
              have HF : Hid (Fr Nobody w w2) := HA1.out.fr.trans hf2
              clear hf2 HA1 HB r0 r1 r2 r3 r4
              go_wp2
              go_ret
              exact ⟨rfl, HF.out⟩
            · rw [if_neg (by simp)]
              go_enter Tryz.func10, Tryz.ntmps10
              go_wp2_with fail
              refine (HT.out _).mono ?_
              rintro x w1 ⟨rfl, hf1⟩
              have hA1 := HA.out.quiet hf1
              have r0 := hA1.cell 0
              have r1 := hA1.cell 1
              have r2 := hA1.cell 2
              have r3 := hA1.cell 3
              have r4 := hA1.cell 4
              simp at r0 r1 r2 r3 r4
              have HA1 : Hid (Own w w1 _) := hA1
              clear hf1 hA1 HA HT
              go_wp2_with fail
              refine (HB.out _).mono ?_
              rintro x w2 ⟨rfl, hf2⟩
              have HF : Hid (Fr Nobody w w2) := HA1.out.fr.trans hf2
              clear hf2 HA1 HB r0 r1 r2 r3 r4
              go_wp2
              go_ret
              exact ⟨rfl, HF.out⟩
theorem right_of {k c e t s : Nat} (hI : HIn k c e t s) (h : hchk k c e t s = 0) : Right k c e t s := by
  unfold hchk at h
  split at h
  · cases h
  · split at h
    · cases h
    · rename_i h1 h2
      simp only [not_or] at h1 h2
      refine ⟨by omega, by omega, by omega, by omega, hI.e, hI.t, hI.s, ?_, ?_⟩
      · cases hh : tfit k t with
        | true => rfl
        | false => exact absurd hh h2.2.1
      · cases hh : bfit k t s with
        | true => rfl
        | false => exact absurd hh h2.2.2
end Go.Proofs.YtcmofbhfdagpcaaGreatDoor

/-
  The document's Check of a head.
-/
namespace Go.Proofs.YtcmofbhfdagpcaaGreatDoor
open Go.RowKit
set_option linter.unusedVariables false
set_option maxRecDepth 100000

set_option maxHeartbeats 400000 in
theorem hrcheck_0 (w : World) (k c e t s : Nat) (h0 : k < 1) : Calls Tryz.prog 6 #[.agg (hvs k c e t s)] w fun x w' => x = .returned (.int .i64 1) ∧ Fr Nobody w w' := by
  have HF : Hid (∀ o, Fr Nobody w (w.alloc o)) := fun o => (Fr.refl _ _).alloc o
  have g0 : (k : Int) < 1 := by omega
  clear h0
  unfold hvs at *
  go_enter Tryz.func6, Tryz.ntmps6
  go_wp2
  go_ret
  exact ⟨rfl, HF.out _⟩
set_option maxHeartbeats 400000 in
theorem hrcheck_1 (w : World) (k c e t s : Nat) (h0 : 1 ≤ k) (h1 : 5 < k) : Calls Tryz.prog 6 #[.agg (hvs k c e t s)] w fun x w' => x = .returned (.int .i64 1) ∧ Fr Nobody w w' := by
  have HF : Hid (∀ o, Fr Nobody w (w.alloc o)) := fun o => (Fr.refl _ _).alloc o
  have g0 : ¬ (k : Int) < 1 := by omega
  have g1 : (5 : Int) < (k : Int) := by omega
  clear h0 h1
  unfold hvs at *
  go_enter Tryz.func6, Tryz.ntmps6
  go_wp2
  go_ret
  exact ⟨rfl, HF.out _⟩
set_option maxHeartbeats 400000 in
theorem hrcheck_2 (w : World) (k c e t s : Nat) (h0 : 1 ≤ k) (h1 : k ≤ 5) (h2 : 15 < c) : Calls Tryz.prog 6 #[.agg (hvs k c e t s)] w fun x w' => x = .returned (.int .i64 1) ∧ Fr Nobody w w' := by
  have HF : Hid (∀ o, Fr Nobody w (w.alloc o)) := fun o => (Fr.refl _ _).alloc o
  have g0 : ¬ (k : Int) < 1 := by omega
  have g1 : ¬ (5 : Int) < (k : Int) := by omega
  have g2 : (15 : Int) < (c : Int) := by omega
  clear h0 h1 h2
  unfold hvs at *
  go_enter Tryz.func6, Tryz.ntmps6
  go_wp2
  go_ret
  exact ⟨rfl, HF.out _⟩
set_option maxHeartbeats 400000 in
theorem hrcheck_3 (w : World) (k c e t s : Nat) (h0 : 1 ≤ k) (h1 : k ≤ 5) (h2 : c ≤ 15) (h3 : e = 0) : Calls Tryz.prog 6 #[.agg (hvs k c e t s)] w fun x w' => x = .returned (.int .i64 4) ∧ Fr Nobody w w' := by
  have HF : Hid (∀ o, Fr Nobody w (w.alloc o)) := fun o => (Fr.refl _ _).alloc o
  have g0 : ¬ (k : Int) < 1 := by omega
  have g1 : ¬ (5 : Int) < (k : Int) := by omega
  have g2 : ¬ (15 : Int) < (c : Int) := by omega
  have g3 : ((e : Int) == 0) = true := by rw [beq_iff_eq]; omega
  clear h0 h1 h2 h3
  unfold hvs at *
  go_enter Tryz.func6, Tryz.ntmps6
  go_wp2
  go_ret
  exact ⟨rfl, HF.out _⟩
set_option maxHeartbeats 400000 in
theorem hrcheck_4 (w : World) (k c e t s : Nat) (h0 : 1 ≤ k) (h1 : k ≤ 5) (h2 : c ≤ 15) (h3 : e ≠ 0) (h4 : 3 < k) (h5 : 0 < t) : Calls Tryz.prog 6 #[.agg (hvs k c e t s)] w fun x w' => x = .returned (.int .i64 4) ∧ Fr Nobody w w' := by
  have HF : Hid (∀ o, Fr Nobody w (w.alloc o)) := fun o => (Fr.refl _ _).alloc o
  have g0 : ¬ (k : Int) < 1 := by omega
  have g1 : ¬ (5 : Int) < (k : Int) := by omega
  have g2 : ¬ (15 : Int) < (c : Int) := by omega
  have g3 : ((e : Int) == 0) = false := by rw [beq_eq_false_iff_ne]; omega
  have g4 : (3 : Int) < (k : Int) := by omega
  have g5 : (0 : Int) < (t : Int) := by omega
  clear h0 h1 h2 h3 h4 h5
  unfold hvs at *
  go_enter Tryz.func6, Tryz.ntmps6
  go_wp2
  go_ret
  exact ⟨rfl, HF.out _⟩
set_option maxHeartbeats 400000 in
theorem hrcheck_5 (w : World) (k c e t s : Nat) (h0 : 1 ≤ k) (h1 : k ≤ 5) (h2 : c ≤ 15) (h3 : e ≠ 0) (h4 : 3 < k) (h5 : t = 0) (h6 : k ≠ 2) (h7 : 0 < s) : Calls Tryz.prog 6 #[.agg (hvs k c e t s)] w fun x w' => x = .returned (.int .i64 4) ∧ Fr Nobody w w' := by
  have HF : Hid (∀ o, Fr Nobody w (w.alloc o)) := fun o => (Fr.refl _ _).alloc o
  have g0 : ¬ (k : Int) < 1 := by omega
  have g1 : ¬ (5 : Int) < (k : Int) := by omega
  have g2 : ¬ (15 : Int) < (c : Int) := by omega
  have g3 : ((e : Int) == 0) = false := by rw [beq_eq_false_iff_ne]; omega
  have g4 : (3 : Int) < (k : Int) := by omega
  have g5 : ¬ (0 : Int) < (t : Int) := by omega
  have g6 : ((k : Int) != 2) = true := by rw [bne_iff_ne]; omega
  have g7 : ((k : Int) == 2) = false := by rw [beq_eq_false_iff_ne]; omega
  have g8 : (0 : Int) < (s : Int) := by omega
  clear h0 h1 h2 h3 h4 h5 h6 h7
  unfold hvs at *
  go_enter Tryz.func6, Tryz.ntmps6
  go_wp2
  go_ret
  exact ⟨rfl, HF.out _⟩
set_option maxHeartbeats 400000 in
theorem hrcheck_6 (w : World) (k c e t s : Nat) (h0 : 1 ≤ k) (h1 : k ≤ 5) (h2 : c ≤ 15) (h3 : e ≠ 0) (h4 : 3 < k) (h5 : t = 0) (h6 : k ≠ 2) (h7 : s = 0) : Calls Tryz.prog 6 #[.agg (hvs k c e t s)] w fun x w' => x = .returned (.int .i64 0) ∧ Fr Nobody w w' := by
  have HF : Hid (∀ o, Fr Nobody w (w.alloc o)) := fun o => (Fr.refl _ _).alloc o
  have g0 : ¬ (k : Int) < 1 := by omega
  have g1 : ¬ (5 : Int) < (k : Int) := by omega
  have g2 : ¬ (15 : Int) < (c : Int) := by omega
  have g3 : ((e : Int) == 0) = false := by rw [beq_eq_false_iff_ne]; omega
  have g4 : (3 : Int) < (k : Int) := by omega
  have g5 : ¬ (0 : Int) < (t : Int) := by omega
  have g6 : ((k : Int) != 2) = true := by rw [bne_iff_ne]; omega
  have g7 : ((k : Int) == 2) = false := by rw [beq_eq_false_iff_ne]; omega
  have g8 : ¬ (0 : Int) < (s : Int) := by omega
  clear h0 h1 h2 h3 h4 h5 h6 h7
  unfold hvs at *
  go_enter Tryz.func6, Tryz.ntmps6
  go_wp2
  go_ret
  exact ⟨rfl, HF.out _⟩
set_option maxHeartbeats 400000 in
theorem hrcheck_7 (w : World) (k c e t s : Nat) (h0 : 1 ≤ k) (h1 : k ≤ 5) (h2 : c ≤ 15) (h3 : e ≠ 0) (h4 : k ≤ 3) (h5 : k ≠ 2) (h6 : 0 < s) : Calls Tryz.prog 6 #[.agg (hvs k c e t s)] w fun x w' => x = .returned (.int .i64 4) ∧ Fr Nobody w w' := by
  have HF : Hid (∀ o, Fr Nobody w (w.alloc o)) := fun o => (Fr.refl _ _).alloc o
  have g0 : ¬ (k : Int) < 1 := by omega
  have g1 : ¬ (5 : Int) < (k : Int) := by omega
  have g2 : ¬ (15 : Int) < (c : Int) := by omega
  have g3 : ((e : Int) == 0) = false := by rw [beq_eq_false_iff_ne]; omega
  have g4 : ¬ (3 : Int) < (k : Int) := by omega
  have g5 : ((k : Int) != 2) = true := by rw [bne_iff_ne]; omega
  have g6 : ((k : Int) == 2) = false := by rw [beq_eq_false_iff_ne]; omega
  have g7 : (0 : Int) < (s : Int) := by omega
  clear h0 h1 h2 h3 h4 h5 h6
  unfold hvs at *
  go_enter Tryz.func6, Tryz.ntmps6
  go_wp2
  go_ret
  exact ⟨rfl, HF.out _⟩
set_option maxHeartbeats 400000 in
theorem hrcheck_8 (w : World) (k c e t s : Nat) (h0 : 1 ≤ k) (h1 : k ≤ 5) (h2 : c ≤ 15) (h3 : e ≠ 0) (h4 : k ≤ 3) (h5 : k ≠ 2) (h6 : s = 0) : Calls Tryz.prog 6 #[.agg (hvs k c e t s)] w fun x w' => x = .returned (.int .i64 0) ∧ Fr Nobody w w' := by
  have HF : Hid (∀ o, Fr Nobody w (w.alloc o)) := fun o => (Fr.refl _ _).alloc o
  have g0 : ¬ (k : Int) < 1 := by omega
  have g1 : ¬ (5 : Int) < (k : Int) := by omega
  have g2 : ¬ (15 : Int) < (c : Int) := by omega
  have g3 : ((e : Int) == 0) = false := by rw [beq_eq_false_iff_ne]; omega
  have g4 : ¬ (3 : Int) < (k : Int) := by omega
  have g5 : ((k : Int) != 2) = true := by rw [bne_iff_ne]; omega
  have g6 : ((k : Int) == 2) = false := by rw [beq_eq_false_iff_ne]; omega
  have g7 : ¬ (0 : Int) < (s : Int) := by omega
  clear h0 h1 h2 h3 h4 h5 h6
  unfold hvs at *
  go_enter Tryz.func6, Tryz.ntmps6
  go_wp2
  go_ret
  exact ⟨rfl, HF.out _⟩
set_option maxHeartbeats 400000 in
theorem hrcheck_9 (w : World) (k c e t s : Nat) (h0 : 1 ≤ k) (h1 : k ≤ 5) (h2 : c ≤ 15) (h3 : e ≠ 0) (h4 : k ≤ 3) (h5 : k = 2) (h6 : t ≤ s) : Calls Tryz.prog 6 #[.agg (hvs k c e t s)] w fun x w' => x = .returned (.int .i64 4) ∧ Fr Nobody w w' := by
  have HF : Hid (∀ o, Fr Nobody w (w.alloc o)) := fun o => (Fr.refl _ _).alloc o
  have g0 : ¬ (k : Int) < 1 := by omega
  have g1 : ¬ (5 : Int) < (k : Int) := by omega
  have g2 : ¬ (15 : Int) < (c : Int) := by omega
  have g3 : ((e : Int) == 0) = false := by rw [beq_eq_false_iff_ne]; omega
  have g4 : ¬ (3 : Int) < (k : Int) := by omega
  have g5 : ((k : Int) != 2) = false := by rw [bne_eq_false_iff_eq]; omega
  have g6 : ((k : Int) == 2) = true := by rw [beq_iff_eq]; omega
  have g7 : (t : Int) ≤ (s : Int) := by omega
  clear h0 h1 h2 h3 h4 h5 h6
  unfold hvs at *
  go_enter Tryz.func6, Tryz.ntmps6
  go_wp2
  go_ret
  exact ⟨rfl, HF.out _⟩
set_option maxHeartbeats 400000 in
theorem hrcheck_10 (w : World) (k c e t s : Nat) (h0 : 1 ≤ k) (h1 : k ≤ 5) (h2 : c ≤ 15) (h3 : e ≠ 0) (h4 : k ≤ 3) (h5 : k = 2) (h6 : s < t) : Calls Tryz.prog 6 #[.agg (hvs k c e t s)] w fun x w' => x = .returned (.int .i64 0) ∧ Fr Nobody w w' := by
  have HF : Hid (∀ o, Fr Nobody w (w.alloc o)) := fun o => (Fr.refl _ _).alloc o
  have g0 : ¬ (k : Int) < 1 := by omega
  have g1 : ¬ (5 : Int) < (k : Int) := by omega
  have g2 : ¬ (15 : Int) < (c : Int) := by omega
  have g3 : ((e : Int) == 0) = false := by rw [beq_eq_false_iff_ne]; omega
  have g4 : ¬ (3 : Int) < (k : Int) := by omega
  have g5 : ((k : Int) != 2) = false := by rw [bne_eq_false_iff_eq]; omega
  have g6 : ((k : Int) == 2) = true := by rw [beq_iff_eq]; omega
  have g7 : ¬ (t : Int) ≤ (s : Int) := by omega
  clear h0 h1 h2 h3 h4 h5 h6
  unfold hvs at *
  go_enter Tryz.func6, Tryz.ntmps6
  go_wp2
  go_ret
  exact ⟨rfl, HF.out _⟩
theorem hrcheck_any (w : World) (k c e t s : Nat) (hI : HIn k c e t s) : Calls Tryz.prog 6 #[.agg (hvs k c e t s)] w fun x w' => x = .returned (.int .i64 ((hchk k c e t s : Nat) : Int)) ∧ Fr Nobody w w' := by
  by_cases q0 : k < 1
  · have ee : hchk k c e t s = 1 := by
      unfold hchk tfit bfit hasT
      rw [if_pos (by omega)]
    rw [ee]
    exact hrcheck_0 w k c e t s (by omega)
  · by_cases q1 : 5 < k
    · have ee : hchk k c e t s = 1 := by
        unfold hchk tfit bfit hasT
        rw [if_pos (by omega)]
      rw [ee]
      exact hrcheck_1 w k c e t s (by omega) (by omega)
    · by_cases q2 : 15 < c
      · have ee : hchk k c e t s = 1 := by
          unfold hchk tfit bfit hasT
          rw [if_pos (by omega)]
        rw [ee]
        exact hrcheck_2 w k c e t s (by omega) (by omega) (by omega)
      · by_cases q3 : e = 0
        · have ee : hchk k c e t s = 4 := by
            unfold hchk tfit bfit hasT
            rw [if_neg (by omega), if_pos ?_]
            by_cases kk : k = 2 <;> simp [kk] <;> omega
          rw [ee]
          exact hrcheck_3 w k c e t s (by omega) (by omega) (by omega) (by omega)
        · by_cases q4 : 3 < k
          · by_cases q5 : 0 < t
            · have ee : hchk k c e t s = 4 := by
                unfold hchk tfit bfit hasT
                rw [if_neg (by omega), if_pos ?_]
                by_cases kk : k = 2 <;> simp [kk] <;> omega
              rw [ee]
              exact hrcheck_4 w k c e t s (by omega) (by omega) (by omega) (by omega) (by omega) (by omega)
            · by_cases q6 : 0 < s
              · have ee : hchk k c e t s = 4 := by
                  unfold hchk tfit bfit hasT
                  rw [if_neg (by omega), if_pos ?_]
                  by_cases kk : k = 2 <;> simp [kk] <;> omega
                rw [ee]
                exact hrcheck_5 w k c e t s (by omega) (by omega) (by omega) (by omega) (by omega) (by omega) (by omega) (by omega)
              · have ee : hchk k c e t s = 0 := by
                  unfold hchk tfit bfit hasT
                  rw [if_neg (by omega), if_neg ?_]
                  by_cases kk : k = 2 <;> simp [kk] <;> omega
                rw [ee]
                exact hrcheck_6 w k c e t s (by omega) (by omega) (by omega) (by omega) (by omega) (by omega) (by omega) (by omega)
          · by_cases q7 : k = 2
            · by_cases q8 : t ≤ s
              · have ee : hchk k c e t s = 4 := by
                  unfold hchk tfit bfit hasT
                  rw [if_neg (by omega), if_pos ?_]
                  by_cases kk : k = 2 <;> simp [kk] <;> omega
                rw [ee]
                exact hrcheck_9 w k c e t s (by omega) (by omega) (by omega) (by omega) (by omega) (by omega) (by omega)
              · have ee : hchk k c e t s = 0 := by
                  unfold hchk tfit bfit hasT
                  rw [if_neg (by omega), if_neg ?_]
                  by_cases kk : k = 2 <;> simp [kk] <;> omega
                rw [ee]
                exact hrcheck_10 w k c e t s (by omega) (by omega) (by omega) (by omega) (by omega) (by omega) (by omega)
            · by_cases q9 : 0 < s
              · have ee : hchk k c e t s = 4 := by
                  unfold hchk tfit bfit hasT
                  rw [if_neg (by omega), if_pos ?_]
                  by_cases kk : k = 2 <;> simp [kk] <;> omega
                rw [ee]
                exact hrcheck_7 w k c e t s (by omega) (by omega) (by omega) (by omega) (by omega) (by omega) (by omega)
              · have ee : hchk k c e t s = 0 := by
                  unfold hchk tfit bfit hasT
                  rw [if_neg (by omega), if_neg ?_]
                  by_cases kk : k = 2 <;> simp [kk] <;> omega
                rw [ee]
                exact hrcheck_8 w k c e t s (by omega) (by omega) (by omega) (by omega) (by omega) (by omega) (by omega)
end Go.Proofs.YtcmofbhfdagpcaaGreatDoor

/-
  The document's example of a packet; steps from a snapshot to itself, sealed.
-/
namespace Go.Proofs.YtcmofbhfdagpcaaGreatDoor
open Go.RowKit
set_option linter.unusedVariables false
set_option maxRecDepth 100000

theorem right3 : Right 3 2 1 5 0 := ⟨by decide, by decide, by decide, by decide, by decide, by decide, by decide, by decide, by decide⟩
theorem ack_len : nb (headB 3 2 1 5 0 ++ []).length = 6 := by decide +kernel
theorem ack_pack : pack (headB 3 2 1 5 0 ++ []) = [146, 80, 0, 0, 0, 0] := by decide +kernel
set_option maxHeartbeats 1000000 in
theorem awake20 (w : World) (htf : Tabf w) : Calls Tryz.prog 4 #[] w fun e w' => e = .returned (.bool true) ∧ Fr Nobody w w' := by
  have hS := pseal_ok w w htf [] (Own.start w) 3 2 1 5 0 right3 (.slice none 0 0) (.slice none 0 0) [] (by decide +kernel) (by decide) (fun w' p b X hw => by
    rw [List.append_nil]
    exact content_no w w' _ p 3 _ none 0 hw (by decide) (by decide))
  rw [ack_len, ack_pack] at hS
  have HS : Hid (Calls Tryz.prog 5 #[.agg #[.int .u8 3, .int .u8 2, .int .u32 1, .int .u32 5, .int .u32 0], .slice none 0 0, .slice none 0 0] w _) := hS
  clear hS htf
  go_enter Tryz.func4, Tryz.ntmps4
  go_wp2_with fail
  refine HS.out.mono ?_
  rintro x w1 ⟨g, cp, rfl, h1⟩
  have hin : In w1 (some ⟨g, 0, none⟩) (6 + 4) cp (frm [146, 80, 0, 0, 0, 0]) := In.of_row h1.row (by rw [length_frm]; rfl) (frm_byte _ (by decide))
  have hfo := frm_opens [146, 80, 0, 0, 0, 0] 6 rfl
  have hO := ropen_ok w1 (some ⟨g, 0, none⟩) cp 6 (frm [146, 80, 0, 0, 0, 0]) hin (by decide) hfo.1
  rw [hfo.2] at hO
  have HO : Hid (Calls Tryz.prog 8 #[.slice (some ⟨g, 0, none⟩) 10 cp] w1 _) := hO
  have H1 : Hid (Own w w1 _) := h1
  clear hO hin hfo h1 HS
  go_wp2_with fail
  refine HO.out.mono ?_
  rintro x w2 ⟨v, rfl, hr, hf⟩
  have h2 := H1.out.quiet hf
  have h3 := h2.litRow #[.int .u8 146, .int .u8 80, .int .u8 0, .int .u8 0, .int .u8 0, .int .u8 0] 5 1 6 (by decide) rfl
  have HSM : Hid (Calls _ _ _ _ _) := same_any (w2.alloc (.cells #[.int .u8 146, .int .u8 80, .int .u8 0, .int .u8 0, .int .u8 0, .int .u8 0] 5)) v (.slice (some ⟨w2.heap.size, 0, none⟩) 6 6) [146, 80, 0, 0, 0, 0] (Src.of_row ((row_weak hr).alloc _)) (Src.of_row h3.row)
  have HF : Hid (Fr Nobody w (w2.alloc (.cells #[.int .u8 146, .int .u8 80, .int .u8 0, .int .u8 0, .int .u8 0, .int .u8 0] 5))) := h3.fr
  clear h2 h3 hf HO H1 hr
  go_wp2_with fail
  refine HSM.out.mono ?_
  rintro x w3 ⟨rfl, rfl⟩
  clear HSM
  go_wp2
  go_ret
  exact ⟨rfl, HF.out⟩
/-- the bits of a step that changes nothing -/
def stepB (t s : Nat) : List Bool := headB 2 0 1 t s ++ ((var 0 ++ var 0) ++ var 0)
theorem var1_len : (var 1).length = 5 := by decide +kernel
theorem stepB_len (t s : Nat) (h : t = s + 1) : nb (stepB t s).length = 8 := by
  have e : t - s - 1 = 0 := by omega
  unfold stepB headB
  rw [if_pos (by rfl), if_pos rfl, e]
  simp only [List.length_append, length_bitsN, length_var0, var1_len, wid15, wid015]
  decide
set_option maxHeartbeats 1000000 in
theorem pseal_same (w0 w : World) (htb : Tab w0) (htf : Tabf w0) (l : List Thing) (h : Own w0 w l) (t s : Nat) (hts : t = s + 1) (ht : t < 4294967296) (aw an : Option Addr) (nw nn cw cn : Nat) (W N : List EnE) (hQ : ∀ w', Own w0 w' l → EntsAt w' aw W ∧ EntsAt w' an N) (hW : W.length = nw) (hN : N.length = nn) (hcw : nw ≤ cw) (hcn : nn ≤ cn) (hmw : cw ≤ 9223372036854775807) (hmn : cn ≤ 9223372036854775807) (hIW : EIn W) (hIN : EIn N) (hzW : esz W ≤ 1000000) (hzN : esz N ≤ 1000000) (hf : fm 0 (evs W) = 0) (he : evs W = evs N) :
    Calls Tryz.prog 5 #[.agg #[.int .u8 2, .int .u8 0, .int .u32 1, .int .u32 (t : Int), .int .u32 (s : Int)], .slice aw nw cw, .slice an nn cn] w fun x w' => ∃ g cp, x = .returned (.tuple #[.slice (some ⟨g, 0, none⟩) 12 cp, .int .i64 0]) ∧ Own w0 w' (Row 5 1 (.slice (some ⟨g, 0, none⟩) 12 cp) 12 (vrow (frm (pack (stepB t s)))) :: l) := by
  have hR : Right 2 0 1 t s := ⟨by decide, by decide, by decide, by decide, by decide, ht, by omega, rfl, by unfold bfit; simp; omega⟩
  have hhl := headB_le 2 0 1 t s (by decide) ht
  have h := pseal_ok w0 w htf l h 2 0 1 t s hR (.slice aw nw cw) (.slice an nn cn) ((var 0 ++ var 0) ++ var 0) (by simp only [List.length_append, length_var0]; omega) (by simp only [List.length_append, length_var0]; omega) (fun w' p b X hw => by
    have hc := content_same w0 w' htb (X :: l) p b _ hw aw an nw nn cw cn W N (fun w2 hw2 => hQ w2 hw2.tail) hW hN hcw hcn hmw hmn hIW hIN hzW hzN hf he (by omega)
    rw [List.append_assoc, List.append_assoc, ← List.append_assoc (var 0)] at hc
    exact hc)
  have e : nb (headB 2 0 1 t s ++ ((var 0 ++ var 0) ++ var 0)).length = 8 := stepB_len t s hts
  rw [e] at h
  exact h
end Go.Proofs.YtcmofbhfdagpcaaGreatDoor

/-
  Heads that come in.
-/
namespace Go.Proofs.YtcmofbhfdagpcaaGreatDoor
open Go.ChangeShapes Go.WideShapes Go.ChangeAt Go.WideMaps Go.WideElems Go.RowKit
set_option linter.unusedVariables false
set_option maxRecDepth 100000

theorem cellsHead : Tryz.prog.cellsOf 24 = 5 := by kernel_rfl
theorem cellsU32h : Tryz.prog.cellsOf 22 = 1 := by kernel_rfl
def oku (a : Int) : Prop := (Lit.int .u32 a).wf = true
/-- a head's datum -/
def hdat {H : Type} (k c e t s : Int) : DataW H := .agg [.lit (.int .u8 k), .lit (.int .u8 c), .lit (.int .u32 e), .lit (.int .u32 t), .lit (.int .u32 s)]
def hdv (k c e t s : Int) : Array Value := #[.int .u8 k, .int .u8 c, .int .u32 e, .int .u32 t, .int .u32 s]
theorem head_cells {H : Type} {enc : TypeId × Value → H} {W : World} {base : Nat} {sp : Nat → Bool} {held : Bool} {fuel : Nat} {cs : List Value} {x : DataW H × List MemPlace}
    (h : DataW.trod enc Tryz.prog W base sp held fuel 24 cs = some x) : ∃ k c e t s, ok8 k ∧ ok8 c ∧ oku e ∧ oku t ∧ oku s ∧ cs = [.int .u8 k, .int .u8 c, .int .u32 e, .int .u32 t, .int .u32 s] ∧ x = (hdat k c e t s, []) := by
  obtain ⟨xs, n, _, hx, hl, hlen, hf⟩ := DataW.trod_struct Tryz.underlying24 h
  rw [cellsHead] at hl
  match cs, hl with
  | [c0, c1, c2, c3, c4], _ =>
  match xs, hlen with
  | [y0, y1, y2, y3, y4], _ =>
    have h0 := hf 0 _ rfl
    have h1 := hf 1 _ rfl
    have h2 := hf 2 _ rfl
    have h3 := hf 3 _ rfl
    have h4 := hf 4 _ rfl
    simp [cellsByte, cellsU32h] at h0 h1 h2 h3 h4
    obtain ⟨k, a0, a1, w0⟩ := DataW.trod_int Tryz.underlying5 h0
    obtain ⟨c, b0, b1, w1⟩ := DataW.trod_int Tryz.underlying5 h1
    obtain ⟨e, d0, d1, w2⟩ := DataW.trod_int Tryz.underlying22 h2
    obtain ⟨t, e0, e1, w3⟩ := DataW.trod_int Tryz.underlying22 h3
    obtain ⟨s, f0, f1, w4⟩ := DataW.trod_int Tryz.underlying22 h4
    simp at a0 b0 d0 e0 f0
    subst a0 b0 d0 e0 f0 a1 b1 d1 e1 f1 hx
    exact ⟨k, c, e, t, s, w0, w1, w2, w3, w4, rfl, by simp [hdat]⟩
def HdOk (k c e t s : Int) : Prop := ok8 k ∧ ok8 c ∧ oku e ∧ oku t ∧ oku s
theorem open_head {H : Type} {enc : TypeId × Value → H} {W : World} {base : Nat} {v : Value} {d : DataW H} {p : List MemPlace}
    (hv : Value.okWide Tryz.prog W .any base 24 v) (h : DataW.Trod enc Tryz.prog W 0 (fun _ => true) true 24 v d p) :
    ∃ k c e t s, v = .agg (hdv k c e t s) ∧ d = hdat k c e t s ∧ p = [] ∧ HdOk k c e t s := by
  obtain ⟨cs, rfl, hsz, _⟩ : ∃ cs, v = .agg cs ∧ cs.size = Tryz.prog.cellsOf 24 ∧ Row.okWide Tryz.prog W .any base 24 cs := by
    simpa [Value.okWide, Tryz.underlying24] using hv
  obtain ⟨fuel, hf⟩ := h
  obtain ⟨k, c, e, t, s, h1, h2, h3, h4, h5, hc, hx⟩ := head_cells hf
  simp only [Prod.mk.injEq] at hx
  obtain ⟨ls⟩ := cs
  simp [Value.cells] at hc
  subst hc
  exact ⟨k, c, e, t, s, rfl, hx.1, hx.2, h1, h2, h3, h4, h5⟩
theorem shut_head {H : Type} {enc : TypeId × Value → H} {W : World} {base : Nat} {sp : Nat → Bool} {held : Bool} {k c e t s : Int} (h : HdOk k c e t s) :
    DataW.Trod enc Tryz.prog W base sp held 24 (.agg (hdv k c e t s)) (hdat k c e t s) [] :=
  ⟨3, by
    obtain ⟨h1, h2, h3, h4, h5⟩ := h
    unfold ok8 oku at *
    simp [DataW.trod, Value.cells, hdv, Tryz.underlying24, Tryz.underlying5, Tryz.underlying22, cellsHead, cellsByte, cellsU32h, h1, h2, h3, h4, h5, hdat]⟩
theorem oku_nat {a : Int} (h : oku a) : ∃ n : Nat, a = n ∧ n < 4294967296 := by
  have : 0 ≤ a ∧ a ≤ 4294967295 := by simpa [oku, Lit.wf, IntKind.min, IntKind.max, IntKind.signed, IntKind.bits] using h
  exact ⟨a.toNat, by omega, by omega⟩
theorem HdOk.nats {k c e t s : Int} (h : HdOk k c e t s) : ∃ k' c' e' t' s' : Nat, hdv k c e t s = hvs k' c' e' t' s' ∧ HIn k' c' e' t' s' := by
  obtain ⟨h1, h2, h3, h4, h5⟩ := h
  obtain ⟨k', rfl, a1⟩ := ok8_nat h1
  obtain ⟨c', rfl, a2⟩ := ok8_nat h2
  obtain ⟨e', rfl, a3⟩ := oku_nat h3
  obtain ⟨t', rfl, a4⟩ := oku_nat h4
  obtain ⟨s', rfl, a5⟩ := oku_nat h5
  exact ⟨k', c', e', t', s', rfl, a1, a2, a3, a4, a5⟩
end Go.Proofs.YtcmofbhfdagpcaaGreatDoor

/-
  The table that the program's text lays: what its reading gives.
-/
namespace Go.Proofs.YtcmofbhfdagpcaaGreatDoor
open Go.ChangeShapes Go.WideShapes Go.ChangeAt Go.WideMaps Go.WideElems Go.RowKit
set_option linter.unusedVariables false
set_option maxRecDepth 100000

theorem gSteps : Tryz.prog.globalNamed "pinnace/frame.steps" = some 0 := by kernel_rfl
theorem tSteps : (Tryz.prog.globals[0]?).map (·.type) = some 107 := by kernel_rfl

theorem tbl_vals : (List.range 16).map tbl = [0, 498536548, 997073096, 651767980, 1994146192, 1802195444, 1303535960, 1342533948, 3988292384, 4027552580, 3604390888, 3412177804, 2607071920, 2262029012, 2685067896, 3183342108] := by decide +kernel
theorem steps_at (i : Nat) (hi : i < 16) : ([DataW.lit (Lit.int IntKind.u32 0), DataW.lit (Lit.int IntKind.u32 498536548), DataW.lit (Lit.int IntKind.u32 997073096), DataW.lit (Lit.int IntKind.u32 651767980), DataW.lit (Lit.int IntKind.u32 1994146192), DataW.lit (Lit.int IntKind.u32 1802195444), DataW.lit (Lit.int IntKind.u32 1303535960), DataW.lit (Lit.int IntKind.u32 1342533948), DataW.lit (Lit.int IntKind.u32 3988292384), DataW.lit (Lit.int IntKind.u32 4027552580), DataW.lit (Lit.int IntKind.u32 3604390888), DataW.lit (Lit.int IntKind.u32 3412177804), DataW.lit (Lit.int IntKind.u32 2607071920), DataW.lit (Lit.int IntKind.u32 2262029012), DataW.lit (Lit.int IntKind.u32 2685067896), DataW.lit (Lit.int IntKind.u32 3183342108)] : List (DataW Unit))[i]? = some (DataW.lit (Lit.int IntKind.u32 ((tbl i : Nat) : Int))) := by
  have e : (tbl i) = ((List.range 16).map tbl)[i]?.getD 0 := by simp [hi]
  rw [e, tbl_vals]
  clear e
  match i, hi with
  | 0, _ => rfl
  | 1, _ => rfl
  | 2, _ => rfl
  | 3, _ => rfl
  | 4, _ => rfl
  | 5, _ => rfl
  | 6, _ => rfl
  | 7, _ => rfl
  | 8, _ => rfl
  | 9, _ => rfl
  | 10, _ => rfl
  | 11, _ => rfl
  | 12, _ => rfl
  | 13, _ => rfl
  | 14, _ => rfl
  | 15, _ => rfl
  | n + 16, h => exact absurd h (by omega)
theorem of_laidf {W : World} (h : laidMetH Tryz.prog laid1 W) : Tabf W := by
  rw [MakeChecks.laidMetH_plain _ _ _ (by kernel_rfl)] at h
  obtain ⟨ps, ⟨g0, t0, cs0, f0, p0, q0, hg0, ht0, hv0, hd0, _, _⟩, _, _⟩ := h
  obtain rfl := Option.some.inj (gSteps.symm.trans hg0)
  obtain rfl := Option.some.inj (tSteps.symm.trans ht0)
  obtain ⟨xs, m1, rfl, hx1, hlen, hn3, hel⟩ := DataW.trod_array Tryz.underlying107 hd0
  have c3 : Tryz.prog.cellsOf 22 = 1 := by kernel_rfl
  have c24 : Tryz.prog.cellsOf 107 = 16 := by kernel_rfl
  simp only [Prod.mk.injEq, DataW.agg.injEq, Rows.laid_pinnace_frame_steps] at hx1
  intro i hi
  have h0 := hel i hi
  have hxi : xs[i]? = some xs[i] := List.getElem?_eq_getElem (by rw [hn3]; exact hi)
  obtain ⟨k, e1, e2, _⟩ := DataW.trod_int Tryz.underlying22 (h0.trans hxi)
  have hk : k = ((tbl i : Nat) : Int) := by
    have h1 := steps_at i hi
    rw [hx1.1, List.getElem?_map, hxi] at h1
    simp only [Option.map_some, Option.some.injEq] at h1
    rw [e2] at h1
    simpa using h1
  subst hk
  have := World.var?_cell hg0 hv0 i
  rw [this]
  rw [c3, Nat.mul_one] at e1
  have h2 : (List.take 1 (List.drop i cs0.toList))[0]? = some (Value.int IntKind.u32 ((tbl i : Nat) : Int)) := by rw [e1]; rfl
  rw [List.getElem?_take, if_pos (by decide), List.getElem?_drop, Nat.add_zero, Array.getElem?_toList] at h2
  exact h2

theorem u16_rng {n : Int} (h : (Lit.int .u16 n).wf = true) : ∃ k : Nat, n = k ∧ k < 65536 := by
  have : 0 ≤ n ∧ n ≤ 65535 := by simpa [Lit.wf, IntKind.min, IntKind.max, IntKind.signed, IntKind.bits] using h
  exact ⟨n.toNat, by omega, by omega⟩
theorem u32_rng {n : Int} (h : (Lit.int .u32 n).wf = true) : ∃ k : Nat, n = k ∧ k < 4294967296 := by
  have : 0 ≤ n ∧ n ≤ 4294967295 := by simpa [Lit.wf, IntKind.min, IntKind.max, IntKind.signed, IntKind.bits] using h
  exact ⟨n.toNat, by omega, by omega⟩
theorem u8_rng {n : Int} (h : (Lit.int .u8 n).wf = true) : ∃ k : Nat, n = k ∧ k < 256 := by
  have : 0 ≤ n ∧ n ≤ 255 := by simpa [Lit.wf, IntKind.min, IntKind.max, IntKind.signed, IntKind.bits] using h
  exact ⟨n.toNat, by omega, by omega⟩
end Go.Proofs.YtcmofbhfdagpcaaGreatDoor

