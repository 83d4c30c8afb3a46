/-
  The program's Diff and Empty.
-/
import Derived.Test.YtkkehmapheopeaaDoorEnlg
import Derived.Test.YtkkehmapheopeaaDoorEnfg
import Derived.Laws.ResultCell
import Derived.Test.YtkkehmapheopeaaDoorPkcg
import Derived.Test.YtkkehmapheopeaaDoorGkg
import Derived.Test.YtkkehmapheopeaaDoorEna
import Derived.Test.YtkkehmapheopeaaDoorZo
import Derived.OpenShut
import Derived.Test.YtkkehmapheopeaaDoorSc
import Derived.Test.YtkkehmapheopeaaDoorTie
import Derived.Test.YtkkehmapheopeaaDoorCards
import Derived.ProofKit
import Derived.LaidMore
import Derived.SevenTiedAt
import Derived.Stop.Joined
namespace Go.Proofs.YtkkehmapheopeaaDoor
open Go.RowKit
set_option linter.unusedVariables false
set_option maxRecDepth 100000

def dcode (W N : List En) : Nat := if fm 0 W ≠ 0 then fm 0 W else fm 0 N
theorem fm_lt (p : Nat) (L : List En) : fm p L < 4294967296 := by
  induction L generalizing p with
  | nil => simp [fm]
  | cons x t ih =>
    rw [fm]
    split
    · unfold ent1
      split
      · decide
      · split
        · exact lst_small x.2
        · split <;> decide
    · exact ih _
def dlv (W N : List En) : Dl := if dcode W N = 0 then btw W N else ⟨[], [], []⟩
theorem Own.nilDl {w0 w : World} {l : List Thing} (h : Own w0 w l) : Own w0 w (nilD.things ++ l) :=
  (Own.two ((Own.ents (ao := none) (cap := 0) (L := []) (((h.nilRow _ _).nilRow _ _))).nilRow _ _)).two
set_option maxHeartbeats 4000000 in
theorem diff_any (w0 w : World) (ht : Tab w0) (l : List Thing) (h : Own w0 w l) (aw an : Option Addr) (nw nn cw cn : Nat) (W N : List EnE) (hQ : ∀ w', Own w0 w' l → EntsAt w' aw W ∧ EntsAt w' an N) (hW : W.length = nw) (hN : N.length = nn) (hcw : nw ≤ cw) (hcn : nn ≤ cn) (hmw : cw ≤ 9223372036854775807) (hmn : cn ≤ 9223372036854775807) (hIW : EIn W) (hIN : EIn N) (hzW : esz W ≤ 1000000) (hzN : esz N ≤ 1000000) :
    Calls Tryd.prog 35 #[.slice aw nw cw, .slice an nn cn] w fun e w' => ∃ d : DlE, e = .returned (.tuple #[.agg d.vs, .int .i64 ((dcode (evs W) (evs N) : Nat) : Int)]) ∧ d.v = dlv (evs W) (evs N) ∧ Own w0 w' (d.things ++ l) := by
  have hB := h.allocC #[.slice none 0 0, .slice none 0 0, .slice none 0 0] 75
  have HF1 : Hid (Calls _ _ _ _ _) := form_any _ (ht.quiet hB.fr) aw nw cw W ((hQ _ hB.tail).1) hW hIW hzW
  have HF2 : Hid (∀ w' b, Own w0 w' (Cells b #[.slice none 0 0, .slice none 0 0, .slice none 0 0] 75 :: l) → Calls Tryd.prog 33 #[.slice an nn cn] w' fun e w'' => e = .returned (.int .i64 ((fm 0 (evs N) : Nat) : Int)) ∧ Fr Nobody w' w'') := fun w' b hw => form_any w' (ht.quiet hw.fr) an nn cn N ((hQ w' hw.tail).2) hN hIN hzN
  have HBT : Hid (∀ w' b, Own w0 w' (Cells b #[.slice none 0 0, .slice none 0 0, .slice none 0 0] 75 :: l) → Calls Tryd.prog 56 #[.slice aw nw cw, .slice an nn cn] w' fun e w'' => ∃ d : DlE, e = .returned (.agg d.vs) ∧ d.v = btw (evs W) (evs N) ∧ Own w0 w'' (d.things ++ (Cells b #[.slice none 0 0, .slice none 0 0, .slice none 0 0] 75 :: l))) := fun w' b hw => between_any w0 w' _ hw aw an nw nn cw cn W N (fun w2 hw2 => hQ w2 hw2.tail) hW hN hcw hcn hmw hmn hIW hIN hzW hzN
  have HB : Hid (Own w0 _ _) := hB
  have hs1 := fm_lt 0 (evs W)
  have hs2 := fm_lt 0 (evs N)
  have HDC : Hid (∀ x y, x = fm 0 (evs W) → y = fm 0 (evs N) → dcode (evs W) (evs N) = if x ≠ 0 then x else y) := fun x y hx hy => by rw [hx, hy]; rfl
  obtain ⟨x, hx⟩ : ∃ x, x = fm 0 (evs W) := ⟨_, rfl⟩
  obtain ⟨y, hy⟩ : ∃ y, y = fm 0 (evs N) := ⟨_, rfl⟩
  have HDC2 : Hid (dcode (evs W) (evs N) = if x ≠ 0 then x else y) := HDC.out x y hx hy
  rw [← hx] at HF1 hs1
  rw [← hy] at HF2 hs2
  clear h hQ hW hN hcw hcn hmw hmn hIW hIN hzW hzN hB ht HDC hx hy
  go_enter Tryd.func35, Tryd.ntmps35
  go_wp2_with fail
  refine HF1.out.mono ?_
  rintro e w1 ⟨rfl, hf1⟩
  have h1 := HB.out.quiet hf1
  generalize w.heap.size = b4 at *
  clear HF1 HB hf1
  by_cases hx0 : x = 0
  · subst hx0
    have HFN : Hid (Calls _ _ _ _ _) := HF2.out w1 b4 h1
    have H1 : Hid (Own w0 w1 _) := h1
    clear h1 HF2
    go_wp2_with fail
    refine HFN.out.mono ?_
    rintro e w2 ⟨rfl, hf2⟩
    have h2 := H1.out.quiet hf2
    clear HFN H1 hf2
    by_cases hy0 : y = 0
    · subst hy0
      have HBW : Hid (Calls _ _ _ _ _) := HBT.out w2 b4 h2
      have HC : Hid (dcode (evs W) (evs N) = 0) := by show _ = _; rw [HDC2.out]; rfl
      clear h2 HBT HDC2
      go_wp2_with fail
      refine HBW.out.mono ?_
      rintro e w3 ⟨d, rfl, hd, h3⟩
      have h4 := Own.lift (l := d.things) h3
      have z0 := h4.cell 0
      have z1 := h4.cell 1
      have z2 := h4.cell 2
      have y0 := h4.froz 0
      have y1 := h4.froz 1
      have y2 := h4.froz 2
      simp at z0 z1 z2
      have HF : Hid (Own w0 _ _) := ((h4.setC 0 (.slice d.ga d.G.length d.gc)).setC 1 (.slice d.ma d.M.length d.mc)).setC 2 (.slice d.ha d.H.length d.hc)
      have HV : Hid (d.v = dlv (evs W) (evs N)) := by show _ = _; unfold dlv; rw [if_pos HC.out]; exact hd
      clear h3 h4 hd HBW
      unfold DlE.vs
      go_wp2
      (try simp only [Exit.inBlock, Exit.then])
      refine bodyPost_ret (v := .tuple #[.agg #[.slice d.ga d.G.length d.gc, .slice d.ma d.M.length d.mc, .slice d.ha d.H.length d.hc], .int .i64 0]) ?_ rfl ⟨d, by rw [HC.out]; rfl, HV.out, HF.out.tail⟩
      rw [results_cell_tmp rfl]
      have r0 := HF.out.cell 0
      have r1 := HF.out.cell 1
      have r2 := HF.out.cell 2
      simp at r0 r1 r2
      go_simp
    · have hy1 : ((y : Int) != 0) = true := by simpa using hy0
      have HC : Hid (dcode (evs W) (evs N) = y) := by show _ = _; rw [HDC2.out]; rfl
      have HV : Hid (nilD.v = dlv (evs W) (evs N)) := by show _ = _; unfold dlv; rw [HC.out, if_neg hy0]; rfl
      have z0 := h2.cell 0
      have z1 := h2.cell 1
      have z2 := h2.cell 2
      have y0 := h2.froz 0
      have y1 := h2.froz 1
      have y2 := h2.froz 2
      simp at z0 z1 z2
      have HF : Hid (Own w0 _ _) := ((h2.setC 0 (.slice none 0 0)).setC 1 (.slice none 0 0)).setC 2 (.slice none 0 0)
      clear h2 HBT HDC2 hy0
      go_wp2
      (try simp only [Exit.inBlock, Exit.then])
      refine bodyPost_ret (v := .tuple #[.agg #[.slice none 0 0, .slice none 0 0, .slice none 0 0], .int .i64 (y : Int)]) ?_ rfl ⟨nilD, by rw [HC.out]; rfl, HV.out, HF.out.tail.nilDl⟩
      rw [results_cell_tmp rfl]
      have r0 := HF.out.cell 0
      have r1 := HF.out.cell 1
      have r2 := HF.out.cell 2
      simp at r0 r1 r2
      go_simp
  · have hx1 : ((x : Int) != 0) = true := by simpa using hx0
    have HC : Hid (dcode (evs W) (evs N) = x) := by show _ = _; rw [HDC2.out, if_pos hx0]
    have HV : Hid (nilD.v = dlv (evs W) (evs N)) := by show _ = _; unfold dlv; rw [HC.out, if_neg hx0]; rfl
    have z0 := h1.cell 0
    have z1 := h1.cell 1
    have z2 := h1.cell 2
    have y0 := h1.froz 0
    have y1 := h1.froz 1
    have y2 := h1.froz 2
    simp at z0 z1 z2
    have HF : Hid (Own w0 _ _) := ((h1.setC 0 (.slice none 0 0)).setC 1 (.slice none 0 0)).setC 2 (.slice none 0 0)
    clear h1 HBT HDC2 HF2 hx0
    go_wp2
    (try simp only [Exit.inBlock, Exit.then])
    refine bodyPost_ret (v := .tuple #[.agg #[.slice none 0 0, .slice none 0 0, .slice none 0 0], .int .i64 (x : Int)]) ?_ rfl ⟨nilD, by rw [HC.out]; rfl, HV.out, HF.out.tail.nilDl⟩
    rw [results_cell_tmp rfl]
    have r0 := HF.out.cell 0
    have r1 := HF.out.cell 1
    have r2 := HF.out.cell 2
    simp at r0 r1 r2
    go_simp
def Dl.empty (d : Dl) : Bool := d.gone.isEmpty && d.come.isEmpty && d.chg.isEmpty
theorem empty_len (d : DlE) : d.v.empty = (decide (d.G.length = 0) && decide (d.M.length = 0) && decide (d.H.length = 0)) := by
  unfold Dl.empty DlE.v evs
  rw [Bool.eq_iff_iff]
  simp [List.isEmpty_iff]
end Go.Proofs.YtkkehmapheopeaaDoor


/-
  What stands behind the head, and the whole frame: packets of nobody, steps from a snapshot to itself.
-/
namespace Go.Proofs.YtkkehmapheopeaaDoor
open Go.RowKit
set_option linter.unusedVariables false
set_option maxRecDepth 100000

set_option maxHeartbeats 400000 in
/-- of those kinds that have no entities -/
theorem content_no (w0 w : World) (l : List Thing) (p k : Nat) (wv : Value) (a : Option Addr) (c : Nat) (h : Own w0 w l) (h1 : k ≠ 1) (h2 : k ≠ 2) :
    Calls Tryd.prog 20 #[.pointer (some ⟨p, 0, none⟩), .int .u8 (k : Int), wv, .slice a 0 c] w fun e w' => e = .returned (.int .i64 0) ∧ Own w0 w' l := by
  have e1 : ((k : Int) == 1) = false := by rw [beq_eq_false_iff_ne]; omega
  have e2 : ((k : Int) == 2) = false := by rw [beq_eq_false_iff_ne]; omega
  have H : Hid (Own w0 w l) := h
  clear h h1 h2
  go_enter Tryd.func20, Tryd.ntmps20
  go_wp2
  go_ret
  exact ⟨rfl, H.out⟩
set_option maxHeartbeats 1000000 in
/-- of a step that changes nothing -/
theorem content_same (w0 w : World) (ht : Tab w0) (l : List Thing) (p b : Nat) (L : List Bool) (h : Own w0 w (penC p b :: WrT b L :: l)) (aw an : Option Addr) (nw nn cw cn : Nat) (W N : List EnE) (hQ : ∀ w', Own w0 w' l → EntsAt w' aw W ∧ EntsAt w' an N) (hW : W.length = nw) (hN : N.length = nn) (hcw : nw ≤ cw) (hcn : nn ≤ cn) (hmw : cw ≤ 9223372036854775807) (hmn : cn ≤ 9223372036854775807) (hIW : EIn W) (hIN : EIn N) (hzW : esz W ≤ 1000000) (hzN : esz N ≤ 1000000) (hf : fm 0 (evs W) = 0) (he : evs W = evs N) (hl : L.length + 128 ≤ 1048576) :
    Calls Tryd.prog 20 #[.pointer (some ⟨p, 0, none⟩), .int .u8 2, .slice aw nw cw, .slice an nn cn] w fun e w' => e = .returned (.int .i64 0) ∧ Own w0 w' (penC p b :: WrT b (((L ++ var 0) ++ var 0) ++ var 0) :: l) := by
  have HD : Hid (Calls _ _ _ _ _) := diff_any w0 w ht _ h aw an nw nn cw cn W N (fun w' hw => hQ w' hw.tail.tail) hW hN hcw hcn hmw hmn hIW hIN hzW hzN
  have hdc : dcode (evs W) (evs N) = 0 := by unfold dcode; rw [← he]; simp [hf]
  have hdv : dlv (evs W) (evs N) = ⟨[], [], []⟩ := by unfold dlv; rw [if_pos hdc, ← he]; exact btw_self _ (Snap.of hf)
  rw [hdc, hdv] at HD
  clear h hQ hW hN hcw hcn hmw hmn hIW hIN hzW hzN hf he hdc hdv
  go_enter Tryd.func20, Tryd.ntmps20
  go_wp2_with fail
  refine HD.out.mono ?_
  rintro e w1 ⟨d, rfl, hd, h1⟩
  have g0 : d.G.length = 0 := by have := congrArg Dl.gone hd; exact congrArg List.length this
  have g1 : d.M.length = 0 := by rw [← evs_len]; have := congrArg Dl.come hd; exact congrArg List.length this
  have g2 : d.H.length = 0 := by have := congrArg (fun x => x.chg.length) hd; simpa [DlE.v] using this
  unfold DlE.vs
  rw [g0, g1, g2]
  have h2 := (Own.dropA h1).allocC #[.slice d.ga 0 d.gc, .slice d.ma 0 d.mc, .slice d.ha 0 d.hc] 75
  have q0 := h2.cell 0
  have q1 := h2.cell 1
  have q2 := h2.cell 2
  simp at q0 q1 q2
  have HP : Hid (Calls _ _ _ _ _) := pdelta0 w0 _ _ p b L (.slice aw nw cw) d.ga d.ma d.ha d.gc d.mc d.hc h2.two.in23 hl
  have z0 : ((0 : Int) != 0) = false := rfl
  clear h1 h2 hd g0 g1 g2 HD
  go_wp2_with fail
  refine HP.out.mono ?_
  rintro e w2 ⟨rfl, h3⟩
  have H3 : Hid (Own w0 w2 _) := h3.three.tail
  clear h3 HP q0 q1 q2
  go_wp2
  go_ret
  exact ⟨rfl, H3.out⟩
theorem pack_len (L : List Bool) : (pack L).length = nb L.length := by simp [pack]
theorem pack_byte (L : List Bool) : ∀ x ∈ pack L, x < 256 := by
  intro x hx
  unfold pack at hx
  obtain ⟨i, _, rfl⟩ := List.mem_map.1 hx
  exact byteAt_lt L i
set_option maxHeartbeats 4000000 in
/-- a packet whose head is right and whose content has room -/
theorem pseal_ok (w0 w : World) (ht : Tabf w0) (l : List Thing) (h : Own w0 w l) (k c e t s : Nat) (hR : Right k c e t s) (wv nv : Value) (C : List Bool) (hC0 : 0 < C.length + (headB k c e t s).length) (hC : C.length ≤ 32000)
    (hcont : ∀ (w' : World) (p b : Nat) (X : Thing), Own w0 w' (penC p b :: WrT b (headB k c e t s) :: X :: l) → Calls Tryd.prog 20 #[.pointer (some ⟨p, 0, none⟩), .int .u8 (k : Int), wv, nv] w' fun x w'' => x = .returned (.int .i64 0) ∧ Own w0 w'' (penC p b :: WrT b (headB k c e t s ++ C) :: X :: l)) :
    Calls Tryd.prog 8 #[.agg (hvs k c e t s), wv, nv] w fun x w' => ∃ g cp, x = .returned (.tuple #[.slice (some ⟨g, 0, none⟩) (nb (headB k c e t s ++ C).length + 4) cp, .int .i64 0]) ∧ Own w0 w' (Row 5 1 (.slice (some ⟨g, 0, none⟩) (nb (headB k c e t s ++ C).length + 4) cp) (nb (headB k c e t s ++ C).length + 4) (vrow (frm (pack (headB k c e t s ++ C)))) :: l) := by
  have hB := h.allocC (hvs k c e t s) 28
  have HCH : Hid (Calls _ _ _ _ _) := check_ok (w.alloc (.cells (hvs k c e t s) 28)) k c e t s hR
  have HR : Hid (Right k c e t s) := hR
  have HB : Hid (Own w0 _ _) := hB
  have HCO : Hid (∀ (w' : World) (p b : Nat) (X : Thing), Own w0 w' (penC p b :: WrT b (headB k c e t s) :: X :: l) → Calls Tryd.prog 20 #[.pointer (some ⟨p, 0, none⟩), .int .u8 (k : Int), wv, nv] w' fun x w'' => x = .returned (.int .i64 0) ∧ Own w0 w'' (penC p b :: WrT b (headB k c e t s ++ C) :: X :: l)) := hcont
  have HTF : Hid (Tabf w0) := ht
  have hhl := headB_le k c e t s hR.e32 hR.t32
  obtain ⟨L, hL⟩ : ∃ L, L = headB k c e t s ++ C := ⟨_, rfl⟩
  rw [← hL] at HCO
  rw [← hL]
  have hll : L.length ≤ 32300 ∧ 0 < L.length := by rw [hL, List.length_append]; omega
  clear hL
  have q0 := hB.cell 0
  have q1 := hB.cell 1
  have q2 := hB.cell 2
  have q3 := hB.cell 3
  have q4 := hB.cell 4
  simp [hvs] at q0 q1 q2 q3 q4
  unfold hvs at HCH
  clear h hB hcont hR ht
  unfold hvs
  go_enter Tryd.func8, Tryd.ntmps8
  go_wp2_with fail
  refine HCH.out.mono ?_
  rintro x w1 ⟨rfl, hf1⟩
  have h1 := HB.out.quiet hf1
  have HNW : Hid (Calls _ _ _ _ _) := new_own w0 w1 _ h1
  clear hf1 h1 HCH HB q0 q1 q2 q3 q4
  generalize w.heap.size = bh at *
  go_wp2_with fail
  refine HNW.out.mono ?_
  rintro x w2 ⟨b, rfl, h2⟩
  have h3 := h2.allocC #[.pointer (some ⟨b, 0, none⟩), .int .i64 0] 55
  have q0 := h3.three.cell 0
  have q1 := h3.three.cell 1
  have q2 := h3.three.cell 2
  have q3 := h3.three.cell 3
  have q4 := h3.three.cell 4
  simp [hvs] at q0 q1 q2 q3 q4
  have HHD : Hid (Calls _ _ _ _ _) := phead w0 _ _ w2.heap.size b h3 k c e t s HR.out
  unfold hvs at HHD
  clear h2 h3 HNW
  go_wp2_with fail
  refine HHD.out.mono ?_
  rintro x w3 ⟨rfl, h4⟩
  generalize w2.heap.size = p at *
  have r0 := h4.three.cell 0
  simp at r0
  have HCN : Hid (Calls _ _ _ _ _) := HCO.out w3 p b _ h4
  clear h4 HHD q0 q1 q2 q3 q4
  go_wp2_with fail
  refine HCN.out.mono ?_
  rintro x w4 ⟨rfl, h5⟩
  have z0 := Own.cell (show Own w0 w4 (Cells p #[.pointer (some ⟨b, 0, none⟩), .int .i64 0] 55 :: _) from h5) 0
  have z1 := Own.cell (show Own w0 w4 (Cells p #[.pointer (some ⟨b, 0, none⟩), .int .i64 0] 55 :: _) from h5) 1
  simp at z0 z1
  have HBY : Hid (Calls _ _ _ _ _) := bytesW w0 w4 _ b L h5.two (by omega)
  clear h5 HCN r0
  go_wp2_with fail
  refine HBY.out.mono ?_
  rintro x w5 ⟨v, rfl, h6⟩
  have hnb : 0 < nb L.length := by unfold nb; omega
  obtain ⟨g, cap, hv, _⟩ := row_shape h6.row hnb
  subst hv
  have hin := In.of_row h6.row (by rw [pack_len]) (pack_byte L)
  have HSE : Hid (Calls _ _ _ _ _) := seal_ok w5 (some ⟨g, 0, none⟩) cap (nb L.length) (pack L) hin (by unfold nb; omega) (HTF.out.quiet h6.fr)
  have H6 : Hid (Own w0 w5 _) := h6
  clear h6 HBY hin z0 z1
  go_wp2_with fail
  refine HSE.out.mono ?_
  rintro x w6 ⟨g6, cp6, rfl, hr6, hf6⟩
  have H7 : Hid (Own w0 w6 (Row 5 1 (.slice (some ⟨g6, 0, none⟩) (nb L.length + 4) cp6) (nb L.length + 4) (vrow (frm (pack L))) :: l)) := by
    have h7 := (H6.out.tail.tail.tail.tail)
    exact h7.new (Row 5 1 (.slice (some ⟨g6, 0, none⟩) (nb L.length + 4) cp6) (nb L.length + 4) (vrow (frm (pack L)))) (fun j => (Value.slice (some ⟨g6, 0, none⟩) (nb L.length + 4) cp6).ownBlock = some j) ⟨row_weak hr6, fun _ => Iff.rfl⟩ hf6 (fun j hj => (hr6.lt j hj).1)
  clear hr6 hf6 HSE H6
  go_wp2
  go_ret2
  exact ⟨g6, cp6, rfl, H7.out⟩
end Go.Proofs.YtkkehmapheopeaaDoor

/-
  The document's example of a packet; steps from a snapshot to itself, sealed.
-/
namespace Go.Proofs.YtkkehmapheopeaaDoor
open Go.RowKit
set_option linter.unusedVariables false
set_option maxRecDepth 100000

theorem right3 : Right 3 2 1 5 0 := ⟨by decide, by decide, by decide, by decide, by decide, by decide, by decide, by decide, by decide⟩
theorem ack_len : nb (headB 3 2 1 5 0 ++ []).length = 6 := by decide +kernel
theorem ack_pack : pack (headB 3 2 1 5 0 ++ []) = [146, 80, 0, 0, 0, 0] := by decide +kernel
set_option maxHeartbeats 1000000 in
theorem awake20 (w : World) (htf : Tabf w) : Calls Tryd.prog 5 #[] w fun e w' => e = .returned (.bool true) ∧ Fr Nobody w w' := by
  have hS := pseal_ok w w htf [] (Own.start w) 3 2 1 5 0 right3 (.slice none 0 0) (.slice none 0 0) [] (by decide +kernel) (by decide) (fun w' p b X hw => by
    rw [List.append_nil]
    exact content_no w w' _ p 3 _ none 0 hw (by decide) (by decide))
  rw [ack_len, ack_pack] at hS
  have HS : Hid (Calls Tryd.prog 8 #[.agg #[.int .u8 3, .int .u8 2, .int .u32 1, .int .u32 5, .int .u32 0], .slice none 0 0, .slice none 0 0] w _) := hS
  clear hS htf
  go_enter Tryd.func5, Tryd.ntmps5
  go_wp2_with fail
  refine HS.out.mono ?_
  rintro x w1 ⟨g, cp, rfl, h1⟩
  have hin : In w1 (some ⟨g, 0, none⟩) (6 + 4) cp (frm [146, 80, 0, 0, 0, 0]) := In.of_row h1.row (by rw [length_frm]; rfl) (frm_byte _ (by decide))
  have hfo := frm_opens [146, 80, 0, 0, 0, 0] 6 rfl
  have hO := ropen_ok w1 (some ⟨g, 0, none⟩) cp 6 (frm [146, 80, 0, 0, 0, 0]) hin (by decide) hfo.1
  rw [hfo.2] at hO
  have HO : Hid (Calls Tryd.prog 13 #[.slice (some ⟨g, 0, none⟩) 10 cp] w1 _) := hO
  have H1 : Hid (Own w w1 _) := h1
  clear hO hin hfo h1 HS
  go_wp2_with fail
  refine HO.out.mono ?_
  rintro x w2 ⟨v, rfl, hr, hf⟩
  have h2 := H1.out.quiet hf
  have h3 := h2.litRow #[.int .u8 146, .int .u8 80, .int .u8 0, .int .u8 0, .int .u8 0, .int .u8 0] 5 1 6 (by decide) rfl
  have HSM : Hid (Calls _ _ _ _ _) := same_any (w2.alloc (.cells #[.int .u8 146, .int .u8 80, .int .u8 0, .int .u8 0, .int .u8 0, .int .u8 0] 5)) v (.slice (some ⟨w2.heap.size, 0, none⟩) 6 6) [146, 80, 0, 0, 0, 0] (Src.of_row ((row_weak hr).alloc _)) (Src.of_row h3.row)
  have HF : Hid (Fr Nobody w (w2.alloc (.cells #[.int .u8 146, .int .u8 80, .int .u8 0, .int .u8 0, .int .u8 0, .int .u8 0] 5))) := h3.fr
  clear h2 h3 hf HO H1 hr
  go_wp2_with fail
  refine HSM.out.mono ?_
  rintro x w3 ⟨rfl, rfl⟩
  clear HSM
  go_wp2
  go_ret
  exact ⟨rfl, HF.out⟩
/-- the bits of a step that changes nothing -/
def stepB (t s : Nat) : List Bool := headB 2 0 1 t s ++ ((var 0 ++ var 0) ++ var 0)
theorem var1_len : (var 1).length = 5 := by decide +kernel
theorem stepB_len (t s : Nat) (h : t = s + 1) : nb (stepB t s).length = 8 := by
  have e : t - s - 1 = 0 := by omega
  unfold stepB headB
  rw [if_pos (by rfl), if_pos rfl, e]
  simp only [List.length_append, length_bitsN, length_var0, var1_len, wid15, wid015]
  decide
set_option maxHeartbeats 1000000 in
theorem pseal_same (w0 w : World) (htb : Tab w0) (htf : Tabf w0) (l : List Thing) (h : Own w0 w l) (t s : Nat) (hts : t = s + 1) (ht : t < 4294967296) (aw an : Option Addr) (nw nn cw cn : Nat) (W N : List EnE) (hQ : ∀ w', Own w0 w' l → EntsAt w' aw W ∧ EntsAt w' an N) (hW : W.length = nw) (hN : N.length = nn) (hcw : nw ≤ cw) (hcn : nn ≤ cn) (hmw : cw ≤ 9223372036854775807) (hmn : cn ≤ 9223372036854775807) (hIW : EIn W) (hIN : EIn N) (hzW : esz W ≤ 1000000) (hzN : esz N ≤ 1000000) (hf : fm 0 (evs W) = 0) (he : evs W = evs N) :
    Calls Tryd.prog 8 #[.agg #[.int .u8 2, .int .u8 0, .int .u32 1, .int .u32 (t : Int), .int .u32 (s : Int)], .slice aw nw cw, .slice an nn cn] w fun x w' => ∃ g cp, x = .returned (.tuple #[.slice (some ⟨g, 0, none⟩) 12 cp, .int .i64 0]) ∧ Own w0 w' (Row 5 1 (.slice (some ⟨g, 0, none⟩) 12 cp) 12 (vrow (frm (pack (stepB t s)))) :: l) := by
  have hR : Right 2 0 1 t s := ⟨by decide, by decide, by decide, by decide, by decide, ht, by omega, rfl, by unfold bfit; simp; omega⟩
  have hhl := headB_le 2 0 1 t s (by decide) ht
  have h := pseal_ok w0 w htf l h 2 0 1 t s hR (.slice aw nw cw) (.slice an nn cn) ((var 0 ++ var 0) ++ var 0) (by simp only [List.length_append, length_var0]; omega) (by simp only [List.length_append, length_var0]; omega) (fun w' p b X hw => by
    have hc := content_same w0 w' htb (X :: l) p b _ hw aw an nw nn cw cn W N (fun w2 hw2 => hQ w2 hw2.tail) hW hN hcw hcn hmw hmn hIW hIN hzW hzN hf he (by omega)
    rw [List.append_assoc, List.append_assoc, ← List.append_assoc (var 0)] at hc
    exact hc)
  have e : nb (headB 2 0 1 t s ++ ((var 0 ++ var 0) ++ var 0)).length = 8 := stepB_len t s hts
  rw [e] at h
  exact h
end Go.Proofs.YtkkehmapheopeaaDoor

/-
  Lists of entities that are alike; where they lie.
-/
namespace Go.Proofs.YtkkehmapheopeaaDoor
open Go.RowKit
set_option linter.unusedVariables false
set_option maxRecDepth 100000

theorem evs_get {L M : List EnE} (h : evs L = evs M) {j : Nat} {x : EnE} (hx : L[j]? = some x) : ∃ y, M[j]? = some y ∧ y.id = x.id ∧ y.C = x.C := by
  have h1 : (evs M)[j]? = some (x.id, x.C) := by rw [← h]; exact evs_at hx
  unfold evs at h1
  rw [List.getElem?_map] at h1
  obtain ⟨y, hy, e⟩ := Option.map_eq_some_iff.1 h1
  simp only [Prod.mk.injEq] at e
  exact ⟨y, hy, e.1, e.2⟩
theorem evs_mem {L M : List EnE} (h : evs L = evs M) {x : EnE} (hx : x ∈ L) : ∃ y ∈ M, y.id = x.id ∧ y.C = x.C := by
  obtain ⟨j, hj⟩ := List.getElem?_of_mem hx
  obtain ⟨y, hy, e⟩ := evs_get h hj
  exact ⟨y, List.mem_of_getElem? hy, e⟩
theorem EIn.of_evs {L M : List EnE} (h : evs L = evs M) (hM : EIn M) : EIn L := fun x hx => by
  obtain ⟨y, hy, e1, e2⟩ := evs_mem h hx
  rw [← e1, ← e2]
  exact hM y hy
theorem csz_evs {L M : List EnE} (h : evs L = evs M) : csz L = csz M := by
  induction L generalizing M with
  | nil => cases M with
    | nil => rfl
    | cons y s => simp [evs] at h
  | cons x t ih =>
    cases M with
    | nil => simp [evs] at h
    | cons y s =>
      simp only [evs, List.map_cons, List.cons.injEq, Prod.mk.injEq] at h
      simp only [csz]
      rw [ih h.2, h.1.2]
theorem esz_evs {L M : List EnE} (h : evs L = evs M) : esz L = esz M := by
  have h1 := congrArg List.length h
  rw [evs_len, evs_len] at h1
  unfold esz
  rw [h1, csz_evs h]
theorem Own.entsCap {w0 w : World} {l : List Thing} {ao : Option Addr} {cap : Nat} {L : List EnE} (h : Own w0 w (EntsT ao cap L :: l)) : L.length ≤ cap ∧ cap ≤ 9223372036854775807 := by
  obtain ⟨_, h1⟩ := Own.ex_iff.1 h
  rcases h1.row.2 with ⟨hv, h0⟩ | ⟨g, cp, cur, hv, _, _, h3, h4, _⟩
  · simp only [Value.slice.injEq] at hv
    omega
  · simp only [Value.slice.injEq] at hv
    unfold maxLen at h4
    omega
end Go.Proofs.YtkkehmapheopeaaDoor

/-
  Lists of entities that come in, and how many values they hold.
-/
namespace Go.Proofs.YtkkehmapheopeaaDoor
open Go.ChangeShapes Go.WideShapes Go.ChangeAt Go.RowKit Go.Deep
set_option linter.unusedVariables false
set_option maxRecDepth 100000

theorem bulk_pos {H : Type} (d : DataW H) : 1 ≤ Rows.uptoBulk d := by
  cases d with
  | lit v => cases v <;> simp [Rows.uptoBulk]
  | _ => simp [Rows.uptoBulk]
theorem bulk_count {H : Type} (m : List (DataW H)) : m.length ≤ Rows.uptoBulkAll m := by
  induction m with
  | nil => exact Nat.zero_le _
  | cons d m ih => have := bulk_pos d; simp only [Rows.uptoBulkAll, List.length_cons]; omega
theorem bulk_in {H : Type} {d : DataW H} {m : List (DataW H)} (h : d ∈ m) : Rows.uptoBulk d ≤ Rows.uptoBulkAll m := by
  induction m with
  | nil => cases h
  | cons y m ih =>
    simp only [Rows.uptoBulkAll]
    rcases List.mem_cons.1 h with rfl | h
    · omega
    · have := ih h; omega
theorem bulk_sum {H : Type} {D : Nat → DataW H} {s : Nat → Nat} : ∀ (R : List Nat), (∀ i ∈ R, s i ≤ Rows.uptoBulk (D i)) → (R.map s).sum ≤ Rows.uptoBulkAll (R.map D) := by
  intro R
  induction R with
  | nil => intro _; exact Nat.zero_le _
  | cons i R ih =>
    intro h
    have h1 := h i (by simp)
    have h2 := ih (fun j hj => h j (List.mem_cons_of_mem _ hj))
    simp only [List.map_cons, List.sum_cons, Rows.uptoBulkAll]
    omega
theorem bulk_slice {H : Type} (a b : List (DataW H)) : Rows.uptoBulk (.slice a b) = Rows.uptoBulkAll a + Rows.uptoBulkAll b + 1 := by simp only [Rows.uptoBulk]
theorem bulk_agg {H : Type} (a : List (DataW H)) : Rows.uptoBulk (.agg a) = Rows.uptoBulkAll a + 1 := by simp only [Rows.uptoBulk]
/-- elements of a slice that comes in, and how many values they hold -/
theorem open_rowsB {H : Type} {enc : TypeId × Value → H} {P : Program} {W : World} {ao : Option Addr} {len cap : Nat} {d : DataW H} {p : List MemPlace} {α : Type} [Inhabited α] {t e : TypeId} (s : Nat) (ht : P.underlying t = some (.slice e)) (hs : P.cellsOf e = s) (h0s : 0 < s) (G : List Value → α → Prop) (sz : α → Nat)
    (hG : ∀ fuel cs x, DataW.trod enc P W 0 (fun _ => true) true fuel e cs = some x → ∃ q, G cs q ∧ sz q ≤ Rows.uptoBulk x.1)
    (h : DataW.Trod enc P W 0 (fun _ => true) true t (.slice ao len cap) d p) :
    ∃ Q : List α, Q.length = len ∧ len ≤ cap ∧ cap ≤ maxLen ∧ RowsAt G s W ao Q ∧ (Q.map sz).sum ≤ Rows.uptoBulk d := by
  obtain ⟨fuel, hf⟩ := h
  rcases open_slice ht hf with ⟨hc, hd⟩ | ⟨a, l, c, m, n, D, Pl, hc, _, hl, hm, hmm, hd, hx⟩
  · simp [Value.cells] at hc
    obtain ⟨rfl, rfl, rfl⟩ := hc
    exact ⟨[], rfl, Nat.le_refl _, Nat.zero_le _, .inl rfl, Nat.zero_le _⟩
  · simp [Value.cells] at hc
    obtain ⟨rfl, rfl, rfl⟩ := hc
    simp only [Prod.mk.injEq] at hd
    obtain ⟨rfl, _⟩ := hd
    have hml : len ≤ m := by rw [hmm]; simp; omega
    have each : ∀ i, i < len → ∃ q : α, sz q ≤ Rows.uptoBulk (D i) ∧ ∃ cs, G cs q ∧ cs.length = s ∧ ∀ r, r < s → W.cell? ((a.add (i * s)).add r) = cs[r]? := by
      intro i hi
      obtain ⟨cs', h1, h2⟩ := hx i (by omega)
      rw [hs] at h1
      obtain ⟨_, hlen, hcell⟩ := World.cells?_some h1
      obtain ⟨q, hq, hb⟩ := hG _ _ _ h2
      exact ⟨q, hb, cs', hq, hlen, fun r hr => by rw [hcell r hr, List.getElem?_eq_getElem (by omega)]⟩
    obtain ⟨f, hfn⟩ := choose_lt each
    refine ⟨(List.range len).map f, by simp, hl, hm, ?_, ?_⟩
    · by_cases h0 : len = 0
      · subst h0; left; rfl
      · right
        obtain ⟨g, o, spot⟩ := a
        obtain ⟨_, cs, _, hcl, hcc⟩ := hfn 0 (by omega)
        have h1 := hcc 0 h0s
        rw [List.getElem?_eq_getElem (by omega)] at h1
        have hsp : spot = none := by simpa [Addr.add] using World.cell?_spot h1
        subst hsp
        refine ⟨g, o, rfl, fun j q hj => ?_⟩
        have hjl : j < len := by
          have := (List.getElem?_eq_some_iff.1 hj).1
          simpa using this
        rw [List.getElem?_map, List.getElem?_range hjl] at hj
        simp only [Option.map_some, Option.some.injEq] at hj
        obtain ⟨_, cs, h1, h2, h3⟩ := hfn j hjl
        rw [hj] at h1
        refine ⟨cs, h1, h2, fun r hr => ?_⟩
        have := h3 r hr
        rw [addr_add, addr_add] at this
        exact this
    · have h1 := bulk_sum (D := D) (s := fun i => sz (f i)) (List.range len) (fun i hi => (hfn i (by simpa using hi)).1)
      rw [bulk_slice, List.map_map]
      have e : sz ∘ f = fun i => sz (f i) := rfl
      rw [e]
      omega
theorem cellsEnt : Tryd.prog.cellsOf 43 = 2 := by kernel_rfl
theorem cellsEntC : Tryd.prog.cellsOf 41 = 1 := by kernel_rfl
theorem cellsEntI : Tryd.prog.cellsOf 40 = 1 := by kernel_rfl
theorem duo {β : Type} {l : List β} (h : l.length = 2) : ∃ a b, l = [a, b] := by
  match l, h with
  | [a, b], _ => exact ⟨a, b, rfl⟩
def EntI (W : World) (cs : List Value) (x : EnE) : Prop := cs = x.cs ∧ x.id < 4294967296 ∧ IsComps W x.ao x.C.length x.cap x.C
theorem ones_sum {α : Type} (Q : List α) : (Q.map (fun _ => 1)).sum = Q.length := by
  induction Q with
  | nil => rfl
  | cons a t ih => rw [List.map_cons, List.sum_cons, ih, List.length_cons]; omega
/-- components that come in, and how many there are -/
theorem open_csB {H : Type} {enc : TypeId × Value → H} {W : World} {fuel : Nat} {cs : List Value} {x : DataW H × List MemPlace} (h : DataW.trod enc Tryd.prog W 0 (fun _ => true) true fuel 41 cs = some x) : ∃ ao cap C, cs = [.slice ao (List.length C) cap] ∧ IsComps W ao (List.length C) cap C ∧ C.length ≤ Rows.uptoBulk x.1 := by
  obtain ⟨ao, len, cap, hv⟩ : ∃ ao len cap, cs = [.slice ao len cap] := by
    rcases open_slice Tryd.underlying41 h with ⟨hc, _⟩ | ⟨a, l, c, m, n, D, Pl, hc, _⟩
    · exact ⟨_, _, _, hc⟩
    · exact ⟨_, _, _, hc⟩
  subst hv
  obtain ⟨d, p⟩ := x
  obtain ⟨Q, h1, h2, h3, h4, h5⟩ := open_rowsB 4 Tryd.underlying41 cellsComp (by decide) CompIs (fun _ => 1) (fun fuel cs x hx => by
    obtain ⟨k, a, b, c, g1, g2, g3, g4, hcs, _⟩ := comp_cells hx
    obtain ⟨n, rfl, hn⟩ := ok8_nat g1
    exact ⟨⟨n, a, b, c⟩, ⟨hcs, hn⟩, bulk_pos _⟩) (d := d) (p := p) ⟨fuel, h⟩
  subst h1
  refine ⟨ao, cap, Q, rfl, ⟨rfl, h2, h3, h4⟩, ?_⟩
  rw [ones_sum] at h5
  exact h5
theorem ent_is {H : Type} {enc : TypeId × Value → H} {W : World} (fuel : Nat) (cs : List Value) (x : DataW H × List MemPlace)
    (h : DataW.trod enc Tryd.prog W 0 (fun _ => true) true fuel 43 cs = some x) : ∃ e, EntI W cs e ∧ e.C.length + 1 ≤ Rows.uptoBulk x.1 := by
  obtain ⟨xs, n, _, hx, hl, hlen, hf⟩ := DataW.trod_struct Tryd.underlying43 h
  rw [cellsEnt] at hl
  obtain ⟨c0, c1, rfl⟩ := duo hl
  obtain ⟨y0, y1, rfl⟩ := duo hlen
  have h0 := hf 0 _ rfl
  have h1 := hf 1 _ rfl
  simp [cellsEntC, cellsEntI] at h0 h1
  obtain ⟨b, b0, _, wb⟩ := DataW.trod_int Tryd.underlying40 h0
  simp at b0
  subst b0
  have hb : 0 ≤ b ∧ b ≤ 4294967295 := by simpa [Lit.wf, IntKind.min, IntKind.max, IntKind.signed, IntKind.bits] using wb
  obtain ⟨bn, rfl⟩ := Int.eq_ofNat_of_zero_le hb.1
  obtain ⟨ao, cap, C, hv, hC, hs⟩ := open_csB h1
  simp at hv
  subst hv
  refine ⟨⟨bn, ao, cap, C⟩, ⟨rfl, by show bn < _; omega, hC⟩, ?_⟩
  subst hx
  show _ ≤ Rows.uptoBulk (.agg [y0.1, y1.1])
  rw [bulk_agg]
  have := bulk_in (d := y1.1) (m := [y0.1, y1.1]) (by simp)
  show C.length + 1 ≤ _
  omega
def IsEnts (w : World) (ao : Option Addr) (len cap : Nat) (Q : List EnE) : Prop := Q.length = len ∧ len ≤ cap ∧ cap ≤ maxLen ∧ RowsAt (EntI w) 2 w ao Q
theorem esz_sum (Q : List EnE) : (Q.map (fun x => x.C.length + 1)).sum = esz Q := by
  unfold esz
  induction Q with
  | nil => rfl
  | cons x t ih => simp only [List.map_cons, List.sum_cons, List.length_cons, csz, ih]; omega
theorem open_ents {H : Type} {enc : TypeId × Value → H} {W : World} {ao : Option Addr} {len cap : Nat} {d : DataW H} {p : List MemPlace}
    (h : DataW.Trod enc Tryd.prog W 0 (fun _ => true) true 22 (.slice ao len cap) d p) : ∃ Q, IsEnts W ao len cap Q ∧ esz Q ≤ Rows.uptoBulk d := by
  haveI : Inhabited EnE := ⟨⟨0, none, 0, []⟩⟩
  obtain ⟨Q, h1, h2, h3, h4, h5⟩ := open_rowsB 2 Tryd.underlying22 cellsEnt (by decide) (EntI W) (fun x => x.C.length + 1) (fun fuel cs x hx => ent_is fuel cs x hx) h
  rw [esz_sum] at h5
  exact ⟨Q, ⟨h1, h2, h3, h4⟩, h5⟩
theorem IsEnts.ents {w : World} {ao : Option Addr} {len cap : Nat} {Q : List EnE} (h : IsEnts w ao len cap Q) : EntsAt w ao Q ∧ EIn Q := by
  obtain ⟨hl, _, _, hR⟩ := h
  have key : ∀ x ∈ Q, x.id < 4294967296 ∧ IsComps w x.ao x.C.length x.cap x.C := by
    intro x hx
    obtain ⟨j, hj⟩ := List.getElem?_of_mem hx
    rcases hR with h | ⟨g, of, ha, hc⟩
    · subst h; simp at hj
    · obtain ⟨cs, ⟨_, h3, h4⟩, _⟩ := hc j x hj
      exact ⟨h3, h4⟩
  refine ⟨⟨?_, fun x hx => (key x hx).2.cs.1⟩, fun x hx => ⟨(key x hx).1, (key x hx).2.cs.2⟩⟩
  rcases hR with h | ⟨g, of, ha, hc⟩
  · exact .inl h
  · refine .inr ⟨g, of, ha, fun j x hj => ?_⟩
    obtain ⟨cs, ⟨rfl, _⟩, _, h3⟩ := hc j x hj
    exact ⟨h3 0 (by decide), h3 1 (by decide)⟩
end Go.Proofs.YtkkehmapheopeaaDoor


/-
  The document's Form.
-/
namespace Go.Proofs.YtkkehmapheopeaaDoor
open Go.RowKit
set_option linter.unusedVariables false
set_option maxRecDepth 100000

set_option maxHeartbeats 8000000 in
theorem rform_any (w : World) (ao : Option Addr) (n cap : Nat) (L : List EnE) (h : EntsAt w ao L) (hn : L.length = n) (hI : EIn L) (hz : esz L ≤ 1000000) :
    Calls Tryd.prog 7 #[.slice ao n cap] w fun e w' => e = .returned (.int .i64 ((fm 0 (evs L) : Nat) : Int)) ∧ Fr Nobody w w' := by
  have hm : n ≤ 1000000 := by unfold esz at hz; omega
  have HL : Hid (L.length = n ∧ EntsAt w ao L ∧ EIn L ∧ ∀ x ∈ L, x.C.length ≤ 1000000) := ⟨hn, h, hI, fun x hx => by have := csz_mem hx; unfold esz at hz; omega⟩
  clear hn h hI hz
  go_enter Tryd.func7, Tryd.ntmps7
  go_wp2
  go_loopw [11] (fun c wr => ∃ j : Nat, j ≤ n ∧ c = .int .i64 j ∧ fm (prvE (evs L) j) ((evs L).drop j) = fm 0 (evs L) ∧ Fr Nobody w wr) (fun c _ => n - (intOf c).toNat)
  case atStart => exact ⟨0, Nat.zero_le _, rfl, rfl, Fr.refl _ _⟩
  case round =>
    obtain ⟨j, hj, rfl, hI, hf⟩ := hrel
    have HI : Hid (fm (prvE (evs L) j) ((evs L).drop j) = fm 0 (evs L)) := hI
    have HF : Hid (Fr Nobody w wr) := hf
    clear hI hf
    by_cases hlt : j < n
    · obtain ⟨x, hx⟩ : ∃ x, L[j]? = some x := ⟨_, List.getElem?_eq_getElem (by rw [HL.out.1]; exact hlt)⟩
      obtain ⟨g, o, hao, c0, c1, _⟩ := (HL.out.2.1.quiet HF.out).at hx
      have hmx := List.mem_of_getElem? hx
      obtain ⟨hid, hkk⟩ := HL.out.2.2.1 x hmx
      have hlt' : (j : Int) < (n : Int) := by omega
      have hX := evs_at hx
      have HFW : Hid (Fr Nobody w (wr.alloc (.cells #[.int .u32 (x.id : Int), .slice x.ao x.C.length x.cap] 43))) := HF.out.alloc _
      obtain ⟨p, hp⟩ : ∃ p, prvE (evs L) j = p := ⟨_, rfl⟩
      obtain ⟨ls, hls⟩ : ∃ l, lst (-1) x.C = l := ⟨_, rfl⟩
      obtain ⟨uu, huu⟩ : ∃ u, un x.C = u := ⟨_, rfl⟩
      have HCL : Hid (x.C.length = x.C.length ∧ Cs w x.ao x.C ∧ ∀ q ∈ x.C, q.k < 256) := ⟨rfl, HL.out.2.1.2 x hmx, hkk⟩
      have HUU : Hid (uu = un x.C) := huu.symm
      have hcb := HL.out.2.2.2 x hmx
      have HTL : Hid True := trivial
      have HLS : Hid (∀ W, Fr Nobody w W → Calls Tryd.prog 15 #[.slice x.ao x.C.length x.cap] W fun e w' => e = .returned (.int .i64 (ls : Int)) ∧ Fr Nobody W w') := fun W hW => by
        rw [← hls]; exact rlist_any W x.ao x.C.length x.cap x.C rfl ((HL.out.2.1.2 x hmx).quiet hW) hkk (HL.out.2.2.2 x hmx)
      have HB4 : Hid ((x.id / 1024 < 1 ∨ x.id ≤ p) → fm 0 (evs L) = 4) := fun hc => by
        have e := ent1_a (p := p) (x := (x.id, x.C)) hc
        rw [← hp] at e
        rw [fm_bad hX HI.out (by rw [e]; decide), e]
      have HBL : Hid (¬ (x.id / 1024 < 1 ∨ x.id ≤ p) → ls ≠ 0 → fm 0 (evs L) = ls) := fun hc h2 => by
        have e := ent1_b (p := p) (x := (x.id, x.C)) hc (by rw [hls]; exact h2)
        rw [← hp, hls] at e
        rw [fm_bad hX HI.out (by rw [e]; exact h2), e]
      have HBU : Hid (¬ (x.id / 1024 < 1 ∨ x.id ≤ p) → ls = 0 → uu = true → fm 0 (evs L) = 4) := fun hc h2 h3 => by
        have e := ent1_c (p := p) (x := (x.id, x.C)) hc (by rw [hls]; exact h2) (by rw [huu]; exact h3)
        rw [← hp] at e
        rw [fm_bad hX HI.out (by rw [e]; decide), e]
      have HON : Hid (¬ (x.id / 1024 < 1 ∨ x.id ≤ p) → ls = 0 → uu = false → fm (prvE (evs L) (j + 1)) ((evs L).drop (j + 1)) = fm 0 (evs L)) := fun hc h2 h3 => by
        have e := ent1_d (p := p) (x := (x.id, x.C)) hc (by rw [hls]; exact h2) (by rw [huu]; exact h3)
        rw [← hp] at e
        exact fm_on hX HI.out e
      have hl5 : ls < 4294967296 := by rw [← hls]; exact lst_small x.C
      obtain ⟨ge, hge⟩ : ∃ ge, x.id / 1024 = ge := ⟨_, rfl⟩
      have hge2 : (ge : Int) ≤ 4194303 := by omega
      have HG : Hid (∀ W, Calls Tryd.prog 14 #[.int .u32 (x.id : Int)] W fun e w' => e = .returned (.int .i64 (ge : Int)) ∧ w' = W) := fun W => by rw [← hge]; exact rgen_e x.id W hid
      have b0 : ∀ f : FrOf (wr.alloc (.cells #[.int .u32 (x.id : Int), .slice x.ao x.C.length x.cap] 43)), f.val.cell? ⟨wr.heap.size, 0, none⟩ = some (.int .u32 (x.id : Int)) := fun f => (((Own.start wr).allocC _ _).quiet f.fr).cell 0
      have b1 : ∀ f : FrOf (wr.alloc (.cells #[.int .u32 (x.id : Int), .slice x.ao x.C.length x.cap] 43)), f.val.cell? ⟨wr.heap.size, 1, none⟩ = some (.slice x.ao x.C.length x.cap) := fun f => (((Own.start wr).allocC _ _).quiet f.fr).cell 1
      by_cases hid1 : 1 ≤ ge
      · have hg1 : ¬ (ge : Int) < 1 := by omega
        have hg3 : ¬ (4194303 : Int) < (ge : Int) := by omega
        rcases j with _ | i
        · have hp0 : p = 0 := by rw [← hp]; rfl
          have HC : Hid (¬ (x.id / 1024 < 1 ∨ x.id ≤ p)) := by show ¬ _; omega
          simp only [Nat.zero_mul, Nat.add_zero] at c0 c1
          have hlt0 : (0 : Int) < (n : Int) := by omega
          subst hao
          clear hx hmx hkk hls huu hp hX hid1 hp0 hid HI hge
          obtain ⟨xi, xa, xc, C⟩ := x
          simp only at c0 c1 HLS HB4 HBL HBU HON HC HFW HG HCL HUU hcb b0 b1
          generalize hclE : C.length = cl at *
          have HCE : Hid (C.length = cl) := hclE
          clear hclE
          have q0 := b0 ⟨_, Fr.refl _ _⟩
          simp only at q0
          go_wp2_with fail
          refine (HG.out _).mono ?_
          rintro e w5 ⟨rfl, hw5⟩
          subst hw5
          clear q0 c0 c1
          go_wp2
          generalize hWg : wr.alloc (.cells #[.int .u32 (xi : Int), .slice xa cl xc] 43) = W1 at *
          generalize wr.heap.size = b at *
          clear hWg
          refine wp_region_fr (by kernel_rfl) (by kernel_rfl) ?_
          repeat (with_reducible refine wpQuiet_step (fun K hK => ?_)
                  go_simp
                  (refine hK _ ?_; clear hK K))
          refine wpQuiet_nil ?_
          rintro w' ⟨f, rfl⟩
          have HF2 : Hid (Fr Nobody w f.val) := HFW.out.trans f.fr
          have HB2 : Hid (∀ w', Fr Nobody f.val w' → w'.cell? ⟨b, 1, none⟩ = some (.slice xa cl xc)) := fun w' hf => b1 ⟨w', f.fr.trans hf⟩
          have e1 := b1 f
          generalize f.val = W2 at *
          clear b0 b1
          go_wp2_with fail
          refine (HLS.out _ HF2.out).mono ?_
          rintro e W3 ⟨rfl, hf3⟩
          have HF3 : Hid (Fr Nobody w W3) := HF2.out.trans hf3
          have e3 := HB2.out W3 hf3
          clear hf3 e1 HB2 HF2 HLS
          by_cases hl0 : ls = 0
          · subst hl0
            go_wp2
            go_loopw [49] (fun c2 wr2 => ∃ i2 : Nat, i2 ≤ cl ∧ c2 = .int .i64 i2 ∧ un (C.take i2) = false ∧ Fr Nobody w wr2) (fun c2 _ => cl - (intOf c2).toNat)
            case atStart => exact ⟨0, Nat.zero_le _, rfl, by simp [un], HF3.out⟩
            case round =>
              obtain ⟨i2, hi2, rfl, hu2, hf4⟩ := hrel
              have HU2 : Hid (un (C.take i2) = false) := hu2
              have HF4 : Hid (Fr Nobody w _) := hf4
              clear hu2 hf4
              by_cases hlt2 : i2 < cl
              · obtain ⟨q, hq⟩ : ∃ q, C[i2]? = some q := ⟨_, List.getElem?_eq_getElem (by rw [HCE.out]; exact hlt2)⟩
                obtain ⟨gg, oo, hga, _, y0, y1, y2, y3⟩ := ((HCL.out.2.1).quiet HF4.out).at i2 q hq
                subst hga
                have hq8 := HCL.out.2.2 q (List.mem_of_getElem? hq)
                have hlt2' : (i2 : Int) < (cl : Int) := by omega
                have HT : Hid (∀ W, Calls Tryd.prog 16 #[.int .u8 (q.k : Int)] W fun e w' => e = .returned (.bool (ktold q.k)) ∧ Fr Nobody W w') := fun W => rtold_any W q.k hq8
                have HU3 : Hid (ktold q.k = false → un C = true) := fun e => un_mem (List.mem_of_getElem? hq) e
                have HU4 : Hid (ktold q.k = true → un (C.take (i2 + 1)) = false) := fun e => by rw [take_snoc C i2 q hq, un_snoc, HU2.out, e]; rfl
                have HF5 : Hid (Fr Nobody w (_)) := HF4.out.alloc (.cells #[.int .u8 (q.k : Int), .int .i32 q.a, .int .i32 q.b, .int .i32 q.c] 48)
                clear hq
                generalize ktold q.k = r at *
                obtain ⟨qk, qa, qb, qc⟩ := q
                simp only at y0 y1 y2 y3 HT HF5
                go_wp2_with fail
                refine (HT.out _).mono ?_
                rintro e W6 ⟨rfl, hf6⟩
                have HF6 : Hid (Fr Nobody w W6) := HF5.out.trans hf6
                clear hf6 HT y0 y1 y2 y3
                cases r
                · have HN : Hid (fm 0 (evs L) = 4) := HBU.out HC.out (by trivial) (by rw [HUU.out]; exact HU3.out rfl)
                  clear HON HBL HBU HB4
                  go_wp2
                  go_ret
                  exact ⟨by rw [HN.out]; rfl, HF6.out⟩
                · have HU : Hid (un (C.take (i2 + 1)) = false) := HU4.out rfl
                  go_wp2
                  go_roundw
                  case rel => exact ⟨i2 + 1, by omega, by go_num, HU.out, HF6.out⟩
                  case measure => simp [intOf]; omega
              · have hlt2' : ¬ (i2 : Int) < (cl : Int) := by omega
                have HU : Hid (uu = false) := by have := HU2.out; rw [List.take_of_length_le (by rw [HCE.out]; omega)] at this; rw [HUU.out]; exact this
                have HN : Hid (fm (prvE (evs L) (0 + 1)) ((evs L).drop (0 + 1)) = fm 0 (evs L)) := HON.out HC.out (by trivial) HU.out
                clear HON HBL HBU HB4
                go_wp2
                go_roundw
                case rel => exact ⟨0 + 1, by omega, by go_num, HN.out, HF4.out⟩
                case measure => simp [intOf]; omega
          · have HN : Hid (fm 0 (evs L) = ls) := HBL.out HC.out hl0
            have hl1 : ((ls : Int) != 0) = true := by simpa using hl0
            clear HON HBL HBU HB4
            go_wp2
            go_ret
            exact ⟨by rw [HN.out]; rfl, HF3.out⟩
        · obtain ⟨y, hy⟩ : ∃ y, L[i]? = some y := ⟨_, List.getElem?_eq_getElem (by rw [HL.out.1]; omega)⟩
          have hpy : p = y.id := by rw [← hp]; simp [prvE, evs_at hy]
          have d0 : ∀ f : FrOf (wr.alloc (.cells #[.int .u32 (x.id : Int), .slice x.ao x.C.length x.cap] 43)), f.val.cell? ⟨g, o + i * 2, none⟩ = some (.int .u32 (p : Int)) := fun f => by
            obtain ⟨g', o', hg', h0, _, _⟩ := (HL.out.2.1.quiet (HFW.out.trans f.fr)).at hy
            rw [hao] at hg'
            cases hg'
            rw [hpy]; exact h0
          have hyid := (HL.out.2.2.1 y (List.mem_of_getElem? hy)).1
          rw [← hpy] at hyid
          have hwi : IntKind.i64.wrap (i : Int) = (i : Int) := by rw [IntKind.wrap_i64]; omega
          have hin : (i : Int) < (n : Int) := by omega
          subst hao
          by_cases hle : x.id ≤ p
          · have HC : Hid (x.id / 1024 < 1 ∨ x.id ≤ p) := .inr hle
            have hle' : (x.id : Int) ≤ (p : Int) := by omega
            clear hx hmx hkk hls huu hp hX hid1 hid HI hy hpy hle hge
            obtain ⟨xi, xa, xc, C⟩ := x
            simp only at c0 c1 HLS HB4 HBL HBU HON HC HFW HG HCL HUU hcb b0 b1 hle' d0
            generalize hclE : C.length = cl at *
            have HCE : Hid (C.length = cl) := hclE
            clear hclE
            have q0 := b0 ⟨_, Fr.refl _ _⟩
            simp only at q0
            go_wp2_with fail
            refine (HG.out _).mono ?_
            rintro e w5 ⟨rfl, hw5⟩
            subst hw5
            clear q0 c0 c1
            go_wp2
            generalize hWg : wr.alloc (.cells #[.int .u32 (xi : Int), .slice xa cl xc] 43) = W1 at *
            generalize wr.heap.size = b at *
            clear hWg
            refine wp_region_fr (by kernel_rfl) (by kernel_rfl) ?_
            repeat (with_reducible refine wpQuiet_step (fun K hK => ?_)
                    go_simp
                    (refine hK _ ?_; clear hK K))
            refine wpQuiet_nil ?_
            rintro w' ⟨f, rfl⟩
            have HF2 : Hid (Fr Nobody w f.val) := HFW.out.trans f.fr
            have HB2 : Hid (∀ w', Fr Nobody f.val w' → w'.cell? ⟨b, 1, none⟩ = some (.slice xa cl xc)) := fun w' hf => b1 ⟨w', f.fr.trans hf⟩
            have e1 := b1 f
            generalize f.val = W2 at *
            clear b0 b1
            have HN : Hid (fm 0 (evs L) = 4) := HB4.out HC.out
            clear HON HBL HBU HB4 HLS HTL
            go_wp2
            go_ret
            exact ⟨by rw [HN.out]; rfl, HF2.out⟩
          · have HC : Hid (¬ (x.id / 1024 < 1 ∨ x.id ≤ p)) := by show ¬ _; omega
            have hle' : ¬ (x.id : Int) ≤ (p : Int) := by omega
            clear hx hmx hkk hls huu hp hX hid1 hid HI hy hpy hle hge
            obtain ⟨xi, xa, xc, C⟩ := x
            simp only at c0 c1 HLS HB4 HBL HBU HON HC HFW HG HCL HUU hcb b0 b1 hle' d0
            generalize hclE : C.length = cl at *
            have HCE : Hid (C.length = cl) := hclE
            clear hclE
            have q0 := b0 ⟨_, Fr.refl _ _⟩
            simp only at q0
            go_wp2_with fail
            refine (HG.out _).mono ?_
            rintro e w5 ⟨rfl, hw5⟩
            subst hw5
            clear q0 c0 c1
            go_wp2
            generalize hWg : wr.alloc (.cells #[.int .u32 (xi : Int), .slice xa cl xc] 43) = W1 at *
            generalize wr.heap.size = b at *
            clear hWg
            refine wp_region_fr (by kernel_rfl) (by kernel_rfl) ?_
            repeat (with_reducible refine wpQuiet_step (fun K hK => ?_)
                    go_simp
                    (refine hK _ ?_; clear hK K))
            refine wpQuiet_nil ?_
            rintro w' ⟨f, rfl⟩
            have HF2 : Hid (Fr Nobody w f.val) := HFW.out.trans f.fr
            have HB2 : Hid (∀ w', Fr Nobody f.val w' → w'.cell? ⟨b, 1, none⟩ = some (.slice xa cl xc)) := fun w' hf => b1 ⟨w', f.fr.trans hf⟩
            have e1 := b1 f
            generalize f.val = W2 at *
            clear b0 b1
            go_wp2_with fail
            refine (HLS.out _ HF2.out).mono ?_
            rintro e W3 ⟨rfl, hf3⟩
            have HF3 : Hid (Fr Nobody w W3) := HF2.out.trans hf3
            have e3 := HB2.out W3 hf3
            clear hf3 e1 HB2 HF2 HLS
            by_cases hl0 : ls = 0
            · subst hl0
              go_wp2
              go_loopw [49] (fun c2 wr2 => ∃ i2 : Nat, i2 ≤ cl ∧ c2 = .int .i64 i2 ∧ un (C.take i2) = false ∧ Fr Nobody w wr2) (fun c2 _ => cl - (intOf c2).toNat)
              case atStart => exact ⟨0, Nat.zero_le _, rfl, by simp [un], HF3.out⟩
              case round =>
                obtain ⟨i2, hi2, rfl, hu2, hf4⟩ := hrel
                have HU2 : Hid (un (C.take i2) = false) := hu2
                have HF4 : Hid (Fr Nobody w _) := hf4
                clear hu2 hf4
                by_cases hlt2 : i2 < cl
                · obtain ⟨q, hq⟩ : ∃ q, C[i2]? = some q := ⟨_, List.getElem?_eq_getElem (by rw [HCE.out]; exact hlt2)⟩
                  obtain ⟨gg, oo, hga, _, y0, y1, y2, y3⟩ := ((HCL.out.2.1).quiet HF4.out).at i2 q hq
                  subst hga
                  have hq8 := HCL.out.2.2 q (List.mem_of_getElem? hq)
                  have hlt2' : (i2 : Int) < (cl : Int) := by omega
                  have HT : Hid (∀ W, Calls Tryd.prog 16 #[.int .u8 (q.k : Int)] W fun e w' => e = .returned (.bool (ktold q.k)) ∧ Fr Nobody W w') := fun W => rtold_any W q.k hq8
                  have HU3 : Hid (ktold q.k = false → un C = true) := fun e => un_mem (List.mem_of_getElem? hq) e
                  have HU4 : Hid (ktold q.k = true → un (C.take (i2 + 1)) = false) := fun e => by rw [take_snoc C i2 q hq, un_snoc, HU2.out, e]; rfl
                  have HF5 : Hid (Fr Nobody w (_)) := HF4.out.alloc (.cells #[.int .u8 (q.k : Int), .int .i32 q.a, .int .i32 q.b, .int .i32 q.c] 48)
                  clear hq
                  generalize ktold q.k = r at *
                  obtain ⟨qk, qa, qb, qc⟩ := q
                  simp only at y0 y1 y2 y3 HT HF5
                  go_wp2_with fail
                  refine (HT.out _).mono ?_
                  rintro e W6 ⟨rfl, hf6⟩
                  have HF6 : Hid (Fr Nobody w W6) := HF5.out.trans hf6
                  clear hf6 HT y0 y1 y2 y3
                  cases r
                  · have HN : Hid (fm 0 (evs L) = 4) := HBU.out HC.out (by trivial) (by rw [HUU.out]; exact HU3.out rfl)
                    clear HON HBL HBU HB4
                    go_wp2
                    go_ret
                    exact ⟨by rw [HN.out]; rfl, HF6.out⟩
                  · have HU : Hid (un (C.take (i2 + 1)) = false) := HU4.out rfl
                    go_wp2
                    go_roundw
                    case rel => exact ⟨i2 + 1, by omega, by go_num, HU.out, HF6.out⟩
                    case measure => simp [intOf]; omega
                · have hlt2' : ¬ (i2 : Int) < (cl : Int) := by omega
                  have HU : Hid (uu = false) := by have := HU2.out; rw [List.take_of_length_le (by rw [HCE.out]; omega)] at this; rw [HUU.out]; exact this
                  have HN : Hid (fm (prvE (evs L) ((i + 1) + 1)) ((evs L).drop ((i + 1) + 1)) = fm 0 (evs L)) := HON.out HC.out (by trivial) HU.out
                  clear HON HBL HBU HB4
                  go_wp2
                  go_roundw
                  case rel => exact ⟨(i + 1) + 1, by omega, by go_num, HN.out, HF4.out⟩
                  case measure => simp [intOf]; omega
            · have HN : Hid (fm 0 (evs L) = ls) := HBL.out HC.out hl0
              have hl1 : ((ls : Int) != 0) = true := by simpa using hl0
              clear HON HBL HBU HB4
              go_wp2
              go_ret
              exact ⟨by rw [HN.out]; rfl, HF3.out⟩
      · have HC : Hid (x.id / 1024 < 1 ∨ x.id ≤ p) := .inl (by omega)
        have hg1 : (ge : Int) < 1 := by omega
        subst hao
        clear hx hmx hkk hls huu hp hX hid1 hid HI hge
        obtain ⟨xi, xa, xc, C⟩ := x
        simp only at c0 c1 HLS HB4 HBL HBU HON HC HFW HG HCL HUU hcb b0 b1
        generalize hclE : C.length = cl at *
        have HCE : Hid (C.length = cl) := hclE
        clear hclE
        have q0 := b0 ⟨_, Fr.refl _ _⟩
        simp only at q0
        go_wp2_with fail
        refine (HG.out _).mono ?_
        rintro e w5 ⟨rfl, hw5⟩
        subst hw5
        clear q0 c0 c1
        go_wp2
        generalize hWg : wr.alloc (.cells #[.int .u32 (xi : Int), .slice xa cl xc] 43) = W1 at *
        generalize wr.heap.size = b at *
        clear hWg
        refine wp_region_fr (by kernel_rfl) (by kernel_rfl) ?_
        repeat (with_reducible refine wpQuiet_step (fun K hK => ?_)
                go_simp
                (refine hK _ ?_; clear hK K))
        refine wpQuiet_nil ?_
        rintro w' ⟨f, rfl⟩
        have HF2 : Hid (Fr Nobody w f.val) := HFW.out.trans f.fr
        have HB2 : Hid (∀ w', Fr Nobody f.val w' → w'.cell? ⟨b, 1, none⟩ = some (.slice xa cl xc)) := fun w' hf => b1 ⟨w', f.fr.trans hf⟩
        have e1 := b1 f
        generalize f.val = W2 at *
        clear b0 b1
        have HN : Hid (fm 0 (evs L) = 4) := HB4.out HC.out
        clear HON HBL HBU HB4 HLS HTL
        go_wp2
        go_ret
        exact ⟨by rw [HN.out]; rfl, HF2.out⟩
    · have hlt' : ¬ (j : Int) < (n : Int) := by omega
      have HN : Hid (fm 0 (evs L) = 0) := fm_end HI.out (by rw [evs_len, HL.out.1]; omega)
      go_wp2
      go_ret
      exact ⟨by rw [HN.out]; rfl, HF.out⟩
end Go.Proofs.YtkkehmapheopeaaDoor


/-
  The table that the program's text lays: what its reading gives.
-/
namespace Go.Proofs.YtkkehmapheopeaaDoor
open Go.ChangeShapes Go.WideShapes Go.ChangeAt Go.WideMaps Go.WideElems Go.RowKit
set_option linter.unusedVariables false
set_option maxRecDepth 100000

theorem gSteps : Tryd.prog.globalNamed "pinnace/frame.steps" = some 0 := by kernel_rfl
theorem tSteps : (Tryd.prog.globals[0]?).map (·.type) = some 102 := by kernel_rfl

theorem tbl_vals : (List.range 16).map tbl = [0, 498536548, 997073096, 651767980, 1994146192, 1802195444, 1303535960, 1342533948, 3988292384, 4027552580, 3604390888, 3412177804, 2607071920, 2262029012, 2685067896, 3183342108] := by decide +kernel
theorem steps_at (i : Nat) (hi : i < 16) : ([DataW.lit (Lit.int IntKind.u32 0), DataW.lit (Lit.int IntKind.u32 498536548), DataW.lit (Lit.int IntKind.u32 997073096), DataW.lit (Lit.int IntKind.u32 651767980), DataW.lit (Lit.int IntKind.u32 1994146192), DataW.lit (Lit.int IntKind.u32 1802195444), DataW.lit (Lit.int IntKind.u32 1303535960), DataW.lit (Lit.int IntKind.u32 1342533948), DataW.lit (Lit.int IntKind.u32 3988292384), DataW.lit (Lit.int IntKind.u32 4027552580), DataW.lit (Lit.int IntKind.u32 3604390888), DataW.lit (Lit.int IntKind.u32 3412177804), DataW.lit (Lit.int IntKind.u32 2607071920), DataW.lit (Lit.int IntKind.u32 2262029012), DataW.lit (Lit.int IntKind.u32 2685067896), DataW.lit (Lit.int IntKind.u32 3183342108)] : List (DataW Unit))[i]? = some (DataW.lit (Lit.int IntKind.u32 ((tbl i : Nat) : Int))) := by
  have e : (tbl i) = ((List.range 16).map tbl)[i]?.getD 0 := by simp [hi]
  rw [e, tbl_vals]
  clear e
  match i, hi with
  | 0, _ => rfl
  | 1, _ => rfl
  | 2, _ => rfl
  | 3, _ => rfl
  | 4, _ => rfl
  | 5, _ => rfl
  | 6, _ => rfl
  | 7, _ => rfl
  | 8, _ => rfl
  | 9, _ => rfl
  | 10, _ => rfl
  | 11, _ => rfl
  | 12, _ => rfl
  | 13, _ => rfl
  | 14, _ => rfl
  | 15, _ => rfl
  | n + 16, h => exact absurd h (by omega)
theorem of_laidf {W : World} (h : laidMetH Tryd.prog laid1 W) : Tabf W := by
  rw [MakeChecks.laidMetH_plain _ _ _ (by kernel_rfl)] at h
  obtain ⟨ps, ⟨g0, t0, cs0, f0, p0, q0, hg0, ht0, hv0, hd0, _, _⟩, _, _⟩ := h
  obtain rfl := Option.some.inj (gSteps.symm.trans hg0)
  obtain rfl := Option.some.inj (tSteps.symm.trans ht0)
  obtain ⟨xs, m1, rfl, hx1, hlen, hn3, hel⟩ := DataW.trod_array Tryd.underlying102 hd0
  have c3 : Tryd.prog.cellsOf 23 = 1 := by kernel_rfl
  have c24 : Tryd.prog.cellsOf 102 = 16 := by kernel_rfl
  simp only [Prod.mk.injEq, DataW.agg.injEq, Rows.laid_pinnace_frame_steps] at hx1
  intro i hi
  have h0 := hel i hi
  have hxi : xs[i]? = some xs[i] := List.getElem?_eq_getElem (by rw [hn3]; exact hi)
  obtain ⟨k, e1, e2, _⟩ := DataW.trod_int Tryd.underlying23 (h0.trans hxi)
  have hk : k = ((tbl i : Nat) : Int) := by
    have h1 := steps_at i hi
    rw [hx1.1, List.getElem?_map, hxi] at h1
    simp only [Option.map_some, Option.some.injEq] at h1
    rw [e2] at h1
    simpa using h1
  subst hk
  have := World.var?_cell hg0 hv0 i
  rw [this]
  rw [c3, Nat.mul_one] at e1
  have h2 : (List.take 1 (List.drop i cs0.toList))[0]? = some (Value.int IntKind.u32 ((tbl i : Nat) : Int)) := by rw [e1]; rfl
  rw [List.getElem?_take, if_pos (by decide), List.getElem?_drop, Nat.add_zero, Array.getElem?_toList] at h2
  exact h2

theorem u16_rng {n : Int} (h : (Lit.int .u16 n).wf = true) : ∃ k : Nat, n = k ∧ k < 65536 := by
  have : 0 ≤ n ∧ n ≤ 65535 := by simpa [Lit.wf, IntKind.min, IntKind.max, IntKind.signed, IntKind.bits] using h
  exact ⟨n.toNat, by omega, by omega⟩
theorem u32_rng {n : Int} (h : (Lit.int .u32 n).wf = true) : ∃ k : Nat, n = k ∧ k < 4294967296 := by
  have : 0 ≤ n ∧ n ≤ 4294967295 := by simpa [Lit.wf, IntKind.min, IntKind.max, IntKind.signed, IntKind.bits] using h
  exact ⟨n.toNat, by omega, by omega⟩
theorem u8_rng {n : Int} (h : (Lit.int .u8 n).wf = true) : ∃ k : Nat, n = k ∧ k < 256 := by
  have : 0 ≤ n ∧ n ≤ 255 := by simpa [Lit.wf, IntKind.min, IntKind.max, IntKind.signed, IntKind.bits] using h
  exact ⟨n.toNat, by omega, by omega⟩
end Go.Proofs.YtkkehmapheopeaaDoor

