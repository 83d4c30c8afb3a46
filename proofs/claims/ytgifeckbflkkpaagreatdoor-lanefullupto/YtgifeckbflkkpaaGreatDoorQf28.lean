/- The program's Diff and Empty. -/
import Derived.Test.YtgifeckbflkkpaaGreatDoorQf25
import Derived.Test.YtgifeckbflkkpaaGreatDoorQf27
import Derived.Laws.ResultCell
import Derived.Test.YtgifeckbflkkpaaGreatDoorQf14
import Derived.Test.YtgifeckbflkkpaaGreatDoorQf17
namespace Go.Proofs.YtgifeckbflkkpaaGreatDoor
open Go.RowKit
set_option linter.unusedVariables false
set_option maxHeartbeats 4000000
set_option maxRecDepth 100000
def dcode (W N : List En) : Nat := if fm 0 W ≠ 0 then fm 0 W else fm 0 N
theorem fm_lt (p : Nat) (L : List En) : fm p L < 4294967296 := by
 induction L generalizing p with
 | nil => simp [fm]
 | cons x t ih =>
  rw [fm]
  split
  ·unfold ent1
   split
   ·decide
   ·split
    ·exact lst_small x.2
    ·split <;> decide
  ·exact ih _
def dlv (W N : List En) : Dl := if dcode W N = 0 then btw W N else ⟨[],[],[]⟩
theorem Own.nilDl {w0 w : World} {l : List Thing} (h : Own w0 w l) : Own w0 w (nilD.things ++ l) :=
 (Own.two ((Own.ents (ao := none) (cap := 0) (L := []) (((h.nilRow _ _).nilRow _ _))).nilRow _ _)).two
theorem diff_any (w0 w : World) (ht : Tab w0) (l : List Thing) (h : Own w0 w l) (aw an : Option Addr) (nw nn cw cn : Nat) (W N : List EnE) (hQ : ∀ w',Own w0 w' l → EntsAt w' aw W ∧ EntsAt w' an N) (hW : W.length = nw) (hN : N.length = nn) (hcw : nw ≤ cw) (hcn : nn ≤ cn) (hmw : cw ≤ 9223372036854775807) (hmn : cn ≤ 9223372036854775807) (hIW : EIn W) (hIN : EIn N) (hzW : esz W ≤ 1000000) (hzN : esz N ≤ 1000000) :
  Calls Tryz.prog 131 #[.slice aw nw cw,.slice an nn cn] w fun e w' => ∃ d : DlE,e = .returned (.tuple #[.agg d.vs,.int .i64 ((dcode (evs W) (evs N) : Nat) : Int)]) ∧ d.v = dlv (evs W) (evs N) ∧ Own w0 w' (d.things ++ l) := by
 have hB := h.allocC #[.slice none 0 0,.slice none 0 0,.slice none 0 0] 106
 have HF1 : Hid (Calls _ _ _ _ _) := form_any _ (ht.quiet hB.fr) aw nw cw W ((hQ _ hB.tail).1) hW hIW hzW
 have HF2 : Hid (∀ w' b,Own w0 w' (Cells b #[.slice none 0 0,.slice none 0 0,.slice none 0 0] 106 :: l) → Calls Tryz.prog 60 #[.slice an nn cn] w' fun e w'' => e = .returned (.int .i64 ((fm 0 (evs N) : Nat) : Int)) ∧ Fr Nobody w' w'') := fun w' b hw => form_any w' (ht.quiet hw.fr) an nn cn N ((hQ w' hw.tail).2) hN hIN hzN
 have HBT : Hid (∀ w' b,Own w0 w' (Cells b #[.slice none 0 0,.slice none 0 0,.slice none 0 0] 106 :: l) → Calls Tryz.prog 160 #[.slice aw nw cw,.slice an nn cn] w' fun e w'' => ∃ d : DlE,e = .returned (.agg d.vs) ∧ d.v = btw (evs W) (evs N) ∧ Own w0 w'' (d.things ++ (Cells b #[.slice none 0 0,.slice none 0 0,.slice none 0 0] 106 :: l))) := fun w' b hw => between_any w0 w' _ hw aw an nw nn cw cn W N (fun w2 hw2 => hQ w2 hw2.tail) hW hN hcw hcn hmw hmn hIW hIN hzW hzN
 have HB : Hid (Own w0 _ _) := hB
 have hs1 := fm_lt 0 (evs W)
 have hs2 := fm_lt 0 (evs N)
 have HDC : Hid (∀ x y,x = fm 0 (evs W) → y = fm 0 (evs N) → dcode (evs W) (evs N) = if x ≠ 0 then x else y) := fun x y hx hy => by rw [hx,hy]; rfl
 obtain ⟨x,hx⟩ : ∃ x,x = fm 0 (evs W) := ⟨_,rfl⟩
 obtain ⟨y,hy⟩ : ∃ y,y = fm 0 (evs N) := ⟨_,rfl⟩
 have HDC2 : Hid (dcode (evs W) (evs N) = if x ≠ 0 then x else y) := HDC.out x y hx hy
 rw [← hx] at HF1 hs1
 rw [← hy] at HF2 hs2
 clear h hQ hW hN hcw hcn hmw hmn hIW hIN hzW hzN hB ht HDC hx hy
 go_enter Tryz.func131,Tryz.ntmps131
 go_wp2_with fail
 refine HF1.out.mono ?_
 rintro e w1 ⟨rfl,hf1⟩
 have h1 := HB.out.quiet hf1
 generalize w.heap.size = b4 at *
 clear HF1 HB hf1
 by_cases hx0 : x = 0
 ·subst hx0
  have HFN : Hid (Calls _ _ _ _ _) := HF2.out w1 b4 h1
  have H1 : Hid (Own w0 w1 _) := h1
  clear h1 HF2
  go_wp2_with fail
  refine HFN.out.mono ?_
  rintro e w2 ⟨rfl,hf2⟩
  have h2 := H1.out.quiet hf2
  clear HFN H1 hf2
  by_cases hy0 : y = 0
  ·subst hy0
   have HBW : Hid (Calls _ _ _ _ _) := HBT.out w2 b4 h2
   have HC : Hid (dcode (evs W) (evs N) = 0) := by show _ = _; rw [HDC2.out]; rfl
   clear h2 HBT HDC2
   go_wp2_with fail
   refine HBW.out.mono ?_
   rintro e w3 ⟨d,rfl,hd,h3⟩
   have h4 := Own.lift (l := d.things) h3
   have z0 := h4.cell 0
   have z1 := h4.cell 1
   have z2 := h4.cell 2
   have y0 := h4.froz 0
   have y1 := h4.froz 1
   have y2 := h4.froz 2
   simp at z0 z1 z2
   have HF : Hid (Own w0 _ _) := ((h4.setC 0 (.slice d.ga d.G.length d.gc)).setC 1 (.slice d.ma d.M.length d.mc)).setC 2 (.slice d.ha d.H.length d.hc)
   have HV : Hid (d.v = dlv (evs W) (evs N)) := by show _ = _; unfold dlv; rw [if_pos HC.out]; exact hd
   clear h3 h4 hd HBW
   unfold DlE.vs
   go_wp2
   (try simp only [Exit.inBlock,Exit.then])
   refine bodyPost_ret (v := .tuple #[.agg #[.slice d.ga d.G.length d.gc,.slice d.ma d.M.length d.mc,.slice d.ha d.H.length d.hc],.int .i64 0]) ?_ rfl ⟨d,by rw [HC.out]; rfl,HV.out,HF.out.tail⟩
   rw [results_cell_tmp rfl]
   have r0 := HF.out.cell 0
   have r1 := HF.out.cell 1
   have r2 := HF.out.cell 2
   simp at r0 r1 r2
   go_simp
  ·have hy1 : ((y : Int) != 0) = true := by simpa using hy0
   have HC : Hid (dcode (evs W) (evs N) = y) := by show _ = _; rw [HDC2.out]; rfl
   have HV : Hid (nilD.v = dlv (evs W) (evs N)) := by show _ = _; unfold dlv; rw [HC.out,if_neg hy0]; rfl
   have z0 := h2.cell 0
   have z1 := h2.cell 1
   have z2 := h2.cell 2
   have y0 := h2.froz 0
   have y1 := h2.froz 1
   have y2 := h2.froz 2
   simp at z0 z1 z2
   have HF : Hid (Own w0 _ _) := ((h2.setC 0 (.slice none 0 0)).setC 1 (.slice none 0 0)).setC 2 (.slice none 0 0)
   clear h2 HBT HDC2 hy0
   go_wp2
   (try simp only [Exit.inBlock,Exit.then])
   refine bodyPost_ret (v := .tuple #[.agg #[.slice none 0 0,.slice none 0 0,.slice none 0 0],.int .i64 (y : Int)]) ?_ rfl ⟨nilD,by rw [HC.out]; rfl,HV.out,HF.out.tail.nilDl⟩
   rw [results_cell_tmp rfl]
   have r0 := HF.out.cell 0
   have r1 := HF.out.cell 1
   have r2 := HF.out.cell 2
   simp at r0 r1 r2
   go_simp
 ·have hx1 : ((x : Int) != 0) = true := by simpa using hx0
  have HC : Hid (dcode (evs W) (evs N) = x) := by show _ = _; rw [HDC2.out,if_pos hx0]
  have HV : Hid (nilD.v = dlv (evs W) (evs N)) := by show _ = _; unfold dlv; rw [HC.out,if_neg hx0]; rfl
  have z0 := h1.cell 0
  have z1 := h1.cell 1
  have z2 := h1.cell 2
  have y0 := h1.froz 0
  have y1 := h1.froz 1
  have y2 := h1.froz 2
  simp at z0 z1 z2
  have HF : Hid (Own w0 _ _) := ((h1.setC 0 (.slice none 0 0)).setC 1 (.slice none 0 0)).setC 2 (.slice none 0 0)
  clear h1 HBT HDC2 HF2 hx0
  go_wp2
  (try simp only [Exit.inBlock,Exit.then])
  refine bodyPost_ret (v := .tuple #[.agg #[.slice none 0 0,.slice none 0 0,.slice none 0 0],.int .i64 (x : Int)]) ?_ rfl ⟨nilD,by rw [HC.out]; rfl,HV.out,HF.out.tail.nilDl⟩
  rw [results_cell_tmp rfl]
  have r0 := HF.out.cell 0
  have r1 := HF.out.cell 1
  have r2 := HF.out.cell 2
  simp at r0 r1 r2
  go_simp
def Dl.empty (d : Dl) : Bool := d.gone.isEmpty && d.come.isEmpty && d.chg.isEmpty
theorem content_no (w0 w : World) (l : List Thing) (p k : Nat) (wv : Value) (a : Option Addr) (c : Nat) (h : Own w0 w l) (h1 : k ≠ 1) (h2 : k ≠ 2) :
  Calls Tryz.prog 86 #[.pointer (some ⟨p,0,none⟩),.int .u8 (k : Int),wv,.slice a 0 c] w fun e w' => e = .returned (.int .i64 0) ∧ Own w0 w' l := by
 have e1 : ((k : Int) == 1) = false := by rw [beq_eq_false_iff_ne]; omega
 have e2 : ((k : Int) == 2) = false := by rw [beq_eq_false_iff_ne]; omega
 have H : Hid (Own w0 w l) := h
 clear h h1 h2
 go_enter Tryz.func86,Tryz.ntmps86
 go_wp2
 go_ret
 exact ⟨rfl,H.out⟩
theorem pack_len (L : List Bool) : (pack L).length = nb L.length := by simp [pack]
theorem pack_byte (L : List Bool) : ∀ x ∈ pack L,x < 256 := by
 intro x hx
 unfold pack at hx
 obtain ⟨i,_,rfl⟩ := List.mem_map.1 hx
 exact byteAt_lt L i
end Go.Proofs.YtgifeckbflkkpaaGreatDoor
