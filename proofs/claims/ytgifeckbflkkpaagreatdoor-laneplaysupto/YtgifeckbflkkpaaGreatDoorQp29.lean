/- The content of any packet, and the frame of any packet: or what Seal refuses. -/
import Derived.Test.YtgifeckbflkkpaaGreatDoorQp28
import Derived.Test.YtgifeckbflkkpaaGreatDoorQp23
namespace Go.Proofs.YtgifeckbflkkpaaGreatDoor
open Go.RowKit
set_option linter.unusedVariables false
set_option maxHeartbeats 4000000
set_option maxRecDepth 100000
theorem content_bad1 (w0 w : World) (ht : Tab w0) (l : List Thing) (p b : Nat) (L : List Bool) (wv : Value) (h : Own w0 w (penC p b :: WrT b L :: l)) (an : Option Addr) (nn cn : Nat) (N : List EnE) (hQ : ∀ w',Own w0 w' l → EntsAt w' an N) (hN : N.length = nn) (hIN : EIn N) (hzN : esz N ≤ 400) (hf : fm 0 (evs N) ≠ 0) :
  Calls Tryz.prog 86 #[.pointer (some ⟨p,0,none⟩),.int .u8 1,wv,.slice an nn cn] w fun e w' => e = .returned (.int .i64 ((fm 0 (evs N) : Nat) : Int)) ∧ Own w0 w' (penC p b :: WrT b L :: l) := by
 have HF : Hid (Calls Tryz.prog 60 #[.slice an nn cn] w fun e w' => e = .returned (.int .i64 ((fm 0 (evs N) : Nat) : Int)) ∧ Fr Nobody w w') := form_any w (ht.quiet h.fr) an nn cn N (hQ w h.tail.tail) hN hIN (by omega)
 have hlt := fm_lt 0 (evs N)
 have H : Hid (Own w0 w (penC p b :: WrT b L :: l)) := h
 generalize fm 0 (evs N) = x at *
 have z0 : ((x : Int) != 0) = true := by simpa using hf
 clear h hQ hN hIN hzN hf ht
 go_enter Tryz.func86,Tryz.ntmps86
 go_wp2_with fail
 refine HF.out.mono ?_
 rintro e w1 ⟨rfl,hf1⟩
 have H2 : Hid (Own w0 w1 _) := H.out.quiet hf1
 clear hf1 HF H
 go_wp2
 go_ret
 exact ⟨rfl,H2.out⟩
theorem content_bad2 (w0 w : World) (ht : Tab w0) (l : List Thing) (p b : Nat) (L : List Bool) (h : Own w0 w (penC p b :: WrT b L :: l)) (aw an : Option Addr) (nw nn cw cn : Nat) (W N : List EnE) (hQ : ∀ w',Own w0 w' l → EntsAt w' aw W ∧ EntsAt w' an N) (hW : W.length = nw) (hN : N.length = nn) (hcw : nw ≤ cw) (hcn : nn ≤ cn) (hmw : cw ≤ 9223372036854775807) (hmn : cn ≤ 9223372036854775807) (hIW : EIn W) (hIN : EIn N) (hzW : esz W ≤ 400) (hzN : esz N ≤ 400) (hd : dcode (evs W) (evs N) ≠ 0) :
  Calls Tryz.prog 86 #[.pointer (some ⟨p,0,none⟩),.int .u8 2,.slice aw nw cw,.slice an nn cn] w fun e w' => e = .returned (.int .i64 ((dcode (evs W) (evs N) : Nat) : Int)) ∧ Own w0 w' (penC p b :: WrT b L :: l) := by
 have HD : Hid (Calls _ _ _ _ _) := diff_any w0 w ht _ h aw an nw nn cw cn W N (fun w' hw => hQ w' hw.tail.tail) hW hN hcw hcn hmw hmn hIW hIN (by omega) (by omega)
 have hlt : dcode (evs W) (evs N) < 4294967296 := by
  unfold dcode
  split
  ·exact fm_lt _ _
  ·exact fm_lt _ _
 generalize dcode (evs W) (evs N) = x at *
 have z0 : ((x : Int) != 0) = true := by simpa using hd
 clear h hQ hW hN hcw hcn hmw hmn hIW hIN hzW hzN hd ht
 go_enter Tryz.func86,Tryz.ntmps86
 go_wp2_with fail
 refine HD.out.mono ?_
 rintro e w1 ⟨d,rfl,-,h1⟩
 unfold DlE.vs
 have H2 : Hid (Own w0 _ _) := ((Own.dropA h1).allocC #[.slice d.ga d.G.length d.gc,.slice d.ma d.M.length d.mc,.slice d.ha d.H.length d.hc] 106).tail
 clear h1 HD
 go_wp2
 go_ret
 exact ⟨rfl,H2.out⟩
theorem content_bad3 (w0 w : World) (l : List Thing) (p k : Nat) (wv : Value) (a : Option Addr) (n c : Nat) (h : Own w0 w l) (h1 : k ≠ 1) (h2 : k ≠ 2) (hn : 0 < n) :
  Calls Tryz.prog 86 #[.pointer (some ⟨p,0,none⟩),.int .u8 (k : Int),wv,.slice a n c] w fun e w' => e = .returned (.int .i64 4) ∧ Own w0 w' l := by
 have e1 : ((k : Int) == 1) = false := by rw [beq_eq_false_iff_ne]; omega
 have e2 : ((k : Int) == 2) = false := by rw [beq_eq_false_iff_ne]; omega
 have e3 : (0 : Int) < (n : Int) := by omega
 have H : Hid (Own w0 w l) := h
 clear h h1 h2 hn
 go_enter Tryz.func86,Tryz.ntmps86
 go_wp2
 go_ret
 exact ⟨rfl,H.out⟩
theorem content_any (w0 w : World) (ht : Tab w0) (l : List Thing) (p b k : Nat) (L : List Bool) (h : Own w0 w (penC p b :: WrT b L :: l)) (aw an : Option Addr) (nw nn cw cn : Nat) (W N : List EnE) (hQ : ∀ w',Own w0 w' l → EntsAt w' aw W ∧ EntsAt w' an N) (hW : W.length = nw) (hN : N.length = nn) (hcw : nw ≤ cw) (hcn : nn ≤ cn) (hmw : cw ≤ 9223372036854775807) (hmn : cn ≤ 9223372036854775807) (hIW : EIn W) (hIN : EIn N) (hzW : esz W ≤ 400) (hzN : esz N ≤ 400) (hl : L.length ≤ 1000) :
  Calls Tryz.prog 86 #[.pointer (some ⟨p,0,none⟩),.int .u8 (k : Int),.slice aw nw cw,.slice an nn cn] w fun e w' => e = .returned (.int .i64 ((ccode k (evs W) (evs N) : Nat) : Int)) ∧ ∃ M,Own w0 w' (penC p b :: WrT b M :: l) ∧ (ccode k (evs W) (evs N) = 0 → M = L ++ contB k (evs W) (evs N)) := by
 unfold ccode contB
 by_cases k1 : k = 1
 ·subst k1
  rw [if_pos rfl,if_pos rfl]
  by_cases hf : fm 0 (evs N) = 0
  ·refine (content_full w0 w ht l p b L _ h an nn cn N (fun w' hw => (hQ w' hw).2) hN hIN hzN hf hl).mono ?_
   rintro e w' ⟨rfl,h1⟩
   rw [hf,evs_len,hN]
   exact ⟨rfl,_,h1,fun _ => rfl⟩
  ·refine (content_bad1 w0 w ht l p b L _ h an nn cn N (fun w' hw => (hQ w' hw).2) hN hIN hzN hf).mono ?_
   rintro e w' ⟨rfl,h1⟩
   exact ⟨rfl,_,h1,fun h0 => absurd h0 hf⟩
 ·rw [if_neg k1,if_neg k1]
  by_cases k2 : k = 2
  ·subst k2
   rw [if_pos rfl,if_pos rfl]
   by_cases hd : dcode (evs W) (evs N) = 0
   ·obtain ⟨a1,a2⟩ := dcode_0 hd
    refine (content_step w0 w ht l p b L h aw an nw nn cw cn W N hQ hW hN hcw hcn hmw hmn hIW hIN hzW hzN a1 a2 hl).mono ?_
    rintro e w' ⟨rfl,h1⟩
    rw [hd]
    exact ⟨rfl,_,h1,fun _ => rfl⟩
   ·refine (content_bad2 w0 w ht l p b L h aw an nw nn cw cn W N hQ hW hN hcw hcn hmw hmn hIW hIN hzW hzN hd).mono ?_
    rintro e w' ⟨rfl,h1⟩
    exact ⟨rfl,_,h1,fun h0 => absurd h0 hd⟩
  ·rw [if_neg k2,if_neg k2,evs_len,hN]
   by_cases hn : nn = 0
   ·subst hn
    rw [if_pos rfl]
    refine (content_no w0 w _ p k _ an cn h k1 k2).mono ?_
    rintro e w' ⟨rfl,h1⟩
    exact ⟨rfl,_,h1,fun _ => by simp⟩
   ·rw [if_neg hn]
    refine (content_bad3 w0 w _ p k _ an nn cn h k1 k2 (by omega)).mono ?_
    rintro e w' ⟨rfl,h1⟩
    exact ⟨rfl,_,h1,fun h0 => by cases h0⟩
theorem ccode_lt (k : Nat) (W N : List En) : ccode k W N < 4294967296 := by
 unfold ccode dcode
 have h1 := fm_lt 0 W
 have h2 := fm_lt 0 N
 split
 ·exact h2
 ·split
  ·split
   ·exact h1
   ·exact h2
  ·split <;> decide
def secode (k c e t s : Nat) (W N : List En) : Nat := if hchk k c e t s ≠ 0 then hchk k c e t s else if ccode k W N ≠ 0 then ccode k W N else if nb (headB k c e t s ++ contB k W N).length ≤ 4096 then 0 else 3
theorem secode_h {k c e t s : Nat} {W N : List En} (h : hchk k c e t s ≠ 0) : hchk k c e t s = secode k c e t s W N := by unfold secode; rw [if_pos h]
theorem secode_c {k c e t s : Nat} {W N : List En} (h : hchk k c e t s = 0) (hc : ccode k W N ≠ 0) : ccode k W N = secode k c e t s W N := by unfold secode; rw [if_neg (by omega),if_pos hc]
theorem secode_l {k c e t s : Nat} {W N : List En} (h : hchk k c e t s = 0) (hc : ccode k W N = 0) {L : List Bool} (hL : L = headB k c e t s ++ contB k W N) (hl : ¬ nb L.length ≤ 4096) : 3 = secode k c e t s W N := by unfold secode; rw [if_neg (by omega),if_neg (by omega),← hL,if_neg hl]
theorem secode_0 {k c e t s : Nat} {W N : List En} (h : hchk k c e t s = 0) (hc : ccode k W N = 0) (hl : nb (headB k c e t s ++ contB k W N).length ≤ 4096) : 0 = secode k c e t s W N := by unfold secode; rw [if_neg (by omega),if_neg (by omega),if_pos hl]
def SealR (k c e t s : Nat) (W N : List En) (code : Nat) (P : List Nat) : Prop := code < 4294967296 ∧ (∀ x ∈ P,x < 256) ∧ (code = 0 → Right k c e t s ∧ ccode k W N = 0 ∧ P = frm (pack (headB k c e t s ++ contB k W N)) ∧ P.length ≤ 4100) ∧ code = secode k c e t s W N ∧ (code ≠ 0 → P = [])
theorem sealR_no {k c e t s : Nat} {W N : List En} {code : Nat} (h : code < 4294967296) (h0 : code ≠ 0) (hs : code = secode k c e t s W N) : SealR k c e t s W N code [] := ⟨h,(fun x hx => by cases hx),fun h1 => absurd h1 h0,hs,fun _ => rfl⟩
theorem sealR_yes {k c e t s : Nat} {W N : List En} {P : List Nat} (h1 : ∀ x ∈ P,x < 256) (hc : hchk k c e t s = 0) (hR : Right k c e t s) (h3 : ccode k W N = 0) (h4 : P = frm (pack (headB k c e t s ++ contB k W N))) (h5 : P.length ≤ 4100) : SealR k c e t s W N 0 P :=
 ⟨by decide,h1,fun _ => ⟨hR,h3,h4,h5⟩,secode_0 hc h3 (by rw [h4,length_frm,pack_len] at h5; omega),fun h => absurd rfl h⟩
theorem hchk_lt (k c e t s : Nat) : hchk k c e t s < 4294967296 := by
 unfold hchk
 split
 ·decide
 ·split <;> decide
theorem pseal_any (w0 w : World) (htb : Tab w0) (htf : Tabf w0) (l : List Thing) (h : Own w0 w l) (k c e t s : Nat) (hI : HIn k c e t s) (aw an : Option Addr) (nw nn cw cn : Nat) (W N : List EnE) (hQ : ∀ w',Own w0 w' l → EntsAt w' aw W ∧ EntsAt w' an N) (hW : W.length = nw) (hN : N.length = nn) (hcw : nw ≤ cw) (hcn : nn ≤ cn) (hmw : cw ≤ 9223372036854775807) (hmn : cn ≤ 9223372036854775807) (hIW : EIn W) (hIN : EIn N) (hzW : esz W ≤ 400) (hzN : esz N ≤ 400) :
  Calls Tryz.prog 34 #[.agg (hvs k c e t s),.slice aw nw cw,.slice an nn cn] w fun x w' => ∃ v code P,x = .returned (.tuple #[v,.int .i64 ((code : Nat) : Int)]) ∧ SealR k c e t s (evs W) (evs N) code P ∧ Own w0 w' (Row 5 1 v P.length (vrow P) :: l) := by
 have hB := h.allocC (hvs k c e t s) 29
 have HCH : Hid (Calls _ _ _ _ _) := hcheck_any (w.alloc (.cells (hvs k c e t s) 29)) k c e t s hI
 have HB : Hid (Own w0 _ _) := hB
 have hcl := hchk_lt k c e t s
 have HRT : Hid (hchk k c e t s = 0 → Right k c e t s) := right_of hI
 have HTF : Hid (Tabf w0) := htf
 have zz : ∀ X : List EnE,(evs X).length + cszV (evs X) = esz X := fun X => by rw [evs_len,cszV_evs]; rfl
 have HCL : Hid (ccode k (evs W) (evs N) = 0 → (contB k (evs W) (evs N)).length ≤ 400000) := fun hc => contB_le (fun x hx => by
   obtain ⟨y,hy,rfl⟩ := List.mem_map.1 hx
   exact (hIW y hy).1) (fun x hx => by
   obtain ⟨y,hy,rfl⟩ := List.mem_map.1 hx
   exact (hIN y hy).1) (by rw [zz]; exact hzW) (by rw [zz]; exact hzN) hc
 have HCO : Hid (∀ (w' : World) (p b : Nat) (X : Thing),Own w0 w' (penC p b :: WrT b (headB k c e t s) :: X :: l) → Calls Tryz.prog 86 #[.pointer (some ⟨p,0,none⟩),.int .u8 (k : Int),.slice aw nw cw,.slice an nn cn] w' fun e' w' => e' = .returned (.int .i64 ((ccode k (evs W) (evs N) : Nat) : Int)) ∧ ∃ M,Own w0 w' (penC p b :: WrT b M :: X :: l) ∧ (ccode k (evs W) (evs N) = 0 → M = headB k c e t s ++ contB k (evs W) (evs N))) := fun w' p b X hw => content_any w0 w' htb _ p b k _ hw aw an nw nn cw cn W N (fun w2 hw2 => hQ w2 hw2.tail) hW hN hcw hcn hmw hmn hIW hIN hzW hzN (by have := headB_le k c e t s hI.e hI.t; omega)
 have hkl := ccode_lt k (evs W) (evs N)
 have HE : Hid (∀ M,M = headB k c e t s ++ contB k (evs W) (evs N) → ccode k (evs W) (evs N) = 0 → M.length ≤ 401000) := fun M hM hc => by
  have h1 := HCL.out hc
  have h2 := headB_le k c e t s hI.e hI.t
  rw [hM,List.length_append]
  omega
 have HL0 : Hid (∀ M,M = headB k c e t s ++ contB k (evs W) (evs N) → 0 < M.length) := fun M hM => by
  rw [hM]; unfold headB
  simp only [List.length_append,length_bitsN,wid15]
  omega
 have q0 := hB.cell 0
 have q1 := hB.cell 1
 have q2 := hB.cell 2
 have q3 := hB.cell 3
 have q4 := hB.cell 4
 simp [hvs] at q0 q1 q2 q3 q4
 have HSR : Hid ((hchk k c e t s ≠ 0 → SealR k c e t s (evs W) (evs N) (hchk k c e t s) []) ∧ (hchk k c e t s = 0 → ccode k (evs W) (evs N) ≠ 0 → SealR k c e t s (evs W) (evs N) (ccode k (evs W) (evs N)) []) ∧ (hchk k c e t s = 0 → ccode k (evs W) (evs N) = 0 → ∀ L : List Bool,L = headB k c e t s ++ contB k (evs W) (evs N) → ¬ nb L.length ≤ 4096 → SealR k c e t s (evs W) (evs N) 3 [])) := ⟨fun h1 => sealR_no hcl h1 (secode_h h1),fun h1 h2 => sealR_no hkl h2 (secode_c h1 h2),fun h1 h2 L hL hl => sealR_no (by decide) (by decide) (secode_l h1 h2 hL hl)⟩
 have HSY : Hid (∀ P,(∀ x ∈ P,x < 256) → hchk k c e t s = 0 → ccode k (evs W) (evs N) = 0 → P = frm (pack (headB k c e t s ++ contB k (evs W) (evs N))) → P.length ≤ 4100 → SealR k c e t s (evs W) (evs N) 0 P) := fun P h1 h2 h3 h4 h5 => sealR_yes h1 h2 (HRT.out h2) h3 h4 h5
 generalize hhc : hchk k c e t s = hc at *
 generalize hcc : ccode k (evs W) (evs N) = cc at *
 clear h hB hQ hW hN hcw hcn hmw hmn hIW hIN hzW hzN zz htb htf HCL hcc hhc
 by_cases h0 : hc = 0
 ·subst h0
  have HR : Hid (Right k c e t s) := HRT.out rfl
  unfold hvs at HCH ⊢
  clear HRT hI
  go_enter Tryz.func34,Tryz.ntmps34
  go_wp2_with fail
  refine HCH.out.mono ?_
  rintro x w1 ⟨rfl,hf1⟩
  have h1 := HB.out.quiet hf1
  have HNW : Hid (Calls _ _ _ _ _) := new_own w0 w1 _ h1
  clear hf1 h1 HCH HB q0 q1 q2 q3 q4
  generalize w.heap.size = bh at *
  go_wp2_with fail
  refine HNW.out.mono ?_
  rintro x w2 ⟨b,rfl,h2⟩
  have h3 := h2.allocC #[.pointer (some ⟨b,0,none⟩),.int .i64 0] 165
  have q0 := h3.three.cell 0
  have q1 := h3.three.cell 1
  have q2 := h3.three.cell 2
  have q3 := h3.three.cell 3
  have q4 := h3.three.cell 4
  simp [hvs] at q0 q1 q2 q3 q4
  have HHD : Hid (Calls _ _ _ _ _) := phead w0 _ _ w2.heap.size b h3 k c e t s HR.out
  unfold hvs at HHD
  clear h2 h3 HNW
  go_wp2_with fail
  refine HHD.out.mono ?_
  rintro x w3 ⟨rfl,h4⟩
  generalize w2.heap.size = p at *
  have r0 := h4.three.cell 0
  simp at r0
  have HCN : Hid (Calls _ _ _ _ _) := HCO.out w3 p b _ h4
  clear h4 HHD q0 q1 q2 q3 q4
  by_cases hc0 : cc = 0
  ·subst hc0
   go_wp2_with fail
   refine HCN.out.mono ?_
   rintro x w4 ⟨rfl,L,h5,hLE⟩
   have z0 := Own.cell (show Own w0 w4 (Cells p #[.pointer (some ⟨b,0,none⟩),.int .i64 0] 165 :: _) from h5) 0
   have z1 := Own.cell (show Own w0 w4 (Cells p #[.pointer (some ⟨b,0,none⟩),.int .i64 0] 165 :: _) from h5) 1
   simp at z0 z1
   have hle := hLE (by first | rfl | trivial)
   have hll := HE.out L hle (by first | rfl | trivial)
   have hl0 := HL0.out L hle
   have HLE : Hid (L = headB k c e t s ++ contB k (evs W) (evs N)) := hle
   have HBY : Hid (Calls _ _ _ _ _) := bytesW w0 w4 _ b L h5.two (by omega)
   clear h5 HCN r0 hLE hle HE HL0 HCO
   go_wp2_with fail
   refine HBY.out.mono ?_
   rintro x w5 ⟨v,rfl,h6⟩
   have hnb : 0 < nb L.length := by unfold nb; omega
   have hnb2 : nb L.length ≤ 60000 := by unfold nb; omega
   obtain ⟨g,cap,hv,_⟩ := row_shape h6.row hnb
   subst hv
   by_cases hlg : nb L.length ≤ 4096
   ·have hin := In.of_row h6.row (by rw [pack_len]) (pack_byte L)
    have HSE : Hid (Calls _ _ _ _ _) := seal_ok w5 (some ⟨g,0,none⟩) cap (nb L.length) (pack L) hin hlg (HTF.out.quiet h6.fr)
    have H6 : Hid (Own w0 w5 _) := h6
    clear h6 HBY hin z0 z1
    go_wp2_with fail
    refine HSE.out.mono ?_
    rintro x w6 ⟨g6,cp6,rfl,hr6,hf6⟩
    have H7 : Hid (Own w0 w6 (Row 5 1 (.slice (some ⟨g6,0,none⟩) (nb L.length + 4) cp6) (nb L.length + 4) (vrow (frm (pack L))) :: l)) := by
     have h7 := (H6.out.tail.tail.tail.tail)
     exact h7.new (Row 5 1 (.slice (some ⟨g6,0,none⟩) (nb L.length + 4) cp6) (nb L.length + 4) (vrow (frm (pack L)))) (fun j => (Value.slice (some ⟨g6,0,none⟩) (nb L.length + 4) cp6).ownBlock = some j) ⟨row_weak hr6,fun _ => Iff.rfl⟩ hf6 (fun j hj => (hr6.lt j hj).1)
    clear hr6 hf6 HSE H6
    go_wp2
    go_ret2
    refine ⟨_,0,frm (pack L),rfl,HSY.out _ (frm_byte _ (pack_byte L)) (by first | rfl | trivial) (by first | rfl | trivial) (by rw [HLE.out]) (by rw [length_frm,pack_len]; omega),?_⟩
    have e1 : (frm (pack L)).length = nb L.length + 4 := by rw [length_frm,pack_len]
    rw [e1]
    exact H7.out
   ·have HSE : Hid (Calls _ _ _ _ _) := seal_long w5 (some ⟨g,0,none⟩) cap (nb L.length) (by omega) (by unfold maxLen; omega)
    have H6 : Hid (Own w0 w5 l) := h6.tail.tail.tail.tail
    clear h6 HBY z0 z1
    go_wp2_with fail
    refine HSE.out.mono ?_
    rintro x w6 ⟨rfl,rfl⟩
    clear HSE
    go_wp2
    go_ret2
    exact ⟨_,3,[],rfl,HSR.out.2.2 (by first | rfl | trivial) (by first | rfl | trivial) L HLE.out hlg,H6.out.nilRow _ _⟩
  ·have z0 : ((cc : Int) != 0) = true := by simpa using hc0
   have HC0 : Hid (cc ≠ 0) := hc0
   clear hc0
   go_wp2_with fail
   refine HCN.out.mono ?_
   rintro x w4 ⟨rfl,L,h5,-⟩
   have H5 : Hid (Own w0 w4 l) := h5.tail.tail.tail
   clear h5 HCN r0
   go_wp2
   go_ret2
   exact ⟨_,cc,[],rfl,HSR.out.2.1 (by first | rfl | trivial) HC0.out,H5.out.nilRow _ _⟩
 ·have z0 : ((hc : Int) != 0) = true := by simpa using h0
  have HC0 : Hid (hc ≠ 0) := h0
  unfold hvs at HCH ⊢
  clear h0 HRT hI
  go_enter Tryz.func34,Tryz.ntmps34
  go_wp2_with fail
  refine HCH.out.mono ?_
  rintro x w1 ⟨rfl,hf1⟩
  have H5 : Hid (Own w0 w1 l) := (HB.out.quiet hf1).tail
  clear hf1 HCH HB q0 q1 q2 q3 q4
  go_wp2
  go_ret2
  exact ⟨_,hc,[],rfl,HSR.out.1 HC0.out,H5.out.nilRow _ _⟩
theorem evs_get {L M : List EnE} (h : evs L = evs M) {j : Nat} {x : EnE} (hx : L[j]? = some x) : ∃ y,M[j]? = some y ∧ y.id = x.id ∧ y.C = x.C := by
 have h1 : (evs M)[j]? = some (x.id,x.C) := by rw [← h]; exact evs_at hx
 unfold evs at h1
 rw [List.getElem?_map] at h1
 obtain ⟨y,hy,e⟩ := Option.map_eq_some_iff.1 h1
 simp only [Prod.mk.injEq] at e
 exact ⟨y,hy,e.1,e.2⟩
theorem evs_mem {L M : List EnE} (h : evs L = evs M) {x : EnE} (hx : x ∈ L) : ∃ y ∈ M,y.id = x.id ∧ y.C = x.C := by
 obtain ⟨j,hj⟩ := List.getElem?_of_mem hx
 obtain ⟨y,hy,e⟩ := evs_get h hj
 exact ⟨y,List.mem_of_getElem? hy,e⟩
theorem EIn.of_evs {L M : List EnE} (h : evs L = evs M) (hM : EIn M) : EIn L := fun x hx => by
 obtain ⟨y,hy,e1,e2⟩ := evs_mem h hx
 rw [← e1,← e2]
 exact hM y hy
theorem csz_evs {L M : List EnE} (h : evs L = evs M) : csz L = csz M := by
 induction L generalizing M with
 | nil => cases M with
  | nil => rfl
  | cons y s => simp [evs] at h
 | cons x t ih =>
  cases M with
  | nil => simp [evs] at h
  | cons y s =>
   simp only [evs,List.map_cons,List.cons.injEq,Prod.mk.injEq] at h
   simp only [csz]
   rw [ih h.2,h.1.2]
theorem esz_evs {L M : List EnE} (h : evs L = evs M) : esz L = esz M := by
 have h1 := congrArg List.length h
 rw [evs_len,evs_len] at h1
 unfold esz
 rw [h1,csz_evs h]
theorem Own.entsCap {w0 w : World} {l : List Thing} {ao : Option Addr} {cap : Nat} {L : List EnE} (h : Own w0 w (EntsT ao cap L :: l)) : L.length ≤ cap ∧ cap ≤ 9223372036854775807 := by
 obtain ⟨_,h1⟩ := Own.ex_iff.1 h
 rcases h1.row.2 with ⟨hv,h0⟩ | ⟨g,cp,cur,hv,_,_,h3,h4,_⟩
 ·simp only [Value.slice.injEq] at hv
  omega
 ·simp only [Value.slice.injEq] at hv
  unfold maxLen at h4
  omega
end Go.Proofs.YtgifeckbflkkpaaGreatDoor
