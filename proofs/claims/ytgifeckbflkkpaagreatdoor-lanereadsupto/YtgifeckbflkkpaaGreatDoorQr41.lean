/- The content of any packet, and the frame of any packet: or what Seal refuses. -/
import Derived.Test.YtgifeckbflkkpaaGreatDoorQr40
import Derived.Test.YtgifeckbflkkpaaGreatDoorQr03
import Derived.Test.YtgifeckbflkkpaaGreatDoorQr15
import Derived.Test.YtgifeckbflkkpaaGreatDoorQr14
import Derived.OpenShut
import Derived.Test.YtgifeckbflkkpaaGreatDoorQr31
import Derived.Test.YtgifeckbflkkpaaGreatDoorQr39
import Derived.Test.YtgifeckbflkkpaaGreatDoorQr06
namespace Go.Proofs.YtgifeckbflkkpaaGreatDoor
open Go.RowKit
set_option linter.unusedVariables false
set_option maxHeartbeats 4000000
set_option maxRecDepth 100000
theorem content_bad1 (w0 w : World) (ht : Tab w0) (l : List Thing) (p b : Nat) (L : List Bool) (wv : Value) (h : Own w0 w (penC p b :: WrT b L :: l)) (an : Option Addr) (nn cn : Nat) (N : List EnE) (hQ : ∀ w',Own w0 w' l → EntsAt w' an N) (hN : N.length = nn) (hIN : EIn N) (hzN : esz N ≤ 400) (hf : fm 0 (evs N) ≠ 0) :
  Calls Tryz.prog 86 #[.pointer (some ⟨p,0,none⟩),.int .u8 1,wv,.slice an nn cn] w fun e w' => e = .returned (.int .i64 ((fm 0 (evs N) : Nat) : Int)) ∧ Own w0 w' (penC p b :: WrT b L :: l) := by
 have HF : Hid (Calls Tryz.prog 60 #[.slice an nn cn] w fun e w' => e = .returned (.int .i64 ((fm 0 (evs N) : Nat) : Int)) ∧ Fr Nobody w w') := form_any w (ht.quiet h.fr) an nn cn N (hQ w h.tail.tail) hN hIN (by omega)
 have hlt := fm_lt 0 (evs N)
 have H : Hid (Own w0 w (penC p b :: WrT b L :: l)) := h
 generalize fm 0 (evs N) = x at *
 have z0 : ((x : Int) != 0) = true := by simpa using hf
 clear h hQ hN hIN hzN hf ht
 go_enter Tryz.func86,Tryz.ntmps86
 go_wp2_with fail
 refine HF.out.mono ?_
 rintro e w1 ⟨rfl,hf1⟩
 have H2 : Hid (Own w0 w1 _) := H.out.quiet hf1
 clear hf1 HF H
 go_wp2
 go_ret
 exact ⟨rfl,H2.out⟩
theorem content_bad2 (w0 w : World) (ht : Tab w0) (l : List Thing) (p b : Nat) (L : List Bool) (h : Own w0 w (penC p b :: WrT b L :: l)) (aw an : Option Addr) (nw nn cw cn : Nat) (W N : List EnE) (hQ : ∀ w',Own w0 w' l → EntsAt w' aw W ∧ EntsAt w' an N) (hW : W.length = nw) (hN : N.length = nn) (hcw : nw ≤ cw) (hcn : nn ≤ cn) (hmw : cw ≤ 9223372036854775807) (hmn : cn ≤ 9223372036854775807) (hIW : EIn W) (hIN : EIn N) (hzW : esz W ≤ 400) (hzN : esz N ≤ 400) (hd : dcode (evs W) (evs N) ≠ 0) :
  Calls Tryz.prog 86 #[.pointer (some ⟨p,0,none⟩),.int .u8 2,.slice aw nw cw,.slice an nn cn] w fun e w' => e = .returned (.int .i64 ((dcode (evs W) (evs N) : Nat) : Int)) ∧ Own w0 w' (penC p b :: WrT b L :: l) := by
 have HD : Hid (Calls _ _ _ _ _) := diff_any w0 w ht _ h aw an nw nn cw cn W N (fun w' hw => hQ w' hw.tail.tail) hW hN hcw hcn hmw hmn hIW hIN (by omega) (by omega)
 have hlt : dcode (evs W) (evs N) < 4294967296 := by
  unfold dcode
  split
  ·exact fm_lt _ _
  ·exact fm_lt _ _
 generalize dcode (evs W) (evs N) = x at *
 have z0 : ((x : Int) != 0) = true := by simpa using hd
 clear h hQ hW hN hcw hcn hmw hmn hIW hIN hzW hzN hd ht
 go_enter Tryz.func86,Tryz.ntmps86
 go_wp2_with fail
 refine HD.out.mono ?_
 rintro e w1 ⟨d,rfl,-,h1⟩
 unfold DlE.vs
 have H2 : Hid (Own w0 _ _) := ((Own.dropA h1).allocC #[.slice d.ga d.G.length d.gc,.slice d.ma d.M.length d.mc,.slice d.ha d.H.length d.hc] 106).tail
 clear h1 HD
 go_wp2
 go_ret
 exact ⟨rfl,H2.out⟩
theorem content_bad3 (w0 w : World) (l : List Thing) (p k : Nat) (wv : Value) (a : Option Addr) (n c : Nat) (h : Own w0 w l) (h1 : k ≠ 1) (h2 : k ≠ 2) (hn : 0 < n) :
  Calls Tryz.prog 86 #[.pointer (some ⟨p,0,none⟩),.int .u8 (k : Int),wv,.slice a n c] w fun e w' => e = .returned (.int .i64 4) ∧ Own w0 w' l := by
 have e1 : ((k : Int) == 1) = false := by rw [beq_eq_false_iff_ne]; omega
 have e2 : ((k : Int) == 2) = false := by rw [beq_eq_false_iff_ne]; omega
 have e3 : (0 : Int) < (n : Int) := by omega
 have H : Hid (Own w0 w l) := h
 clear h h1 h2 hn
 go_enter Tryz.func86,Tryz.ntmps86
 go_wp2
 go_ret
 exact ⟨rfl,H.out⟩
theorem content_any (w0 w : World) (ht : Tab w0) (l : List Thing) (p b k : Nat) (L : List Bool) (h : Own w0 w (penC p b :: WrT b L :: l)) (aw an : Option Addr) (nw nn cw cn : Nat) (W N : List EnE) (hQ : ∀ w',Own w0 w' l → EntsAt w' aw W ∧ EntsAt w' an N) (hW : W.length = nw) (hN : N.length = nn) (hcw : nw ≤ cw) (hcn : nn ≤ cn) (hmw : cw ≤ 9223372036854775807) (hmn : cn ≤ 9223372036854775807) (hIW : EIn W) (hIN : EIn N) (hzW : esz W ≤ 400) (hzN : esz N ≤ 400) (hl : L.length ≤ 1000) :
  Calls Tryz.prog 86 #[.pointer (some ⟨p,0,none⟩),.int .u8 (k : Int),.slice aw nw cw,.slice an nn cn] w fun e w' => e = .returned (.int .i64 ((ccode k (evs W) (evs N) : Nat) : Int)) ∧ ∃ M,Own w0 w' (penC p b :: WrT b M :: l) ∧ (ccode k (evs W) (evs N) = 0 → M = L ++ contB k (evs W) (evs N)) := by
 unfold ccode contB
 by_cases k1 : k = 1
 ·subst k1
  rw [if_pos rfl,if_pos rfl]
  by_cases hf : fm 0 (evs N) = 0
  ·refine (content_full w0 w ht l p b L _ h an nn cn N (fun w' hw => (hQ w' hw).2) hN hIN hzN hf hl).mono ?_
   rintro e w' ⟨rfl,h1⟩
   rw [hf,evs_len,hN]
   exact ⟨rfl,_,h1,fun _ => rfl⟩
  ·refine (content_bad1 w0 w ht l p b L _ h an nn cn N (fun w' hw => (hQ w' hw).2) hN hIN hzN hf).mono ?_
   rintro e w' ⟨rfl,h1⟩
   exact ⟨rfl,_,h1,fun h0 => absurd h0 hf⟩
 ·rw [if_neg k1,if_neg k1]
  by_cases k2 : k = 2
  ·subst k2
   rw [if_pos rfl,if_pos rfl]
   by_cases hd : dcode (evs W) (evs N) = 0
   ·obtain ⟨a1,a2⟩ := dcode_0 hd
    refine (content_step w0 w ht l p b L h aw an nw nn cw cn W N hQ hW hN hcw hcn hmw hmn hIW hIN hzW hzN a1 a2 hl).mono ?_
    rintro e w' ⟨rfl,h1⟩
    rw [hd]
    exact ⟨rfl,_,h1,fun _ => rfl⟩
   ·refine (content_bad2 w0 w ht l p b L h aw an nw nn cw cn W N hQ hW hN hcw hcn hmw hmn hIW hIN hzW hzN hd).mono ?_
    rintro e w' ⟨rfl,h1⟩
    exact ⟨rfl,_,h1,fun h0 => absurd h0 hd⟩
  ·rw [if_neg k2,if_neg k2,evs_len,hN]
   by_cases hn : nn = 0
   ·subst hn
    rw [if_pos rfl]
    refine (content_no w0 w _ p k _ an cn h k1 k2).mono ?_
    rintro e w' ⟨rfl,h1⟩
    exact ⟨rfl,_,h1,fun _ => by simp⟩
   ·rw [if_neg hn]
    refine (content_bad3 w0 w _ p k _ an nn cn h k1 k2 (by omega)).mono ?_
    rintro e w' ⟨rfl,h1⟩
    exact ⟨rfl,_,h1,fun h0 => by cases h0⟩
theorem ccode_lt (k : Nat) (W N : List En) : ccode k W N < 4294967296 := by
 unfold ccode dcode
 have h1 := fm_lt 0 W
 have h2 := fm_lt 0 N
 split
 ·exact h2
 ·split
  ·split
   ·exact h1
   ·exact h2
  ·split <;> decide
def secode (k c e t s : Nat) (W N : List En) : Nat := if hchk k c e t s ≠ 0 then hchk k c e t s else if ccode k W N ≠ 0 then ccode k W N else if nb (headB k c e t s ++ contB k W N).length ≤ 4096 then 0 else 3
theorem secode_h {k c e t s : Nat} {W N : List En} (h : hchk k c e t s ≠ 0) : hchk k c e t s = secode k c e t s W N := by unfold secode; rw [if_pos h]
theorem secode_c {k c e t s : Nat} {W N : List En} (h : hchk k c e t s = 0) (hc : ccode k W N ≠ 0) : ccode k W N = secode k c e t s W N := by unfold secode; rw [if_neg (by omega),if_pos hc]
theorem secode_l {k c e t s : Nat} {W N : List En} (h : hchk k c e t s = 0) (hc : ccode k W N = 0) {L : List Bool} (hL : L = headB k c e t s ++ contB k W N) (hl : ¬ nb L.length ≤ 4096) : 3 = secode k c e t s W N := by unfold secode; rw [if_neg (by omega),if_neg (by omega),← hL,if_neg hl]
theorem secode_0 {k c e t s : Nat} {W N : List En} (h : hchk k c e t s = 0) (hc : ccode k W N = 0) (hl : nb (headB k c e t s ++ contB k W N).length ≤ 4096) : 0 = secode k c e t s W N := by unfold secode; rw [if_neg (by omega),if_neg (by omega),if_pos hl]
def SealR (k c e t s : Nat) (W N : List En) (code : Nat) (P : List Nat) : Prop := code < 4294967296 ∧ (∀ x ∈ P,x < 256) ∧ (code = 0 → Right k c e t s ∧ ccode k W N = 0 ∧ P = frm (pack (headB k c e t s ++ contB k W N)) ∧ P.length ≤ 4100) ∧ code = secode k c e t s W N ∧ (code ≠ 0 → P = [])
theorem sealR_no {k c e t s : Nat} {W N : List En} {code : Nat} (h : code < 4294967296) (h0 : code ≠ 0) (hs : code = secode k c e t s W N) : SealR k c e t s W N code [] := ⟨h,(fun x hx => by cases hx),fun h1 => absurd h1 h0,hs,fun _ => rfl⟩
theorem sealR_yes {k c e t s : Nat} {W N : List En} {P : List Nat} (h1 : ∀ x ∈ P,x < 256) (hc : hchk k c e t s = 0) (hR : Right k c e t s) (h3 : ccode k W N = 0) (h4 : P = frm (pack (headB k c e t s ++ contB k W N))) (h5 : P.length ≤ 4100) : SealR k c e t s W N 0 P :=
 ⟨by decide,h1,fun _ => ⟨hR,h3,h4,h5⟩,secode_0 hc h3 (by rw [h4,length_frm,pack_len] at h5; omega),fun h => absurd rfl h⟩
theorem sealR_one {k c e t s : Nat} {W N : List En} {c1 c2 : Nat} {P1 P2 : List Nat} (h1 : SealR k c e t s W N c1 P1) (h2 : SealR k c e t s W N c2 P2) : c1 = c2 ∧ P1 = P2 := by
 have hc : c1 = c2 := h1.2.2.2.1.trans h2.2.2.2.1.symm
 refine ⟨hc,?_⟩
 subst hc
 by_cases h0 : c1 = 0
 ·rw [(h1.2.2.1 h0).2.2.1,(h2.2.2.1 h0).2.2.1]
 ·rw [h1.2.2.2.2 h0,h2.2.2.2.2 h0]
theorem hchk_lt (k c e t s : Nat) : hchk k c e t s < 4294967296 := by
 unfold hchk
 split
 ·decide
 ·split <;> decide
theorem pseal_any (w0 w : World) (htb : Tab w0) (htf : Tabf w0) (l : List Thing) (h : Own w0 w l) (k c e t s : Nat) (hI : HIn k c e t s) (aw an : Option Addr) (nw nn cw cn : Nat) (W N : List EnE) (hQ : ∀ w',Own w0 w' l → EntsAt w' aw W ∧ EntsAt w' an N) (hW : W.length = nw) (hN : N.length = nn) (hcw : nw ≤ cw) (hcn : nn ≤ cn) (hmw : cw ≤ 9223372036854775807) (hmn : cn ≤ 9223372036854775807) (hIW : EIn W) (hIN : EIn N) (hzW : esz W ≤ 400) (hzN : esz N ≤ 400) :
  Calls Tryz.prog 34 #[.agg (hvs k c e t s),.slice aw nw cw,.slice an nn cn] w fun x w' => ∃ v code P,x = .returned (.tuple #[v,.int .i64 ((code : Nat) : Int)]) ∧ SealR k c e t s (evs W) (evs N) code P ∧ Own w0 w' (Row 5 1 v P.length (vrow P) :: l) := by
 have hB := h.allocC (hvs k c e t s) 29
 have HCH : Hid (Calls _ _ _ _ _) := hcheck_any (w.alloc (.cells (hvs k c e t s) 29)) k c e t s hI
 have HB : Hid (Own w0 _ _) := hB
 have hcl := hchk_lt k c e t s
 have HRT : Hid (hchk k c e t s = 0 → Right k c e t s) := right_of hI
 have HTF : Hid (Tabf w0) := htf
 have zz : ∀ X : List EnE,(evs X).length + cszV (evs X) = esz X := fun X => by rw [evs_len,cszV_evs]; rfl
 have HCL : Hid (ccode k (evs W) (evs N) = 0 → (contB k (evs W) (evs N)).length ≤ 400000) := fun hc => contB_le (fun x hx => by
   obtain ⟨y,hy,rfl⟩ := List.mem_map.1 hx
   exact (hIW y hy).1) (fun x hx => by
   obtain ⟨y,hy,rfl⟩ := List.mem_map.1 hx
   exact (hIN y hy).1) (by rw [zz]; exact hzW) (by rw [zz]; exact hzN) hc
 have HCO : Hid (∀ (w' : World) (p b : Nat) (X : Thing),Own w0 w' (penC p b :: WrT b (headB k c e t s) :: X :: l) → Calls Tryz.prog 86 #[.pointer (some ⟨p,0,none⟩),.int .u8 (k : Int),.slice aw nw cw,.slice an nn cn] w' fun e' w' => e' = .returned (.int .i64 ((ccode k (evs W) (evs N) : Nat) : Int)) ∧ ∃ M,Own w0 w' (penC p b :: WrT b M :: X :: l) ∧ (ccode k (evs W) (evs N) = 0 → M = headB k c e t s ++ contB k (evs W) (evs N))) := fun w' p b X hw => content_any w0 w' htb _ p b k _ hw aw an nw nn cw cn W N (fun w2 hw2 => hQ w2 hw2.tail) hW hN hcw hcn hmw hmn hIW hIN hzW hzN (by have := headB_le k c e t s hI.e hI.t; omega)
 have hkl := ccode_lt k (evs W) (evs N)
 have HE : Hid (∀ M,M = headB k c e t s ++ contB k (evs W) (evs N) → ccode k (evs W) (evs N) = 0 → M.length ≤ 401000) := fun M hM hc => by
  have h1 := HCL.out hc
  have h2 := headB_le k c e t s hI.e hI.t
  rw [hM,List.length_append]
  omega
 have HL0 : Hid (∀ M,M = headB k c e t s ++ contB k (evs W) (evs N) → 0 < M.length) := fun M hM => by
  rw [hM]; unfold headB
  simp only [List.length_append,length_bitsN,wid15]
  omega
 have q0 := hB.cell 0
 have q1 := hB.cell 1
 have q2 := hB.cell 2
 have q3 := hB.cell 3
 have q4 := hB.cell 4
 simp [hvs] at q0 q1 q2 q3 q4
 have HSR : Hid ((hchk k c e t s ≠ 0 → SealR k c e t s (evs W) (evs N) (hchk k c e t s) []) ∧ (hchk k c e t s = 0 → ccode k (evs W) (evs N) ≠ 0 → SealR k c e t s (evs W) (evs N) (ccode k (evs W) (evs N)) []) ∧ (hchk k c e t s = 0 → ccode k (evs W) (evs N) = 0 → ∀ L : List Bool,L = headB k c e t s ++ contB k (evs W) (evs N) → ¬ nb L.length ≤ 4096 → SealR k c e t s (evs W) (evs N) 3 [])) := ⟨fun h1 => sealR_no hcl h1 (secode_h h1),fun h1 h2 => sealR_no hkl h2 (secode_c h1 h2),fun h1 h2 L hL hl => sealR_no (by decide) (by decide) (secode_l h1 h2 hL hl)⟩
 have HSY : Hid (∀ P,(∀ x ∈ P,x < 256) → hchk k c e t s = 0 → ccode k (evs W) (evs N) = 0 → P = frm (pack (headB k c e t s ++ contB k (evs W) (evs N))) → P.length ≤ 4100 → SealR k c e t s (evs W) (evs N) 0 P) := fun P h1 h2 h3 h4 h5 => sealR_yes h1 h2 (HRT.out h2) h3 h4 h5
 generalize hhc : hchk k c e t s = hc at *
 generalize hcc : ccode k (evs W) (evs N) = cc at *
 clear h hB hQ hW hN hcw hcn hmw hmn hIW hIN hzW hzN zz htb htf HCL hcc hhc
 by_cases h0 : hc = 0
 ·subst h0
  have HR : Hid (Right k c e t s) := HRT.out rfl
  unfold hvs at HCH ⊢
  clear HRT hI
  go_enter Tryz.func34,Tryz.ntmps34
  go_wp2_with fail
  refine HCH.out.mono ?_
  rintro x w1 ⟨rfl,hf1⟩
  have h1 := HB.out.quiet hf1
  have HNW : Hid (Calls _ _ _ _ _) := new_own w0 w1 _ h1
  clear hf1 h1 HCH HB q0 q1 q2 q3 q4
  generalize w.heap.size = bh at *
  go_wp2_with fail
  refine HNW.out.mono ?_
  rintro x w2 ⟨b,rfl,h2⟩
  have h3 := h2.allocC #[.pointer (some ⟨b,0,none⟩),.int .i64 0] 165
  have q0 := h3.three.cell 0
  have q1 := h3.three.cell 1
  have q2 := h3.three.cell 2
  have q3 := h3.three.cell 3
  have q4 := h3.three.cell 4
  simp [hvs] at q0 q1 q2 q3 q4
  have HHD : Hid (Calls _ _ _ _ _) := phead w0 _ _ w2.heap.size b h3 k c e t s HR.out
  unfold hvs at HHD
  clear h2 h3 HNW
  go_wp2_with fail
  refine HHD.out.mono ?_
  rintro x w3 ⟨rfl,h4⟩
  generalize w2.heap.size = p at *
  have r0 := h4.three.cell 0
  simp at r0
  have HCN : Hid (Calls _ _ _ _ _) := HCO.out w3 p b _ h4
  clear h4 HHD q0 q1 q2 q3 q4
  by_cases hc0 : cc = 0
  ·subst hc0
   go_wp2_with fail
   refine HCN.out.mono ?_
   rintro x w4 ⟨rfl,L,h5,hLE⟩
   have z0 := Own.cell (show Own w0 w4 (Cells p #[.pointer (some ⟨b,0,none⟩),.int .i64 0] 165 :: _) from h5) 0
   have z1 := Own.cell (show Own w0 w4 (Cells p #[.pointer (some ⟨b,0,none⟩),.int .i64 0] 165 :: _) from h5) 1
   simp at z0 z1
   have hle := hLE (by first | rfl | trivial)
   have hll := HE.out L hle (by first | rfl | trivial)
   have hl0 := HL0.out L hle
   have HLE : Hid (L = headB k c e t s ++ contB k (evs W) (evs N)) := hle
   have HBY : Hid (Calls _ _ _ _ _) := bytesW w0 w4 _ b L h5.two (by omega)
   clear h5 HCN r0 hLE hle HE HL0 HCO
   go_wp2_with fail
   refine HBY.out.mono ?_
   rintro x w5 ⟨v,rfl,h6⟩
   have hnb : 0 < nb L.length := by unfold nb; omega
   have hnb2 : nb L.length ≤ 60000 := by unfold nb; omega
   obtain ⟨g,cap,hv,_⟩ := row_shape h6.row hnb
   subst hv
   by_cases hlg : nb L.length ≤ 4096
   ·have hin := In.of_row h6.row (by rw [pack_len]) (pack_byte L)
    have HSE : Hid (Calls _ _ _ _ _) := seal_ok w5 (some ⟨g,0,none⟩) cap (nb L.length) (pack L) hin hlg (HTF.out.quiet h6.fr)
    have H6 : Hid (Own w0 w5 _) := h6
    clear h6 HBY hin z0 z1
    go_wp2_with fail
    refine HSE.out.mono ?_
    rintro x w6 ⟨g6,cp6,rfl,hr6,hf6⟩
    have H7 : Hid (Own w0 w6 (Row 5 1 (.slice (some ⟨g6,0,none⟩) (nb L.length + 4) cp6) (nb L.length + 4) (vrow (frm (pack L))) :: l)) := by
     have h7 := (H6.out.tail.tail.tail.tail)
     exact h7.new (Row 5 1 (.slice (some ⟨g6,0,none⟩) (nb L.length + 4) cp6) (nb L.length + 4) (vrow (frm (pack L)))) (fun j => (Value.slice (some ⟨g6,0,none⟩) (nb L.length + 4) cp6).ownBlock = some j) ⟨row_weak hr6,fun _ => Iff.rfl⟩ hf6 (fun j hj => (hr6.lt j hj).1)
    clear hr6 hf6 HSE H6
    go_wp2
    go_ret2
    refine ⟨_,0,frm (pack L),rfl,HSY.out _ (frm_byte _ (pack_byte L)) (by first | rfl | trivial) (by first | rfl | trivial) (by rw [HLE.out]) (by rw [length_frm,pack_len]; omega),?_⟩
    have e1 : (frm (pack L)).length = nb L.length + 4 := by rw [length_frm,pack_len]
    rw [e1]
    exact H7.out
   ·have HSE : Hid (Calls _ _ _ _ _) := seal_long w5 (some ⟨g,0,none⟩) cap (nb L.length) (by omega) (by unfold maxLen; omega)
    have H6 : Hid (Own w0 w5 l) := h6.tail.tail.tail.tail
    clear h6 HBY z0 z1
    go_wp2_with fail
    refine HSE.out.mono ?_
    rintro x w6 ⟨rfl,rfl⟩
    clear HSE
    go_wp2
    go_ret2
    exact ⟨_,3,[],rfl,HSR.out.2.2 (by first | rfl | trivial) (by first | rfl | trivial) L HLE.out hlg,H6.out.nilRow _ _⟩
  ·have z0 : ((cc : Int) != 0) = true := by simpa using hc0
   have HC0 : Hid (cc ≠ 0) := hc0
   clear hc0
   go_wp2_with fail
   refine HCN.out.mono ?_
   rintro x w4 ⟨rfl,L,h5,-⟩
   have H5 : Hid (Own w0 w4 l) := h5.tail.tail.tail
   clear h5 HCN r0
   go_wp2
   go_ret2
   exact ⟨_,cc,[],rfl,HSR.out.2.1 (by first | rfl | trivial) HC0.out,H5.out.nilRow _ _⟩
 ·have z0 : ((hc : Int) != 0) = true := by simpa using h0
  have HC0 : Hid (hc ≠ 0) := h0
  unfold hvs at HCH ⊢
  clear h0 HRT hI
  go_enter Tryz.func34,Tryz.ntmps34
  go_wp2_with fail
  refine HCH.out.mono ?_
  rintro x w1 ⟨rfl,hf1⟩
  have H5 : Hid (Own w0 w1 l) := (HB.out.quiet hf1).tail
  clear hf1 HCH HB q0 q1 q2 q3 q4
  go_wp2
  go_ret2
  exact ⟨_,hc,[],rfl,HSR.out.1 HC0.out,H5.out.nilRow _ _⟩
end Go.Proofs.YtgifeckbflkkpaaGreatDoor
namespace Go.Proofs.YtgifeckbflkkpaaGreatDoor
open Go.ChangeShapes Go.WideShapes Go.ChangeAt Go.RowKit Go.Deep
set_option linter.unusedVariables false
set_option maxHeartbeats 4000000
set_option maxRecDepth 100000
theorem bulk_pos {H : Type} (d : DataW H) : 1 ≤ Rows.uptoBulk d := by
 cases d with
 | lit v => cases v <;> simp [Rows.uptoBulk]
 | _ => simp [Rows.uptoBulk]
theorem bulk_in {H : Type} {d : DataW H} {m : List (DataW H)} (h : d ∈ m) : Rows.uptoBulk d ≤ Rows.uptoBulkAll m := by
 induction m with
 | nil => cases h
 | cons y m ih =>
  simp only [Rows.uptoBulkAll]
  rcases List.mem_cons.1 h with rfl | h
  ·omega
  ·have := ih h; omega
theorem bulk_sum {H : Type} {D : Nat → DataW H} {s : Nat → Nat} : ∀ (R : List Nat),(∀ i ∈ R,s i ≤ Rows.uptoBulk (D i)) → (R.map s).sum ≤ Rows.uptoBulkAll (R.map D) := by
 intro R
 induction R with
 | nil => intro _; exact Nat.zero_le _
 | cons i R ih =>
  intro h
  have h1 := h i (by simp)
  have h2 := ih (fun j hj => h j (List.mem_cons_of_mem _ hj))
  simp only [List.map_cons,List.sum_cons,Rows.uptoBulkAll]
  omega
theorem bulk_slice {H : Type} (a b : List (DataW H)) : Rows.uptoBulk (.slice a b) = Rows.uptoBulkAll a + Rows.uptoBulkAll b + 1 := by simp only [Rows.uptoBulk]
theorem bulk_agg {H : Type} (a : List (DataW H)) : Rows.uptoBulk (.agg a) = Rows.uptoBulkAll a + 1 := by simp only [Rows.uptoBulk]
theorem open_rowsB {H : Type} {enc : TypeId × Value → H} {P : Program} {W : World} {ao : Option Addr} {len cap : Nat} {d : DataW H} {p : List MemPlace} {α : Type} [Inhabited α] {t e : TypeId} (s : Nat) (ht : P.underlying t = some (.slice e)) (hs : P.cellsOf e = s) (h0s : 0 < s) (G : List Value → α → Prop) (sz : α → Nat)
  (hG : ∀ fuel cs x,DataW.trod enc P W 0 (fun _ => true) true fuel e cs = some x → ∃ q,G cs q ∧ sz q ≤ Rows.uptoBulk x.1)
  (h : DataW.Trod enc P W 0 (fun _ => true) true t (.slice ao len cap) d p) :
  ∃ Q : List α,Q.length = len ∧ len ≤ cap ∧ cap ≤ maxLen ∧ RowsAt G s W ao Q ∧ (Q.map sz).sum ≤ Rows.uptoBulk d := by
 obtain ⟨fuel,hf⟩ := h
 rcases open_slice ht hf with ⟨hc,hd⟩ | ⟨a,l,c,m,n,D,Pl,hc,_,hl,hm,hmm,hd,hx⟩
 ·simp [Value.cells] at hc
  obtain ⟨rfl,rfl,rfl⟩ := hc
  exact ⟨[],rfl,Nat.le_refl _,Nat.zero_le _,.inl rfl,Nat.zero_le _⟩
 ·simp [Value.cells] at hc
  obtain ⟨rfl,rfl,rfl⟩ := hc
  simp only [Prod.mk.injEq] at hd
  obtain ⟨rfl,_⟩ := hd
  have hml : len ≤ m := by rw [hmm]; simp; omega
  have each : ∀ i,i < len → ∃ q : α,sz q ≤ Rows.uptoBulk (D i) ∧ ∃ cs,G cs q ∧ cs.length = s ∧ ∀ r,r < s → W.cell? ((a.add (i * s)).add r) = cs[r]? := by
   intro i hi
   obtain ⟨cs',h1,h2⟩ := hx i (by omega)
   rw [hs] at h1
   obtain ⟨_,hlen,hcell⟩ := World.cells?_some h1
   obtain ⟨q,hq,hb⟩ := hG _ _ _ h2
   exact ⟨q,hb,cs',hq,hlen,fun r hr => by rw [hcell r hr,List.getElem?_eq_getElem (by omega)]⟩
  obtain ⟨f,hfn⟩ := choose_lt each
  refine ⟨(List.range len).map f,by simp,hl,hm,?_,?_⟩
  ·by_cases h0 : len = 0
   ·subst h0; left; rfl
   ·right
    obtain ⟨g,o,spot⟩ := a
    obtain ⟨_,cs,_,hcl,hcc⟩ := hfn 0 (by omega)
    have h1 := hcc 0 h0s
    rw [List.getElem?_eq_getElem (by omega)] at h1
    have hsp : spot = none := by simpa [Addr.add] using World.cell?_spot h1
    subst hsp
    refine ⟨g,o,rfl,fun j q hj => ?_⟩
    have hjl : j < len := by
     have := (List.getElem?_eq_some_iff.1 hj).1
     simpa using this
    rw [List.getElem?_map,List.getElem?_range hjl] at hj
    simp only [Option.map_some,Option.some.injEq] at hj
    obtain ⟨_,cs,h1,h2,h3⟩ := hfn j hjl
    rw [hj] at h1
    refine ⟨cs,h1,h2,fun r hr => ?_⟩
    have := h3 r hr
    rw [addr_add,addr_add] at this
    exact this
  ·have h1 := bulk_sum (D := D) (s := fun i => sz (f i)) (List.range len) (fun i hi => (hfn i (by simpa using hi)).1)
   rw [bulk_slice,List.map_map]
   have e : sz ∘ f = fun i => sz (f i) := rfl
   rw [e]
   omega
theorem cellsEnt : Tryz.prog.cellsOf 60 = 2 := by kernel_rfl
theorem cellsEntC : Tryz.prog.cellsOf 58 = 1 := by kernel_rfl
theorem cellsEntI : Tryz.prog.cellsOf 57 = 1 := by kernel_rfl
theorem duo {β : Type} {l : List β} (h : l.length = 2) : ∃ a b,l = [a,b] := by
 match l,h with
 | [a,b],_ => exact ⟨a,b,rfl⟩
def EntI (W : World) (cs : List Value) (x : EnE) : Prop := cs = x.cs ∧ x.id < 4294967296 ∧ IsComps W x.ao x.C.length x.cap x.C
theorem ones_sum {α : Type} (Q : List α) : (Q.map (fun _ => 1)).sum = Q.length := by
 induction Q with
 | nil => rfl
 | cons a t ih => rw [List.map_cons,List.sum_cons,ih,List.length_cons]; omega
theorem open_csB {H : Type} {enc : TypeId × Value → H} {W : World} {fuel : Nat} {cs : List Value} {x : DataW H × List MemPlace} (h : DataW.trod enc Tryz.prog W 0 (fun _ => true) true fuel 58 cs = some x) : ∃ ao cap C,cs = [.slice ao (List.length C) cap] ∧ IsComps W ao (List.length C) cap C ∧ C.length ≤ Rows.uptoBulk x.1 := by
 obtain ⟨ao,len,cap,hv⟩ : ∃ ao len cap,cs = [.slice ao len cap] := by
  rcases open_slice Tryz.underlying58 h with ⟨hc,_⟩ | ⟨a,l,c,m,n,D,Pl,hc,_⟩
  ·exact ⟨_,_,_,hc⟩
  ·exact ⟨_,_,_,hc⟩
 subst hv
 obtain ⟨d,p⟩ := x
 obtain ⟨Q,h1,h2,h3,h4,h5⟩ := open_rowsB 4 Tryz.underlying58 cellsComp (by decide) CompIs (fun _ => 1) (fun fuel cs x hx => by
  obtain ⟨k,a,b,c,g1,g2,g3,g4,hcs,_⟩ := comp_cells hx
  obtain ⟨n,rfl,hn⟩ := ok8_nat g1
  exact ⟨⟨n,a,b,c⟩,⟨hcs,hn⟩,bulk_pos _⟩) (d := d) (p := p) ⟨fuel,h⟩
 subst h1
 refine ⟨ao,cap,Q,rfl,⟨rfl,h2,h3,h4⟩,?_⟩
 rw [ones_sum] at h5
 exact h5
theorem ent_is {H : Type} {enc : TypeId × Value → H} {W : World} (fuel : Nat) (cs : List Value) (x : DataW H × List MemPlace)
  (h : DataW.trod enc Tryz.prog W 0 (fun _ => true) true fuel 60 cs = some x) : ∃ e,EntI W cs e ∧ e.C.length + 1 ≤ Rows.uptoBulk x.1 := by
 obtain ⟨xs,n,_,hx,hl,hlen,hf⟩ := DataW.trod_struct Tryz.underlying60 h
 rw [cellsEnt] at hl
 obtain ⟨c0,c1,rfl⟩ := duo hl
 obtain ⟨y0,y1,rfl⟩ := duo hlen
 have h0 := hf 0 _ rfl
 have h1 := hf 1 _ rfl
 simp [cellsEntC,cellsEntI] at h0 h1
 obtain ⟨b,b0,_,wb⟩ := DataW.trod_int Tryz.underlying57 h0
 simp at b0
 subst b0
 have hb : 0 ≤ b ∧ b ≤ 4294967295 := by simpa [Lit.wf,IntKind.min,IntKind.max,IntKind.signed,IntKind.bits] using wb
 obtain ⟨bn,rfl⟩ := Int.eq_ofNat_of_zero_le hb.1
 obtain ⟨ao,cap,C,hv,hC,hs⟩ := open_csB h1
 simp at hv
 subst hv
 refine ⟨⟨bn,ao,cap,C⟩,⟨rfl,by show bn < _; omega,hC⟩,?_⟩
 subst hx
 show _ ≤ Rows.uptoBulk (.agg [y0.1,y1.1])
 rw [bulk_agg]
 have := bulk_in (d := y1.1) (m := [y0.1,y1.1]) (by simp)
 show C.length + 1 ≤ _
 omega
def IsEnts (w : World) (ao : Option Addr) (len cap : Nat) (Q : List EnE) : Prop := Q.length = len ∧ len ≤ cap ∧ cap ≤ maxLen ∧ RowsAt (EntI w) 2 w ao Q
theorem esz_sum (Q : List EnE) : (Q.map (fun x => x.C.length + 1)).sum = esz Q := by
 unfold esz
 induction Q with
 | nil => rfl
 | cons x t ih => simp only [List.map_cons,List.sum_cons,List.length_cons,csz,ih]; omega
theorem open_ents {H : Type} {enc : TypeId × Value → H} {W : World} {ao : Option Addr} {len cap : Nat} {d : DataW H} {p : List MemPlace}
  (h : DataW.Trod enc Tryz.prog W 0 (fun _ => true) true 23 (.slice ao len cap) d p) : ∃ Q,IsEnts W ao len cap Q ∧ esz Q ≤ Rows.uptoBulk d := by
 haveI : Inhabited EnE := ⟨⟨0,none,0,[]⟩⟩
 obtain ⟨Q,h1,h2,h3,h4,h5⟩ := open_rowsB 2 Tryz.underlying23 cellsEnt (by decide) (EntI W) (fun x => x.C.length + 1) (fun fuel cs x hx => ent_is fuel cs x hx) h
 rw [esz_sum] at h5
 exact ⟨Q,⟨h1,h2,h3,h4⟩,h5⟩
theorem IsEnts.ents {w : World} {ao : Option Addr} {len cap : Nat} {Q : List EnE} (h : IsEnts w ao len cap Q) : EntsAt w ao Q ∧ EIn Q := by
 obtain ⟨hl,_,_,hR⟩ := h
 have key : ∀ x ∈ Q,x.id < 4294967296 ∧ IsComps w x.ao x.C.length x.cap x.C := by
  intro x hx
  obtain ⟨j,hj⟩ := List.getElem?_of_mem hx
  rcases hR with h | ⟨g,of,ha,hc⟩
  ·subst h; simp at hj
  ·obtain ⟨cs,⟨_,h3,h4⟩,_⟩ := hc j x hj
   exact ⟨h3,h4⟩
 refine ⟨⟨?_,fun x hx => (key x hx).2.cs.1⟩,fun x hx => ⟨(key x hx).1,(key x hx).2.cs.2⟩⟩
 rcases hR with h | ⟨g,of,ha,hc⟩
 ·exact .inl h
 ·refine .inr ⟨g,of,ha,fun j x hj => ?_⟩
  obtain ⟨cs,⟨rfl,_⟩,_,h3⟩ := hc j x hj
  exact ⟨h3 0 (by decide),h3 1 (by decide)⟩
end Go.Proofs.YtgifeckbflkkpaaGreatDoor
namespace Go.Proofs.YtgifeckbflkkpaaGreatDoor
open Go.RowKit
set_option linter.unusedVariables false
set_option maxHeartbeats 4000000
set_option maxRecDepth 100000
theorem btw_mem (W N : List En) : (∀ x ∈ (btw W N).come,x ∈ N) ∧ ∀ c ∈ (btw W N).chg,∀ q ∈ c.new,∃ n ∈ N,q ∈ n.2 := by
 fun_induction btw W N with
 | case1 => exact ⟨(fun x hx => by cases hx),(fun c hc => by cases hc)⟩
 | case2 w ws ih => exact ih
 | case3 n ns ih =>
  refine ⟨fun x hx => ?_,fun c hc q hq => ?_⟩
  ·simp only [addE] at hx
   rcases List.mem_cons.1 hx with rfl | hx
   ·exact List.mem_cons_self ..
   ·exact List.mem_cons_of_mem _ (ih.1 x hx)
  ·obtain ⟨y,hy,h⟩ := ih.2 c hc q hq
   exact ⟨y,List.mem_cons_of_mem _ hy,h⟩
 | case4 w ws n ns h ih => exact ih
 | case5 w ws n ns h h2 ih =>
  refine ⟨fun x hx => ?_,fun c hc q hq => ?_⟩
  ·simp only [addE] at hx
   rcases List.mem_cons.1 hx with rfl | hx
   ·exact List.mem_cons_self ..
   ·exact List.mem_cons_of_mem _ (ih.1 x hx)
  ·obtain ⟨y,hy,h⟩ := ih.2 c hc q hq
   exact ⟨y,List.mem_cons_of_mem _ hy,h⟩
 | case6 w ws n ns h h2 ih =>
  refine ⟨fun x hx => List.mem_cons_of_mem _ (ih.1 x hx),fun c hc q hq => ?_⟩
  simp only [addC] at hc
  split at hc
  ·obtain ⟨y,hy,h⟩ := ih.2 c hc q hq
   exact ⟨y,List.mem_cons_of_mem _ hy,h⟩
  ·rcases List.mem_cons.1 hc with rfl | hc
   ·exact ⟨n,List.mem_cons_self ..,(List.mem_filter.1 hq).1⟩
   ·obtain ⟨y,hy,h⟩ := ih.2 c hc q hq
    exact ⟨y,List.mem_cons_of_mem _ hy,h⟩
theorem EIn.iff (L : List EnE) : EIn L ↔ ∀ e ∈ evs L,e.1 < 4294967296 ∧ ∀ q ∈ e.2,q.k < 256 := by
 constructor
 ·intro h e he
  obtain ⟨x,hx,rfl⟩ := List.mem_map.1 he
  exact h x hx
 ·intro h x hx
  exact h (x.id,x.C) (List.mem_map.2 ⟨x,hx,rfl⟩)
theorem lst_mk {L : List Cp} : ∀ {p : Int},L.Pairwise (fun x y => x.k < y.k) → (∀ q ∈ L,p < (q.k : Int) ∧ q.chk = 0) → lst p L = 0 := by
 induction L with
 | nil => intro p _ _; rfl
 | cons q t ih =>
  intro p h1 h2
  have h3 := List.pairwise_cons.1 h1
  have h4 := h2 q (List.mem_cons_self ..)
  rw [lst,if_neg (by rw [h4.2]; simp),if_neg (by omega)]
  exact ih h3.2 fun y hy => ⟨by have := h3.1 y hy; omega,(h2 y (List.mem_cons_of_mem _ hy)).2⟩
theorem lst_filter {C : List Cp} (h : lst (-1) C = 0) (p : Cp → Bool) : lst (-1) (C.filter p) = 0 := by
 have h1 := lst_ok h
 exact lst_mk (h1.1.filter p) fun q hq => h1.2 q (List.mem_filter.1 hq).1
theorem chRd_of {W N : List En} (hW : fm 0 W = 0) (hN : fm 0 N = 0) {e : En} (he : e ∈ N) (h32 : e.1 < 4294967296) {c : Chg} (h : chgO W e = some c) : ChRd W c := by
 have h1 := chOk_of hW hN he h32 h
 obtain ⟨y,hy,rfl⟩ := chgO_of h
 obtain ⟨-,b2,b3⟩ := fm_each hN e he
 exact ⟨h1,lst_filter b2 _,un_sub b3 (fun q hq => (List.mem_filter.1 hq).1),good_filter (good_of b2) _,un_sub b3 (fun q hq => (List.mem_filter.1 hq).1)⟩
theorem evs_ids {L : List EnE} (hI : EIn L) : ∀ x ∈ evs L,x.1 < 4294967296 := fun x hx => by
 obtain ⟨y,hy,rfl⟩ := List.mem_map.1 hx
 exact (hI y hy).1
end Go.Proofs.YtgifeckbflkkpaaGreatDoor
