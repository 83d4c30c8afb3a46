/- The document's Seal: kinds without steps. -/
import Derived.Test.YtgifeckbflkkpaaGreatDoorQr43
import Derived.Test.YtgifeckbflkkpaaGreatDoorQr41
import Derived.Test.YtgifeckbflkkpaaGreatDoorQr04
import Derived.Test.YtgifeckbflkkpaaGreatDoorQr26
namespace Go.Proofs.YtgifeckbflkkpaaGreatDoor
open Go.RowKit
set_option linter.unusedVariables false
set_option maxHeartbeats 16000000
set_option maxRecDepth 100000
theorem rseal_long (w : World) (ao : Option Addr) (cap len : Nat) (h : 4096 < len) (hmax : len ≤ maxLen) :
  Calls Tryz.prog 18 #[.slice ao len cap] w fun e w' => e = .returned (.tuple #[.slice none 0 0,.int .i64 3]) ∧ w' = w := by
 unfold maxLen at hmax
 go_enter Tryz.func18,Tryz.ntmps18
 go_wp2
 go_ret2
 exact ⟨rfl,rfl⟩
theorem rseal_bad (w0 w : World) (l : List Thing) (h : Own w0 w l) (k c e t s : Nat) (hI : HIn k c e t s) (hc : hchk k c e t s ≠ 0) (aw an : Option Addr) (nw nn cw cn : Nat) (W N : List EnE) (hQ : ∀ w',Own w0 w' l → EntsAt w' aw W ∧ EntsAt w' an N) (hW : W.length = nw) (hN : N.length = nn) (hIW : EIn W) (hIN : EIn N) (hzW : esz W ≤ 400) (hzN : esz N ≤ 400) :
  Calls Tryz.prog 32 #[.agg (hvs k c e t s),.slice aw nw cw,.slice an nn cn] w fun x w' => ∃ v code P,x = .returned (.tuple #[v,.int .i64 ((code : Nat) : Int)]) ∧ SealR k c e t s (evs W) (evs N) code P ∧ Own w0 w' (Row 5 1 v P.length (vrow P) :: l) := by
 have hB := h.allocC (hvs k c e t s) 29
 have HCH : Hid (Calls _ _ _ _ _) := hrcheck_any (w.alloc (.cells (hvs k c e t s) 29)) k c e t s hI
 have HB : Hid (Own w0 _ _) := hB
 have hcl := hchk_lt k c e t s
 have HSR : Hid (SealR k c e t s (evs W) (evs N) (hchk k c e t s) []) := sealR_no hcl hc (secode_h hc)
 have q0 := hB.cell 0
 have q1 := hB.cell 1
 have q2 := hB.cell 2
 have q3 := hB.cell 3
 have q4 := hB.cell 4
 simp [hvs] at q0 q1 q2 q3 q4
 generalize hchk k c e t s = hcd at *
 have z0 : ((hcd : Int) != 0) = true := by simpa using hc
 have HC0 : Hid (hcd ≠ 0) := hc
 unfold hvs at HCH ⊢
 clear h hB hI hc hQ hW hN hIW hIN hzW hzN
 go_enter Tryz.func32,Tryz.ntmps32
 go_wp2_with fail
 refine HCH.out.mono ?_
 rintro x w1 ⟨rfl,hf1⟩
 have H5 : Hid (Own w0 w1 l) := (HB.out.quiet hf1).tail
 clear hf1 HCH HB q0 q1 q2 q3 q4
 go_wp2
 go_ret2
 exact ⟨_,hcd,[],rfl,HSR.out,H5.out.nilRow _ _⟩
theorem rseal_1 (w0 w : World) (l : List Thing) (h : Own w0 w l) (c e t s : Nat) (hI : HIn 1 c e t s) (hc : hchk 1 c e t s = 0) (aw an : Option Addr) (nw nn cw cn : Nat) (W N : List EnE) (hQ : ∀ w',Own w0 w' l → EntsAt w' aw W ∧ EntsAt w' an N) (hW : W.length = nw) (hN : N.length = nn) (hIW : EIn W) (hIN : EIn N) (hzW : esz W ≤ 400) (hzN : esz N ≤ 400) :
  Calls Tryz.prog 32 #[.agg (hvs 1 c e t s),.slice aw nw cw,.slice an nn cn] w fun x w' => ∃ v code P,x = .returned (.tuple #[v,.int .i64 ((code : Nat) : Int)]) ∧ SealR 1 c e t s (evs W) (evs N) code P ∧ Own w0 w' (Row 5 1 v P.length (vrow P) :: l) := by
 have hR := right_of hI hc
 have hB := h.allocC (hvs 1 c e t s) 29
 have HCH : Hid (Calls _ _ _ _ _) := hrcheck_any (w.alloc (.cells (hvs 1 c e t s) 29)) 1 c e t s hI
 rw [hc] at HCH
 have HB : Hid (Own w0 _ _) := hB
 have HR : Hid (Right 1 c e t s) := hR
 have zz : ∀ X : List EnE,(evs X).length + cszV (evs X) = esz X := fun X => by rw [evs_len,cszV_evs]; rfl
 have HCL : Hid (ccode 1 (evs W) (evs N) = 0 → (headB 1 c e t s ++ contB 1 (evs W) (evs N)).length ≤ 401000 ∧ 0 < (headB 1 c e t s ++ contB 1 (evs W) (evs N)).length) := fun hc => by
  have h1 := contB_le (k := 1) (W := evs W) (N := evs N) (fun x hx => by
   obtain ⟨y,hy,rfl⟩ := List.mem_map.1 hx
   exact (hIW y hy).1) (fun x hx => by
   obtain ⟨y,hy,rfl⟩ := List.mem_map.1 hx
   exact (hIN y hy).1) (by rw [zz]; exact hzW) (by rw [zz]; exact hzN) hc
  have h2 := headB_le 1 c e t s hI.e hI.t
  have h3 : 3 ≤ (headB 1 c e t s).length := by unfold headB; simp only [List.length_append,length_bitsN,wid15]; omega
  rw [List.length_append]
  omega
 have HSR : Hid ((ccode 1 (evs W) (evs N) ≠ 0 → SealR 1 c e t s (evs W) (evs N) (ccode 1 (evs W) (evs N)) []) ∧ (ccode 1 (evs W) (evs N) = 0 → ∀ L : List Bool,L = headB 1 c e t s ++ contB 1 (evs W) (evs N) → ¬ nb L.length ≤ 4096 → SealR 1 c e t s (evs W) (evs N) 3 [])) := ⟨fun h2 => sealR_no (ccode_lt _ _ _) h2 (secode_c hc h2),fun h2 L hL hl => sealR_no (by decide) (by decide) (secode_l hc h2 hL hl)⟩
 have HSY : Hid (∀ P,(∀ x ∈ P,x < 256) → ccode 1 (evs W) (evs N) = 0 → P = frm (pack (headB 1 c e t s ++ contB 1 (evs W) (evs N))) → P.length ≤ 4100 → SealR 1 c e t s (evs W) (evs N) 0 P) := fun P h1 h3 h4 h5 => sealR_yes h1 hc hR h3 h4 h5
 have HQ : Hid ((∀ w',Own w0 w' l → EntsAt w' aw W ∧ EntsAt w' an N) ∧ W.length = nw ∧ N.length = nn ∧ EIn W ∧ EIn N ∧ esz W ≤ 400 ∧ esz N ≤ 400) := ⟨hQ,hW,hN,hIW,hIN,hzW,hzN⟩
 have HIH : Hid (HIn 1 c e t s) := hI
 have q0 := hB.cell 0
 have q1 := hB.cell 1
 have q2 := hB.cell 2
 have q3 := hB.cell 3
 have q4 := hB.cell 4
 simp [hvs] at q0 q1 q2 q3 q4
 have hn8 : nn ≤ 400 := by unfold esz at hzN; omega
 clear h hB hR hQ hW hN hIW hIN hzW hzN zz hc hI
 unfold hvs at HCH ⊢
 go_enter Tryz.func32,Tryz.ntmps32
 go_wp2_with fail
 refine HCH.out.mono ?_
 rintro x w1 ⟨rfl,hf1⟩
 have h1 := HB.out.quiet hf1
 have HHD : Hid (Calls Tryz.prog 73 #[.agg #[.int .u8 1,.int .u8 (c : Int),.int .u32 (e : Int),.int .u32 (t : Int),.int .u32 (s : Int)]] _ _) := rhead w0 w1 _ h1 1 c e t s HR.out
 have p0 := h1.cell 0
 have p1 := h1.cell 1
 have p2 := h1.cell 2
 have p3 := h1.cell 3
 have p4 := h1.cell 4
 simp [hvs] at p0 p1 p2 p3 p4
 clear hf1 h1 HCH HB q0 q1 q2 q3 q4
 generalize w.heap.size = bh at *
 go_wp2_with fail
 refine HHD.out.mono ?_
 rintro x w2 ⟨v2,rfl,h2⟩
 have r0 := h2.two.cell 0
 simp [hvs] at r0
 clear HHD p0 p1 p2 p3 p4
 have HFO : Hid (Calls _ _ _ _ _) := rform_any w2 an nn cn N ((HQ.out.1 w2 h2.tail.tail).2) HQ.out.2.2.1 HQ.out.2.2.2.2.1 (by have := HQ.out.2.2.2.2.2.2; omega)
 have hfl := fm_lt 0 (evs N)
 have HCC : Hid (ccode 1 (evs W) (evs N) = fm 0 (evs N)) := rfl
 have H2 : Hid (Own w0 w2 _) := h2
 clear h2
 by_cases hf0 : fm 0 (evs N) = 0
 ·rw [hf0] at HFO
  have HF0 : Hid (fm 0 (evs N) = 0) := hf0
  have z0 : ((0 : Int) != 0) = false := rfl
  clear hf0 hfl
  go_wp2_with fail
  refine HFO.out.mono ?_
  rintro x w3 ⟨rfl,hf3⟩
  have h3 := H2.out.quiet hf3
  have HEN : Hid (Calls _ _ _ _ _) := rents w0 w3 _ v2 (headB 1 c e t s) an nn cn N h3 (fun w' hw => (HQ.out.1 w' hw.tail).2) HQ.out.2.2.1 HQ.out.2.2.2.2.1 (Snap.of HF0.out).up (fm_each HF0.out) (by have h1 := headB_le 1 c e t s HIH.out.e HIH.out.t; have := HQ.out.2.2.2.2.2.2; omega)
  clear hf3 h3 H2 HFO
  go_wp2_with fail
  refine HEN.out.mono ?_
  rintro x w4 ⟨v4,rfl,h4⟩
  obtain ⟨M,hM⟩ : ∃ M,M = (headB 1 c e t s ++ var nn) ++ entsB 0 (evs N) := ⟨_,rfl⟩
  rw [← hM] at h4
  have HM : Hid (M = headB 1 c e t s ++ contB 1 (evs W) (evs N)) := by
   show _ = _
   rw [hM]
   unfold contB
   rw [if_pos rfl,evs_len,HQ.out.2.2.1,List.append_assoc]
  have H4 : Hid (Own w0 w4 (BT v4 M :: _)) := h4
  have HL : Hid (Own w0 w4 l) := h4.tail.tail
  clear h4 HEN hM r0
  have hmm := HCL.out (HCC.out.trans HF0.out)
  rw [← HM.out] at hmm
  have hml := hmm.1
  have hm0 := hmm.2
  clear hmm
  have HBY : Hid (Calls _ _ _ _ _) := rbytes_any w4 v4 M H4.out.bs (by omega)
  clear H4
  go_wp2_with fail
  refine HBY.out.mono ?_
  rintro x wy ⟨vy,rfl,hr,hf,hk⟩
  have hnb : 0 < nb M.length := by unfold nb; omega
  have hnb2 : nb M.length ≤ 60000 := by unfold nb; omega
  obtain ⟨g,cap,hv,_⟩ := row_shape hr hnb
  subst hv
  by_cases hlg : nb M.length ≤ 4096
  ·have hin := In.of_row hr (by rw [pack_len]) (pack_byte M)
   have HSE : Hid (Calls _ _ _ _ _) := rseal_ok wy (some ⟨g,0,none⟩) cap (nb M.length) (pack M) hin hlg
   have H6 : Hid (Own w0 wy l) := HL.out.quiet hf
   clear hr hf hk HBY hin
   go_wp2_with fail
   refine HSE.out.mono ?_
   rintro x wx ⟨g6,cp6,rfl,hr6,hf6⟩
   have H7 : Hid (Own w0 wx (Row 5 1 (.slice (some ⟨g6,0,none⟩) (nb M.length + 4) cp6) (nb M.length + 4) (vrow (frm (pack M))) :: l)) := H6.out.new (Row 5 1 (.slice (some ⟨g6,0,none⟩) (nb M.length + 4) cp6) (nb M.length + 4) (vrow (frm (pack M)))) (fun j => (Value.slice (some ⟨g6,0,none⟩) (nb M.length + 4) cp6).ownBlock = some j) ⟨row_weak hr6,fun _ => Iff.rfl⟩ hf6 (fun j hj => (hr6.lt j hj).1)
   clear hr6 hf6 HSE H6
   go_wp2
   go_ret2
   refine ⟨_,0,frm (pack M),rfl,HSY.out _ (frm_byte _ (pack_byte M)) (HCC.out.trans HF0.out) (by rw [HM.out]) (by rw [length_frm,pack_len]; omega),?_⟩
   have e1 : (frm (pack M)).length = nb M.length + 4 := by rw [length_frm,pack_len]
   rw [e1]
   exact H7.out
  ·have HSE : Hid (Calls _ _ _ _ _) := rseal_long wy (some ⟨g,0,none⟩) cap (nb M.length) (by omega) (by unfold maxLen; omega)
   have H6 : Hid (Own w0 wy l) := HL.out.quiet hf
   clear hr hf hk HBY
   go_wp2_with fail
   refine HSE.out.mono ?_
   rintro x wx ⟨rfl,rfl⟩
   clear HSE
   go_wp2
   go_ret2
   exact ⟨_,3,[],rfl,HSR.out.2 (HCC.out.trans HF0.out) _ (by rw [HM.out]) hlg,H6.out.nilRow _ _⟩
 ·have z0 : (((fm 0 (evs N) : Nat) : Int) != 0) = true := by simpa using hf0
  have HC0 : Hid (fm 0 (evs N) ≠ 0) := hf0
  generalize fm 0 (evs N) = fc at *
  clear hf0
  go_wp2_with fail
  refine HFO.out.mono ?_
  rintro x w3 ⟨rfl,hf3⟩
  have H5 : Hid (Own w0 w3 l) := (H2.out.quiet hf3).tail.tail
  clear hf3 H2 HFO r0
  go_wp2
  go_ret2
  exact ⟨_,fc,[],rfl,(by have h9 := HSR.out.1 (by rw [HCC.out]; exact HC0.out); rw [HCC.out] at h9; exact h9),H5.out.nilRow _ _⟩
theorem rseal_3 (w0 w : World) (l : List Thing) (h : Own w0 w l) (k c e t s : Nat) (hI : HIn k c e t s) (hc : hchk k c e t s = 0) (hk1 : k ≠ 1) (hk2 : k ≠ 2) (aw an : Option Addr) (nw nn cw cn : Nat) (W N : List EnE) (hQ : ∀ w',Own w0 w' l → EntsAt w' aw W ∧ EntsAt w' an N) (hW : W.length = nw) (hN : N.length = nn) (hIW : EIn W) (hIN : EIn N) (hzW : esz W ≤ 400) (hzN : esz N ≤ 400) :
  Calls Tryz.prog 32 #[.agg (hvs k c e t s),.slice aw nw cw,.slice an nn cn] w fun x w' => ∃ v code P,x = .returned (.tuple #[v,.int .i64 ((code : Nat) : Int)]) ∧ SealR k c e t s (evs W) (evs N) code P ∧ Own w0 w' (Row 5 1 v P.length (vrow P) :: l) := by
 have e1 : ((k : Int) == 1) = false := by rw [beq_eq_false_iff_ne]; omega
 have e2 : ((k : Int) == 2) = false := by rw [beq_eq_false_iff_ne]; omega
 have HCC : Hid (ccode k (evs W) (evs N) = if (evs N).length = 0 then 0 else 4) := by show _ = _; unfold ccode; rw [if_neg hk1,if_neg hk2]
 have HCB : Hid (contB k (evs W) (evs N) = []) := by show _ = _; unfold contB; rw [if_neg hk1,if_neg hk2]
 clear hk1 hk2
 have hR := right_of hI hc
 have hB := h.allocC (hvs k c e t s) 29
 have HCH : Hid (Calls _ _ _ _ _) := hrcheck_any (w.alloc (.cells (hvs k c e t s) 29)) k c e t s hI
 rw [hc] at HCH
 have HB : Hid (Own w0 _ _) := hB
 have HR : Hid (Right k c e t s) := hR
 have zz : ∀ X : List EnE,(evs X).length + cszV (evs X) = esz X := fun X => by rw [evs_len,cszV_evs]; rfl
 have HCL : Hid (ccode k (evs W) (evs N) = 0 → (headB k c e t s ++ contB k (evs W) (evs N)).length ≤ 401000 ∧ 0 < (headB k c e t s ++ contB k (evs W) (evs N)).length) := fun hc => by
  have h1 := contB_le (k := k) (W := evs W) (N := evs N) (fun x hx => by
   obtain ⟨y,hy,rfl⟩ := List.mem_map.1 hx
   exact (hIW y hy).1) (fun x hx => by
   obtain ⟨y,hy,rfl⟩ := List.mem_map.1 hx
   exact (hIN y hy).1) (by rw [zz]; exact hzW) (by rw [zz]; exact hzN) hc
  have h2 := headB_le k c e t s hI.e hI.t
  have h3 : 3 ≤ (headB k c e t s).length := by unfold headB; simp only [List.length_append,length_bitsN,wid15]; omega
  rw [List.length_append]
  omega
 have HSR : Hid ((ccode k (evs W) (evs N) ≠ 0 → SealR k c e t s (evs W) (evs N) (ccode k (evs W) (evs N)) []) ∧ (ccode k (evs W) (evs N) = 0 → ∀ L : List Bool,L = headB k c e t s ++ contB k (evs W) (evs N) → ¬ nb L.length ≤ 4096 → SealR k c e t s (evs W) (evs N) 3 [])) := ⟨fun h2 => sealR_no (ccode_lt _ _ _) h2 (secode_c hc h2),fun h2 L hL hl => sealR_no (by decide) (by decide) (secode_l hc h2 hL hl)⟩
 have HSY : Hid (∀ P,(∀ x ∈ P,x < 256) → ccode k (evs W) (evs N) = 0 → P = frm (pack (headB k c e t s ++ contB k (evs W) (evs N))) → P.length ≤ 4100 → SealR k c e t s (evs W) (evs N) 0 P) := fun P h1 h3 h4 h5 => sealR_yes h1 hc hR h3 h4 h5
 have HQ : Hid ((∀ w',Own w0 w' l → EntsAt w' aw W ∧ EntsAt w' an N) ∧ W.length = nw ∧ N.length = nn ∧ EIn W ∧ EIn N ∧ esz W ≤ 400 ∧ esz N ≤ 400) := ⟨hQ,hW,hN,hIW,hIN,hzW,hzN⟩
 have HIH : Hid (HIn k c e t s) := hI
 have q0 := hB.cell 0
 have q1 := hB.cell 1
 have q2 := hB.cell 2
 have q3 := hB.cell 3
 have q4 := hB.cell 4
 simp [hvs] at q0 q1 q2 q3 q4
 have hn8 : nn ≤ 400 := by unfold esz at hzN; omega
 clear h hB hR hQ hW hN hIW hIN hzW hzN zz hc hI
 unfold hvs at HCH ⊢
 go_enter Tryz.func32,Tryz.ntmps32
 go_wp2_with fail
 refine HCH.out.mono ?_
 rintro x w1 ⟨rfl,hf1⟩
 have h1 := HB.out.quiet hf1
 have HHD : Hid (Calls Tryz.prog 73 #[.agg #[.int .u8 (k : Int),.int .u8 (c : Int),.int .u32 (e : Int),.int .u32 (t : Int),.int .u32 (s : Int)]] _ _) := rhead w0 w1 _ h1 k c e t s HR.out
 have p0 := h1.cell 0
 have p1 := h1.cell 1
 have p2 := h1.cell 2
 have p3 := h1.cell 3
 have p4 := h1.cell 4
 simp [hvs] at p0 p1 p2 p3 p4
 clear hf1 h1 HCH HB q0 q1 q2 q3 q4
 generalize w.heap.size = bh at *
 go_wp2_with fail
 refine HHD.out.mono ?_
 rintro x w2 ⟨v2,rfl,h2⟩
 have r0 := h2.two.cell 0
 simp [hvs] at r0
 clear HHD p0 p1 p2 p3 p4
 have H2 : Hid (Own w0 w2 _) := h2
 clear h2
 by_cases hn0 : nn = 0
 ·subst hn0
  have HC0 : Hid (ccode k (evs W) (evs N) = 0) := by show _ = _; rw [HCC.out,if_pos (by rw [evs_len]; exact HQ.out.2.2.1)]
  have g0 : ¬ (0 : Int) < ((0 : Nat) : Int) := by omega
  obtain ⟨M,hM⟩ : ∃ M,M = headB k c e t s := ⟨_,rfl⟩
  have HM : Hid (M = headB k c e t s ++ contB k (evs W) (evs N)) := by show _ = _; rw [HCB.out,List.append_nil,hM]
  have H4 : Hid (Own w0 w2 (BT v2 M :: Cells bh (hvs k c e t s) 29 :: l)) := by rw [hM]; exact H2.out
  have HL : Hid (Own w0 w2 l) := H2.out.tail.tail
  clear H2 hM
  have hmm := HCL.out HC0.out
  rw [← HM.out] at hmm
  have hml := hmm.1
  have hm0 := hmm.2
  clear hmm
  have HBY : Hid (Calls _ _ _ _ _) := rbytes_any w2 v2 M H4.out.bs (by omega)
  clear H4
  go_wp2_with fail
  refine HBY.out.mono ?_
  rintro x wy ⟨vy,rfl,hr,hf,hk⟩
  have hnb : 0 < nb M.length := by unfold nb; omega
  have hnb2 : nb M.length ≤ 60000 := by unfold nb; omega
  obtain ⟨g,cap,hv,_⟩ := row_shape hr hnb
  subst hv
  by_cases hlg : nb M.length ≤ 4096
  ·have hin := In.of_row hr (by rw [pack_len]) (pack_byte M)
   have HSE : Hid (Calls _ _ _ _ _) := rseal_ok wy (some ⟨g,0,none⟩) cap (nb M.length) (pack M) hin hlg
   have H6 : Hid (Own w0 wy l) := HL.out.quiet hf
   clear hr hf hk HBY hin
   go_wp2_with fail
   refine HSE.out.mono ?_
   rintro x wx ⟨g6,cp6,rfl,hr6,hf6⟩
   have H7 : Hid (Own w0 wx (Row 5 1 (.slice (some ⟨g6,0,none⟩) (nb M.length + 4) cp6) (nb M.length + 4) (vrow (frm (pack M))) :: l)) := H6.out.new (Row 5 1 (.slice (some ⟨g6,0,none⟩) (nb M.length + 4) cp6) (nb M.length + 4) (vrow (frm (pack M)))) (fun j => (Value.slice (some ⟨g6,0,none⟩) (nb M.length + 4) cp6).ownBlock = some j) ⟨row_weak hr6,fun _ => Iff.rfl⟩ hf6 (fun j hj => (hr6.lt j hj).1)
   clear hr6 hf6 HSE H6
   go_wp2
   go_ret2
   refine ⟨_,0,frm (pack M),rfl,HSY.out _ (frm_byte _ (pack_byte M)) HC0.out (by rw [HM.out]) (by rw [length_frm,pack_len]; omega),?_⟩
   have e1 : (frm (pack M)).length = nb M.length + 4 := by rw [length_frm,pack_len]
   rw [e1]
   exact H7.out
  ·have HSE : Hid (Calls _ _ _ _ _) := rseal_long wy (some ⟨g,0,none⟩) cap (nb M.length) (by omega) (by unfold maxLen; omega)
   have H6 : Hid (Own w0 wy l) := HL.out.quiet hf
   clear hr hf hk HBY
   go_wp2_with fail
   refine HSE.out.mono ?_
   rintro x wx ⟨rfl,rfl⟩
   clear HSE
   go_wp2
   go_ret2
   exact ⟨_,3,[],rfl,HSR.out.2 HC0.out _ (by rw [HM.out]) hlg,H6.out.nilRow _ _⟩
 ·have g0 : (0 : Int) < (nn : Int) := by omega
  have H5 : Hid (Own w0 w2 l) := H2.out.tail.tail
  clear H2 hn0
  go_wp2
  go_ret2
  exact ⟨_,4,[],rfl,(by have h8 : ccode k (evs W) (evs N) = 4 := by { rw [HCC.out,evs_len,HQ.out.2.2.1,if_neg (by omega)] }; have h9 := HSR.out.1 (by rw [h8]; decide); rw [h8] at h9; exact h9),H5.out.nilRow _ _⟩
end Go.Proofs.YtgifeckbflkkpaaGreatDoor
