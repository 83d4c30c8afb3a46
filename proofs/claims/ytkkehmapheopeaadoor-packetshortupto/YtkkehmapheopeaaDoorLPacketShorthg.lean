/-
  What hasn't changed takes next to nothing: a step from a snapshot to itself is as short as one of nobody: PacketShort returns true, whatever its arguments of bulk at most 1048576, where the two tables (of the sum and of the components) lie as the program's text lays them, and changes nothing that was there.
-/
import Derived.Test.YtkkehmapheopeaaDoorGdg
import Derived.OpenShut
import Derived.SevenTiedAt
import Derived.Deep.DeepHandedRow
import Derived.Deep.RegionLaw
namespace Go.Proofs.YtkkehmapheopeaaDoor
open Go.ChangeShapes Go.WideShapes Go.ChangeAt Go.RowKit
set_option linter.unusedVariables false
set_option maxRecDepth 100000

def InQ (w : World) (a : Option Addr) (n c : Nat) (Q : List EnE) : Prop := Q.length = n ∧ EntsAt w a Q ∧ EIn Q ∧ esz Q ≤ 1048576 ∧ n ≤ c ∧ c ≤ 9223372036854775807
theorem IsEnts.inQ {w : World} {a : Option Addr} {n c : Nat} {Q : List EnE} (h : IsEnts w a n c Q) (hz : esz Q ≤ 1048576) : InQ w a n c Q := ⟨h.1, h.ents.1, h.ents.2, hz, h.2.1, by have := h.2.2.1; unfold maxLen at this; omega⟩
set_option maxHeartbeats 16000000 in
theorem packetShort_fr (w : World) (ht : Tab w) (htf : Tabf w) (a : Option Addr) (n c : Nat) (Q : List EnE) (hQ : InQ w a n c Q) (tt : Nat) (htt : tt < 4294967296) :
    Calls Tryd.prog 3 #[.slice a n c, .int .u32 (tt : Int)] w fun e w' => e = .returned (.bool true) ∧ Fr Nobody w w' := by
  have HAW : Hid (Calls _ _ _ _ _) := awake20 w htf
  have HT : Hid (Tab w ∧ Tabf w) := ⟨ht, htf⟩
  have HQ : Hid (InQ w a n c Q) := hQ
  clear ht htf hQ
  go_enter Tryd.func3, Tryd.ntmps3
  go_wp2_with fail
  refine HAW.out.mono ?_
  rintro e w1 ⟨rfl, hf1⟩
  have HF1 : Hid (Fr Nobody w w1) := hf1
  have HFW : Hid (Calls _ _ _ _ _) := few_any w1 a n c Q HQ.out.1 (HQ.out.2.1.quiet hf1) HQ.out.2.2.2.1
  clear hf1 HAW
  by_cases h4 : esz Q ≤ 400
  · rw [decide_eq_true h4] at HFW
    go_wp2_with fail
    refine HFW.out.mono ?_
    rintro e w2 ⟨rfl, hf2⟩
    have hF2 := HF1.out.trans hf2
    have HF2 : Hid (Fr Nobody w w2) := hF2
    have HRF : Hid (Calls _ _ _ _ _) := rform_any w2 a n c Q (HQ.out.2.1.quiet hF2) HQ.out.1 HQ.out.2.2.1 (by omega)
    have hfs := fm_lt 0 (evs Q)
    obtain ⟨x, hx⟩ : ∃ x, x = fm 0 (evs Q) := ⟨_, rfl⟩
    rw [← hx] at HRF hfs
    have HX : Hid (x = fm 0 (evs Q)) := hx
    clear hf2 hF2 HFW HF1 hx
    by_cases hx0 : x = 0
    · subst hx0
      have z0 : ((0 : Int) != 0) = false := rfl
      have HFM : Hid (fm 0 (evs Q) = 0) := HX.out.symm
      go_wp2_with fail
      refine HRF.out.mono ?_
      rintro e w3 ⟨rfl, hf3⟩
      have hF3 := HF2.out.trans hf3
      clear hf3 HRF HF2 HX
      by_cases ht0 : tt = 0
      · subst ht0
        have HF3 : Hid (Fr Nobody w w3) := hF3
        clear hF3
        go_wp2
        go_ret
        exact ⟨rfl, HF3.out⟩
      · have e0 : ((tt : Int) == 0) = false := by rw [beq_eq_false_iff_ne]; omega
        obtain ⟨ss, hss⟩ : ∃ ss, tt = ss + 1 := ⟨tt - 1, by omega⟩
        have e1 : ((tt : Int) - 1) % 4294967296 = (ss : Int) := by omega
        have HSS : Hid (tt = ss + 1) := hss
        have h5 := (Own.of_fr hF3).allocC #[.int .u8 2, .int .u8 0, .int .u32 1, .int .u32 (tt : Int), .int .u32 (ss : Int)] 28
        have HO5 : Hid (Own w _ _) := h5
        clear hF3 ht0 hss h5
        go_wp2
        generalize hWg : w3.alloc (.cells #[.int .u8 2, .int .u8 0, .int .u32 1, .int .u32 (tt : Int), .int .u32 (ss : Int)] 28) = W1 at *
        generalize w3.heap.size = bx at *
        clear hWg
        have HTC : Hid (∀ W, Own w W [Cells bx #[.int .u8 2, .int .u8 0, .int .u32 1, .int .u32 (tt : Int), .int .u32 (ss : Int)] 28] → Calls Tryd.prog 9 #[.slice a n c] W fun e w' => ∃ (ao : Option Addr) (cap : Nat), e = .returned (.slice ao n cap) ∧ ∃ M : List EnE, M.length = n ∧ evs M = evs Q ∧ Own w w' (EntsT ao cap M :: [Cells bx #[.int .u8 2, .int .u8 0, .int .u32 1, .int .u32 (tt : Int), .int .u32 (ss : Int)] 28])) := fun W hw => rtwins_any w W _ hw a n c Q (fun w' hw' => HQ.out.2.1.quiet hw'.fr) HQ.out.1 (by omega)
        have HTD : Hid (∀ W m k M, Own w W (EntsT m k M :: [Cells bx #[.int .u8 2, .int .u8 0, .int .u32 1, .int .u32 (tt : Int), .int .u32 (ss : Int)] 28]) → Calls Tryd.prog 9 #[.slice a n c] W fun e w' => ∃ (ao : Option Addr) (cap : Nat), e = .returned (.slice ao n cap) ∧ ∃ M2 : List EnE, M2.length = n ∧ evs M2 = evs Q ∧ Own w w' (EntsT ao cap M2 :: EntsT m k M :: [Cells bx #[.int .u8 2, .int .u8 0, .int .u32 1, .int .u32 (tt : Int), .int .u32 (ss : Int)] 28])) := fun W m k M hw => rtwins_any w W _ hw a n c Q (fun w' hw' => HQ.out.2.1.quiet hw'.fr) HQ.out.1 (by omega)
        have HSE : Hid (∀ W m1 k1 M1 m2 k2 M2, M1.length = n → evs M1 = evs Q → M2.length = n → evs M2 = evs Q → Own w W (EntsT m2 k2 M2 :: EntsT m1 k1 M1 :: [Cells bx #[.int .u8 2, .int .u8 0, .int .u32 1, .int .u32 (tt : Int), .int .u32 (ss : Int)] 28]) → Calls Tryd.prog 8 #[.agg #[.int .u8 2, .int .u8 0, .int .u32 1, .int .u32 (tt : Int), .int .u32 (ss : Int)], .slice m1 n k1, .slice m2 n k2] W fun x w' => ∃ g cp, x = .returned (.tuple #[.slice (some ⟨g, 0, none⟩) 12 cp, .int .i64 0]) ∧ Own w w' (Row 5 1 (.slice (some ⟨g, 0, none⟩) 12 cp) 12 (vrow (frm (pack (stepB tt ss)))) :: EntsT m2 k2 M2 :: EntsT m1 k1 M1 :: [Cells bx #[.int .u8 2, .int .u8 0, .int .u32 1, .int .u32 (tt : Int), .int .u32 (ss : Int)] 28])) := fun W m1 k1 M1 m2 k2 M2 hl1 hv1 hl2 hv2 hw => by
          have q1 := hw.two.entsCap
          have q2 := hw.entsCap
          rw [hl1] at q1
          rw [hl2] at q2
          exact pseal_same w W HT.out.1 HT.out.2 _ hw tt ss HSS.out htt m1 m2 n n k1 k2 M1 M2 (fun w' hw' => ⟨hw'.two.entsAt, hw'.entsAt⟩) hl1 hl2 q1.1 q2.1 q1.2 q2.2 (EIn.of_evs hv1 HQ.out.2.2.1) (EIn.of_evs hv2 HQ.out.2.2.1) (by rw [esz_evs hv1]; omega) (by rw [esz_evs hv2]; omega) (by rw [hv1]; exact HFM.out) (by rw [hv1, hv2])
        have HSN : Hid (∀ W l, Own w W l → Calls Tryd.prog 8 #[.agg #[.int .u8 2, .int .u8 0, .int .u32 1, .int .u32 (tt : Int), .int .u32 (ss : Int)], .slice none 0 0, .slice none 0 0] W fun x w' => ∃ g cp, x = .returned (.tuple #[.slice (some ⟨g, 0, none⟩) 12 cp, .int .i64 0]) ∧ Own w w' (Row 5 1 (.slice (some ⟨g, 0, none⟩) 12 cp) 12 (vrow (frm (pack (stepB tt ss)))) :: l)) := fun W l hw => pseal_same w W HT.out.1 HT.out.2 _ hw tt ss HSS.out htt none none 0 0 0 0 [] [] (fun w' hw' => ⟨EntsAt.nil _ _, EntsAt.nil _ _⟩) rfl rfl (Nat.le_refl _) (Nat.le_refl _) (by decide) (by decide) (fun x hx => by cases hx) (fun x hx => by cases hx) (by decide) (by decide) rfl rfl
        have HLE : Hid ((frm (pack (stepB tt ss))).length = 12) := by show _ = _; rw [length_frm, pack_len, stepB_len tt ss HSS.out]
        have p0 := HO5.out.cell 0
        have p1 := HO5.out.cell 1
        have p2 := HO5.out.cell 2
        have p3 := HO5.out.cell 3
        have p4 := HO5.out.cell 4
        simp at p0 p1 p2 p3 p4
        have O1 := HO5.out.drew
        clear HO5 e1
        go_region_held3 (fun w' => w'.cell? ⟨bx, 0, none⟩ = some (.int .u8 2) ∧ w'.cell? ⟨bx, 1, none⟩ = some (.int .u8 0) ∧ w'.cell? ⟨bx, 2, none⟩ = some (.int .u32 1) ∧ w'.cell? ⟨bx, 3, none⟩ = some (.int .u32 (tt : Int)) ∧ w'.cell? ⟨bx, 4, none⟩ = some (.int .u32 (ss : Int))) (go_keep)
          (first
            | (go_at_call 9; with_reducible refine (HTC.out _ O1).mono ?_; rintro e w6 ⟨m1, k1, rfl, M1, hl1, hv1, O6⟩
               have u0 := (Own.two O6).cell 0
               have u1 := (Own.two O6).cell 1
               have u2 := (Own.two O6).cell 2
               have u3 := (Own.two O6).cell 3
               have u4 := (Own.two O6).cell 4
               simp at u0 u1 u2 u3 u4)
            | (go_at_call 9; with_reducible refine (HTD.out _ m1 k1 M1 O6).mono ?_; rintro e w7 ⟨m2, k2, rfl, M2, hl2, hv2, O7⟩
               have u0 := (Own.three O7).cell 0
               have u1 := (Own.three O7).cell 1
               have u2 := (Own.three O7).cell 2
               have u3 := (Own.three O7).cell 3
               have u4 := (Own.three O7).cell 4
               simp at u0 u1 u2 u3 u4)
            | (go_at_call 8; with_reducible refine (HSE.out _ m1 k1 M1 m2 k2 M2 hl1 hv1 hl2 hv2 O7).mono ?_; rintro e w8 ⟨g1, cp1, rfl, O8⟩
               have u0 := (Own.four O8).cell 0
               have u1 := (Own.four O8).cell 1
               have u2 := (Own.four O8).cell 2
               have u3 := (Own.four O8).cell 3
               have u4 := (Own.four O8).cell 4
               simp at u0 u1 u2 u3 u4))
        have HS2 : Hid (Calls _ _ _ _ _) := HSN.out w8 _ O8
        clear HTC HTD HSE HSN O1 O6 O7 O8 p0 p1 p2 p3 p4 hl1 hv1 hl2 hv2
        go_wp2_with fail
        refine HS2.out.mono ?_
        rintro e w9 ⟨g2, cp2, rfl, O9⟩
        have HSM : Hid (Calls _ _ _ _ _) := same_any w9 (.slice (some ⟨g1, 0, none⟩) 12 cp1) (.slice (some ⟨g2, 0, none⟩) 12 cp2) (frm (pack (stepB tt ss))) (by rw [HLE.out]; exact Src.of_row O9.two.row) (by rw [HLE.out]; exact Src.of_row O9.row)
        have HF9 : Hid (Fr Nobody w w9) := O9.fr
        clear O9 HS2 u0 u1 u2 u3 u4
        go_wp2_with fail
        refine HSM.out.mono ?_
        rintro e w10 ⟨rfl, rfl⟩
        clear HSM
        go_wp2
        go_ret
        exact ⟨rfl, HF9.out⟩
    · have hx1 : ((x : Int) != 0) = true := by simpa using hx0
      clear hx0
      go_wp2_with fail
      refine HRF.out.mono ?_
      rintro e w3 ⟨rfl, hf3⟩
      have HF3 : Hid (Fr Nobody w w3) := HF2.out.trans hf3
      clear hf3 HRF HF2
      go_wp2
      go_ret
      exact ⟨rfl, HF3.out⟩
  · rw [decide_eq_false h4] at HFW
    go_wp2_with fail
    refine HFW.out.mono ?_
    rintro e w2 ⟨rfl, hf2⟩
    have HF2 : Hid (Fr Nobody w w2) := HF1.out.trans hf2
    clear hf2 HFW HF1
    go_wp2
    go_ret
    exact ⟨rfl, HF2.out⟩
theorem packetShort_walk (w : World) (ht : Tab w ∧ Tabf w) (a0 : Option Addr) (len0 cap0 : Nat) (z0 : List EnE) (w0 : IsEnts w a0 len0 cap0 z0) (hb0 : esz z0 ≤ 1048576) (a1 : Int) (w1 : (Lit.int .u32 a1).wf = true) :
    Calls Tryd.prog 3 #[.slice a0 len0 cap0, .int .u32 a1] w fun e w' => e = .returned (.bool true) ∧ Below w.heap.size w w' := by
  obtain ⟨tt, rfl, htt⟩ := u32_rng w1
  refine (packetShort_fr w ht.1 ht.2 a0 len0 cap0 z0 (w0.inQ hb0) tt htt).mono ?_
  rintro e w' ⟨rfl, hf⟩
  exact ⟨rfl, hf.below (Nat.le_refl _) (fun _ _ h => h)⟩
end Go.Proofs.YtkkehmapheopeaaDoor
