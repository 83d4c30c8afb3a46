/-
  From every snapshot to every other one there is just one delta, and it leads there; what is no snapshot is refused; both come back untouched: DiffThere returns true, whatever its arguments of bulk at most 1048576, where the table of the components lies as the program's text lays it, and changes nothing that was there.
-/
import Derived.Test.YtgflloebebggnaaDoorEodg
import Derived.Test.YtgflloebebggnaaDoorEnj
import Derived.OpenShut
import Derived.SevenTiedAt
import Derived.Deep.DeepHandedRow
import Derived.Deep.RegionLaw
namespace Go.Proofs.YtgflloebebggnaaDoor
open Go.ChangeShapes Go.WideShapes Go.ChangeAt Go.RowKit
set_option linter.unusedVariables false
set_option maxRecDepth 100000

theorem dlIn_v {W N : List EnE} {d : DlE} (h : d.v = dlv (evs W) (evs N)) (hW : esz W ≤ 200000) (hN : esz N ≤ 450000) : DlIn d := by
  by_cases hc : dcode (evs W) (evs N) = 0
  · unfold dlv at h
    rw [if_pos hc] at h
    exact dlIn_of h hW hN
  · unfold dlv at h
    rw [if_neg hc] at h
    exact dlIn_of (W := []) (N := []) (by rw [h]; simp [evs, btw]) (by decide) (by decide)
theorem empty_iff {P N : List En} (hP : Snap P) (hN : Snap N) : (btw P N).empty = decide (P = N) := by
  by_cases h : P = N
  · subst h
    rw [btw_self P hP, decide_eq_true rfl]; rfl
  · rw [decide_eq_false h]
    cases he : (btw P N).empty with
    | false => rfl
    | true =>
      exfalso
      unfold Dl.empty at he
      simp [List.isEmpty_iff] at he
      exact h (btw_empty hP hN he.1.1 he.1.2 he.2)
def InQ (w : World) (a : Option Addr) (n c : Nat) (Q : List EnE) : Prop := Q.length = n ∧ EntsAt w a Q ∧ EIn Q ∧ esz Q ≤ 1048576 ∧ n ≤ c ∧ c ≤ 9223372036854775807
theorem IsEnts.inQ {w : World} {a : Option Addr} {n c : Nat} {Q : List EnE} (h : IsEnts w a n c Q) (hz : esz Q ≤ 1048576) : InQ w a n c Q := ⟨h.1, h.ents.1, h.ents.2, hz, h.2.1, by have := h.2.2.1; unfold maxLen at this; omega⟩
set_option maxHeartbeats 32000000 in
theorem diffThere_fr (w : World) (ht : Tab w) (a1 : Option Addr) (n1 c1 : Nat) (Q1 : List EnE) (hQ1 : InQ w a1 n1 c1 Q1) (a2 : Option Addr) (n2 c2 : Nat) (Q2 : List EnE) (hQ2 : InQ w a2 n2 c2 Q2) :
    Calls Tryd.prog 3 #[.slice a1 n1 c1, .slice a2 n2 c2] w fun e w' => e = .returned (.bool true) ∧ Fr Nobody w w' := by
  have HAW : Hid (Calls _ _ _ _ _) := awake19 w ht
  have HT : Hid (Tab w) := ht
  have HQ1 : Hid (InQ w a1 n1 c1 Q1) := hQ1
  have HQ2 : Hid (InQ w a2 n2 c2 Q2) := hQ2
  clear ht hQ1 hQ2
  go_enter Tryd.func3, Tryd.ntmps3
  go_wp2_with fail
  refine HAW.out.mono ?_
  rintro e w1 ⟨rfl, hf1⟩
  have HF1 : Hid (Fr Nobody w w1) := hf1
  have HFW : Hid (Calls _ _ _ _ _) := few_any w1 a1 n1 c1 Q1 HQ1.out.1 (HQ1.out.2.1.quiet hf1) HQ1.out.2.2.2.1
  clear hf1 HAW
  by_cases h4 : esz Q1 ≤ 400
  · rw [decide_eq_true h4] at HFW
    go_wp2_with fail
    refine HFW.out.mono ?_
    rintro e w2 ⟨rfl, hf2⟩
    have hF2 := HF1.out.trans hf2
    have HF2 : Hid (Fr Nobody w w2) := hF2
    have HFX : Hid (Calls _ _ _ _ _) := few_any w2 a2 n2 c2 Q2 HQ2.out.1 (HQ2.out.2.1.quiet hF2) HQ2.out.2.2.2.1
    clear hf2 hF2 HFW HF1
    by_cases h5 : esz Q2 ≤ 400
    · rw [decide_eq_true h5] at HFX
      go_wp2_with fail
      refine HFX.out.mono ?_
      rintro e w3 ⟨rfl, hf3⟩
      have hF3 := HF2.out.trans hf3
      have HTA : Hid (Calls _ _ _ _ _) := rtwins_any w w3 [] (Own.of_fr hF3) a1 n1 c1 Q1 (fun w' hw => HQ1.out.2.1.quiet hw.fr) HQ1.out.1 (by omega)
      clear hf3 hF3 HFX HF2
      go_wp2_with fail
      refine HTA.out.mono ?_
      rintro e w4 ⟨m1, k1, rfl, M1, hl1, hv1, h6⟩
      have HTB : Hid (Calls _ _ _ _ _) := rtwins_any w w4 _ h6 a2 n2 c2 Q2 (fun w' hw => HQ2.out.2.1.quiet hw.fr) HQ2.out.1 (by omega)
      have HV1 : Hid (M1.length = n1 ∧ evs M1 = evs Q1) := ⟨hl1, hv1⟩
      clear h6 HTA hl1 hv1
      go_wp2_with fail
      refine HTB.out.mono ?_
      rintro e w5 ⟨m2, k2, rfl, M2, hl2, hv2, h7⟩
      have q1 := h7.two.entsCap
      have q2 := h7.entsCap
      rw [HV1.out.1] at q1
      rw [hl2] at q2
      have hz1 : esz M1 ≤ 400 := by rw [esz_evs HV1.out.2]; exact h4
      have hz2 : esz M2 ≤ 400 := by rw [esz_evs hv2]; exact h5
      have hi2 : EIn M2 := EIn.of_evs hv2 HQ2.out.2.2.1
      have HDF : Hid (Calls _ _ _ _ _) := diff_any w w5 HT.out _ h7 m1 m2 n1 n2 k1 k2 M1 M2 (fun w' hw => ⟨hw.two.entsAt, hw.entsAt⟩) HV1.out.1 hl2 q1.1 q2.1 q1.2 q2.2 (EIn.of_evs HV1.out.2 HQ1.out.2.2.1) hi2 (by omega) (by omega)
      rw [HV1.out.2, hv2] at HDF
      have HLN : Hid (M1.length = n1 ∧ M2.length = n2) := ⟨HV1.out.1, hl2⟩
      have HSZ : Hid (esz M1 ≤ 400 ∧ esz M2 ≤ 400 ∧ EIn M2 ∧ evs M1 = evs Q1 ∧ evs M2 = evs Q2) := ⟨hz1, hz2, hi2, HV1.out.2, hv2⟩
      obtain ⟨x, hx⟩ : ∃ x, x = dcode (evs Q1) (evs Q2) := ⟨_, rfl⟩
      rw [← hx] at HDF
      have hxl : x < 4294967296 := by
        rw [hx]; unfold dcode
        split
        · exact fm_lt 0 _
        · exact fm_lt 0 _
      have HX : Hid (x = dcode (evs Q1) (evs Q2)) := hx
      clear h7 HTB hl2 hv2 q1 q2 hz1 hz2 hi2 hx HV1
      go_wp2_with fail
      refine HDF.out.mono ?_
      rintro e w6 ⟨d, rfl, hdv, h8⟩
      have h9 : Own w (w6.alloc (.cells #[.slice d.ga d.G.length d.gc, .slice d.ma d.M.length d.mc, .slice d.ha d.H.length d.hc] 29)) (Cells w6.heap.size #[.slice d.ga d.G.length d.gc, .slice d.ma d.M.length d.mc, .slice d.ha d.H.length d.hc] 29 :: (d.things ++ [EntsT m2 k2 M2, EntsT m1 k1 M1])) := h8.allocC _ _
      have HRD : Hid (Calls _ _ _ _ _) := rdiff_any w _ _ h9 a1 a2 n1 n2 c1 c2 Q1 Q2 (fun w' hw => ⟨HQ1.out.2.1.quiet hw.fr, HQ2.out.2.1.quiet hw.fr⟩) HQ1.out.1 HQ2.out.1 HQ1.out.2.2.1 HQ2.out.2.2.1 (by omega) (by omega)
      rw [← HX.out] at HRD
      have HDV : Hid (d.v = dlv (evs Q1) (evs Q2)) := hdv
      have zx : ((x : Int) != (x : Int)) = false := by simp
      clear h8 h9 hdv HDF
      unfold DlE.vs
      go_wp2_with fail
      refine HRD.out.mono ?_
      rintro e w7 ⟨d2, rfl, hd2, h10⟩
      generalize w6.heap.size = b7 at *
      have h11 := h10.allocC #[.slice d2.ga d2.G.length d2.gc, .slice d2.ma d2.M.length d2.mc, .slice d2.ha d2.H.length d2.hc] 29
      have hdB : DlAt _ d2 := Own.dlAt h11.tail
      have hdA : DlAt _ d := Own.dlAt (Own.dropA h11.tail).tail
      have HS : Hid (Calls _ _ _ _ _) := rsame_any _ d d2 hdA hdB (dlIn_v HDV.out (by omega) (by omega)) (dlIn_v hd2 (by omega) (by omega))
      rw [HDV.out, hd2, decide_eq_true rfl] at HS
      have q0 := h11.cell 0
      have q1 := h11.cell 1
      have q2 := h11.cell 2
      have r0 := (Own.dropA h11.tail).cell 0
      have r1 := (Own.dropA h11.tail).cell 1
      have r2 := (Own.dropA h11.tail).cell 2
      simp at q0 q1 q2 r0 r1 r2
      have HSV : Hid (Own w _ _) := h11
      unfold DlE.vs at HS
      clear h10 h11 hdB hdA hd2 HRD
      unfold DlE.vs
      go_wp2_with fail
      refine HS.out.mono ?_
      rintro e w8 ⟨rfl, hf8⟩
      have hO8 := (Own.dropA (HSV.out.quiet hf8).tail)
      have HSA : Hid (Calls _ _ _ _ _) := sameEnts_any w8 m1 a1 n1 n1 k1 c1 M1 Q1 ((Own.dropA hO8.tail).two.entsAt) (HQ1.out.2.1.quiet hO8.fr) HLN.out.1 HQ1.out.1 (by have := HSZ.out.1; omega) (by omega)
      rw [HSZ.out.2.2.2.1, decide_eq_true rfl] at HSA
      have HO8 : Hid (Own w w8 _) := hO8
      clear hf8 hO8 HS HSV q0 q1 q2 r0 r1 r2
      go_wp2_with fail
      refine HSA.out.mono ?_
      rintro e w9 ⟨rfl, hf9⟩
      have hO9 := HO8.out.quiet hf9
      have HSB : Hid (Calls _ _ _ _ _) := sameEnts_any w9 m2 a2 n2 n2 k2 c2 M2 Q2 ((Own.dropA hO9.tail).entsAt) (HQ2.out.2.1.quiet hO9.fr) HLN.out.2 HQ2.out.1 (by have := HSZ.out.2.1; omega) (by omega)
      rw [HSZ.out.2.2.2.2, decide_eq_true rfl] at HSB
      have HO9 : Hid (Own w w9 _) := hO9
      clear hf9 hO9 HSA HO8
      go_wp2_with fail
      refine HSB.out.mono ?_
      rintro e w10 ⟨rfl, hf10⟩
      have hO10 := HO9.out.quiet hf10
      clear hf10 HSB HO9
      by_cases hx0 : x = 0
      · subst hx0
        have z0 : ((0 : Int) != 0) = false := rfl
        have hdc : fm 0 (evs Q1) = 0 ∧ fm 0 (evs Q2) = 0 := by
          have h := HX.out
          unfold dcode at h
          split at h
          · rename_i h1; exact absurd h.symm h1
          · rename_i h1; exact ⟨Decidable.not_not.1 h1, h.symm⟩
        have HFM : Hid (Snap (evs Q1) ∧ Snap (evs Q2)) := ⟨Snap.of hdc.1, Snap.of hdc.2⟩
        have hdv2 : d.v = btw (evs Q1) (evs Q2) := by rw [HDV.out]; exact (dlv_of hdc.1 hdc.2).2
        have HOK : Hid (DlOk d) := dlOk_of (W := M1) (N := M2) hO10.tail (by rw [hdv2, HSZ.out.2.2.2.1, HSZ.out.2.2.2.2]) HSZ.out.2.2.1 (by have := HSZ.out.1; omega) (by have := HSZ.out.2.1; omega)
        have qc := (Own.dropA hO10.tail).two.entsCap
        rw [HLN.out.1] at qc
        have HPA : Hid (Calls _ _ _ _ _) := patch_to w w10 HT.out _ hO10 m1 n1 k1 M1 (evs Q1) (evs Q2) d (fun w' hw => ⟨(Own.dropA hw.tail).two.entsAt, hw.tail.dlAt⟩) HLN.out.1 qc.1 qc.2 (EIn.of_evs HSZ.out.2.2.2.1 HQ1.out.2.2.1) HSZ.out.1 HOK.out HSZ.out.2.2.2.1 hdc.1 hdc.2 hdv2
        have r0 := hO10.cell 0
        have r1 := hO10.cell 1
        have r2 := hO10.cell 2
        simp at r0 r1 r2
        have HEM : Hid (d.v.empty = decide (evs Q1 = evs Q2)) := by show _ = _; rw [hdv2]; exact empty_iff HFM.out.1 HFM.out.2
        clear hO10 qc hdc hdv2
        go_wp2_with fail
        refine HPA.out.mono ?_
        rintro e w11 ⟨ao, cap, R, rfl, hR, hiR, hO11⟩
        have hzR : esz R ≤ 400 := by rw [esz_evs hR]; exact h5
        have HSC : Hid (Calls _ _ _ _ _) := sameEnts_any w11 ao a2 R.length n2 cap c2 R Q2 hO11.entsAt (HQ2.out.2.1.quiet hO11.fr) rfl HQ2.out.1 (by omega) (by omega)
        rw [hR, decide_eq_true rfl] at HSC
        have HO11 : Hid (Own w w11 _) := hO11
        have e0 : ((0 : Int) == 0) = true := rfl
        clear hO11 hR hiR HPA r0 r1 r2
        go_wp2_with fail
        refine HSC.out.mono ?_
        rintro e w12 ⟨rfl, hf12⟩
        have hO12 := (HO11.out.quiet hf12).tail
        have r0 := hO12.cell 0
        have r1 := hO12.cell 1
        have r2 := hO12.cell 2
        simp at r0 r1 r2
        have HEE : Hid (Calls _ _ _ _ _) := empty_any w12 d (by have := HOK.out.zg; omega) (by have := HOK.out.zm; unfold esz at this; omega) (by have := HOK.out.zh; omega)
        rw [HEM.out] at HEE
        unfold DlE.vs at HEE
        have HSD : Hid (∀ w', Fr Nobody w12 w' → Calls Tryd.prog 12 #[.slice a1 n1 c1, .slice a2 n2 c2] w' fun e w'' => e = .returned (.bool (decide (evs Q1 = evs Q2))) ∧ Fr Nobody w' w'') := fun w' hf => sameEnts_any w' a1 a2 n1 n2 c1 c2 Q1 Q2 (HQ1.out.2.1.quiet (hO12.fr.trans hf)) (HQ2.out.2.1.quiet (hO12.fr.trans hf)) HQ1.out.1 HQ2.out.1 (by omega) (by omega)
        have HF12 : Hid (Fr Nobody w w12) := hO12.fr
        generalize decide (evs Q1 = evs Q2) = rr at *
        clear hO12 hf12 HO11 HSC HEM
        go_wp2_with fail
        refine HEE.out.mono ?_
        rintro e w13 ⟨rfl, hf13⟩
        have HSE : Hid (Calls _ _ _ _ _) := HSD.out w13 hf13
        have HF13 : Hid (Fr Nobody w w13) := HF12.out.trans hf13
        clear hf13 HEE HSD HF12 r0 r1 r2
        go_wp2_with fail
        refine HSE.out.mono ?_
        rintro e w14 ⟨rfl, hf14⟩
        have HF14 : Hid (Fr Nobody w w14) := HF13.out.trans hf14
        clear hf14 HSE HF13
        have er : (rr == rr) = true := by simp
        go_wp2
        go_ret
        exact ⟨by simp, HF14.out⟩
      · have hx1 : ((x : Int) != 0) = true := by simpa using hx0
        have HF : Hid (Fr Nobody w w10) := hO10.fr
        clear hO10 hx0
        go_wp2
        go_ret
        exact ⟨rfl, HF.out⟩
    · rw [decide_eq_false h5] at HFX
      go_wp2_with fail
      refine HFX.out.mono ?_
      rintro e w3 ⟨rfl, hf3⟩
      have HF3 : Hid (Fr Nobody w w3) := HF2.out.trans hf3
      clear hf3 HFX HF2
      go_wp2
      go_ret
      exact ⟨rfl, HF3.out⟩
  · rw [decide_eq_false h4] at HFW
    go_wp2_with fail
    refine HFW.out.mono ?_
    rintro e w2 ⟨rfl, hf2⟩
    have HF2 : Hid (Fr Nobody w w2) := HF1.out.trans hf2
    clear hf2 HFW HF1
    go_wp2
    go_ret
    exact ⟨rfl, HF2.out⟩
theorem diffThere_walk (w : World) (ht : Tab w) (a0 : Option Addr) (len0 cap0 : Nat) (z0 : List EnE) (w0 : IsEnts w a0 len0 cap0 z0) (hb0 : esz z0 ≤ 1048576) (a1 : Option Addr) (len1 cap1 : Nat) (z1 : List EnE) (w1 : IsEnts w a1 len1 cap1 z1) (hb1 : esz z1 ≤ 1048576) :
    Calls Tryd.prog 3 #[.slice a0 len0 cap0, .slice a1 len1 cap1] w fun e w' => e = .returned (.bool true) ∧ Below w.heap.size w w' := by
  refine (diffThere_fr w ht a0 len0 cap0 z0 (w0.inQ hb0) a1 len1 cap1 z1 (w1.inQ hb1)).mono ?_
  rintro e w' ⟨rfl, hf⟩
  exact ⟨rfl, hf.below (Nat.le_refl _) (fun _ _ h => h)⟩
end Go.Proofs.YtgflloebebggnaaDoor
