/-
  A delta that is put upon another snapshot than its own leads to one to which it is the delta from there, too, or is none there: DiffWrong returns true, whatever its arguments of bulk at most 1048576, where the table of the components lies as the program's text lays it, and changes nothing that was there.
-/
import Derived.Test.YtlkfmppckhjapaaDoorEnx
import Derived.Test.YtlkfmppckhjapaaDoorEnj
import Derived.OpenShut
import Derived.SevenTiedAt
import Derived.Deep.DeepHandedRow
import Derived.Deep.RegionLaw
namespace Go.Proofs.YtlkfmppckhjapaaDoor
open Go.ChangeShapes Go.WideShapes Go.ChangeAt Go.RowKit
set_option linter.unusedVariables false
set_option maxRecDepth 100000

/-- a snapshot, and not too long -/
def Gd (Q : List EnE) : Prop := esz Q ≤ 400 ∧ fm 0 (evs Q) = 0
def Gds (k : Nat) (Q1 Q2 Q3 : List EnE) : Prop := (0 < k → Gd Q1) ∧ (1 < k → Gd Q2) ∧ (2 < k → Gd Q3)
def InQ (w : World) (a : Option Addr) (n c : Nat) (Q : List EnE) : Prop := Q.length = n ∧ EntsAt w a Q ∧ EIn Q ∧ esz Q ≤ 1048576 ∧ n ≤ c ∧ c ≤ 9223372036854775807
theorem IsEnts.inQ {w : World} {a : Option Addr} {n c : Nat} {Q : List EnE} (h : IsEnts w a n c Q) (hz : esz Q ≤ 1048576) : InQ w a n c Q := ⟨h.1, h.ents.1, h.ents.2, hz, h.2.1, by have := h.2.2.1; unfold maxLen at this; omega⟩
set_option maxHeartbeats 32000000 in
theorem diffWrong_fr (w : World) (ht : Tab w) (a1 : Option Addr) (n1 c1 : Nat) (Q1 : List EnE) (hQ1 : InQ w a1 n1 c1 Q1) (a2 : Option Addr) (n2 c2 : Nat) (Q2 : List EnE) (hQ2 : InQ w a2 n2 c2 Q2) (a3 : Option Addr) (n3 c3 : Nat) (Q3 : List EnE) (hQ3 : InQ w a3 n3 c3 Q3) :
    Calls Tryd.prog 6 #[.slice a1 n1 c1, .slice a2 n2 c2, .slice a3 n3 c3] w fun e w' => e = .returned (.bool true) ∧ Fr Nobody w w' := by
  have HAW : Hid (Calls _ _ _ _ _) := awake19 w ht
  have HT : Hid (Tab w) := ht
  have HQ1 : Hid (InQ w a1 n1 c1 Q1) := hQ1
  have HQ2 : Hid (InQ w a2 n2 c2 Q2) := hQ2
  have HQ3 : Hid (InQ w a3 n3 c3 Q3) := hQ3
  have HK : Hid (∀ k : Nat, k < 3 → ∃ (ak : Option Addr) (nk ck : Nat) (Qk : List EnE), (#[.slice a1 n1 c1, .slice a2 n2 c2, .slice a3 n3 c3] : Array Value)[k]? = some (.slice ak nk ck) ∧ InQ w ak nk ck Qk ∧ (Gd Qk → Gds k Q1 Q2 Q3 → Gds (k + 1) Q1 Q2 Q3)) := fun k hk => by
    match k, hk with
    | 0, _ => exact ⟨a1, n1, c1, Q1, rfl, hQ1, fun h _ => ⟨fun _ => h, fun h => by omega, fun h => by omega⟩⟩
    | 1, _ => exact ⟨a2, n2, c2, Q2, rfl, hQ2, fun h g => ⟨fun _ => g.1 (by omega), fun _ => h, fun h => by omega⟩⟩
    | 2, _ => exact ⟨a3, n3, c3, Q3, rfl, hQ3, fun h g => ⟨fun _ => g.1 (by omega), fun _ => g.2.1 (by omega), fun _ => h⟩⟩
  clear ht hQ1 hQ2 hQ3
  go_enter Tryd.func6, Tryd.ntmps6
  go_wp2_with fail
  refine HAW.out.mono ?_
  rintro e w1 ⟨rfl, hf1⟩
  have H1 : Hid (Own w _ _) := (Own.of_fr hf1).allocC #[.slice a1 n1 c1, .slice a2 n2 c2, .slice a3 n3 c3] 22
  clear hf1 HAW
  go_wp2
  generalize hWg : w1.alloc (.cells #[.slice a1 n1 c1, .slice a2 n2 c2, .slice a3 n3 c3] 22) = W1 at *
  generalize w1.heap.size = b1 at *
  clear hWg
  go_loopw [8, 22] (fun cl cc wr => ∃ k : Nat, k ≤ 3 ∧ cc = .int .i64 (k : Int) ∧ Own w wr [Cells b1 #[.slice a1 n1 c1, .slice a2 n2 c2, .slice a3 n3 c3] 22] ∧ Gds k Q1 Q2 Q3) (fun cl cc _ => 3 - (intOf cc).toNat)
  case atStart => exact ⟨0, by omega, rfl, H1.out, ⟨fun h => by omega, fun h => by omega, fun h => by omega⟩⟩
  case round =>
    obtain ⟨k, hk, rfl, hO, hG⟩ := hrel
    clear H1
    by_cases hlt : k < 3
    · obtain ⟨ak, nk, ck, Qk, hc, hQk, hst⟩ := HK.out k hlt
      have r0 := hO.cell k
      rw [hc] at r0
      have hlt' : (k : Int) < 3 := by omega
      have HO : Hid (Own w wr [Cells b1 #[.slice a1 n1 c1, .slice a2 n2 c2, .slice a3 n3 c3] 22]) := hO
      have HG : Hid (Gds k Q1 Q2 Q3) := hG
      have HST : Hid (Gd Qk → Gds k Q1 Q2 Q3 → Gds (k + 1) Q1 Q2 Q3) := hst
      have HFW : Hid (Calls _ _ _ _ _) := few_any wr ak nk ck Qk hQk.1 (hQk.2.1.quiet hO.fr) hQk.2.2.2.1
      have HIQ : Hid (InQ w ak nk ck Qk) := hQk
      clear hO hG hst hc hQk
      by_cases h4 : esz Qk ≤ 400
      · rw [decide_eq_true h4] at HFW
        go_wp2_with fail
        refine HFW.out.mono ?_
        rintro e w2 ⟨rfl, hf2⟩
        have hO2 := HO.out.quiet hf2
        have HRF : Hid (Calls _ _ _ _ _) := rform_any w2 ak nk ck Qk (HIQ.out.2.1.quiet hO2.fr) HIQ.out.1 HIQ.out.2.2.1 (by omega)
        have HO2 : Hid (Own w w2 [Cells b1 #[.slice a1 n1 c1, .slice a2 n2 c2, .slice a3 n3 c3] 22]) := hO2
        have hfs := fm_lt 0 (evs Qk)
        obtain ⟨x, hx⟩ : ∃ x, x = fm 0 (evs Qk) := ⟨_, rfl⟩
        rw [← hx] at HRF hfs
        have HX : Hid (x = fm 0 (evs Qk)) := hx
        clear hO2 hf2 HFW HO hx
        by_cases hx0 : x = 0
        · subst hx0
          have HN : Hid (Gds (k + 1) Q1 Q2 Q3) := HST.out ⟨h4, HX.out.symm⟩ HG.out
          have z0 : ((0 : Int) != 0) = false := rfl
          go_wp2_with fail
          refine HRF.out.mono ?_
          rintro e w3 ⟨rfl, hf3⟩
          have HO3 : Hid (Own w w3 [Cells b1 #[.slice a1 n1 c1, .slice a2 n2 c2, .slice a3 n3 c3] 22]) := HO2.out.quiet hf3
          clear hf3 HRF HO2
          go_wp2
          go_roundw
          case rel => exact ⟨k + 1, by omega, by go_num, HO3.out, HN.out⟩
          case measure => simp [intOf]; omega
        · have hx1 : ((x : Int) != 0) = true := by simpa using hx0
          clear hx0
          go_wp2_with fail
          refine HRF.out.mono ?_
          rintro e w3 ⟨rfl, hf3⟩
          have HF3 : Hid (Fr Nobody w w3) := HO2.out.fr.trans hf3
          clear hf3 HRF HO2
          go_wp2
          go_ret
          exact ⟨rfl, HF3.out⟩
      · rw [decide_eq_false h4] at HFW
        go_wp2_with fail
        refine HFW.out.mono ?_
        rintro e w2 ⟨rfl, hf2⟩
        have HF2 : Hid (Fr Nobody w w2) := HO.out.fr.trans hf2
        clear hf2 HFW HO
        go_wp2
        go_ret
        exact ⟨rfl, HF2.out⟩
    · have hk3 : k = 3 := by omega
      subst hk3
      have HG1 : Hid (Gd Q1) := hG.1 (by omega)
      have HG2 : Hid (Gd Q2) := hG.2.1 (by omega)
      have HG3 : Hid (Gd Q3) := hG.2.2 (by omega)
      have hlt' : ¬ (3 : Int) < 3 := by omega
      have HTA : Hid (Calls _ _ _ _ _) := rtwins_any w wr [] (Own.of_fr hO.fr) a1 n1 c1 Q1 (fun w' hw => HQ1.out.2.1.quiet hw.fr) HQ1.out.1 (by have := HG1.out.1; omega)
      clear hG HK hk hlt hO
      go_wp2_with fail
      refine HTA.out.mono ?_
      rintro e w2 ⟨m1, k1, rfl, M1, hl1, hv1, h2⟩
      have HTB : Hid (Calls _ _ _ _ _) := rtwins_any w w2 _ h2 a2 n2 c2 Q2 (fun w' hw => HQ2.out.2.1.quiet hw.fr) HQ2.out.1 (by have := HG2.out.1; omega)
      have HV1 : Hid (M1.length = n1 ∧ evs M1 = evs Q1) := ⟨hl1, hv1⟩
      clear h2 HTA hl1 hv1
      go_wp2_with fail
      refine HTB.out.mono ?_
      rintro e w3 ⟨m2, k2, rfl, M2, hl2, hv2, h3⟩
      have HV2 : Hid (M2.length = n2 ∧ evs M2 = evs Q2) := ⟨hl2, hv2⟩
      have hq1 := h3.two.entsCap
      have hq2 := h3.entsCap
      rw [HV1.out.1] at hq1
      rw [HV2.out.1] at hq2
      have hz1 : esz M1 ≤ 400 := by rw [esz_evs HV1.out.2]; exact HG1.out.1
      have hz2 : esz M2 ≤ 400 := by rw [esz_evs HV2.out.2]; exact HG2.out.1
      have hi1 : EIn M1 := EIn.of_evs HV1.out.2 HQ1.out.2.2.1
      have hi2 : EIn M2 := EIn.of_evs HV2.out.2 HQ2.out.2.2.1
      have HDF : Hid (Calls _ _ _ _ _) := diff_any w w3 HT.out _ h3 m1 m2 n1 n2 k1 k2 M1 M2 (fun w' hw => ⟨hw.two.entsAt, hw.entsAt⟩) HV1.out.1 hl2 hq1.1 hq2.1 hq1.2 hq2.2 hi1 hi2 (by omega) (by omega)
      have hdc := dlv_of (W := evs M1) (N := evs M2) (by rw [HV1.out.2]; exact HG1.out.2) (by rw [HV2.out.2]; exact HG2.out.2)
      rw [hdc.1, hdc.2] at HDF
      have HSZ : Hid (esz M1 ≤ 400 ∧ esz M2 ≤ 400 ∧ EIn M2) := ⟨hz1, hz2, hi2⟩
      clear h3 HTB hl2 hv2 hq1 hq2 hz1 hz2 hi1 hi2 hdc
      go_wp2_with fail
      refine HDF.out.mono ?_
      rintro e w4 ⟨d, rfl, hdv, h4⟩
      have hok := dlOk_of h4 hdv HSZ.out.2.2 (by have := HSZ.out.1; omega) (by have := HSZ.out.2.1; omega)
      have HOK : Hid (DlOk d) := hok
      have HDV : Hid (d.v = btw (evs Q1) (evs Q2)) := by show _ = _; rw [hdv, HV1.out.2, HV2.out.2]
      have h5 := h4.allocC d.vs 29
      generalize hl4 : [EntsT m2 k2 M2, EntsT m1 k1 M1] = l4 at *
      have HTC : Hid (∀ W, Own w W (Cells w4.heap.size #[.slice d.ga d.G.length d.gc, .slice d.ma d.M.length d.mc, .slice d.ha d.H.length d.hc] 29 :: (d.things ++ l4)) → Calls Tryd.prog 10 #[.slice a3 n3 c3] W fun e w' => ∃ (ao : Option Addr) (cap : Nat), e = .returned (.slice ao n3 cap) ∧ ∃ M : List EnE, M.length = n3 ∧ evs M = evs Q3 ∧ Own w w' (EntsT ao cap M :: Cells w4.heap.size #[.slice d.ga d.G.length d.gc, .slice d.ma d.M.length d.mc, .slice d.ha d.H.length d.hc] 29 :: (d.things ++ l4))) := fun W hW => rtwins_any w W _ hW a3 n3 c3 Q3 (fun w' hw => HQ3.out.2.1.quiet hw.fr) HQ3.out.1 (by have := HG3.out.1; omega)
      have HPA : Hid (∀ W m3 k3 M3, M3.length = n3 → evs M3 = evs Q3 → Own w W (EntsT m3 k3 M3 :: Cells w4.heap.size #[.slice d.ga d.G.length d.gc, .slice d.ma d.M.length d.mc, .slice d.ha d.H.length d.hc] 29 :: (d.things ++ l4)) → Calls Tryd.prog 15 #[.slice m3 n3 k3, .agg #[.slice d.ga d.G.length d.gc, .slice d.ma d.M.length d.mc, .slice d.ha d.H.length d.hc]] W fun e w' => ∃ (code : Nat) (ao : Option Addr) (cap : Nat) (R : List EnE), e = .returned (.tuple #[.slice ao R.length cap, .int .i64 (code : Int)]) ∧ PatR (evs Q3) d.v code (evs R) ∧ EIn R ∧ esz R ≤ 450000 ∧ Own w w' (EntsT ao cap R :: EntsT m3 k3 M3 :: Cells w4.heap.size #[.slice d.ga d.G.length d.gc, .slice d.ma d.M.length d.mc, .slice d.ha d.H.length d.hc] 29 :: (d.things ++ l4))) := fun W m3 k3 M3 hl hv hW => by
        have hc := hW.entsCap
        rw [hl] at hc
        rw [← hv]
        exact patch_any w W HT.out _ hW m3 n3 k3 M3 d (fun w' hw => ⟨hw.entsAt, hw.tail.tail.dlAt⟩) hl hc.1 hc.2 (EIn.of_evs hv HQ3.out.2.2.1) (by rw [esz_evs hv]; have := HG3.out.1; omega) HOK.out
      have H5 : Hid (Own w (w4.alloc (.cells #[.slice d.ga d.G.length d.gc, .slice d.ma d.M.length d.mc, .slice d.ha d.H.length d.hc] 29)) (Cells w4.heap.size #[.slice d.ga d.G.length d.gc, .slice d.ma d.M.length d.mc, .slice d.ha d.H.length d.hc] 29 :: (d.things ++ l4))) := h5
      clear h4 h5 hok hdv HDF hl4
      unfold DlE.vs
      go_wp2
      generalize hWg : w4.alloc (.cells #[.slice d.ga d.G.length d.gc, .slice d.ma d.M.length d.mc, .slice d.ha d.H.length d.hc] 29) = W5 at *
      generalize w4.heap.size = bx at *
      clear hWg
      have p0 := H5.out.cell 0
      have p1 := H5.out.cell 1
      have p2 := H5.out.cell 2
      simp at p0 p1 p2
      have O1 := H5.out.drew
      clear H5
      go_region_held3 (fun w' => w'.cell? ⟨bx, 0, none⟩ = some (.slice d.ga d.G.length d.gc) ∧ w'.cell? ⟨bx, 1, none⟩ = some (.slice d.ma d.M.length d.mc) ∧ w'.cell? ⟨bx, 2, none⟩ = some (.slice d.ha d.H.length d.hc)) (go_keep)
        (first
          | (go_at_call 10; with_reducible refine (HTC.out _ O1).mono ?_; rintro e w6 ⟨m3, k3, rfl, M3, hl3, hv3, O6⟩
             have u0 := (Own.two O6).cell 0
             have u1 := (Own.two O6).cell 1
             have u2 := (Own.two O6).cell 2
             simp at u0 u1 u2)
          | (go_at_call 15; with_reducible refine (HPA.out _ m3 k3 M3 hl3 hv3 O6).mono ?_; rintro e w7 ⟨code, ra, rc, R, rfl, hpat, hiR, hzR, O7⟩
             have u0 := (Own.three O7).cell 0
             have u1 := (Own.three O7).cell 1
             have u2 := (Own.three O7).cell 2
             simp at u0 u1 u2))
      have HO7 : Hid (Own w w7 (EntsT ra rc R :: EntsT m3 k3 M3 :: Cells bx #[.slice d.ga d.G.length d.gc, .slice d.ma d.M.length d.mc, .slice d.ha d.H.length d.hc] 29 :: (d.things ++ l4))) := O7
      have HR : Hid (EIn R ∧ esz R ≤ 450000) := ⟨hiR, hzR⟩
      have HPAT : Hid (PatR (evs Q3) d.v code (evs R)) := hpat
      rcases hpat with ⟨h, _⟩ | ⟨_, hc, h8, h9⟩ | ⟨_, hc, h8, h9⟩
      · exact absurd HG3.out.2 h
      · subst hc
        have HB : Hid (fm 0 (evs R) = 0 ∧ btw (evs Q3) (evs R) = d.v) := ⟨h8, h9⟩
        have z0 : ((0 : Int) != 0) = false := rfl
        have HTD : Hid (Calls _ _ _ _ _) := rtwins_any w w7 _ O7 a3 n3 c3 Q3 (fun w' hw => HQ3.out.2.1.quiet hw.fr) HQ3.out.1 (by have := HG3.out.1; omega)
        clear h8 h9 O7 O6 O1 HTC HPA hiR hzR u0 u1 u2 p0 p1 p2 hl3 hv3
        go_wp2_with fail
        refine HTD.out.mono ?_
        rintro e w8 ⟨m4, k4, rfl, M4, hl4, hv4, h8⟩
        have hq4 := h8.entsCap
        have hqr := h8.two.entsCap
        rw [hl4] at hq4
        have hz4 : esz M4 ≤ 400 := by rw [esz_evs hv4]; exact HG3.out.1
        have HDG : Hid (Calls _ _ _ _ _) := diff_any w w8 HT.out _ h8 m4 ra n3 R.length k4 rc M4 R (fun w' hw => ⟨hw.entsAt, hw.two.entsAt⟩) hl4 rfl hq4.1 hqr.1 hq4.2 hqr.2 (EIn.of_evs hv4 HQ3.out.2.2.1) HR.out.1 (by omega) (by have := HR.out.2; omega)
        have hdc := dlv_of (W := evs M4) (N := evs R) (by rw [hv4]; exact HG3.out.2) HB.out.1
        rw [hdc.1, hdc.2, hv4, HB.out.2] at HDG
        clear h8 hq4 hqr hz4 hdc hl4 hv4 HTD
        go_wp2_with fail
        refine HDG.out.mono ?_
        rintro e w9 ⟨d2, rfl, hd2, h9⟩
        have h10 := h9.allocC #[.slice d2.ga d2.G.length d2.gc, .slice d2.ma d2.M.length d2.mc, .slice d2.ha d2.H.length d2.hc] 29
        have hdB : DlAt _ d := Own.dlAt (Own.dropA h10.tail).tail.tail.tail.tail
        have hdA : DlAt _ d2 := Own.dlAt h10.tail
        have hin2 : DlIn d2 := dlIn_of (W := Q3) (N := R) (by rw [hd2]; exact HB.out.2.symm) (by have := HG3.out.1; omega) HR.out.2
        have HS : Hid (Calls _ _ _ _ _) := rsame_any _ d2 d hdA hdB hin2 HOK.out.dlIn
        rw [hd2, decide_eq_true rfl] at HS
        have q0 := h10.cell 0
        have q1 := h10.cell 1
        have q2 := h10.cell 2
        have r0 := (Own.dropA h10.tail).tail.tail.tail.cell 0
        have r1 := (Own.dropA h10.tail).tail.tail.tail.cell 1
        have r2 := (Own.dropA h10.tail).tail.tail.tail.cell 2
        simp at q0 q1 q2 r0 r1 r2
        have HSV : Hid (Fr Nobody w _) := h10.fr
        unfold DlE.vs at HS
        clear h9 h10 hdB hdA hin2 hd2 HDG HO7
        unfold DlE.vs
        go_wp2_with fail
        refine HS.out.mono ?_
        rintro e w10 ⟨rfl, hf10⟩
        have HF : Hid (Fr Nobody w w10) := HSV.out.trans hf10
        clear hf10 HS HSV q0 q1 q2 r0 r1 r2
        go_wp2
        go_ret
        exact ⟨rfl, HF.out⟩
      · subst hc
        have hR0 : R = [] := by have := congrArg List.length h8; rw [evs_len] at this; exact List.eq_nil_of_length_eq_zero this
        subst hR0
        have hne : evs Q1 ≠ evs Q3 := fun e => h9 (evs Q2) HG2.out.2 (by rw [HDV.out, e])
        have HSE : Hid (Calls _ _ _ _ _) := sameEnts_any w7 a1 a3 n1 n3 c1 c3 Q1 Q3 (HQ1.out.2.1.quiet O7.fr) (HQ3.out.2.1.quiet O7.fr) HQ1.out.1 HQ3.out.1 (by have := HG1.out.1; omega) (by have := HG3.out.1; omega)
        rw [decide_eq_false hne] at HSE
        have z4 : ((4 : Int) != 0) = true := rfl
        clear h8 h9 O7 O6 O1 HTC HPA hiR hzR hne u0 u1 u2 p0 p1 p2 hl3 hv3
        go_wp2_with fail
        refine HSE.out.mono ?_
        rintro e w8 ⟨rfl, hf8⟩
        have HF : Hid (Fr Nobody w w8) := HO7.out.fr.trans hf8
        clear hf8 HSE HO7
        go_wp2
        go_ret
        exact ⟨rfl, HF.out⟩
theorem diffWrong_walk (w : World) (ht : Tab w) (a0 : Option Addr) (len0 cap0 : Nat) (z0 : List EnE) (w0 : IsEnts w a0 len0 cap0 z0) (hb0 : esz z0 ≤ 1048576) (a1 : Option Addr) (len1 cap1 : Nat) (z1 : List EnE) (w1 : IsEnts w a1 len1 cap1 z1) (hb1 : esz z1 ≤ 1048576) (a2 : Option Addr) (len2 cap2 : Nat) (z2 : List EnE) (w2 : IsEnts w a2 len2 cap2 z2) (hb2 : esz z2 ≤ 1048576) :
    Calls Tryd.prog 6 #[.slice a0 len0 cap0, .slice a1 len1 cap1, .slice a2 len2 cap2] w fun e w' => e = .returned (.bool true) ∧ Below w.heap.size w w' := by
  refine (diffWrong_fr w ht a0 len0 cap0 z0 (w0.inQ hb0) a1 len1 cap1 z1 (w1.inQ hb1) a2 len2 cap2 z2 (w2.inQ hb2)).mono ?_
  rintro e w' ⟨rfl, hf⟩
  exact ⟨rfl, hf.below (Nat.le_refl _) (fun _ _ h => h)⟩
end Go.Proofs.YtlkfmppckhjapaaDoor
