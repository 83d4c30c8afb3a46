/-
  Over the second of three snapshots the way leads to the third as it leads at once, and the way back leads back: DiffChain returns true, whatever its arguments of bulk at most 1048576, where the table of the components lies as the program's text lays it, and changes nothing that was there.
-/
import Derived.Test.YtlkfmppckhjapaaDoorEnzg
import Derived.Test.YtlkfmppckhjapaaDoorEnj
import Derived.OpenShut
import Derived.SevenTiedAt
import Derived.Deep.DeepHandedRow
import Derived.Deep.RegionLaw
namespace Go.Proofs.YtlkfmppckhjapaaDoor
open Go.ChangeShapes Go.WideShapes Go.ChangeAt Go.RowKit
set_option linter.unusedVariables false
set_option maxRecDepth 100000

/-- a snapshot, and not too long -/
def Gd (Q : List EnE) : Prop := esz Q ≤ 400 ∧ fm 0 (evs Q) = 0
def Gds (k : Nat) (Q1 Q2 Q3 : List EnE) : Prop := (0 < k → Gd Q1) ∧ (1 < k → Gd Q2) ∧ (2 < k → Gd Q3)
def InQ (w : World) (a : Option Addr) (n c : Nat) (Q : List EnE) : Prop := Q.length = n ∧ EntsAt w a Q ∧ EIn Q ∧ esz Q ≤ 1048576 ∧ n ≤ c ∧ c ≤ 9223372036854775807
theorem IsEnts.inQ {w : World} {a : Option Addr} {n c : Nat} {Q : List EnE} (h : IsEnts w a n c Q) (hz : esz Q ≤ 1048576) : InQ w a n c Q := ⟨h.1, h.ents.1, h.ents.2, hz, h.2.1, by have := h.2.2.1; unfold maxLen at this; omega⟩
set_option maxHeartbeats 32000000 in
theorem diffChain_fr (w : World) (ht : Tab w) (a1 : Option Addr) (n1 c1 : Nat) (Q1 : List EnE) (hQ1 : InQ w a1 n1 c1 Q1) (a2 : Option Addr) (n2 c2 : Nat) (Q2 : List EnE) (hQ2 : InQ w a2 n2 c2 Q2) (a3 : Option Addr) (n3 c3 : Nat) (Q3 : List EnE) (hQ3 : InQ w a3 n3 c3 Q3) :
    Calls Tryd.prog 5 #[.slice a1 n1 c1, .slice a2 n2 c2, .slice a3 n3 c3] w fun e w' => e = .returned (.bool true) ∧ Fr Nobody w w' := by
  have HAW : Hid (Calls _ _ _ _ _) := awake19 w ht
  have HT : Hid (Tab w) := ht
  have HQ1 : Hid (InQ w a1 n1 c1 Q1) := hQ1
  have HQ2 : Hid (InQ w a2 n2 c2 Q2) := hQ2
  have HQ3 : Hid (InQ w a3 n3 c3 Q3) := hQ3
  have HK : Hid (∀ k : Nat, k < 3 → ∃ (ak : Option Addr) (nk ck : Nat) (Qk : List EnE), (#[.slice a1 n1 c1, .slice a2 n2 c2, .slice a3 n3 c3] : Array Value)[k]? = some (.slice ak nk ck) ∧ InQ w ak nk ck Qk ∧ (Gd Qk → Gds k Q1 Q2 Q3 → Gds (k + 1) Q1 Q2 Q3)) := fun k hk => by
    match k, hk with
    | 0, _ => exact ⟨a1, n1, c1, Q1, rfl, hQ1, fun h _ => ⟨fun _ => h, fun h => by omega, fun h => by omega⟩⟩
    | 1, _ => exact ⟨a2, n2, c2, Q2, rfl, hQ2, fun h g => ⟨fun _ => g.1 (by omega), fun _ => h, fun h => by omega⟩⟩
    | 2, _ => exact ⟨a3, n3, c3, Q3, rfl, hQ3, fun h g => ⟨fun _ => g.1 (by omega), fun _ => g.2.1 (by omega), fun _ => h⟩⟩
  clear ht hQ1 hQ2 hQ3
  go_enter Tryd.func5, Tryd.ntmps5
  go_wp2_with fail
  refine HAW.out.mono ?_
  rintro e w1 ⟨rfl, hf1⟩
  have H1 : Hid (Own w _ _) := (Own.of_fr hf1).allocC #[.slice a1 n1 c1, .slice a2 n2 c2, .slice a3 n3 c3] 22
  clear hf1 HAW
  go_wp2
  generalize hWg : w1.alloc (.cells #[.slice a1 n1 c1, .slice a2 n2 c2, .slice a3 n3 c3] 22) = W1 at *
  generalize w1.heap.size = b1 at *
  clear hWg
  go_loopw [8, 32] (fun cl cc wr => ∃ k : Nat, k ≤ 3 ∧ cc = .int .i64 (k : Int) ∧ Own w wr [Cells b1 #[.slice a1 n1 c1, .slice a2 n2 c2, .slice a3 n3 c3] 22] ∧ Gds k Q1 Q2 Q3) (fun cl cc _ => 3 - (intOf cc).toNat)
  case atStart => exact ⟨0, by omega, rfl, H1.out, ⟨fun h => by omega, fun h => by omega, fun h => by omega⟩⟩
  case round =>
    obtain ⟨k, hk, rfl, hO, hG⟩ := hrel
    clear H1
    by_cases hlt : k < 3
    · obtain ⟨ak, nk, ck, Qk, hc, hQk, hst⟩ := HK.out k hlt
      have r0 := hO.cell k
      rw [hc] at r0
      have hlt' : (k : Int) < 3 := by omega
      have HO : Hid (Own w wr [Cells b1 #[.slice a1 n1 c1, .slice a2 n2 c2, .slice a3 n3 c3] 22]) := hO
      have HG : Hid (Gds k Q1 Q2 Q3) := hG
      have HST : Hid (Gd Qk → Gds k Q1 Q2 Q3 → Gds (k + 1) Q1 Q2 Q3) := hst
      have HFW : Hid (Calls _ _ _ _ _) := few_any wr ak nk ck Qk hQk.1 (hQk.2.1.quiet hO.fr) hQk.2.2.2.1
      have HIQ : Hid (InQ w ak nk ck Qk) := hQk
      clear hO hG hst hc hQk
      by_cases h4 : esz Qk ≤ 400
      · rw [decide_eq_true h4] at HFW
        go_wp2_with fail
        refine HFW.out.mono ?_
        rintro e w2 ⟨rfl, hf2⟩
        have hO2 := HO.out.quiet hf2
        have HRF : Hid (Calls _ _ _ _ _) := rform_any w2 ak nk ck Qk (HIQ.out.2.1.quiet hO2.fr) HIQ.out.1 HIQ.out.2.2.1 (by omega)
        have HO2 : Hid (Own w w2 [Cells b1 #[.slice a1 n1 c1, .slice a2 n2 c2, .slice a3 n3 c3] 22]) := hO2
        have hfs := fm_lt 0 (evs Qk)
        obtain ⟨x, hx⟩ : ∃ x, x = fm 0 (evs Qk) := ⟨_, rfl⟩
        rw [← hx] at HRF hfs
        have HX : Hid (x = fm 0 (evs Qk)) := hx
        clear hO2 hf2 HFW HO hx
        by_cases hx0 : x = 0
        · subst hx0
          have HN : Hid (Gds (k + 1) Q1 Q2 Q3) := HST.out ⟨h4, HX.out.symm⟩ HG.out
          have z0 : ((0 : Int) != 0) = false := rfl
          go_wp2_with fail
          refine HRF.out.mono ?_
          rintro e w3 ⟨rfl, hf3⟩
          have HO3 : Hid (Own w w3 [Cells b1 #[.slice a1 n1 c1, .slice a2 n2 c2, .slice a3 n3 c3] 22]) := HO2.out.quiet hf3
          clear hf3 HRF HO2
          go_wp2
          go_roundw
          case rel => exact ⟨k + 1, by omega, by go_num, HO3.out, HN.out⟩
          case measure => simp [intOf]; omega
        · have hx1 : ((x : Int) != 0) = true := by simpa using hx0
          clear hx0
          go_wp2_with fail
          refine HRF.out.mono ?_
          rintro e w3 ⟨rfl, hf3⟩
          have HF3 : Hid (Fr Nobody w w3) := HO2.out.fr.trans hf3
          clear hf3 HRF HO2
          go_wp2
          go_ret
          exact ⟨rfl, HF3.out⟩
      · rw [decide_eq_false h4] at HFW
        go_wp2_with fail
        refine HFW.out.mono ?_
        rintro e w2 ⟨rfl, hf2⟩
        have HF2 : Hid (Fr Nobody w w2) := HO.out.fr.trans hf2
        clear hf2 HFW HO
        go_wp2
        go_ret
        exact ⟨rfl, HF2.out⟩
    · have hk3 : k = 3 := by omega
      subst hk3
      have HG1 : Hid (Gd Q1) := hG.1 (by omega)
      have HG2 : Hid (Gd Q2) := hG.2.1 (by omega)
      have HG3 : Hid (Gd Q3) := hG.2.2 (by omega)
      have hlt' : ¬ (3 : Int) < 3 := by omega
      have HTA : Hid (Calls _ _ _ _ _) := rtwins_any w wr [] (Own.of_fr hO.fr) a1 n1 c1 Q1 (fun w' hw => HQ1.out.2.1.quiet hw.fr) HQ1.out.1 (by have := HG1.out.1; omega)
      clear hG HK hk hlt hO
      go_wp2_with fail
      refine HTA.out.mono ?_
      rintro e x1 ⟨m1, k1, rfl, M1, hl1, hv1, h2⟩
      have HTB : Hid (Calls _ _ _ _ _) := rtwins_any w _ _ h2 a2 n2 c2 Q2 (fun w' hw => HQ2.out.2.1.quiet hw.fr) HQ2.out.1 (by have := HG2.out.1; omega)
      have HV1 : Hid (M1.length = n1 ∧ evs M1 = evs Q1) := ⟨hl1, hv1⟩
      clear h2 HTA hl1 hv1
      go_wp2_with fail
      refine HTB.out.mono ?_
      rintro e y1 ⟨m2, k2, rfl, M2, hl2, hv2, h3⟩
      have HDF : Hid (Calls _ _ _ _ _) := diff_to w y1 HT.out _ m1 m2 k1 k2 n1 n2 M1 M2 (evs Q1) (evs Q2) h3 HV1.out.1 hl2 HV1.out.2 hv2 (EIn.of_evs HV1.out.2 HQ1.out.2.2.1) (EIn.of_evs hv2 HQ2.out.2.2.1) (by rw [esz_evs HV1.out.2]; exact HG1.out.1) (by rw [esz_evs hv2]; exact HG2.out.1) HG1.out.2 HG2.out.2
      clear h3 HTB hl2 hv2 HV1
      go_wp2_with fail
      refine HDF.out.mono ?_
      rintro e z1 ⟨d1, rfl, hdv, hok, h4⟩
      have HD1 : Hid (d1.v = btw (evs Q1) (evs Q2) ∧ DlOk d1) := ⟨hdv, hok⟩
      have h5 := h4.allocC #[.slice d1.ga d1.G.length d1.gc, .slice d1.ma d1.M.length d1.mc, .slice d1.ha d1.H.length d1.hc] 29
      have HTA : Hid (Calls _ _ _ _ _) := rtwins_any w _ _ h5 a2 n2 c2 Q2 (fun w' hw => HQ2.out.2.1.quiet hw.fr) HQ2.out.1 (by have := HG2.out.1; omega)
      clear h4 h5 hdv hok HDF
      go_wp2_with fail
      refine HTA.out.mono ?_
      rintro e x2 ⟨m1, k1, rfl, M1, hl1, hv1, h2⟩
      have HTB : Hid (Calls _ _ _ _ _) := rtwins_any w _ _ h2 a3 n3 c3 Q3 (fun w' hw => HQ3.out.2.1.quiet hw.fr) HQ3.out.1 (by have := HG3.out.1; omega)
      have HV1 : Hid (M1.length = n2 ∧ evs M1 = evs Q2) := ⟨hl1, hv1⟩
      clear h2 HTA hl1 hv1
      go_wp2_with fail
      refine HTB.out.mono ?_
      rintro e y2 ⟨m2, k2, rfl, M2, hl2, hv2, h3⟩
      have HDF : Hid (Calls _ _ _ _ _) := diff_to w y2 HT.out _ m1 m2 k1 k2 n2 n3 M1 M2 (evs Q2) (evs Q3) h3 HV1.out.1 hl2 HV1.out.2 hv2 (EIn.of_evs HV1.out.2 HQ2.out.2.2.1) (EIn.of_evs hv2 HQ3.out.2.2.1) (by rw [esz_evs HV1.out.2]; exact HG2.out.1) (by rw [esz_evs hv2]; exact HG3.out.1) HG2.out.2 HG3.out.2
      clear h3 HTB hl2 hv2 HV1
      go_wp2_with fail
      refine HDF.out.mono ?_
      rintro e z2 ⟨d2, rfl, hdv, hok, h4⟩
      have HD2 : Hid (d2.v = btw (evs Q2) (evs Q3) ∧ DlOk d2) := ⟨hdv, hok⟩
      have h5 := h4.allocC #[.slice d2.ga d2.G.length d2.gc, .slice d2.ma d2.M.length d2.mc, .slice d2.ha d2.H.length d2.hc] 29
      have HTA : Hid (Calls _ _ _ _ _) := rtwins_any w _ _ h5 a1 n1 c1 Q1 (fun w' hw => HQ1.out.2.1.quiet hw.fr) HQ1.out.1 (by have := HG1.out.1; omega)
      clear h4 h5 hdv hok HDF
      go_wp2_with fail
      refine HTA.out.mono ?_
      rintro e x3 ⟨m1, k1, rfl, M1, hl1, hv1, h2⟩
      have HTB : Hid (Calls _ _ _ _ _) := rtwins_any w _ _ h2 a3 n3 c3 Q3 (fun w' hw => HQ3.out.2.1.quiet hw.fr) HQ3.out.1 (by have := HG3.out.1; omega)
      have HV1 : Hid (M1.length = n1 ∧ evs M1 = evs Q1) := ⟨hl1, hv1⟩
      clear h2 HTA hl1 hv1
      go_wp2_with fail
      refine HTB.out.mono ?_
      rintro e y3 ⟨m2, k2, rfl, M2, hl2, hv2, h3⟩
      have HDF : Hid (Calls _ _ _ _ _) := diff_to w y3 HT.out _ m1 m2 k1 k2 n1 n3 M1 M2 (evs Q1) (evs Q3) h3 HV1.out.1 hl2 HV1.out.2 hv2 (EIn.of_evs HV1.out.2 HQ1.out.2.2.1) (EIn.of_evs hv2 HQ3.out.2.2.1) (by rw [esz_evs HV1.out.2]; exact HG1.out.1) (by rw [esz_evs hv2]; exact HG3.out.1) HG1.out.2 HG3.out.2
      clear h3 HTB hl2 hv2 HV1
      go_wp2_with fail
      refine HDF.out.mono ?_
      rintro e z3 ⟨d3, rfl, hdv, hok, h4⟩
      have HD3 : Hid (d3.v = btw (evs Q1) (evs Q3) ∧ DlOk d3) := ⟨hdv, hok⟩
      have h5 := h4.allocC #[.slice d3.ga d3.G.length d3.gc, .slice d3.ma d3.M.length d3.mc, .slice d3.ha d3.H.length d3.hc] 29
      have HTA : Hid (Calls _ _ _ _ _) := rtwins_any w _ _ h5 a2 n2 c2 Q2 (fun w' hw => HQ2.out.2.1.quiet hw.fr) HQ2.out.1 (by have := HG2.out.1; omega)
      clear h4 h5 hdv hok HDF
      go_wp2_with fail
      refine HTA.out.mono ?_
      rintro e x4 ⟨m1, k1, rfl, M1, hl1, hv1, h2⟩
      have HTB : Hid (Calls _ _ _ _ _) := rtwins_any w _ _ h2 a1 n1 c1 Q1 (fun w' hw => HQ1.out.2.1.quiet hw.fr) HQ1.out.1 (by have := HG1.out.1; omega)
      have HV1 : Hid (M1.length = n2 ∧ evs M1 = evs Q2) := ⟨hl1, hv1⟩
      clear h2 HTA hl1 hv1
      go_wp2_with fail
      refine HTB.out.mono ?_
      rintro e y4 ⟨m2, k2, rfl, M2, hl2, hv2, h3⟩
      have HDF : Hid (Calls _ _ _ _ _) := diff_to w y4 HT.out _ m1 m2 k1 k2 n2 n1 M1 M2 (evs Q2) (evs Q1) h3 HV1.out.1 hl2 HV1.out.2 hv2 (EIn.of_evs HV1.out.2 HQ2.out.2.2.1) (EIn.of_evs hv2 HQ1.out.2.2.1) (by rw [esz_evs HV1.out.2]; exact HG2.out.1) (by rw [esz_evs hv2]; exact HG1.out.1) HG2.out.2 HG1.out.2
      clear h3 HTB hl2 hv2 HV1
      go_wp2_with fail
      refine HDF.out.mono ?_
      rintro e z4 ⟨d4, rfl, hdv, hok, h4⟩
      have HD4 : Hid (d4.v = btw (evs Q2) (evs Q1) ∧ DlOk d4) := ⟨hdv, hok⟩
      have h5 := h4.allocC #[.slice d4.ga d4.G.length d4.gc, .slice d4.ma d4.M.length d4.mc, .slice d4.ha d4.H.length d4.hc] 29
      have H5 : Hid (Own w _ _) := h5
      clear h4 h5 hdv hok HDF
      go_wp2
      generalize hWg : z4.alloc (.cells #[.slice d4.ga d4.G.length d4.gc, .slice d4.ma d4.M.length d4.mc, .slice d4.ha d4.H.length d4.hc] 29) = W5 at *
      generalize z1.heap.size = b1 at *
      generalize z2.heap.size = b2 at *
      generalize z3.heap.size = b3 at *
      generalize z4.heap.size = b4 at *
      clear hWg
      obtain ⟨LL, hLL⟩ : ∃ LL, LL = (Cells b4 #[.slice d4.ga d4.G.length d4.gc, .slice d4.ma d4.M.length d4.mc, .slice d4.ha d4.H.length d4.hc] 29 :: (d4.things ++ (Cells b3 #[.slice d3.ga d3.G.length d3.gc, .slice d3.ma d3.M.length d3.mc, .slice d3.ha d3.H.length d3.hc] 29 :: (d3.things ++ (Cells b2 #[.slice d2.ga d2.G.length d2.gc, .slice d2.ma d2.M.length d2.mc, .slice d2.ha d2.H.length d2.hc] 29 :: (d2.things ++ (Cells b1 #[.slice d1.ga d1.G.length d1.gc, .slice d1.ma d1.M.length d1.mc, .slice d1.ha d1.H.length d1.hc] 29 :: (d1.things ++ [])))))))) := ⟨_, rfl⟩
      have H6 : Hid (Own w W5 LL) := by rw [hLL]; exact H5.out
      have HALL : Hid (∀ w', Own w w' LL → (w'.cell? ⟨b1, 0, none⟩ = some (.slice d1.ga d1.G.length d1.gc) ∧ w'.cell? ⟨b1, 1, none⟩ = some (.slice d1.ma d1.M.length d1.mc) ∧ w'.cell? ⟨b1, 2, none⟩ = some (.slice d1.ha d1.H.length d1.hc)) ∧ (w'.cell? ⟨b2, 0, none⟩ = some (.slice d2.ga d2.G.length d2.gc) ∧ w'.cell? ⟨b2, 1, none⟩ = some (.slice d2.ma d2.M.length d2.mc) ∧ w'.cell? ⟨b2, 2, none⟩ = some (.slice d2.ha d2.H.length d2.hc)) ∧ (w'.cell? ⟨b3, 0, none⟩ = some (.slice d3.ga d3.G.length d3.gc) ∧ w'.cell? ⟨b3, 1, none⟩ = some (.slice d3.ma d3.M.length d3.mc) ∧ w'.cell? ⟨b3, 2, none⟩ = some (.slice d3.ha d3.H.length d3.hc)) ∧ (w'.cell? ⟨b4, 0, none⟩ = some (.slice d4.ga d4.G.length d4.gc) ∧ w'.cell? ⟨b4, 1, none⟩ = some (.slice d4.ma d4.M.length d4.mc) ∧ w'.cell? ⟨b4, 2, none⟩ = some (.slice d4.ha d4.H.length d4.hc)) ∧ DlAt w' d1 ∧ DlAt w' d2 ∧ DlAt w' d3 ∧ DlAt w' d4) := fun w' hw => by
        rw [hLL] at hw
        have g3 := Own.dropA hw.tail
        have g2 := Own.dropA g3.tail
        have g1 := Own.dropA g2.tail
        exact ⟨⟨g1.cell 0, g1.cell 1, g1.cell 2⟩, ⟨g2.cell 0, g2.cell 1, g2.cell 2⟩, ⟨g3.cell 0, g3.cell 1, g3.cell 2⟩, ⟨hw.cell 0, hw.cell 1, hw.cell 2⟩, g1.tail.dlAt, g2.tail.dlAt, g3.tail.dlAt, hw.tail.dlAt⟩
      clear H5 hLL
      have HTC : Hid (∀ W, Own w W (LL) → Calls Tryd.prog 10 #[.slice a1 n1 c1] W fun e w' => ∃ (ao : Option Addr) (cap : Nat), e = .returned (.slice ao n1 cap) ∧ ∃ M : List EnE, M.length = n1 ∧ evs M = evs Q1 ∧ Own w w' (EntsT ao cap M :: LL)) := fun W hW => rtwins_any w W _ hW a1 n1 c1 Q1 (fun w' hw => HQ1.out.2.1.quiet hw.fr) HQ1.out.1 (by have := HG1.out.1; omega)
      have HPA : Hid (∀ W m k M, M.length = n1 → evs M = evs Q1 → Own w W (EntsT m k M :: LL) → Calls Tryd.prog 15 #[.slice m n1 k, .agg #[.slice d1.ga d1.G.length d1.gc, .slice d1.ma d1.M.length d1.mc, .slice d1.ha d1.H.length d1.hc]] W fun e w' => ∃ (ao : Option Addr) (cap : Nat) (R : List EnE), e = .returned (.tuple #[.slice ao R.length cap, .int .i64 0]) ∧ evs R = evs Q2 ∧ EIn R ∧ Own w w' (EntsT ao cap R :: LL)) := fun W m k M hl hv hW => by
        have hc := hW.entsCap
        rw [hl] at hc
        refine (patch_to w W HT.out _ hW m n1 k M (evs Q1) (evs Q2) d1 (fun w' hw => ⟨hw.entsAt, (HALL.out w' hw.tail).2.2.2.2.1⟩) hl hc.1 hc.2 (EIn.of_evs hv HQ1.out.2.2.1) (by rw [esz_evs hv]; exact HG1.out.1) HD1.out.2 hv HG1.out.2 HG2.out.2 HD1.out.1).mono ?_
        rintro e w' ⟨ao, cap, R, rfl, h1, h2, h3⟩
        exact ⟨ao, cap, R, rfl, h1, h2, h3.two.tail⟩
      obtain ⟨p0, p1, p2⟩ := (HALL.out _ H6.out).1
      have O1 := H6.out.drew
      clear H6
      go_region_held3 (fun w' => w'.cell? ⟨b1, 0, none⟩ = some (.slice d1.ga d1.G.length d1.gc) ∧ w'.cell? ⟨b1, 1, none⟩ = some (.slice d1.ma d1.M.length d1.mc) ∧ w'.cell? ⟨b1, 2, none⟩ = some (.slice d1.ha d1.H.length d1.hc)) (go_keep)
        (first
          | (go_at_call 10; with_reducible refine (HTC.out _ O1).mono ?_; rintro e v5 ⟨m5, k5, rfl, M5, hl5, hv5, O5⟩
             obtain ⟨u0, u1, u2⟩ := (HALL.out _ (Own.tail O5)).1)
          | (go_at_call 15; with_reducible refine (HPA.out _ m5 k5 M5 hl5 hv5 O5).mono ?_; rintro e wx ⟨ax, cx, Rx, rfl, vx, ix, ox⟩
             obtain ⟨u0, u1, u2⟩ := (HALL.out _ (Own.tail ox)).1))
      have HX : Hid (Own w wx (EntsT ax cx Rx :: LL)) := ox
      have HVX : Hid (evs Rx = evs Q2 ∧ EIn Rx) := ⟨vx, ix⟩
      clear ox vx ix O5 O1 u0 u1 u2 p0 p1 p2 hl5 hv5 HTC HPA
      have hcx := (HX.out).entsCap
      have hzx : esz Rx ≤ 400 := by
        have e : esz Rx = esz Q2 := esz_evs HVX.out.1
        rw [e]; exact HG2.out.1
      have HP : Hid (Calls _ _ _ _ _) := patch_to w _ HT.out _ HX.out ax Rx.length cx Rx (evs Q2) (evs Q3) d2 (fun w' hw => ⟨(hw).entsAt, (HALL.out w' hw.tail).2.2.2.2.2.1⟩) rfl hcx.1 hcx.2 HVX.out.2 hzx HD2.out.2 HVX.out.1 HG2.out.2 HG3.out.2 HD2.out.1
      obtain ⟨p0, p1, p2⟩ := (HALL.out _ HX.out.tail).2.1
      clear hcx hzx
      go_wp2_with fail
      refine HP.out.mono ?_
      rintro e wy ⟨ay, cy, Ry, rfl, vy, iy, oy⟩
      have HY : Hid (Own w wy (EntsT ay cy Ry :: EntsT ax cx Rx :: LL)) := oy
      have HVY : Hid (evs Ry = evs Q3 ∧ EIn Ry) := ⟨vy, iy⟩
      clear oy vy iy HP p0 p1 p2
      go_wp2
      have HTC : Hid (∀ W, Own w W (EntsT ay cy Ry :: EntsT ax cx Rx :: LL) → Calls Tryd.prog 10 #[.slice a1 n1 c1] W fun e w' => ∃ (ao : Option Addr) (cap : Nat), e = .returned (.slice ao n1 cap) ∧ ∃ M : List EnE, M.length = n1 ∧ evs M = evs Q1 ∧ Own w w' (EntsT ao cap M :: EntsT ay cy Ry :: EntsT ax cx Rx :: LL)) := fun W hW => rtwins_any w W _ hW a1 n1 c1 Q1 (fun w' hw => HQ1.out.2.1.quiet hw.fr) HQ1.out.1 (by have := HG1.out.1; omega)
      have HPA : Hid (∀ W m k M, M.length = n1 → evs M = evs Q1 → Own w W (EntsT m k M :: EntsT ay cy Ry :: EntsT ax cx Rx :: LL) → Calls Tryd.prog 15 #[.slice m n1 k, .agg #[.slice d3.ga d3.G.length d3.gc, .slice d3.ma d3.M.length d3.mc, .slice d3.ha d3.H.length d3.hc]] W fun e w' => ∃ (ao : Option Addr) (cap : Nat) (R : List EnE), e = .returned (.tuple #[.slice ao R.length cap, .int .i64 0]) ∧ evs R = evs Q3 ∧ EIn R ∧ Own w w' (EntsT ao cap R :: EntsT ay cy Ry :: EntsT ax cx Rx :: LL)) := fun W m k M hl hv hW => by
        have hc := hW.entsCap
        rw [hl] at hc
        refine (patch_to w W HT.out _ hW m n1 k M (evs Q1) (evs Q3) d3 (fun w' hw => ⟨hw.entsAt, (HALL.out w' hw.tail.tail.tail).2.2.2.2.2.2.1⟩) hl hc.1 hc.2 (EIn.of_evs hv HQ1.out.2.2.1) (by rw [esz_evs hv]; exact HG1.out.1) HD3.out.2 hv HG1.out.2 HG3.out.2 HD3.out.1).mono ?_
        rintro e w' ⟨ao, cap, R, rfl, h1, h2, h3⟩
        exact ⟨ao, cap, R, rfl, h1, h2, h3.two.tail⟩
      obtain ⟨p0, p1, p2⟩ := (HALL.out _ HY.out.tail.tail).2.2.1
      have O1 := HY.out.drew
      clear HY
      go_region_held3 (fun w' => w'.cell? ⟨b3, 0, none⟩ = some (.slice d3.ga d3.G.length d3.gc) ∧ w'.cell? ⟨b3, 1, none⟩ = some (.slice d3.ma d3.M.length d3.mc) ∧ w'.cell? ⟨b3, 2, none⟩ = some (.slice d3.ha d3.H.length d3.hc)) (go_keep)
        (first
          | (go_at_call 10; with_reducible refine (HTC.out _ O1).mono ?_; rintro e v5 ⟨m5, k5, rfl, M5, hl5, hv5, O5⟩
             obtain ⟨u0, u1, u2⟩ := (HALL.out _ (Own.tail O5).tail.tail).2.2.1)
          | (go_at_call 15; with_reducible refine (HPA.out _ m5 k5 M5 hl5 hv5 O5).mono ?_; rintro e wz ⟨az, cz, Rz, rfl, vz, iz, oz⟩
             obtain ⟨u0, u1, u2⟩ := (HALL.out _ (Own.tail oz).tail.tail).2.2.1))
      have HZ : Hid (Own w wz (EntsT az cz Rz :: EntsT ay cy Ry :: EntsT ax cx Rx :: LL)) := oz
      have HVZ : Hid (evs Rz = evs Q3 ∧ EIn Rz) := ⟨vz, iz⟩
      clear oz vz iz O5 O1 u0 u1 u2 p0 p1 p2 hl5 hv5 HTC HPA
      have hcx := (HX.out).entsCap
      have hzx : esz Rx ≤ 400 := by
        have e : esz Rx = esz Q2 := esz_evs HVX.out.1
        rw [e]; exact HG2.out.1
      have HP : Hid (Calls _ _ _ _ _) := patch_to w _ HT.out _ HZ.out ax Rx.length cx Rx (evs Q2) (evs Q1) d4 (fun w' hw => ⟨(hw.tail.tail).entsAt, (HALL.out w' hw.tail.tail.tail).2.2.2.2.2.2.2⟩) rfl hcx.1 hcx.2 HVX.out.2 hzx HD4.out.2 HVX.out.1 HG2.out.2 HG1.out.2 HD4.out.1
      obtain ⟨p0, p1, p2⟩ := (HALL.out _ HZ.out.tail.tail.tail).2.2.2.1
      clear hcx hzx
      go_wp2_with fail
      refine HP.out.mono ?_
      rintro e wb ⟨ab, cb, Rb, rfl, vb, ib, ob⟩
      have HVB : Hid (evs Rb = evs Q1) := vb
      have HOB : Hid (Own w wb (EntsT ab cb Rb :: EntsT az cz Rz :: EntsT ay cy Ry :: EntsT ax cx Rx :: LL)) := ob
      have hzy : esz Ry ≤ 400 := by
        have e : esz Ry = esz Q3 := esz_evs HVY.out.1
        rw [e]; exact HG3.out.1
      have hzz : esz Rz ≤ 400 := by
        have e : esz Rz = esz Q3 := esz_evs HVZ.out.1
        rw [e]; exact HG3.out.1
      have hzb : esz Rb ≤ 400 := by
        have e : esz Rb = esz Q1 := esz_evs HVB.out
        rw [e]; exact HG1.out.1
      have HS1 : Hid (Calls _ _ _ _ _) := sameEnts_any wb ay az Ry.length Rz.length cy cz Ry Rz ob.tail.tail.entsAt ob.tail.entsAt rfl rfl (by omega) (by omega)
      rw [HVY.out.1, HVZ.out.1, decide_eq_true rfl] at HS1
      have HS2 : Hid (∀ W, Fr Nobody wb W → Calls Tryd.prog 14 #[.slice ay Ry.length cy, .slice a3 n3 c3] W fun e w' => e = .returned (.bool true) ∧ Fr Nobody W w') := fun W hW => by
        have h := sameEnts_any W ay a3 Ry.length n3 cy c3 Ry Q3 ((HOB.out.quiet hW).tail.tail.entsAt) (HQ3.out.2.1.quiet (HOB.out.quiet hW).fr) rfl HQ3.out.1 (by omega) (by have := HG3.out.1; omega)
        rw [HVY.out.1, decide_eq_true rfl] at h
        exact h
      have HS3 : Hid (∀ W, Fr Nobody wb W → Calls Tryd.prog 14 #[.slice ab Rb.length cb, .slice a1 n1 c1] W fun e w' => e = .returned (.bool true) ∧ Fr Nobody W w') := fun W hW => by
        have h := sameEnts_any W ab a1 Rb.length n1 cb c1 Rb Q1 ((HOB.out.quiet hW).entsAt) (HQ1.out.2.1.quiet (HOB.out.quiet hW).fr) rfl HQ1.out.1 (by omega) (by have := HG1.out.1; omega)
        rw [HVB.out, decide_eq_true rfl] at h
        exact h
      clear HP p0 p1 p2 ob vb ib hzy hzz hzb
      go_wp2_with fail
      refine HS1.out.mono ?_
      rintro e s1 ⟨rfl, hf1⟩
      have HF1 : Hid (Fr Nobody wb s1) := hf1
      have HC2 : Hid (Calls _ _ _ _ _) := HS2.out s1 hf1
      clear hf1 HS1
      go_wp2_with fail
      refine HC2.out.mono ?_
      rintro e s2 ⟨rfl, hf2⟩
      have hF2 := HF1.out.trans hf2
      have HF2 : Hid (Fr Nobody wb s2) := hF2
      have HC3 : Hid (Calls _ _ _ _ _) := HS3.out s2 hF2
      clear hf2 hF2 HC2
      go_wp2_with fail
      refine HC3.out.mono ?_
      rintro e s3 ⟨rfl, hf3⟩
      have HF3 : Hid (Fr Nobody w s3) := HOB.out.fr.trans (HF2.out.trans hf3)
      clear hf3 HC3 HOB
      go_wp2
      go_ret
      exact ⟨rfl, HF3.out⟩
theorem diffChain_walk (w : World) (ht : Tab w) (a0 : Option Addr) (len0 cap0 : Nat) (z0 : List EnE) (w0 : IsEnts w a0 len0 cap0 z0) (hb0 : esz z0 ≤ 1048576) (a1 : Option Addr) (len1 cap1 : Nat) (z1 : List EnE) (w1 : IsEnts w a1 len1 cap1 z1) (hb1 : esz z1 ≤ 1048576) (a2 : Option Addr) (len2 cap2 : Nat) (z2 : List EnE) (w2 : IsEnts w a2 len2 cap2 z2) (hb2 : esz z2 ≤ 1048576) :
    Calls Tryd.prog 5 #[.slice a0 len0 cap0, .slice a1 len1 cap1, .slice a2 len2 cap2] w fun e w' => e = .returned (.bool true) ∧ Below w.heap.size w w' := by
  refine (diffChain_fr w ht a0 len0 cap0 z0 (w0.inQ hb0) a1 len1 cap1 z1 (w1.inQ hb1) a2 len2 cap2 z2 (w2.inQ hb2)).mono ?_
  rintro e w' ⟨rfl, hf⟩
  exact ⟨rfl, hf.below (Nat.le_refl _) (fun _ _ h => h)⟩
end Go.Proofs.YtlkfmppckhjapaaDoor
