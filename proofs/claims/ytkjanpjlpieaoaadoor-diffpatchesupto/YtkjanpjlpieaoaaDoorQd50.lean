/-
  Every delta, whatever it is made of, leads from every snapshot to one, or is none there; both come back untouched, and aren't kept: DiffPatches returns true, whatever its arguments of bulk at most 1048576, where the table of the components lies as the program's text lays it, and changes nothing that was there.
-/
import Derived.Test.YtkjanpjlpieaoaaDoorQd46
import Derived.Test.YtkjanpjlpieaoaaDoorQd47
import Derived.Test.YtkjanpjlpieaoaaDoorQd49
import Derived.OpenShut
import Derived.SevenTiedAt
import Derived.Deep.DeepHandedRow
import Derived.Deep.RegionLaw
namespace Go.Proofs.YtkjanpjlpieaoaaDoor
open Go.ChangeShapes Go.WideShapes Go.ChangeAt Go.RowKit
set_option linter.unusedVariables false
set_option maxRecDepth 100000

set_option maxHeartbeats 32000000 in
theorem diffPatches_fr (w : World) (ht : Tab w) (a1 : Option Addr) (n1 c1 : Nat) (Q1 : List EnE) (hQ1 : IsEnts w a1 n1 c1 Q1) (hz1 : esz Q1 ≤ 1048576) (d : DlE) (hd : IsDl w d) (hzd : zsz d ≤ 1048576) :
    Calls Tryd.prog 3 #[.slice a1 n1 c1, .agg d.vs] w fun e w' => e = .returned (.bool true) ∧ Fr Nobody w w' := by
  have hB := (Own.start w).allocC d.vs 26
  have HAW : Hid (Calls _ _ _ _ _) := awake19 _ (ht.quiet hB.fr)
  have HT : Hid (Tab w) := ht
  have HE1 : Hid (Q1.length = n1 ∧ EntsAt w a1 Q1 ∧ EIn Q1) := ⟨hQ1.1, hQ1.ents.1, hQ1.ents.2⟩
  have HD : Hid (IsDl w d) := hd
  have hzm : esz d.M ≤ 1048576 := by unfold zsz at hzd; omega
  have hzz : dszE d ≤ 1048576 := by unfold zsz at hzd; unfold dszE; omega
  obtain ⟨gl, hgl⟩ : ∃ gl, gl = d.G.length := ⟨_, rfl⟩
  obtain ⟨ml, hml⟩ : ∃ ml, ml = d.M.length := ⟨_, rfl⟩
  obtain ⟨hl, hhl⟩ : ∃ hl, hl = d.H.length := ⟨_, rfl⟩
  have hvs : d.vs = #[.slice d.ga gl d.gc, .slice d.ma ml d.mc, .slice d.ha hl d.hc] := by unfold DlE.vs; rw [hgl, hml, hhl]
  have HVS : Hid (d.vs = #[.slice d.ga gl d.gc, .slice d.ma ml d.mc, .slice d.ha hl d.hc]) := hvs
  rw [hvs] at hB HAW ⊢
  have HB : Hid (Own w _ _) := hB
  clear ht hQ1 hd hB hzd hgl hml hhl hvs
  go_enter Tryd.func3, Tryd.ntmps3
  go_wp2_with fail
  refine HAW.out.mono ?_
  rintro e w1 ⟨rfl, hf1⟩
  have h1 := HB.out.quiet hf1
  generalize w.heap.size = b3 at *
  have HFW : Hid (Calls _ _ _ _ _) := few_any w1 a1 n1 c1 Q1 HE1.out.1 (HE1.out.2.1.quiet h1.fr) hz1
  have H1 : Hid (Own w w1 [Cells b3 #[.slice d.ga gl d.gc, .slice d.ma ml d.mc, .slice d.ha hl d.hc] 26]) := h1
  clear hf1 HAW HB h1
  by_cases h4 : esz Q1 ≤ 400
  · rw [decide_eq_true h4] at HFW
    go_wp2_with fail
    refine HFW.out.mono ?_
    rintro e w2 ⟨rfl, hf2⟩
    have h2 := H1.out.quiet hf2
    have hfd := rfew_any w2 d (HD.out.at'.quiet h2.fr) hzz hzm
    rw [HVS.out] at hfd
    have HFD : Hid (Calls _ _ _ _ _) := hfd
    have k0 := h2.cell 0
    have k1 := h2.cell 1
    have k2 := h2.cell 2
    simp at k0 k1 k2
    have H2 : Hid (Own w w2 _) := h2
    clear hf2 h2 hfd HFW H1
    by_cases h5 : dszE d ≤ 300 ∧ esz d.M ≤ 400
    · rw [decide_eq_true h5.1, decide_eq_true h5.2] at HFD
      go_wp2_with fail
      refine HFD.out.mono ?_
      rintro e w3 ⟨rfl, hf3⟩
      have h3 := H2.out.quiet hf3
      have HZ : Hid (esz Q1 ≤ 400 ∧ dszE d ≤ 300 ∧ esz d.M ≤ 400) := ⟨h4, h5.1, h5.2⟩
      have hn1 : n1 ≤ 400 := by have := HE1.out.1; unfold esz at h4; omega
      have HTW : Hid (∀ W m, Own w W (m ++ [Cells b3 #[.slice d.ga gl d.gc, .slice d.ma ml d.mc, .slice d.ha hl d.hc] 26]) → Calls Tryd.prog 7 #[.slice a1 n1 c1] W fun e w' => ∃ (ao : Option Addr) (cap : Nat), e = .returned (.slice ao n1 cap) ∧ ∃ M : List EnE, M.length = n1 ∧ evs M = evs Q1 ∧ Own w w' (EntsT ao cap M :: (m ++ [Cells b3 #[.slice d.ga gl d.gc, .slice d.ma ml d.mc, .slice d.ha hl d.hc] 26]))) := fun W m hW => rtwins_any w W _ hW a1 n1 c1 Q1 (fun w' hw => HE1.out.2.1.quiet hw.fr) HE1.out.1 (by omega)
      have HTD : Hid (∀ W m, Own w W m → Calls Tryd.prog 8 #[.agg #[.slice d.ga gl d.gc, .slice d.ma ml d.mc, .slice d.ha hl d.hc]] W fun e w' => ∃ d2 : DlE, e = .returned (.agg d2.vs) ∧ d2.v = d.v ∧ Own w w' (d2.things ++ m)) := fun W m hW => by
        have := rdtwin_any w W m hW d (fun w' hw => HD.out.at'.quiet hw.fr) (by have := HZ.out; omega) (by have := HZ.out; omega)
        rw [HVS.out] at this
        exact this
      have k0 := h3.cell 0
      have k1 := h3.cell 1
      have k2 := h3.cell 2
      simp at k0 k1 k2
      have H3 : Hid (Own w w3 _) := h3
      clear hf3 h3 HFD H2 h4 h5 hzz hzm hz1
      go_wp2
      have h3a := H3.out.allocC #[.slice none 0 0, .slice none 0 0, .slice none 0 0] 26
      have l0 := h3a.two.cell 0
      have l1 := h3a.two.cell 1
      have l2 := h3a.two.cell 2
      simp at l0 l1 l2
      have H3A : Hid (Own w _ _) := h3a.drew
      have H3D : Hid (Own w w3.drew _) := H3.out.drew
      clear h3a
      go_cut [5, 6] from 13 (fun v5 v6 wc => ∃ (a5 : Option Addr) (c5 : Nat) (M : List EnE) (d2 : DlE) (b6 : Nat), v5 = .slice a5 n1 c5 ∧ v6 = .pointer (some ⟨b6, 0, none⟩) ∧ M.length = n1 ∧ evs M = evs Q1 ∧ d2.v = d.v ∧ Own w wc (Cells b6 #[.slice d2.ga d2.G.length d2.gc, .slice d2.ma d2.M.length d2.mc, .slice d2.ha d2.H.length d2.hc] 26 :: (d2.things ++ [EntsT a5 c5 M, Cells b3 #[.slice d.ga gl d.gc, .slice d.ma ml d.mc, .slice d.ha hl d.hc] 26])))
      case first =>
        go_region_law
          (first
            | (go_simp; go_at_call 7; refine (HTW.out _ [] H3D.out).mono ?_; rintro e w5 ⟨a5, c5, rfl, M, hMl, hMv, h5⟩; dsimp only
               have u0 := h5.two.cell 0
               have u1 := h5.two.cell 1
               have u2 := h5.two.cell 2
               simp at u0 u1 u2
               have h5a := h5.allocC #[.slice none 0 0, .slice none 0 0, .slice none 0 0] 26
               have x0 := (Own.three h5a).cell 0
               have x1 := (Own.three h5a).cell 1
               have x2 := (Own.three h5a).cell 2
               simp at x0 x1 x2
               have HM : Hid (M.length = n1 ∧ evs M = evs Q1) := ⟨hMl, hMv⟩
               have H5 : Hid (Own w w5 _) := h5
               have H5A : Hid (Own w _ _) := h5a
               clear h5 hMl hMv h5a)
            | (go_simp; go_at_call 7; refine (HTW.out _ [_] H3A.out).mono ?_; rintro e w5 ⟨a5, c5, rfl, M, hMl, hMv, h5⟩; dsimp only
               have u0 := (Own.three h5).cell 0
               have u1 := (Own.three h5).cell 1
               have u2 := (Own.three h5).cell 2
               simp at u0 u1 u2
               have HM : Hid (M.length = n1 ∧ evs M = evs Q1) := ⟨hMl, hMv⟩
               have H5A : Hid (Own w w5 _) := h5.two
               clear h5 hMl hMv)
            | (go_simp; go_at_call 8; refine (HTD.out _ _ H5.out).mono ?_; rintro e w6 ⟨d2, rfl, hv, h6⟩; unfold DlE.vs; dsimp only
               have HV : Hid (d2.v = d.v) := hv
               have H6 : Hid (Own w w6 _) := h6
               clear h6 hv)
            | (go_simp; go_at_call 8; refine (HTD.out _ _ H5A.out).mono ?_; rintro e w6 ⟨d2, rfl, hv, h6⟩; unfold DlE.vs; dsimp only
               have h7 := Own.lift h6
               have z0 := h7.cell 0
               have z1 := h7.cell 1
               have z2 := h7.cell 2
               have y0 := h7.froz 0
               have y1 := h7.froz 1
               have y2 := h7.froz 2
               simp at z0 z1 z2
               have HV : Hid (d2.v = d.v) := hv
               have H7 : Hid (Own w w6 _) := h7
               clear h6 h7 hv))
        all_goals
          go_wp2
          go_meet
          case rel =>
            first
              | (have h8 := ((H7.out.setC 0 (.slice d2.ga d2.G.length d2.gc)).setC 1 (.slice d2.ma d2.M.length d2.mc)).setC 2 (.slice d2.ha d2.H.length d2.hc)
                 simp only [List.setIfInBounds_toArray, List.set_cons_zero, List.set_cons_succ] at h8
                 exact ⟨a5, c5, M, d2, _, rfl, rfl, HM.out.1, HM.out.2, HV.out, h8⟩)
              | (have h8 := H6.out.allocC #[.slice d2.ga d2.G.length d2.gc, .slice d2.ma d2.M.length d2.mc, .slice d2.ha d2.H.length d2.hc] 26
                 exact ⟨a5, c5, M, d2, _, rfl, rfl, HM.out.1, HM.out.2, HV.out, h8⟩)
      case rest =>
        obtain ⟨a5, c5, M, d2, b6, rfl, rfl, hMl, hMv, hv, hO⟩ := hcut
        have hok := dlOk_tw hO.tail hv HD.out HZ.out.2.1 HZ.out.2.2
        have hdi := hok.dlIn
        obtain ⟨ng, hng⟩ : ∃ ng, ng = d2.G.length := ⟨_, rfl⟩
        obtain ⟨nm, hnm⟩ : ∃ nm, nm = d2.M.length := ⟨_, rfl⟩
        obtain ⟨nh, hnh⟩ : ∃ nh, nh = d2.H.length := ⟨_, rfl⟩
        have HV2 : Hid (d2.vs = #[.slice d2.ga ng d2.gc, .slice d2.ma nm d2.mc, .slice d2.ha nh d2.hc]) := by show _ = _; unfold DlE.vs; rw [hng, hnm, hnh]
        rw [← hng, ← hnm, ← hnh] at hO
        have hE : Own w wc (EntsT a5 c5 M :: (d2.things ++ [Cells b3 #[.slice d.ga gl d.gc, .slice d.ma ml d.mc, .slice d.ha hl d.hc] 26])) := Own.lift hO.tail
        have q1 := hE.entsCap
        rw [hMl] at q1
        have hpa := patch_any w wc HT.out _ hO a5 n1 c5 M d2 (fun w' hw => ⟨(Own.lift hw.tail).entsAt, Own.dlAt hw.tail⟩) hMl q1.1 q1.2 (EIn.of_evs hMv HE1.out.2.2) (by have := HZ.out.1; rw [esz_evs hMv]; omega) hok
        rw [HV2.out, hMv, hv] at hpa
        have HPA : Hid (Calls _ _ _ _ _) := hpa
        have r0 := hO.cell 0
        have r1 := hO.cell 1
        have r2 := hO.cell 2
        simp at r0 r1 r2
        have HM : Hid (M.length = n1 ∧ evs M = evs Q1 ∧ d2.v = d.v ∧ DlIn d2) := ⟨hMl, hMv, hv, hdi⟩
        clear hO hE q1 hpa hMl hMv hv hok hdi hng hnm hnh H3A H3D H3 l0 l1 l2 k0 k1 k2 HTW HTD
        go_wp2_with fail
        refine HPA.out.mono ?_
        rintro e w6 ⟨code, aR, cR, R, rfl, hp, hi, hzR, hO6⟩
        have hk6 := hO6.tail.tail.dropA.tail
        have k0 := hk6.cell 0
        have k1 := hk6.cell 1
        have k2 := hk6.cell 2
        simp at k0 k1 k2
        have hrp := rpatch_any w w6 _ hO6 a1 n1 c1 Q1 d (fun w' hw => ⟨HE1.out.2.1.quiet hw.fr, HD.out.at'.quiet hw.fr⟩) HE1.out.1 HE1.out.2.2 HD.out.inM HD.out.inH (by have := HZ.out; unfold dszE at this; omega) (by have := HZ.out.2.1; unfold dszE at this; omega) (by have := HZ.out.2.1; unfold dszE at this; omega)
        rw [pat_one hp, HVS.out] at hrp
        have HRP : Hid (Calls _ _ _ _ _) := hrp
        have HRZ : Hid (esz R ≤ 450000) := hzR
        clear hO6 hk6 hrp hp hi hzR HPA r0 r1 r2
        go_wp2_with fail
        refine HRP.out.mono ?_
        rintro e w7 ⟨a8, c8, R2, rfl, hR2, hO7⟩
        have hlen : R2.length = R.length := by rw [← evs_len, hR2, evs_len]
        obtain ⟨LR, hLR⟩ : ∃ LR, LR = EntsT a8 c8 R2 :: Cells b6 #[.slice d2.ga ng d2.gc, .slice d2.ma nm d2.mc, .slice d2.ha nh d2.hc] 26 :: (d2.things ++ [EntsT a5 c5 M, Cells b3 #[.slice d.ga gl d.gc, .slice d.ma ml d.mc, .slice d.ha hl d.hc] 26]) := ⟨_, rfl⟩
        have hO8 : Own w w7 (EntsT aR cR R :: LR) := by rw [hLR]; exact hO7.two
        have HB6 : Hid (∀ W, Own w W LR → Own w W (Cells b6 #[.slice d2.ga ng d2.gc, .slice d2.ma nm d2.mc, .slice d2.ha nh d2.hc] 26 :: (d2.things ++ [EntsT a5 c5 M, Cells b3 #[.slice d.ga gl d.gc, .slice d.ma ml d.mc, .slice d.ha hl d.hc] 26]))) := fun W hW => by rw [hLR] at hW; exact hW.tail
        have HB3 : Hid (∀ W, Own w W LR → Own w W [Cells b3 #[.slice d.ga gl d.gc, .slice d.ma ml d.mc, .slice d.ha hl d.hc] 26]) := fun W hW => (HB6.out W hW).tail.dropA.tail
        have HR2 : Hid (∀ W, Own w W LR → EntsAt W a8 R2) := fun W hW => by rw [hLR] at hW; exact hW.entsAt
        have HS1 : Hid (∀ W, Own w W LR → Calls Tryd.prog 11 #[.slice a5 n1 c5, .slice a1 n1 c1] W fun e w' => e = .returned (.bool true) ∧ Fr Nobody W w') := fun W hW => by
          have := sameEnts_any W a5 a1 n1 n1 c5 c1 M Q1 (Own.lift (HB6.out W hW).tail).entsAt (HE1.out.2.1.quiet hW.fr) HM.out.1 HE1.out.1 (by have := HZ.out.1; rw [esz_evs HM.out.2.1]; omega) (by have := HZ.out.1; omega)
          rw [decide_eq_true HM.out.2.1] at this
          exact this
        have HS2 : Hid (∀ W, Own w W LR → Calls Tryd.prog 12 #[.agg #[.slice d2.ga ng d2.gc, .slice d2.ma nm d2.mc, .slice d2.ha nh d2.hc], .agg #[.slice d.ga gl d.gc, .slice d.ma ml d.mc, .slice d.ha hl d.hc]] W fun e w' => e = .returned (.bool true) ∧ Fr Nobody W w') := fun W hW => by
          have := rsame_any W d2 d (Own.dlAt (HB6.out W hW).tail) (HD.out.at'.quiet hW.fr) HM.out.2.2.2 (HD.out.dlIn HZ.out.2.1 HZ.out.2.2)
          rw [decide_eq_true HM.out.2.2.1, HV2.out, HVS.out] at this
          exact this
        have hsg := sameEnts_any w7 aR a8 R.length R2.length cR c8 R R2 hO8.entsAt (HR2.out w7 hO8.tail) rfl rfl (by have := HRZ.out; omega) (by rw [esz_evs hR2]; have := HRZ.out; omega)
        rw [decide_eq_true hR2.symm] at hsg
        have HSG : Hid (Calls _ _ _ _ _) := hsg
        have H8 : Hid (Own w w7 (EntsT aR cR R :: LR)) := hO8
        have zx : ((code : Int) != (code : Int)) = false := by simp
        obtain ⟨rl, hrl⟩ : ∃ rl, rl = R.length := ⟨_, rfl⟩
        have HRL : Hid (R.length = rl) := hrl.symm
        have hrz : rl ≤ 450000 := by have := HRZ.out; unfold esz at this; omega
        rw [hlen] at HSG ⊢
        rw [← hrl] at HSG ⊢
        clear hO7 hO8 hLR hR2 hlen hsg hrl HRP k0 k1 k2
        go_wp2_with fail
        refine HSG.out.mono ?_
        rintro e w8 ⟨rfl, hf8⟩
        have h8 := H8.out.quiet hf8
        have HSA : Hid (Calls _ _ _ _ _) := HS1.out w8 h8.tail
        have H8 : Hid (Own w w8 (EntsT aR cR R :: LR)) := h8
        clear h8 hf8 HSG
        go_wp2_with fail
        refine HSA.out.mono ?_
        rintro e w9 ⟨rfl, hf9⟩
        have h9 := H8.out.quiet hf9
        have HSB : Hid (Calls _ _ _ _ _) := HS2.out w9 h9.tail
        have r0 := (HB6.out w9 h9.tail).cell 0
        have r1 := (HB6.out w9 h9.tail).cell 1
        have r2 := (HB6.out w9 h9.tail).cell 2
        have k0 := (HB3.out w9 h9.tail).cell 0
        have k1 := (HB3.out w9 h9.tail).cell 1
        have k2 := (HB3.out w9 h9.tail).cell 2
        simp at r0 r1 r2 k0 k1 k2
        have H9 : Hid (Own w w9 (EntsT aR cR R :: LR)) := h9
        clear h9 hf9 HSA
        go_wp2_with fail
        refine HSB.out.mono ?_
        rintro e w10 ⟨rfl, hf10⟩
        have H10 : Hid (Own w w10 (EntsT aR cR R :: LR)) := H9.out.quiet hf10
        clear hf10 HSB H9 H8 r0 r1 r2 k0 k1 k2
        go_wp2
        clear zx
        go_loopw [62] (fun cc wr => ∃ (j : Nat) (D : List EnE), j ≤ rl ∧ cc = .int .i64 (j : Int) ∧ D.length = rl ∧ (∀ x ∈ D, x.C.length ≤ 450000) ∧ Own w wr (EntsT aR cR D :: LR)) (fun cc _ => rl - (intOf cc).toNat)
        case atStart => exact ⟨0, R, Nat.zero_le _, rfl, HRL.out, fun x hx => by have h1 := csz_mem hx; have h2 := HRZ.out; unfold esz at h2; omega, H10.out⟩
        case round =>
          obtain ⟨j, D, hj, rfl, hDl, hDc, hO⟩ := hrel
          clear H10
          have HDD : Hid (D.length = rl ∧ ∀ x ∈ D, x.C.length ≤ 450000) := ⟨hDl, hDc⟩
          clear hDl hDc
          by_cases hlt : j < rl
          · have hlt' : (j : Int) < (rl : Int) := by omega
            obtain ⟨x, hx⟩ : ∃ x, D[j]? = some x := ⟨_, List.getElem?_eq_getElem (by rw [HDD.out.1]; exact hlt)⟩
            obtain ⟨⟨g, hg, q0, q1⟩, _⟩ := hO.entAt hx
            have hxc := HDD.out.2 x (List.mem_of_getElem? hx)
            subst hg
            have HX : Hid (D[j]? = some x) := hx
            have HO : Hid (Own w wr (EntsT (some ⟨g, 0, none⟩) cR D :: LR)) := hO
            clear hO hx
            obtain ⟨xi, xa, xc, xC⟩ := x
            simp only at q0 q1 hxc
            obtain ⟨cl, hcl⟩ : ∃ cl, cl = xC.length := ⟨_, rfl⟩
            have HCL : Hid (xC.length = cl) := hcl.symm
            rw [← hcl] at q1 hxc
            clear hcl
            go_wp2
            go_loopw [71] (fun cc wr2 => ∃ (i : Nat) (D' : List EnE) (x' : EnE), i ≤ cl ∧ cc = .int .i64 (i : Int) ∧ (D'.length = rl ∧ ∀ y ∈ D', y.C.length ≤ 450000) ∧ D'[j]? = some x' ∧ x'.ao = xa ∧ x'.cap = xc ∧ x'.C.length = cl ∧ Own w wr2 (EntsT (some ⟨g, 0, none⟩) cR D' :: LR)) (fun cc _ => cl - (intOf cc).toNat)
            case atStart => exact ⟨0, D, ⟨xi, xa, xc, xC⟩, Nat.zero_le _, rfl, HDD.out, HX.out, rfl, rfl, HCL.out, HO.out⟩
            case round =>
              obtain ⟨i, D', x', hi, rfl, hD', hx', hxa, hxc', hxl, hO2⟩ := hrel
              clear HO HX HDD q0 q1
              have HD' : Hid (D'.length = rl ∧ ∀ y ∈ D', y.C.length ≤ 450000) := hD'
              have HX' : Hid (D'[j]? = some x' ∧ x'.ao = xa ∧ x'.cap = xc ∧ x'.C.length = cl) := ⟨hx', hxa, hxc', hxl⟩
              clear hD'
              by_cases hlt2 : i < cl
              · have hlt2' : (i : Int) < (cl : Int) := by omega
                have hr := hO2.entRow hx'
                obtain ⟨⟨g', hg', _, q1⟩, _⟩ := hO2.entAt hx'
                cases hg'
                rw [hxa, hxl, hxc'] at q1 hr
                obtain ⟨gc, cp, hv, _⟩ := row_shape hr (by omega)
                have hva := (Value.slice.inj hv).1
                rw [hva] at hr
                obtain ⟨q, hq⟩ : ∃ q, x'.C[i]? = some q := ⟨_, List.getElem?_eq_getElem (by rw [hxl]; exact hlt2)⟩
                have y1 : wr.cell? ⟨gc, i * 4 + 1, none⟩ = some (.int .i32 q.a) := by
                  rw [hr.cellAt _ (by omega)]
                  exact (ccat_at x'.C i q hq 1 (by decide)).trans rfl
                have y2 := hr.frozenAt (i * 4 + 1)
                subst hva
                have HQ : Hid (x'.C[i]? = some q) := hq
                have HO2 : Hid (Own w wr (EntsT (some ⟨g, 0, none⟩) cR D' :: LR)) := hO2
                have HG : Hid (∀ u : Int, ∃ (i' : Nat) (D2 : List EnE) (x2 : EnE), i' ≤ cl ∧ Value.int .i64 ((i : Int) + 1) = .int .i64 (i' : Int) ∧ (D2.length = rl ∧ ∀ y ∈ D2, y.C.length ≤ 450000) ∧ D2[j]? = some x2 ∧ x2.ao = some ⟨gc, 0, none⟩ ∧ x2.cap = xc ∧ x2.C.length = cl ∧ Own w (wr.setCell ⟨gc, i * 4 + 1, none⟩ (.int .i32 u)).drew (EntsT (some ⟨g, 0, none⟩) cR D2 :: LR)) := fun u => by
                  have e := HX'.out
                  refine ⟨i + 1, D'.set j { x' with C := x'.C.set i { q with a := u } }, { x' with C := x'.C.set i { q with a := u } }, by omega, by go_num, ⟨by rw [List.length_set]; exact HD'.out.1, fun y hy => ?_⟩, ?_, e.2.1, e.2.2.1, by rw [List.length_set]; exact e.2.2.2, (Own.entCp HO2.out e.1 HQ.out e.2.1 u).drew⟩
                  · rcases List.mem_or_eq_of_mem_set hy with hy | rfl
                    · exact HD'.out.2 y hy
                    · show (x'.C.set i _).length ≤ 450000
                      rw [List.length_set]; exact HD'.out.2 x' (List.mem_of_getElem? e.1)
                  · rw [List.getElem?_set]; simp [(List.getElem?_eq_some_iff.1 e.1).1]
                clear hr hv hx' hxa hxc' hxl hq hO2
                go_wp2
                go_region_law (fail)
                all_goals
                  go_wp2
                  go_roundw
                  case rel => exact HG.out _
                  case measure => simp [intOf]; omega
              · have hlt2' : ¬ (i : Int) < (cl : Int) := by omega
                have HO2 : Hid (Own w wr (EntsT (some ⟨g, 0, none⟩) cR D' :: LR)) := hO2
                clear hO2 hx' hxa hxc' hxl
                go_wp2
                go_roundw
                case rel => exact ⟨j + 1, D', by omega, by go_num, HD'.out.1, HD'.out.2, HO2.out⟩
                case measure => simp [intOf]; omega
          · have hlt' : ¬ (j : Int) < (rl : Int) := by omega
            have HSA : Hid (Calls _ _ _ _ _) := HS1.out wr hO.tail
            have HO : Hid (Own w wr (EntsT aR cR D :: LR)) := hO
            clear hO
            go_wp2_with fail
            refine HSA.out.mono ?_
            rintro e w11 ⟨rfl, hf11⟩
            have h11 := HO.out.quiet hf11
            have HSB : Hid (Calls _ _ _ _ _) := HS2.out w11 h11.tail
            have r0 := (HB6.out w11 h11.tail).cell 0
            have r1 := (HB6.out w11 h11.tail).cell 1
            have r2 := (HB6.out w11 h11.tail).cell 2
            have k0 := (HB3.out w11 h11.tail).cell 0
            have k1 := (HB3.out w11 h11.tail).cell 1
            have k2 := (HB3.out w11 h11.tail).cell 2
            simp at r0 r1 r2 k0 k1 k2
            have HF : Hid (Fr Nobody w w11) := h11.fr
            clear h11 hf11 HSA HO
            go_wp2_with fail
            refine HSB.out.mono ?_
            rintro e w12 ⟨rfl, hf12⟩
            have HF2 : Hid (Fr Nobody w w12) := HF.out.trans hf12
            clear hf12 HSB HF r0 r1 r2 k0 k1 k2
            go_wp2
            go_ret
            exact ⟨rfl, HF2.out⟩
    · have hff : (decide (dszE d ≤ 300) && decide (esz d.M ≤ 400)) = false := by
        cases h6 : decide (dszE d ≤ 300) <;> cases h7 : decide (esz d.M ≤ 400) <;> simp at h6 h7 ⊢
        exact h5 ⟨h6, h7⟩
      rw [hff] at HFD
      clear h5 hff
      go_wp2_with fail
      refine HFD.out.mono ?_
      rintro e w3 ⟨rfl, hf3⟩
      have HF3 : Hid (Fr Nobody w w3) := (H2.out.quiet hf3).fr
      clear hf3 H2 HFD k0 k1 k2
      go_wp2
      go_ret
      exact ⟨rfl, HF3.out⟩
  · rw [decide_eq_false h4] at HFW
    clear h4
    go_wp2_with fail
    refine HFW.out.mono ?_
    rintro e w2 ⟨rfl, hf2⟩
    have HF2 : Hid (Fr Nobody w w2) := (H1.out.quiet hf2).fr
    clear hf2 H1 HFW
    go_wp2
    go_ret
    exact ⟨rfl, HF2.out⟩
theorem diffPatches_walk (w : World) (ht : Tab w) (a0 : Option Addr) (len0 cap0 : Nat) (z0 : List EnE) (w0 : IsEnts w a0 len0 cap0 z0) (hb0 : esz z0 ≤ 1048576) (z1 : DlE) (w1 : IsDl w z1) (hb1 : zsz z1 ≤ 1048576) :
    Calls Tryd.prog 3 #[.slice a0 len0 cap0, .agg z1.vs] w fun e w' => e = .returned (.bool true) ∧ Below w.heap.size w w' := by
  refine (diffPatches_fr w ht a0 len0 cap0 z0 w0 hb0 z1 w1 hb1).mono ?_
  rintro e w' ⟨rfl, hf⟩
  exact ⟨rfl, hf.below (Nat.le_refl _) (fun _ _ h => h)⟩
end Go.Proofs.YtkjanpjlpieaoaaDoor

