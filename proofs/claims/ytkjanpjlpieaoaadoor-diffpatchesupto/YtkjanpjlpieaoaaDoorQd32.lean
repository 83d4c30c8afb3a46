/-
  The document's Same of deltas.
-/
import Derived.Test.YtkjanpjlpieaoaaDoorQd31
namespace Go.Proofs.YtkjanpjlpieaoaaDoor
open Go.RowKit
set_option linter.unusedVariables false
set_option maxRecDepth 100000

def ChE.vs (x : ChE) : Array Value := #[.int .u32 (x.id : Int), .int .u8 (x.lost : Int), .slice x.na x.N.length x.nc, .slice x.sa x.S.length x.sc]
set_option maxHeartbeats 16000000 in
theorem rsame_any (w : World) (a b : DlE) (ha : DlAt w a) (hb : DlAt w b) (hia : DlIn a) (hib : DlIn b) :
    Calls Tryd.prog 12 #[.agg a.vs, .agg b.vs] w fun e w' => e = .returned (.bool (decide (a.v = b.v))) ∧ Fr Nobody w w' := by
  have hal : Fr Nobody w ((w.alloc (.cells a.vs 26)).alloc (.cells b.vs 26)) := ((Fr.refl _ _).alloc _).alloc _
  have hO := ((Own.start w).allocC a.vs 26).allocC b.vs 26
  have e1 : (w.alloc (.cells a.vs 26)).heap.size = w.heap.size + 1 := by simp
  rw [e1] at hO
  have HG : Hid (Calls _ _ _ _ _) := eqIds_r _ a.ga b.ga a.G.length b.G.length a.gc b.gc a.G b.G (ha.g.quiet hal) (hb.g.quiet hal) (by have := hia.g; omega) (by have := hib.g; omega)
  have HM : Hid (∀ W, Fr Nobody w W → Calls Tryd.prog 11 #[.slice a.ma a.M.length a.mc, .slice b.ma b.M.length b.mc] W fun e w' => e = .returned (.bool (decide (evs a.M = evs b.M))) ∧ Fr Nobody W w') := fun W hW => sameEnts_any W a.ma b.ma a.M.length b.M.length a.mc b.mc a.M b.M (ha.m.quiet hW) (hb.m.quiet hW) rfl rfl (by have := hia.m; omega) (by have := hib.m; omega)
  have HH : Hid (ChsAt w a.ha a.H ∧ ChsAt w b.ha b.H ∧ (∀ x ∈ a.H, x.N.length + x.S.length ≤ 1000000 ∧ x.lost < 256) ∧ ∀ x ∈ b.H, x.N.length + x.S.length ≤ 1000000 ∧ x.lost < 256) := ⟨ha.h, hb.h, fun x hx => ⟨by have := hsz_mem hx; have := hia.h; omega, hia.l x hx⟩, fun x hx => ⟨by have := hsz_mem hx; have := hib.h; omega, hib.l x hx⟩⟩
  have hah : a.H.length ≤ 1000000 := by have := hia.h; omega
  have hbh : b.H.length ≤ 1000000 := by have := hib.h; omega
  rw [dl_dec]
  have HAL : Hid (Fr Nobody w _) := hal
  have HO : Hid (Own w _ _) := hO
  clear ha hb hia hib hal hO e1
  generalize decide (a.G = b.G) = r0 at *
  generalize decide (evs a.M = evs b.M) = r1 at *
  obtain ⟨aG, aga, agc, aM, ama, amc, aH, aha, ahc⟩ := a
  obtain ⟨bG, bga, bgc, bM, bma, bmc, bH, bha, bhc⟩ := b
  simp only [DlE.vs] at HG HM HH HAL HO hah hbh ⊢
  generalize aG.length = agl at *
  generalize aM.length = aml at *
  generalize bG.length = bgl at *
  generalize bM.length = bml at *
  obtain ⟨ahl, hahl⟩ : ∃ n, n = aH.length := ⟨_, rfl⟩
  obtain ⟨bhl, hbhl⟩ : ∃ n, n = bH.length := ⟨_, rfl⟩
  rw [← hahl, ← hbhl] at HO HAL HG
  rw [← hahl, ← hbhl]
  rw [← hahl] at hah
  rw [← hbhl] at hbh
  have HHL : Hid (ahl = aH.length ∧ bhl = bH.length) := ⟨hahl, hbhl⟩
  clear hahl hbhl
  go_enter Tryd.func12, Tryd.ntmps12
  go_wp2_with fail
  refine HG.out.mono ?_
  rintro e w1 ⟨rfl, hf1⟩
  have hF1 := HAL.out.trans hf1
  have hO1 := HO.out.quiet hf1
  have u1 := hO1.cell 1
  have u2 := hO1.cell 2
  have v1 := hO1.two.cell 1
  have v2 := hO1.two.cell 2
  simp at u1 u2 v1 v2
  cases r0
  · have HF1 : Hid (Fr Nobody w w1) := hF1
    clear hF1 hf1 HG HM HH hO1 HO HAL u1 u2 v1 v2
    go_wp2
    go_ret
    exact ⟨by simp, HF1.out⟩
  · have HMM : Hid (Calls _ _ _ _ _) := HM.out w1 hF1
    have HF1 : Hid (Fr Nobody w w1) := hF1
    have HO1 : Hid (Own w w1 _) := hO1
    clear hF1 hf1 HG HM HO HAL hO1
    go_wp2_with fail
    refine HMM.out.mono ?_
    rintro e w2 ⟨rfl, hf2⟩
    have hF2 := HF1.out.trans hf2
    have hO2 := HO1.out.quiet hf2
    have x2 := hO2.cell 2
    have y2 := hO2.two.cell 2
    simp at x2 y2
    cases r1
    · have HF2 : Hid (Fr Nobody w w2) := hF2
      clear hF2 hf2 HMM HH hO2 HO1 HF1 u1 u2 v1 v2 x2 y2
      go_wp2
      go_ret
      exact ⟨by simp, HF2.out⟩
    · have HO2 : Hid (Own w w2 _) := hO2
      clear hF2 hf2 HMM hO2 HO1 HF1 u1 u2 v1 v2
      by_cases hne : ahl = bhl
      · subst hne
        have hne' : ((ahl : Int) != (ahl : Int)) = false := by simp
        go_wp2
        generalize w.heap.size + 1 = bB at *
        generalize w.heap.size = bA at *
        have H0 : Hid (Own w w2 [Cells bB #[.slice bga bgl bgc, .slice bma bml bmc, .slice bha ahl bhc] 26, Cells bA #[.slice aga agl agc, .slice ama aml amc, .slice aha ahl ahc] 26]) := HO2.out
        clear HO2 x2 y2 hne'
        go_loopw [34] (fun cc wr => ∃ k : Nat, k ≤ ahl ∧ cc = .int .i64 k ∧ Own w wr [Cells bB #[.slice bga bgl bgc, .slice bma bml bmc, .slice bha ahl bhc] 26, Cells bA #[.slice aga agl agc, .slice ama aml amc, .slice aha ahl ahc] 26] ∧ (chv aH).take k = (chv bH).take k) (fun cc _ => ahl - (intOf cc).toNat)
        case atStart => exact ⟨0, Nat.zero_le _, rfl, H0.out, by simp⟩
        case round =>
          obtain ⟨k, hk, rfl, hO, heq⟩ := hrel
          have HE : Hid ((chv aH).take k = (chv bH).take k) := heq
          clear heq H0
          by_cases hlt : k < ahl
          · obtain ⟨x, hx⟩ : ∃ x, aH[k]? = some x := ⟨_, List.getElem?_eq_getElem (by rw [← HHL.out.1]; exact hlt)⟩
            obtain ⟨y, hy⟩ : ∃ y, bH[k]? = some y := ⟨_, List.getElem?_eq_getElem (by rw [← HHL.out.2]; exact hlt)⟩
            obtain ⟨g1, o1, hg1, ⟨r0, r1, r2, r3⟩, k1, k1'⟩ := (HH.out.1.quiet hO.fr).at hx
            obtain ⟨g2, o2, hg2, ⟨s0, s1, s2, s3⟩, k2, k2'⟩ := (HH.out.2.1.quiet hO.fr).at hy
            subst hg1 hg2
            have hb1 : g1 < wr.heap.size := World.block_lt_of_cell? wr _ r0
            have hb2 : g2 < wr.heap.size := World.block_lt_of_cell? wr _ s0
            have hb5 : bB < wr.heap.size := hO.lt
            have hb6 : bA < wr.heap.size := hO.two.lt
            have hlt' : (k : Int) < (ahl : Int) := by omega
            have hzx := HH.out.2.2.1 x (List.mem_of_getElem? hx)
            have hzy := HH.out.2.2.2 y (List.mem_of_getElem? hy)
            have HCN : Hid (∀ W, Fr Nobody wr W → Calls Tryd.prog 27 #[.slice x.na x.N.length x.nc, .slice y.na y.N.length y.nc] W fun e w' => e = .returned (.bool (decide (x.N = y.N))) ∧ Fr Nobody W w') := fun W hW => eqCs_r W x.na y.na x.N.length y.N.length x.nc y.nc x.N y.N (k1.quiet hW) (k2.quiet hW) rfl rfl (by omega) (by omega)
            have HCS : Hid (∀ W, Fr Nobody wr W → Calls Tryd.prog 27 #[.slice x.sa x.S.length x.sc, .slice y.sa y.S.length y.sc] W fun e w' => e = .returned (.bool (decide (x.S = y.S))) ∧ Fr Nobody W w') := fun W hW => eqCs_r W x.sa y.sa x.S.length y.S.length x.sc y.sc x.S y.S (k1'.quiet hW) (k2'.quiet hW) rfl rfl (by omega) (by omega)
            have HXY : Hid ((chv aH)[k]? = some x.v ∧ (chv bH)[k]? = some y.v) := ⟨chv_at hx, chv_at hy⟩
            have HCD : Hid (decide (x.v = y.v) = (decide (x.id = y.id) && decide (x.lost = y.lost) && decide (x.N = y.N) && decide (x.S = y.S))) := chg_dec x y
            have hxl := hzx.2
            have hyl := hzy.2
            have HO : Hid (Own w wr [Cells bB #[.slice bga bgl bgc, .slice bma bml bmc, .slice (some ⟨g2, o2, none⟩) ahl bhc] 26, Cells bA #[.slice aga agl agc, .slice ama aml amc, .slice (some ⟨g1, o1, none⟩) ahl ahc] 26]) := hO
            have q1 := hO.two.cell 2
            have q2 := hO.cell 2
            simp at q1 q2
            clear hx hy k1 k2 k1' k2' hzx hzy hO
            generalize x.v = xv at *
            generalize y.v = yv at *
            generalize decide (x.N = y.N) = rn at *
            generalize decide (x.S = y.S) = rs at *
            obtain ⟨xi, xl, xN, xna, xnc, xS, xsa, xsc⟩ := x
            obtain ⟨yi, yl, yN, yna, ync, yS, ysa, ysc⟩ := y
            simp only at r0 r1 r2 r3 s0 s1 s2 s3 HCN HCS HCD hxl hyl
            generalize xN.length = xnl at *
            generalize xS.length = xsl at *
            generalize yN.length = ynl at *
            generalize yS.length = ysl at *
            have z1 : wr.heap.size ≠ g1 := by omega
            have z2 : wr.heap.size ≠ g2 := by omega
            have z3 : wr.heap.size ≠ bB := by omega
            have z4 : wr.heap.size ≠ bA := by omega
            have z5 : wr.heap.size + 1 ≠ g1 := by omega
            have z6 : wr.heap.size + 1 ≠ g2 := by omega
            have z7 : wr.heap.size + 1 ≠ bB := by omega
            have z8 : wr.heap.size + 1 ≠ bA := by omega
            clear hb1 hb2 hb5 hb6
            go_wp2
            go_cut [6, 7] (fun s6 s7 wc => ∃ b6 b7 : Nat, s6 = .pointer (some ⟨b6, 0, none⟩) ∧ s7 = .pointer (some ⟨b7, 0, none⟩) ∧ Fr Nobody wr wc ∧ Own w wc (Cells b6 #[.int .u32 (xi : Int), .int .u8 (xl : Int), .slice xna xnl xnc, .slice xsa xsl xsc] 51 :: Cells b7 #[.int .u32 (yi : Int), .int .u8 (yl : Int), .slice yna ynl ync, .slice ysa ysl ysc] 51 :: [Cells bB #[.slice bga bgl bgc, .slice bma bml bmc, .slice (some ⟨g2, o2, none⟩) ahl bhc] 26, Cells bA #[.slice aga agl agc, .slice ama aml amc, .slice (some ⟨g1, o1, none⟩) ahl ahc] 26]))
            case first =>
              go_region_held3 (fun w' => w'.cell? ⟨bA, 2, none⟩ = some (.slice (some ⟨g1, o1, none⟩) ahl ahc) ∧ w'.cell? ⟨bB, 2, none⟩ = some (.slice (some ⟨g2, o2, none⟩) ahl bhc) ∧ w'.cell? ⟨g1, o1 + k * 4, none⟩ = some (.int .u32 (xi : Int)) ∧ w'.cell? ⟨g1, o1 + k * 4 + 1, none⟩ = some (.int .u8 (xl : Int)) ∧ w'.cell? ⟨g1, o1 + k * 4 + 2, none⟩ = some (.slice xna xnl xnc) ∧ w'.cell? ⟨g1, o1 + k * 4 + 3, none⟩ = some (.slice xsa xsl xsc) ∧ w'.cell? ⟨g2, o2 + k * 4, none⟩ = some (.int .u32 (yi : Int)) ∧ w'.cell? ⟨g2, o2 + k * 4 + 1, none⟩ = some (.int .u8 (yl : Int)) ∧ w'.cell? ⟨g2, o2 + k * 4 + 2, none⟩ = some (.slice yna ynl ync) ∧ w'.cell? ⟨g2, o2 + k * 4 + 3, none⟩ = some (.slice ysa ysl ysc)) (go_keep) (fail)
              · go_wp2
                go_meet
                case rel =>
                  refine ⟨wr.heap.size, wr.heap.size + 1, rfl, rfl, (((Fr.refl _ wr).alloc _).alloc _).drew, ?_⟩
                  have h := ((HO.out.allocC #[.int .u32 (xi : Int), .int .u8 (xl : Int), .slice xna xnl xnc, .slice xsa xsl xsc] 51).allocC #[.int .u32 (yi : Int), .int .u8 (yl : Int), .slice yna ynl ync, .slice ysa ysl ysc] 51).drew
                  have e1 : (wr.alloc (.cells #[.int .u32 (xi : Int), .int .u8 (xl : Int), .slice xna xnl xnc, .slice xsa xsl xsc] 51)).heap.size = wr.heap.size + 1 := by simp
                  rw [e1] at h
                  exact h.two
              · go_wp2
                go_meet
                case rel =>
                  refine ⟨wr.heap.size + 1, wr.heap.size, rfl, rfl, (((Fr.refl _ wr).alloc _).alloc _).drew, ?_⟩
                  have h := ((HO.out.allocC #[.int .u32 (yi : Int), .int .u8 (yl : Int), .slice yna ynl ync, .slice ysa ysl ysc] 51).allocC #[.int .u32 (xi : Int), .int .u8 (xl : Int), .slice xna xnl xnc, .slice xsa xsl xsc] 51).drew
                  have e1 : (wr.alloc (.cells #[.int .u32 (yi : Int), .int .u8 (yl : Int), .slice yna ynl ync, .slice ysa ysl ysc] 51)).heap.size = wr.heap.size + 1 := by simp
                  rw [e1] at h
                  exact h
            case rest =>
              obtain ⟨b6, b7, rfl, rfl, hfc, hOc⟩ := hcut
              have t0 := hOc.cell 0
              have t1 := hOc.cell 1
              have t2 := hOc.cell 2
              have t3 := hOc.cell 3
              have v0 := hOc.two.cell 0
              have v1 := hOc.two.cell 1
              have v2 := hOc.two.cell 2
              have v3 := hOc.two.cell 3
              simp at t0 t1 t2 t3 v0 v1 v2 v3
              have HOC : Hid (Own w wc (Cells b6 #[.int .u32 (xi : Int), .int .u8 (xl : Int), .slice xna xnl xnc, .slice xsa xsl xsc] 51 :: Cells b7 #[.int .u32 (yi : Int), .int .u8 (yl : Int), .slice yna ynl ync, .slice ysa ysl ysc] 51 :: [Cells bB #[.slice bga bgl bgc, .slice bma bml bmc, .slice (some ⟨g2, o2, none⟩) ahl bhc] 26, Cells bA #[.slice aga agl agc, .slice ama aml amc, .slice (some ⟨g1, o1, none⟩) ahl ahc] 26])) := hOc
              have HFC : Hid (Fr Nobody wr wc) := hfc
              clear hOc hfc HO r0 r1 r2 r3 s0 s1 s2 s3 q1 q2 z1 z2 z3 z4 z5 z6 z7 z8
              by_cases c0 : xi = yi
              · have e0 : ((xi : Int) != (yi : Int)) = false := by simp [c0]
                by_cases c1 : xl = yl
                · have e2 : ((xl : Int) != (yl : Int)) = false := by simp [c1]
                  have HR : Hid (decide (xv = yv) = (rn && rs)) := by show _ = _; rw [HCD.out, decide_eq_true c0, decide_eq_true c1]; rfl
                  have HN1 : Hid (Calls _ _ _ _ _) := HCN.out wc HFC.out
                  clear c0 c1 HCD HCN
                  go_wp2_with fail
                  refine HN1.out.mono ?_
                  rintro e w5 ⟨rfl, hf5⟩
                  have hO5 := HOC.out.quiet hf5
                  cases rn
                  · have HNE : Hid (decide (chv aH = chv bH) = false) := take_ne HXY.out.1 HXY.out.2 HR.out
                    have HF : Hid (Fr Nobody w w5) := hO5.fr
                    clear hf5 HOC hO5 t0 t1 t2 t3 v0 v1 v2 v3 HFC HN1
                    go_wp2
                    go_ret
                    exact ⟨by rw [HNE.out]; rfl, HF.out⟩
                  · have HS1 : Hid (Calls _ _ _ _ _) := HCS.out w5 (HFC.out.trans hf5)
                    have t3 := hO5.cell 3
                    have v3 := hO5.two.cell 3
                    simp at t3 v3
                    have HO5 : Hid (Own w w5 (Cells b6 #[.int .u32 (xi : Int), .int .u8 (xl : Int), .slice xna xnl xnc, .slice xsa xsl xsc] 51 :: Cells b7 #[.int .u32 (yi : Int), .int .u8 (yl : Int), .slice yna ynl ync, .slice ysa ysl ysc] 51 :: [Cells bB #[.slice bga bgl bgc, .slice bma bml bmc, .slice (some ⟨g2, o2, none⟩) ahl bhc] 26, Cells bA #[.slice aga agl agc, .slice ama aml amc, .slice (some ⟨g1, o1, none⟩) ahl ahc] 26])) := hO5
                    clear hO5 HOC HN1 HFC hf5
                    go_wp2_with fail
                    refine HS1.out.mono ?_
                    rintro e w6 ⟨rfl, hf6⟩
                    have hO6 := HO5.out.quiet hf6
                    cases rs
                    · have HNE : Hid (decide (chv aH = chv bH) = false) := take_ne HXY.out.1 HXY.out.2 HR.out
                      have HF : Hid (Fr Nobody w w6) := hO6.fr
                      clear hf6 hO6 HO5 HS1
                      go_wp2
                      go_ret
                      exact ⟨by rw [HNE.out]; rfl, HF.out⟩
                    · have HNE : Hid ((chv aH).take (k + 1) = (chv bH).take (k + 1)) := take_eq HXY.out.1 HXY.out.2 HR.out HE.out
                      have HO6 : Hid (Own w w6 [Cells bB #[.slice bga bgl bgc, .slice bma bml bmc, .slice (some ⟨g2, o2, none⟩) ahl bhc] 26, Cells bA #[.slice aga agl agc, .slice ama aml amc, .slice (some ⟨g1, o1, none⟩) ahl ahc] 26]) := hO6.tail.tail
                      clear hf6 hO6 HO5 HS1
                      go_wp2
                      go_roundw
                      case rel => exact ⟨k + 1, by omega, by go_num, HO6.out, HNE.out⟩
                      case measure => simp [intOf]; omega
                · have e2 : ((xl : Int) != (yl : Int)) = true := by rw [bne_iff_ne]; omega
                  have HNE : Hid (decide (chv aH = chv bH) = false) := take_ne HXY.out.1 HXY.out.2 (by rw [HCD.out, decide_eq_false c1]; simp)
                  have HF : Hid (Fr Nobody w wc) := HOC.out.fr
                  clear c0 c1 HCD HCN HCS HOC HFC
                  go_wp2
                  go_ret
                  exact ⟨by rw [HNE.out]; rfl, HF.out⟩
              · have e0 : ((xi : Int) != (yi : Int)) = true := by rw [bne_iff_ne]; omega
                have HNE : Hid (decide (chv aH = chv bH) = false) := take_ne HXY.out.1 HXY.out.2 (by rw [HCD.out, decide_eq_false c0]; simp)
                have HF : Hid (Fr Nobody w wc) := HOC.out.fr
                clear c0 HCD HCN HCS HOC HFC
                go_wp2
                go_ret
                exact ⟨by rw [HNE.out]; rfl, HF.out⟩
          · have hlt' : ¬ (k : Int) < (ahl : Int) := by omega
            have HN : Hid (decide (chv aH = chv bH) = true) := take_all (by rw [chv_len]; have := HHL.out.1; omega) (by rw [chv_len]; have := HHL.out.2; omega) HE.out
            have HF : Hid (Fr Nobody w wr) := hO.fr
            clear hO
            go_wp2
            go_ret
            exact ⟨by rw [HN.out]; rfl, HF.out⟩
      · have hne' : ((ahl : Int) != (bhl : Int)) = true := by rw [bne_iff_ne]; omega
        have HN : Hid (decide (chv aH = chv bH) = false) := len_ne (by rw [chv_len, chv_len]; have := HHL.out; omega)
        have HF2 : Hid (Fr Nobody w w2) := HO2.out.fr
        clear HH HO2
        go_wp2
        go_ret
        exact ⟨by rw [HN.out]; rfl, HF2.out⟩
end Go.Proofs.YtkjanpjlpieaoaaDoor

