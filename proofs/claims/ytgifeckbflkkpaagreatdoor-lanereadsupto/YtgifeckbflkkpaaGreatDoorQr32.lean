/- The document's Same of deltas. -/
import Derived.Test.YtgifeckbflkkpaaGreatDoorQr31
import Derived.Test.YtgifeckbflkkpaaGreatDoorQr23
import Derived.Test.YtgifeckbflkkpaaGreatDoorQr21
import Derived.Test.YtgifeckbflkkpaaGreatDoorQr25
namespace Go.Proofs.YtgifeckbflkkpaaGreatDoor
open Go.RowKit
set_option linter.unusedVariables false
set_option maxHeartbeats 16000000
set_option maxRecDepth 100000
def ChE.vs (x : ChE) : Array Value := #[.int .u32 (x.id : Int),.int .u8 (x.lost : Int),.slice x.na x.N.length x.nc,.slice x.sa x.S.length x.sc]
theorem rsame_any (w : World) (a b : DlE) (ha : DlAt w a) (hb : DlAt w b) (hia : DlIn a) (hib : DlIn b) :
  Calls Tryz.prog 114 #[.agg a.vs,.agg b.vs] w fun e w' => e = .returned (.bool (decide (a.v = b.v))) ∧ Fr Nobody w w' := by
 have hal : Fr Nobody w ((w.alloc (.cells a.vs 106)).alloc (.cells b.vs 106)) := ((Fr.refl _ _).alloc _).alloc _
 have hO := ((Own.start w).allocC a.vs 106).allocC b.vs 106
 have e1 : (w.alloc (.cells a.vs 106)).heap.size = w.heap.size + 1 := by simp
 rw [e1] at hO
 have HG : Hid (Calls _ _ _ _ _) := eqIds_r _ a.ga b.ga a.G.length b.G.length a.gc b.gc a.G b.G (ha.g.quiet hal) (hb.g.quiet hal) (by have := hia.g; omega) (by have := hib.g; omega)
 have HM : Hid (∀ W,Fr Nobody w W → Calls Tryz.prog 16 #[.slice a.ma a.M.length a.mc,.slice b.ma b.M.length b.mc] W fun e w' => e = .returned (.bool (decide (evs a.M = evs b.M))) ∧ Fr Nobody W w') := fun W hW => sameEnts_any W a.ma b.ma a.M.length b.M.length a.mc b.mc a.M b.M (ha.m.quiet hW) (hb.m.quiet hW) rfl rfl (by have := hia.m; omega) (by have := hib.m; omega)
 have HH : Hid (ChsAt w a.ha a.H ∧ ChsAt w b.ha b.H ∧ (∀ x ∈ a.H,x.N.length + x.S.length ≤ 1000000 ∧ x.lost < 256) ∧ ∀ x ∈ b.H,x.N.length + x.S.length ≤ 1000000 ∧ x.lost < 256) := ⟨ha.h,hb.h,fun x hx => ⟨by have := hsz_mem hx; have := hia.h; omega,hia.l x hx⟩,fun x hx => ⟨by have := hsz_mem hx; have := hib.h; omega,hib.l x hx⟩⟩
 have hah : a.H.length ≤ 1000000 := by have := hia.h; omega
 have hbh : b.H.length ≤ 1000000 := by have := hib.h; omega
 rw [dl_dec]
 have HAL : Hid (Fr Nobody w _) := hal
 have HO : Hid (Own w _ _) := hO
 clear ha hb hia hib hal hO e1
 generalize decide (a.G = b.G) = r0 at *
 generalize decide (evs a.M = evs b.M) = r1 at *
 obtain ⟨aG,aga,agc,aM,ama,amc,aH,aha,ahc⟩ := a
 obtain ⟨bG,bga,bgc,bM,bma,bmc,bH,bha,bhc⟩ := b
 simp only [DlE.vs] at HG HM HH HAL HO hah hbh ⊢
 generalize aG.length = agl at *
 generalize aM.length = aml at *
 generalize bG.length = bgl at *
 generalize bM.length = bml at *
 obtain ⟨ahl,hahl⟩ : ∃ n,n = aH.length := ⟨_,rfl⟩
 obtain ⟨bhl,hbhl⟩ : ∃ n,n = bH.length := ⟨_,rfl⟩
 rw [← hahl,← hbhl] at HO HAL HG
 rw [← hahl,← hbhl]
 rw [← hahl] at hah
 rw [← hbhl] at hbh
 have HHL : Hid (ahl = aH.length ∧ bhl = bH.length) := ⟨hahl,hbhl⟩
 clear hahl hbhl
 go_enter Tryz.func114,Tryz.ntmps114
 go_wp2_with fail
 refine HG.out.mono ?_
 rintro e w1 ⟨rfl,hf1⟩
 have hF1 := HAL.out.trans hf1
 have hO1 := HO.out.quiet hf1
 have u1 := hO1.cell 1
 have u2 := hO1.cell 2
 have v1 := hO1.two.cell 1
 have v2 := hO1.two.cell 2
 simp at u1 u2 v1 v2
 cases r0
 ·have HF1 : Hid (Fr Nobody w w1) := hF1
  clear hF1 hf1 HG HM HH hO1 HO HAL u1 u2 v1 v2
  go_wp2
  go_ret
  exact ⟨by simp,HF1.out⟩
 ·have HMM : Hid (Calls _ _ _ _ _) := HM.out w1 hF1
  have HF1 : Hid (Fr Nobody w w1) := hF1
  have HO1 : Hid (Own w w1 _) := hO1
  clear hF1 hf1 HG HM HO HAL hO1
  go_wp2_with fail
  refine HMM.out.mono ?_
  rintro e w2 ⟨rfl,hf2⟩
  have hF2 := HF1.out.trans hf2
  have hO2 := HO1.out.quiet hf2
  have x2 := hO2.cell 2
  have y2 := hO2.two.cell 2
  simp at x2 y2
  cases r1
  ·have HF2 : Hid (Fr Nobody w w2) := hF2
   clear hF2 hf2 HMM HH hO2 HO1 HF1 u1 u2 v1 v2 x2 y2
   go_wp2
   go_ret
   exact ⟨by simp,HF2.out⟩
  ·have HO2 : Hid (Own w w2 _) := hO2
   clear hF2 hf2 HMM hO2 HO1 HF1 u1 u2 v1 v2
   by_cases hne : ahl = bhl
   ·subst hne
    have hne' : ((ahl : Int) != (ahl : Int)) = false := by simp
    go_wp2
    generalize w.heap.size + 1 = bB at *
    generalize w.heap.size = bA at *
    have H0 : Hid (Own w w2 [Cells bB #[.slice bga bgl bgc,.slice bma bml bmc,.slice bha ahl bhc] 106,Cells bA #[.slice aga agl agc,.slice ama aml amc,.slice aha ahl ahc] 106]) := HO2.out
    clear HO2 x2 y2 hne'
    go_loopw [34] (fun cc wr => ∃ k : Nat,k ≤ ahl ∧ cc = .int .i64 k ∧ Own w wr [Cells bB #[.slice bga bgl bgc,.slice bma bml bmc,.slice bha ahl bhc] 106,Cells bA #[.slice aga agl agc,.slice ama aml amc,.slice aha ahl ahc] 106] ∧ (chv aH).take k = (chv bH).take k) (fun cc _ => ahl - (intOf cc).toNat)
    case atStart => exact ⟨0,Nat.zero_le _,rfl,H0.out,by simp⟩
    case round =>
     obtain ⟨k,hk,rfl,hO,heq⟩ := hrel
     have HE : Hid ((chv aH).take k = (chv bH).take k) := heq
     clear heq H0
     by_cases hlt : k < ahl
     ·obtain ⟨x,hx⟩ : ∃ x,aH[k]? = some x := ⟨_,List.getElem?_eq_getElem (by rw [← HHL.out.1]; exact hlt)⟩
      obtain ⟨y,hy⟩ : ∃ y,bH[k]? = some y := ⟨_,List.getElem?_eq_getElem (by rw [← HHL.out.2]; exact hlt)⟩
      obtain ⟨g1,o1,hg1,⟨r0,r1,r2,r3⟩,k1,k1'⟩ := (HH.out.1.quiet hO.fr).at hx
      obtain ⟨g2,o2,hg2,⟨s0,s1,s2,s3⟩,k2,k2'⟩ := (HH.out.2.1.quiet hO.fr).at hy
      subst hg1 hg2
      have hb1 : g1 < wr.heap.size := World.block_lt_of_cell? wr _ r0
      have hb2 : g2 < wr.heap.size := World.block_lt_of_cell? wr _ s0
      have hb5 : bB < wr.heap.size := hO.lt
      have hb6 : bA < wr.heap.size := hO.two.lt
      have hlt' : (k : Int) < (ahl : Int) := by omega
      have hzx := HH.out.2.2.1 x (List.mem_of_getElem? hx)
      have hzy := HH.out.2.2.2 y (List.mem_of_getElem? hy)
      have HCN : Hid (∀ W,Fr Nobody wr W → Calls Tryz.prog 115 #[.slice x.na x.N.length x.nc,.slice y.na y.N.length y.nc] W fun e w' => e = .returned (.bool (decide (x.N = y.N))) ∧ Fr Nobody W w') := fun W hW => eqCs_r W x.na y.na x.N.length y.N.length x.nc y.nc x.N y.N (k1.quiet hW) (k2.quiet hW) rfl rfl (by omega) (by omega)
      have HCS : Hid (∀ W,Fr Nobody wr W → Calls Tryz.prog 115 #[.slice x.sa x.S.length x.sc,.slice y.sa y.S.length y.sc] W fun e w' => e = .returned (.bool (decide (x.S = y.S))) ∧ Fr Nobody W w') := fun W hW => eqCs_r W x.sa y.sa x.S.length y.S.length x.sc y.sc x.S y.S (k1'.quiet hW) (k2'.quiet hW) rfl rfl (by omega) (by omega)
      have HXY : Hid ((chv aH)[k]? = some x.v ∧ (chv bH)[k]? = some y.v) := ⟨chv_at hx,chv_at hy⟩
      have HCD : Hid (decide (x.v = y.v) = (decide (x.id = y.id) && decide (x.lost = y.lost) && decide (x.N = y.N) && decide (x.S = y.S))) := chg_dec x y
      have hxl := hzx.2
      have hyl := hzy.2
      have HO : Hid (Own w wr [Cells bB #[.slice bga bgl bgc,.slice bma bml bmc,.slice (some ⟨g2,o2,none⟩) ahl bhc] 106,Cells bA #[.slice aga agl agc,.slice ama aml amc,.slice (some ⟨g1,o1,none⟩) ahl ahc] 106]) := hO
      have q1 := hO.two.cell 2
      have q2 := hO.cell 2
      simp at q1 q2
      clear hx hy k1 k2 k1' k2' hzx hzy hO
      generalize x.v = xv at *
      generalize y.v = yv at *
      generalize decide (x.N = y.N) = rn at *
      generalize decide (x.S = y.S) = rs at *
      obtain ⟨xi,xl,xN,xna,xnc,xS,xsa,xsc⟩ := x
      obtain ⟨yi,yl,yN,yna,ync,yS,ysa,ysc⟩ := y
      simp only at r0 r1 r2 r3 s0 s1 s2 s3 HCN HCS HCD hxl hyl
      generalize xN.length = xnl at *
      generalize xS.length = xsl at *
      generalize yN.length = ynl at *
      generalize yS.length = ysl at *
      have z1 : wr.heap.size ≠ g1 := by omega
      have z2 : wr.heap.size ≠ g2 := by omega
      have z3 : wr.heap.size ≠ bB := by omega
      have z4 : wr.heap.size ≠ bA := by omega
      have z5 : wr.heap.size + 1 ≠ g1 := by omega
      have z6 : wr.heap.size + 1 ≠ g2 := by omega
      have z7 : wr.heap.size + 1 ≠ bB := by omega
      have z8 : wr.heap.size + 1 ≠ bA := by omega
      clear hb1 hb2 hb5 hb6
      go_wp2
      go_cut [6,7] (fun s6 s7 wc => ∃ b6 b7 : Nat,s6 = .pointer (some ⟨b6,0,none⟩) ∧ s7 = .pointer (some ⟨b7,0,none⟩) ∧ Fr Nobody wr wc ∧ Own w wc (Cells b6 #[.int .u32 (xi : Int),.int .u8 (xl : Int),.slice xna xnl xnc,.slice xsa xsl xsc] 112 :: Cells b7 #[.int .u32 (yi : Int),.int .u8 (yl : Int),.slice yna ynl ync,.slice ysa ysl ysc] 112 :: [Cells bB #[.slice bga bgl bgc,.slice bma bml bmc,.slice (some ⟨g2,o2,none⟩) ahl bhc] 106,Cells bA #[.slice aga agl agc,.slice ama aml amc,.slice (some ⟨g1,o1,none⟩) ahl ahc] 106]))
      case first =>
       go_region_held3 (fun w' => w'.cell? ⟨bA,2,none⟩ = some (.slice (some ⟨g1,o1,none⟩) ahl ahc) ∧ w'.cell? ⟨bB,2,none⟩ = some (.slice (some ⟨g2,o2,none⟩) ahl bhc) ∧ w'.cell? ⟨g1,o1 + k * 4,none⟩ = some (.int .u32 (xi : Int)) ∧ w'.cell? ⟨g1,o1 + k * 4 + 1,none⟩ = some (.int .u8 (xl : Int)) ∧ w'.cell? ⟨g1,o1 + k * 4 + 2,none⟩ = some (.slice xna xnl xnc) ∧ w'.cell? ⟨g1,o1 + k * 4 + 3,none⟩ = some (.slice xsa xsl xsc) ∧ w'.cell? ⟨g2,o2 + k * 4,none⟩ = some (.int .u32 (yi : Int)) ∧ w'.cell? ⟨g2,o2 + k * 4 + 1,none⟩ = some (.int .u8 (yl : Int)) ∧ w'.cell? ⟨g2,o2 + k * 4 + 2,none⟩ = some (.slice yna ynl ync) ∧ w'.cell? ⟨g2,o2 + k * 4 + 3,none⟩ = some (.slice ysa ysl ysc)) (go_keep) (fail)
       ·go_wp2
        go_meet
        case rel =>
         refine ⟨wr.heap.size,wr.heap.size + 1,rfl,rfl,(((Fr.refl _ wr).alloc _).alloc _).drew,?_⟩
         have h := ((HO.out.allocC #[.int .u32 (xi : Int),.int .u8 (xl : Int),.slice xna xnl xnc,.slice xsa xsl xsc] 112).allocC #[.int .u32 (yi : Int),.int .u8 (yl : Int),.slice yna ynl ync,.slice ysa ysl ysc] 112).drew
         have e1 : (wr.alloc (.cells #[.int .u32 (xi : Int),.int .u8 (xl : Int),.slice xna xnl xnc,.slice xsa xsl xsc] 112)).heap.size = wr.heap.size + 1 := by simp
         rw [e1] at h
         exact h.two
       ·go_wp2
        go_meet
        case rel =>
         refine ⟨wr.heap.size + 1,wr.heap.size,rfl,rfl,(((Fr.refl _ wr).alloc _).alloc _).drew,?_⟩
         have h := ((HO.out.allocC #[.int .u32 (yi : Int),.int .u8 (yl : Int),.slice yna ynl ync,.slice ysa ysl ysc] 112).allocC #[.int .u32 (xi : Int),.int .u8 (xl : Int),.slice xna xnl xnc,.slice xsa xsl xsc] 112).drew
         have e1 : (wr.alloc (.cells #[.int .u32 (yi : Int),.int .u8 (yl : Int),.slice yna ynl ync,.slice ysa ysl ysc] 112)).heap.size = wr.heap.size + 1 := by simp
         rw [e1] at h
         exact h
      case rest =>
       obtain ⟨b6,b7,rfl,rfl,hfc,hOc⟩ := hcut
       have t0 := hOc.cell 0
       have t1 := hOc.cell 1
       have t2 := hOc.cell 2
       have t3 := hOc.cell 3
       have v0 := hOc.two.cell 0
       have v1 := hOc.two.cell 1
       have v2 := hOc.two.cell 2
       have v3 := hOc.two.cell 3
       simp at t0 t1 t2 t3 v0 v1 v2 v3
       have HOC : Hid (Own w wc (Cells b6 #[.int .u32 (xi : Int),.int .u8 (xl : Int),.slice xna xnl xnc,.slice xsa xsl xsc] 112 :: Cells b7 #[.int .u32 (yi : Int),.int .u8 (yl : Int),.slice yna ynl ync,.slice ysa ysl ysc] 112 :: [Cells bB #[.slice bga bgl bgc,.slice bma bml bmc,.slice (some ⟨g2,o2,none⟩) ahl bhc] 106,Cells bA #[.slice aga agl agc,.slice ama aml amc,.slice (some ⟨g1,o1,none⟩) ahl ahc] 106])) := hOc
       have HFC : Hid (Fr Nobody wr wc) := hfc
       clear hOc hfc HO r0 r1 r2 r3 s0 s1 s2 s3 q1 q2 z1 z2 z3 z4 z5 z6 z7 z8
       by_cases c0 : xi = yi
       ·have e0 : ((xi : Int) != (yi : Int)) = false := by simp [c0]
        by_cases c1 : xl = yl
        ·have e2 : ((xl : Int) != (yl : Int)) = false := by simp [c1]
         have HR : Hid (decide (xv = yv) = (rn && rs)) := by show _ = _; rw [HCD.out,decide_eq_true c0,decide_eq_true c1]; rfl
         have HN1 : Hid (Calls _ _ _ _ _) := HCN.out wc HFC.out
         clear c0 c1 HCD HCN
         go_wp2_with fail
         refine HN1.out.mono ?_
         rintro e w5 ⟨rfl,hf5⟩
         have hO5 := HOC.out.quiet hf5
         cases rn
         ·have HNE : Hid (decide (chv aH = chv bH) = false) := take_ne HXY.out.1 HXY.out.2 HR.out
          have HF : Hid (Fr Nobody w w5) := hO5.fr
          clear hf5 HOC hO5 t0 t1 t2 t3 v0 v1 v2 v3 HFC HN1
          go_wp2
          go_ret
          exact ⟨by rw [HNE.out]; rfl,HF.out⟩
         ·have HS1 : Hid (Calls _ _ _ _ _) := HCS.out w5 (HFC.out.trans hf5)
          have t3 := hO5.cell 3
          have v3 := hO5.two.cell 3
          simp at t3 v3
          have HO5 : Hid (Own w w5 (Cells b6 #[.int .u32 (xi : Int),.int .u8 (xl : Int),.slice xna xnl xnc,.slice xsa xsl xsc] 112 :: Cells b7 #[.int .u32 (yi : Int),.int .u8 (yl : Int),.slice yna ynl ync,.slice ysa ysl ysc] 112 :: [Cells bB #[.slice bga bgl bgc,.slice bma bml bmc,.slice (some ⟨g2,o2,none⟩) ahl bhc] 106,Cells bA #[.slice aga agl agc,.slice ama aml amc,.slice (some ⟨g1,o1,none⟩) ahl ahc] 106])) := hO5
          clear hO5 HOC HN1 HFC hf5
          go_wp2_with fail
          refine HS1.out.mono ?_
          rintro e w6 ⟨rfl,hf6⟩
          have hO6 := HO5.out.quiet hf6
          cases rs
          ·have HNE : Hid (decide (chv aH = chv bH) = false) := take_ne HXY.out.1 HXY.out.2 HR.out
           have HF : Hid (Fr Nobody w w6) := hO6.fr
           clear hf6 hO6 HO5 HS1
           go_wp2
           go_ret
           exact ⟨by rw [HNE.out]; rfl,HF.out⟩
          ·have HNE : Hid ((chv aH).take (k + 1) = (chv bH).take (k + 1)) := take_eq HXY.out.1 HXY.out.2 HR.out HE.out
           have HO6 : Hid (Own w w6 [Cells bB #[.slice bga bgl bgc,.slice bma bml bmc,.slice (some ⟨g2,o2,none⟩) ahl bhc] 106,Cells bA #[.slice aga agl agc,.slice ama aml amc,.slice (some ⟨g1,o1,none⟩) ahl ahc] 106]) := hO6.tail.tail
           clear hf6 hO6 HO5 HS1
           go_wp2
           go_roundw
           case rel => exact ⟨k + 1,by omega,by go_num,HO6.out,HNE.out⟩
           case measure => simp [intOf]; omega
        ·have e2 : ((xl : Int) != (yl : Int)) = true := by rw [bne_iff_ne]; omega
         have HNE : Hid (decide (chv aH = chv bH) = false) := take_ne HXY.out.1 HXY.out.2 (by rw [HCD.out,decide_eq_false c1]; simp)
         have HF : Hid (Fr Nobody w wc) := HOC.out.fr
         clear c0 c1 HCD HCN HCS HOC HFC
         go_wp2
         go_ret
         exact ⟨by rw [HNE.out]; rfl,HF.out⟩
       ·have e0 : ((xi : Int) != (yi : Int)) = true := by rw [bne_iff_ne]; omega
        have HNE : Hid (decide (chv aH = chv bH) = false) := take_ne HXY.out.1 HXY.out.2 (by rw [HCD.out,decide_eq_false c0]; simp)
        have HF : Hid (Fr Nobody w wc) := HOC.out.fr
        clear c0 HCD HCN HCS HOC HFC
        go_wp2
        go_ret
        exact ⟨by rw [HNE.out]; rfl,HF.out⟩
     ·have hlt' : ¬ (k : Int) < (ahl : Int) := by omega
      have HN : Hid (decide (chv aH = chv bH) = true) := take_all (by rw [chv_len]; have := HHL.out.1; omega) (by rw [chv_len]; have := HHL.out.2; omega) HE.out
      have HF : Hid (Fr Nobody w wr) := hO.fr
      clear hO
      go_wp2
      go_ret
      exact ⟨by rw [HN.out]; rfl,HF.out⟩
   ·have hne' : ((ahl : Int) != (bhl : Int)) = true := by rw [bne_iff_ne]; omega
    have HN : Hid (decide (chv aH = chv bH) = false) := len_ne (by rw [chv_len,chv_len]; have := HHL.out; omega)
    have HF2 : Hid (Fr Nobody w w2) := HO2.out.fr
    clear HH HO2
    go_wp2
    go_ret
    exact ⟨by rw [HN.out]; rfl,HF2.out⟩
theorem hsz_append (A B : List ChE) : hsz (A ++ B) = hsz A + hsz B := by
 induction A with
 | nil => simp [hsz]
 | cons x t ih => simp only [List.cons_append,hsz,ih]; omega
theorem hsz_take {L : List ChE} {j : Nat} {x : ChE} (h : L[j]? = some x) : hsz (L.take (j + 1)) = hsz (L.take j) + (x.N.length + x.S.length) := by
 rw [List.take_add_one,h,hsz_append]; simp [hsz]
theorem hsz_take_le (L : List ChE) (j : Nat) : hsz (L.take j) ≤ hsz L := by
 have := hsz_append (L.take j) (L.drop j)
 rw [List.take_append_drop] at this
 omega
theorem dropK_up (lost : Nat) (ks : List Nat) : ∀ (l : List Cp) {m : List Cp},Ups l → dropK lost ks l = some m → Ups m := by
 induction ks with
 | nil => intro l m h e; simp only [dropK,Option.some.injEq] at e; rw [← e]; exact h
 | cons k ks ih =>
  intro l m h e
  unfold dropK at e
  split at e
  ·exact ih l h e
  ·split at e
   ·exact ih _ (h.filter _) e
   ·cases e
theorem putNew_up (C xs : List Cp) : ∀ (l : List Cp) {m : List Cp},Ups l → putNew C l xs = some m → Ups m := by
 induction xs with
 | nil => intro l m h e; simp only [putNew,Option.some.injEq] at e; rw [← e]; exact h
 | cons x xs ih =>
  intro l m h e
  unfold putNew at e
  split at e
  ·cases e
  ·exact ih _ (insc_up h x) e
theorem putSet_up (xs : List Cp) : ∀ (l : List Cp) {m : List Cp},Ups l → putSet l xs = some m → Ups m := by
 induction xs with
 | nil => intro l m h e; simp only [putSet,Option.some.injEq] at e; rw [← e]; exact h
 | cons x xs ih =>
  intro l m h e
  unfold putSet at e
  split at e
  ·exact ih _ (insc_up h x) e
  ·cases e
theorem goGone_sub (gs : List Nat) : ∀ (L : List En) {m : List En},goGone L gs = some m → ∀ e ∈ m,e ∈ L := by
 induction gs with
 | nil => intro L m e; simp only [goGone,Option.some.injEq] at e; rw [← e]; exact fun _ h => h
 | cons g gs ih =>
  intro L m e q hq
  unfold goGone at e
  split at e
  ·exact (List.mem_filter.1 (ih _ e q hq)).1
  ·cases e
theorem cat_set1 {N : List EnE} {i : Nat} {y : EnE} (hy : N[i]? = some y) (z : EnE) (hid : z.id = y.id) : (cat EnE.cs N).set (i * 2 + 1) (.slice z.ao z.C.length z.cap) = cat EnE.cs (N.set i z) := by
 have hi := (List.getElem?_eq_some_iff.1 hy).1
 have hc := cut_at hy
 have e2 : N.set i z = N.take i ++ z :: N.drop (i + 1) := by rw [List.set_eq_take_append_cons_drop,if_pos hi]
 have e : cat EnE.cs N = cat EnE.cs (N.take i) ++ (EnE.cs y ++ cat EnE.cs (N.drop (i + 1))) := by
  conv => lhs; rw [hc]
  rw [cat_append]; rfl
 have hl : (cat EnE.cs (N.take i)).length = i * 2 := by rw [length_cat EnE.cs 2 (fun _ => rfl),List.length_take,Nat.min_eq_left (by omega)]
 rw [e2,e,List.set_append_right _ _ (by omega),hl,show i * 2 + 1 - i * 2 = 1 by omega,cat_append]
 congr 1
 simp [EnE.cs,cat,hid]
theorem NowI.at {w0 w : World} {X T Y : List Thing} {N : List EnE} {B g c n : Nat} (h : NowI w0 X T N B) (hn : N.length = n) (hO : Own w0 w (Row 60 2 (.slice (some ⟨g,0,none⟩) n c) n (cat EnE.cs N) :: (Y ++ (X ++ T)))) {i : Nat} {y : EnE} (hy : N[i]? = some y) : w.cell? ⟨g,i * 2,none⟩ = some (.int .u32 (y.id : Int)) ∧ w.cell? ⟨g,i * 2 + 1,none⟩ = some (.slice y.ao y.C.length y.cap) ∧ Cs w y.ao y.C := by
 obtain ⟨g',o',e,h1,h2,h3⟩ := (hO.entsRw hn rfl (h.cs w hO.tail.dropA)).at hy
 simp only [Option.some.injEq,Addr.mk.injEq] at e
 obtain ⟨rfl,rfl,_⟩ := e
 rw [Nat.zero_add] at h1 h2
 exact ⟨h1,h2,h3⟩
theorem chgE_no {L : List En} {c : Chg} (h : fstE L c.id = none) : chgE L c = none := by unfold chgE; rw [h]
theorem chgE_bad {L : List En} {c : Chg} {e : En} (h : fstE L c.id = some e) (hn : chgC e.2 c = none) : chgE L c = none := by unfold chgE; rw [h]; simp only [hn]; rfl
theorem chgE_is {L : List En} {c : Chg} {e : En} {M : List Cp} (h : fstE L c.id = some e) (hn : chgC e.2 c = some M) : chgE L c = some (setE L c.id M) := by unfold chgE; rw [h]; simp only [hn]; rfl
theorem chgC_1 {C : List Cp} {c : Chg} (h : dropK c.lost (List.range 8) C = none) : chgC C c = none := by unfold chgC; rw [h]; rfl
theorem chgC_2 {C l : List Cp} {c : Chg} (h : dropK c.lost (List.range 8) C = some l) (h2 : putNew C l c.new = none) : chgC C c = none := by unfold chgC; rw [h,Option.bind_some,h2]; rfl
theorem chgC_3 {C l m : List Cp} {c : Chg} (h : dropK c.lost (List.range 8) C = some l) (h2 : putNew C l c.new = some m) : chgC C c = putSet m c.set := by unfold chgC; rw [h,Option.bind_some,h2,Option.bind_some]
def Cp.ag (q : Cp) : Value := .agg #[.int .u8 (q.k : Int),.int .i32 q.a,.int .i32 q.b,.int .i32 q.c]
theorem ccat_snoc (C : List Cp) (q : Cp) : ccat (C ++ [q]) = ccat C ++ [.int .u8 (q.k : Int),.int .i32 q.a,.int .i32 q.b,.int .i32 q.c] := by
 unfold ccat; rw [cat_append]; rfl
theorem rwith_any (w0 w : World) (l : List Thing) (h : Own w0 w l) (ao : Option Addr) (len cap : Nat) (C : List Cp) (hCl : C.length = len) (hCs : ∀ w',Own w0 w' l → Cs w' ao C) (hCk : ∀ q ∈ C,q.k < 256) (hlen : len ≤ 100000) (c : Cp) (hck : c.k < 256) :
  Calls Tryz.prog 113 #[.slice ao len cap,c.ag] w fun e w' => ∃ ao' cap',e = .returned (.slice ao' (insc C c).length cap') ∧ Own w0 w' (Row 63 4 (.slice ao' (insc C c).length cap') (insc C c).length (ccat (insc C c)) :: l) := by
 obtain ⟨i0,hi,hz0,hz1,hz2⟩ := info_parts Tryz.infoComp
 have HCS : Hid (C.length = len ∧ (∀ w',Own w0 w' l → Cs w' ao C) ∧ ∀ q ∈ C,q.k < 256) := ⟨hCl,hCs,hCk⟩
 obtain ⟨ck,ca,cb,cc⟩ := c
 show Calls _ _ #[_,.agg #[.int .u8 (ck : Int),.int .i32 ca,.int .i32 cb,.int .i32 cc]] _ _
 have H : Hid (Own w0 (w.alloc (.cells #[.int .u8 (ck : Int),.int .i32 ca,.int .i32 cb,.int .i32 cc] 63)) (Cells w.heap.size #[.int .u8 (ck : Int),.int .i32 ca,.int .i32 cb,.int .i32 cc] 63 :: l)) := by
  exact h.allocC _ _
 have HEND : Hid ((if (wfold ⟨ck,ca,cb,cc⟩ C).2 then (wfold ⟨ck,ca,cb,cc⟩ C).1 else (wfold ⟨ck,ca,cb,cc⟩ C).1 ++ [⟨ck,ca,cb,cc⟩]) = insc C ⟨ck,ca,cb,cc⟩) := wfold_end _ _
 simp only at hck
 clear h hCl hCs hCk
 go_enter Tryz.func113,Tryz.ntmps113
 go_wp2
 go_loopw [5,6,11] (fun v5 v6 v11 wr => ∃ j : Nat,j ≤ len ∧ v11 = .int .i64 j ∧ ∃ (S : List Cp) (d : Bool) (a1 : Option Addr) (c1 n : Nat),wfold ⟨ck,ca,cb,cc⟩ (C.take j) = (S,d) ∧ n = S.length ∧ n ≤ 2 * j ∧ v6 = .bool d ∧ v5 = .slice a1 n c1 ∧ Own w0 wr (Row 63 4 (.slice a1 n c1) n (ccat S) :: Cells w.heap.size #[.int .u8 (ck : Int),.int .i32 ca,.int .i32 cb,.int .i32 cc] 63 :: l)) (fun _ _ v11 _ => len - (intOf v11).toNat)
 case atStart => exact ⟨0,Nat.zero_le _,rfl,[],false,none,0,0,rfl,rfl,Nat.le_refl _,rfl,rfl,H.out.nilRow _ _⟩
 case round =>
  obtain ⟨j,hj,rfl,S,d,a1,c1,n,hS,hn,hnj,rfl,rfl,hO⟩ := hrel
  have HO : Hid (Own w0 wr (Row 63 4 (.slice a1 n c1) n (ccat S) :: Cells w.heap.size #[.int .u8 (ck : Int),.int .i32 ca,.int .i32 cb,.int .i32 cc] 63 :: l)) := hO
  have HS : Hid (wfold ⟨ck,ca,cb,cc⟩ (C.take j) = (S,d) ∧ n = S.length) := ⟨hS,hn⟩
  clear H hS hn
  by_cases hlt : j < len
  ·obtain ⟨q,hq⟩ : ∃ q,C[j]? = some q := ⟨_,List.getElem?_eq_getElem (by rw [HCS.out.1]; exact hlt)⟩
   obtain ⟨gg,o0,hao,_,y0,y1,y2,y3⟩ := (HCS.out.2.1 wr hO.tail.tail).at j q hq
   subst hao
   have hq8 := HCS.out.2.2 q (List.mem_of_getElem? hq)
   have HST : Hid (wfold ⟨ck,ca,cb,cc⟩ (C.take (j + 1)) = wstepU ⟨ck,ca,cb,cc⟩ (S,d) q) := by show _ = _; rw [take_snoc C j q hq,wfold_snoc,HS.out.1]
   have hlt' : (j : Int) < (len : Int) := by omega
   clear hq
   obtain ⟨qk,qa,qb,qc⟩ := q
   simp only at y0 y1 y2 y3 hq8
   have hA : Own w0 (wr.alloc (.cells #[.int .u8 (qk : Int),.int .i32 qa,.int .i32 qb,.int .i32 qc] 63)) (Cells wr.heap.size #[.int .u8 (qk : Int),.int .i32 qa,.int .i32 qb,.int .i32 qc] 63 :: Row 63 4 (.slice a1 n c1) n (ccat S) :: Cells w.heap.size #[.int .u8 (ck : Int),.int .i32 ca,.int .i32 cb,.int .i32 cc] 63 :: l) := hO.allocC _ _
   have HA : Hid (Own w0 (wr.alloc (.cells #[.int .u8 (qk : Int),.int .i32 qa,.int .i32 qb,.int .i32 qc] 63)) (Cells wr.heap.size #[.int .u8 (qk : Int),.int .i32 qa,.int .i32 qb,.int .i32 qc] 63 :: Row 63 4 (.slice a1 n c1) n (ccat S) :: Cells w.heap.size #[.int .u8 (ck : Int),.int .i32 ca,.int .i32 cb,.int .i32 cc] 63 :: l)) := hA
   have u0 := hO.two.cell 0
   have u1 := hO.two.cell 1
   have u2 := hO.two.cell 2
   have u3 := hO.two.cell 3
   have t0 := hA.cell 0
   have t1 := hA.cell 1
   have t2 := hA.cell 2
   have t3 := hA.cell 3
   simp at u0 u1 u2 u3 t0 t1 t2 t3
   have hBD : w.heap.size < wr.heap.size := hO.two.lt
   clear hA hO HO
   cases d with
   | false =>
    by_cases hle : ck ≤ qk
    ·have hle' : (ck : Int) ≤ (qk : Int) := by omega
     by_cases heq : qk = ck
     ·have HST2 : Hid (wfold ⟨ck,ca,cb,cc⟩ (C.take (j + 1)) = (S ++ [⟨ck,ca,cb,cc⟩],true)) := by show _ = _; rw [HST.out]; simp [wstepU,heq]
      subst heq
      have hne : ((qk : Int) != (qk : Int)) = false := by simp
      go_wp2_with (at_builtin; refine append1_own rfl _ _ 58 rfl 63 i0 _ 4 16 Tryz.underlying58 hi hz0 hz1 hz2 rfl (by decide) _ _ _ rfl HA.out.two _ #[.int .u8 (qk : Int),.int .i32 ca,.int .i32 cb,.int .i32 cc] (by simp) rfl rfl (by intro u hu; simp at hu; rcases hu with rfl | rfl | rfl | rfl <;> rfl) (by unfold maxLen; omega) (by omega) ?_)
      intro g4 c4 w4 hO4 hsz
      have v0 := hO4.two.cell 0
      have v1 := hO4.three.cell 0
      simp at v0 v1
      have H4 : Hid (Own w0 w4 (Row 63 4 (.slice (some ⟨g4,0,none⟩) (n + 1) c4) (n + 1) (ccat (S ++ [⟨qk,ca,cb,cc⟩])) :: Cells w.heap.size #[.int .u8 (qk : Int),.int .i32 ca,.int .i32 cb,.int .i32 cc] 63 :: l)) := by show Own _ _ _; rw [ccat_snoc]; exact hO4.two.tail
      clear hO4 hsz u0 u1 u2 u3 t0 t1 t2 t3 y0 y1 y2 y3
      go_wp2
      go_roundw
      case rel => exact ⟨j + 1,by omega,by go_num,_,true,_,_,n + 1,HST2.out,by rw [List.length_append,← HS.out.2]; rfl,by omega,rfl,rfl,H4.out⟩
      case measure => simp [intOf]; omega
     ·have hne : ((qk : Int) != (ck : Int)) = true := by simp; omega
      have HST2 : Hid (wfold ⟨ck,ca,cb,cc⟩ (C.take (j + 1)) = (S ++ [⟨ck,ca,cb,cc⟩] ++ [⟨qk,qa,qb,qc⟩],true)) := by show _ = _; rw [HST.out]; simp [wstepU,hle,heq]
      go_wp2_with (at_builtin; refine append1_own rfl _ _ 58 rfl 63 i0 _ 4 16 Tryz.underlying58 hi hz0 hz1 hz2 rfl (by decide) _ _ _ rfl HA.out.two _ #[.int .u8 (ck : Int),.int .i32 ca,.int .i32 cb,.int .i32 cc] (by simp) rfl rfl (by intro u hu; simp at hu; rcases hu with rfl | rfl | rfl | rfl <;> rfl) (by unfold maxLen; omega) (by omega) ?_)
      intro g4 c4 w4 hO4 hsz
      have v0 := hO4.two.cell 0
      have v1 := hO4.three.cell 0
      have x1 := hO4.two.cell 1
      have x2 := hO4.two.cell 2
      have x3 := hO4.two.cell 3
      simp at v0 v1 x1 x2 x3
      have H4 : Hid (Own w0 w4 (Row 63 4 (.slice (some ⟨g4,0,none⟩) (n + 1) c4) (n + 1) (ccat (S ++ [⟨ck,ca,cb,cc⟩])) :: Cells w.heap.size #[.int .u8 (ck : Int),.int .i32 ca,.int .i32 cb,.int .i32 cc] 63 :: l)) := by show Own _ _ _; rw [ccat_snoc]; exact hO4.two.tail
      clear hO4 hsz u0 u1 u2 u3 t0 t1 t2 t3 y0 y1 y2 y3
      go_wp2_with (at_builtin; refine append1_own rfl _ _ 58 rfl 63 i0 _ 4 16 Tryz.underlying58 hi hz0 hz1 hz2 rfl (by decide) _ _ _ rfl H4.out _ #[.int .u8 (qk : Int),.int .i32 qa,.int .i32 qb,.int .i32 qc] (by simp) rfl rfl (by intro u hu; simp at hu; rcases hu with rfl | rfl | rfl | rfl <;> rfl) (by unfold maxLen; omega) (by omega) ?_)
      intro g5 c5 w5 hO5 hsz
      have H5 : Hid (Own w0 w5 (Row 63 4 (.slice (some ⟨g5,0,none⟩) (n + 1 + 1) c5) (n + 1 + 1) (ccat (S ++ [⟨ck,ca,cb,cc⟩] ++ [⟨qk,qa,qb,qc⟩])) :: Cells w.heap.size #[.int .u8 (ck : Int),.int .i32 ca,.int .i32 cb,.int .i32 cc] 63 :: l)) := by show Own _ _ _; rw [ccat_snoc]; exact hO5
      clear hO5 hsz v0 v1 x1 x2 x3 H4
      go_wp2
      go_roundw
      case rel => exact ⟨j + 1,by omega,by go_num,_,true,_,_,n + 1 + 1,HST2.out,by rw [List.length_append,List.length_append,← HS.out.2]; rfl,by omega,rfl,rfl,H5.out⟩
      case measure => simp [intOf]; omega
    ·have hle' : ¬ (ck : Int) ≤ (qk : Int) := by omega
     have hne : ((qk : Int) != (ck : Int)) = true := by simp; omega
     have HST2 : Hid (wfold ⟨ck,ca,cb,cc⟩ (C.take (j + 1)) = (S ++ [⟨qk,qa,qb,qc⟩],false)) := by show _ = _; rw [HST.out]; simp [wstepU,hle]; omega
     go_wp2_with (at_builtin; refine append1_own rfl _ _ 58 rfl 63 i0 _ 4 16 Tryz.underlying58 hi hz0 hz1 hz2 rfl (by decide) _ _ _ rfl HA.out.two _ #[.int .u8 (qk : Int),.int .i32 qa,.int .i32 qb,.int .i32 qc] (by simp) rfl rfl (by intro u hu; simp at hu; rcases hu with rfl | rfl | rfl | rfl <;> rfl) (by unfold maxLen; omega) (by omega) ?_)
     intro g4 c4 w4 hO4 hsz
     have H4 : Hid (Own w0 w4 (Row 63 4 (.slice (some ⟨g4,0,none⟩) (n + 1) c4) (n + 1) (ccat (S ++ [⟨qk,qa,qb,qc⟩])) :: Cells w.heap.size #[.int .u8 (ck : Int),.int .i32 ca,.int .i32 cb,.int .i32 cc] 63 :: l)) := by show Own _ _ _; rw [ccat_snoc]; exact hO4.two.tail
     clear hO4 hsz u0 u1 u2 u3 t0 t1 t2 t3 y0 y1 y2 y3
     go_wp2
     go_roundw
     case rel => exact ⟨j + 1,by omega,by go_num,_,false,_,_,n + 1,HST2.out,by rw [List.length_append,← HS.out.2]; rfl,by omega,rfl,rfl,H4.out⟩
     case measure => simp [intOf]; omega
   | true =>
    by_cases heq : qk = ck
    ·have HST2 : Hid (wfold ⟨ck,ca,cb,cc⟩ (C.take (j + 1)) = (S,true)) := by show _ = _; rw [HST.out]; simp [wstepU,heq]
     subst heq
     have hne : ((qk : Int) != (qk : Int)) = false := by simp
     have H4 : Hid (Own w0 (wr.alloc (.cells #[.int .u8 (qk : Int),.int .i32 qa,.int .i32 qb,.int .i32 qc] 63)) (Row 63 4 (.slice a1 n c1) n (ccat S) :: Cells w.heap.size #[.int .u8 (qk : Int),.int .i32 ca,.int .i32 cb,.int .i32 cc] 63 :: l)) := HA.out.tail
     go_wp2
     go_roundw
     case rel => exact ⟨j + 1,by omega,by go_num,_,true,_,_,n,HST2.out,HS.out.2,by omega,rfl,rfl,H4.out⟩
     case measure => simp [intOf]; omega
    ·have hne : ((qk : Int) != (ck : Int)) = true := by simp; omega
     have HST2 : Hid (wfold ⟨ck,ca,cb,cc⟩ (C.take (j + 1)) = (S ++ [⟨qk,qa,qb,qc⟩],true)) := by show _ = _; rw [HST.out]; simp [wstepU,heq]
     go_wp2_with (at_builtin; refine append1_own rfl _ _ 58 rfl 63 i0 _ 4 16 Tryz.underlying58 hi hz0 hz1 hz2 rfl (by decide) _ _ _ rfl HA.out.two _ #[.int .u8 (qk : Int),.int .i32 qa,.int .i32 qb,.int .i32 qc] (by simp) rfl rfl (by intro u hu; simp at hu; rcases hu with rfl | rfl | rfl | rfl <;> rfl) (by unfold maxLen; omega) (by omega) ?_)
     intro g4 c4 w4 hO4 hsz
     have H4 : Hid (Own w0 w4 (Row 63 4 (.slice (some ⟨g4,0,none⟩) (n + 1) c4) (n + 1) (ccat (S ++ [⟨qk,qa,qb,qc⟩])) :: Cells w.heap.size #[.int .u8 (ck : Int),.int .i32 ca,.int .i32 cb,.int .i32 cc] 63 :: l)) := by show Own _ _ _; rw [ccat_snoc]; exact hO4.two.tail
     clear hO4 hsz u0 u1 u2 u3 t0 t1 t2 t3 y0 y1 y2 y3
     go_wp2
     go_roundw
     case rel => exact ⟨j + 1,by omega,by go_num,_,true,_,_,n + 1,HST2.out,by rw [List.length_append,← HS.out.2]; rfl,by omega,rfl,rfl,H4.out⟩
     case measure => simp [intOf]; omega
  ·have hlt' : ¬ (j : Int) < (len : Int) := by omega
   have hW : wfold ⟨ck,ca,cb,cc⟩ C = (S,d) := by rw [← HS.out.1,List.take_of_length_le (by rw [HCS.out.1]; omega)]
   have u0 := hO.two.cell 0
   have u1 := hO.two.cell 1
   have u2 := hO.two.cell 2
   have u3 := hO.two.cell 3
   simp at u0 u1 u2 u3
   cases d with
   | true =>
    have HE2 : Hid (S = insc C ⟨ck,ca,cb,cc⟩) := by have := HEND.out; rw [hW] at this; exact this
    clear hO hW
    go_wp2
    go_ret
    rw [← HE2.out,← HS.out.2]
    exact ⟨_,_,rfl,HO.out.two.tail⟩
   | false =>
    have HE2 : Hid (S ++ [⟨ck,ca,cb,cc⟩] = insc C ⟨ck,ca,cb,cc⟩) := by have := HEND.out; rw [hW] at this; exact this
    clear hO hW
    go_wp2_with (at_builtin; refine append1_own rfl _ _ 58 rfl 63 i0 _ 4 16 Tryz.underlying58 hi hz0 hz1 hz2 rfl (by decide) _ _ _ rfl HO.out _ #[.int .u8 (ck : Int),.int .i32 ca,.int .i32 cb,.int .i32 cc] (by simp) rfl rfl (by intro u hu; simp at hu; rcases hu with rfl | rfl | rfl | rfl <;> rfl) (by unfold maxLen; omega) (by omega) ?_)
    intro g4 c4 w4 hO4 hsz
    have H4 : Hid (Own w0 w4 (Row 63 4 (.slice (some ⟨g4,0,none⟩) (n + 1) c4) (n + 1) (ccat (S ++ [⟨ck,ca,cb,cc⟩])) :: l)) := by show Own _ _ _; rw [ccat_snoc]; exact hO4.two.tail
    clear hO4 hsz
    go_wp2
    go_ret
    rw [← HE2.out,List.length_append,← HS.out.2]
    exact ⟨_,_,rfl,H4.out⟩
theorem rwithout_any (w0 w : World) (l : List Thing) (h : Own w0 w l) (ao : Option Addr) (len cap : Nat) (C : List Cp) (hCl : C.length = len) (hCs : ∀ w',Own w0 w' l → Cs w' ao C) (hCk : ∀ q ∈ C,q.k < 256) (hlen : len ≤ 100000) (k : Nat) (hk : k < 256) :
  Calls Tryz.prog 112 #[.slice ao len cap,.int .u8 (k : Int)] w fun e w' => ∃ ao' cap',e = .returned (.slice ao' (outk C k).length cap') ∧ Own w0 w' (Row 63 4 (.slice ao' (outk C k).length cap') (outk C k).length (ccat (outk C k)) :: l) := by
 obtain ⟨i0,hi,hz0,hz1,hz2⟩ := info_parts Tryz.infoComp
 have HCS : Hid (C.length = len ∧ (∀ w',Own w0 w' l → Cs w' ao C) ∧ ∀ q ∈ C,q.k < 256) := ⟨hCl,hCs,hCk⟩
 have H : Hid (Own w0 w l) := h
 clear h hCl hCs hCk
 go_enter Tryz.func112,Tryz.ntmps112
 go_wp2
 go_loopw [5,10] (fun v5 v10 wr => ∃ j : Nat,j ≤ len ∧ v10 = .int .i64 j ∧ ∃ (S : List Cp) (a1 : Option Addr) (c1 n : Nat),outk (C.take j) k = S ∧ n = S.length ∧ n ≤ j ∧ v5 = .slice a1 n c1 ∧ Own w0 wr (Row 63 4 (.slice a1 n c1) n (ccat S) :: l)) (fun _ v10 _ => len - (intOf v10).toNat)
 case atStart => exact ⟨0,Nat.zero_le _,rfl,[],none,0,0,rfl,rfl,Nat.le_refl _,rfl,H.out.nilRow _ _⟩
 case round =>
  obtain ⟨j,hj,rfl,S,a1,c1,n,hS,hn,hnj,rfl,hO⟩ := hrel
  have HO : Hid (Own w0 wr (Row 63 4 (.slice a1 n c1) n (ccat S) :: l)) := hO
  have HS : Hid (outk (C.take j) k = S ∧ n = S.length) := ⟨hS,hn⟩
  clear H hS hn
  by_cases hlt : j < len
  ·obtain ⟨q,hq⟩ : ∃ q,C[j]? = some q := ⟨_,List.getElem?_eq_getElem (by rw [HCS.out.1]; exact hlt)⟩
   obtain ⟨gg,o0,hao,_,y0,y1,y2,y3⟩ := (HCS.out.2.1 wr hO.tail).at j q hq
   subst hao
   have hq8 := HCS.out.2.2 q (List.mem_of_getElem? hq)
   have HST : Hid (outk (C.take (j + 1)) k = S ++ (if q.k = k then [] else [q])) := by show _ = _; rw [take_snoc C j q hq,outk_snoc,HS.out.1]
   have hlt' : (j : Int) < (len : Int) := by omega
   clear hq
   obtain ⟨qk,qa,qb,qc⟩ := q
   simp only at y0 y1 y2 y3 hq8 HST
   have hA : Own w0 (wr.alloc (.cells #[.int .u8 (qk : Int),.int .i32 qa,.int .i32 qb,.int .i32 qc] 63)) (Cells wr.heap.size #[.int .u8 (qk : Int),.int .i32 qa,.int .i32 qb,.int .i32 qc] 63 :: Row 63 4 (.slice a1 n c1) n (ccat S) :: l) := hO.allocC _ _
   have HA : Hid (Own w0 (wr.alloc (.cells #[.int .u8 (qk : Int),.int .i32 qa,.int .i32 qb,.int .i32 qc] 63)) (Cells wr.heap.size #[.int .u8 (qk : Int),.int .i32 qa,.int .i32 qb,.int .i32 qc] 63 :: Row 63 4 (.slice a1 n c1) n (ccat S) :: l)) := hA
   have t0 := hA.cell 0
   have t1 := hA.cell 1
   have t2 := hA.cell 2
   have t3 := hA.cell 3
   simp at t0 t1 t2 t3
   clear hA hO HO
   by_cases heq : qk = k
   ·rw [if_pos heq] at HST
    have hne : ((qk : Int) != (k : Int)) = false := by simp [heq]
    clear heq
    go_wp2
    go_roundw
    case rel => exact ⟨j + 1,by omega,by go_num,S,_,_,n,by rw [HST.out]; simp,HS.out.2,by omega,rfl,HA.out.tail⟩
    case measure => simp [intOf]; omega
   ·rw [if_neg heq] at HST
    have hne : ((qk : Int) != (k : Int)) = true := by rw [bne_iff_ne]; omega
    clear heq
    go_wp2_with (at_builtin; refine append1_own rfl _ _ 58 rfl 63 i0 _ 4 16 Tryz.underlying58 hi hz0 hz1 hz2 rfl (by decide) _ _ _ rfl HA.out.two _ #[.int .u8 (qk : Int),.int .i32 qa,.int .i32 qb,.int .i32 qc] (by simp) rfl rfl (by intro u hu; simp at hu; rcases hu with rfl | rfl | rfl | rfl <;> rfl) (by unfold maxLen; omega) (by omega) ?_)
    intro g4 c4 w4 hO4 hsz
    have H4 : Hid (Own w0 w4 (Row 63 4 (.slice (some ⟨g4,0,none⟩) (n + 1) c4) (n + 1) (ccat (S ++ [⟨qk,qa,qb,qc⟩])) :: l)) := by show Own _ _ _; rw [ccat_snoc]; exact hO4.two.tail
    clear hO4 hsz t0 t1 t2 t3 y0 y1 y2 y3
    go_wp2
    go_roundw
    case rel => exact ⟨j + 1,by omega,by go_num,S ++ [⟨qk,qa,qb,qc⟩],_,_,n + 1,HST.out,by rw [List.length_append,← HS.out.2]; rfl,by omega,rfl,H4.out⟩
    case measure => simp [intOf]; omega
  ·have hjn : j = len := by omega
   subst hjn
   have hlt' : ¬ (j : Int) < (j : Int) := by omega
   have HE : Hid (outk C k = S ∧ n = S.length) := by
    refine ⟨?_,HS.out.2⟩
    have := HS.out.1
    rw [List.take_of_length_le (by rw [HCS.out.1]; exact Nat.le_refl _)] at this
    exact this
   clear hO
   go_wp2
   go_ret
   refine ⟨a1,c1,?_,?_⟩
   ·rw [HE.out.1,← HE.out.2]; rfl
   ·rw [HE.out.1,← HE.out.2]; exact HO.out
end Go.Proofs.YtgifeckbflkkpaaGreatDoor
