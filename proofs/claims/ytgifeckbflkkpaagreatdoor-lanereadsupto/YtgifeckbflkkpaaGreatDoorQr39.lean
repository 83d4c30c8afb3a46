/- The document's Patch: the whole. -/
import Derived.Test.YtgifeckbflkkpaaGreatDoorQr31
import Derived.Test.YtgifeckbflkkpaaGreatDoorQr36
import Derived.Test.YtgifeckbflkkpaaGreatDoorQr38
import Derived.Test.YtgifeckbflkkpaaGreatDoorQr27
import Derived.Test.YtgifeckbflkkpaaGreatDoorQr20
import Derived.Test.YtgifeckbflkkpaaGreatDoorQr21
import Derived.Test.YtgifeckbflkkpaaGreatDoorQr29
import Derived.Test.YtgifeckbflkkpaaGreatDoorQr06
import Derived.Defers
import Derived.Recover
import Derived.Deep.RegionHeld3
import Derived.Test.YtgifeckbflkkpaaGreatDoorQr13
import Derived.Deep.RegionLaw
import Derived.Test.YtgifeckbflkkpaaGreatDoorQr25
namespace Go.Proofs.YtgifeckbflkkpaaGreatDoor
open Go.ChangeShapes Go.WideShapes Go.ChangeAt Go.RowKit
set_option linter.unusedVariables false
set_option maxHeartbeats 16000000
set_option maxRecDepth 100000
theorem Own.dropI {w0 w : World} {P : Thing} {A l : List Thing} (h : Own w0 w (P :: (A ++ l))) : Own w0 w (P :: l) := (Own.sink (l := A) h).dropA
theorem Own.nilE {w0 w : World} {l : List Thing} (h : Own w0 w l) : Own w0 w (EntsT none 0 [] :: l) := Own.ents (h.nilRow _ _)
theorem cs_rows {w0 w : World} {T : List Thing} {N : List EnE} (h : Own w0 w (N.map erow ++ T)) : ∀ x ∈ N,Cs w x.ao x.C := fun x hx => by
 obtain ⟨A,B,rfl⟩ := List.append_of_mem hx
 rw [List.map_append,List.map_cons,List.append_assoc] at h
 have h2 : Own w0 w (erow x :: (A.map erow ++ (B.map erow ++ T))) := Own.lift h
 exact Own.cs (h2.view (by decide)) rfl
theorem ein_evs {A B : List EnE} (e : evs A = evs B) (h : EIn B) : EIn A := fun x hx => by
 have h1 : (x.id,x.C) ∈ evs A := List.mem_map.2 ⟨x,hx,rfl⟩
 rw [e] at h1
 obtain ⟨y,hy,hyx⟩ := List.mem_map.1 h1
 simp only [Prod.mk.injEq] at hyx
 have := h y hy
 rw [hyx.1,hyx.2] at this
 exact this
theorem nowI_twin {w0 : World} {T : List Thing} {N W : List EnE} (e : evs N = evs W) (h : EIn W) : NowI w0 (N.map erow) T N (esz W) where
 cs := fun w' hw => cs_rows hw
 inn := ein_evs e h
 sz := by rw [esz_ezv,esz_ezv,e]; exact Nat.le_refl _
theorem rpat_1 {W : List En} {d : Dl} (h : fm 0 W ≠ 0) : rpat W d = (fm 0 W,[]) := by unfold rpat; rw [if_pos h]
theorem rpat_2 {W : List En} {d : Dl} (h : fm 0 W = 0) (h2 : patL W d = none) : rpat W d = (4,[]) := by unfold rpat; rw [if_neg (by simpa using h),h2]
theorem rpat_3 {W N : List En} {d : Dl} (h : fm 0 W = 0) (h2 : patL W d = some N) (h3 : ¬ (fm 0 N = 0 ∧ btw W N = d)) : rpat W d = (4,[]) := by unfold rpat; rw [if_neg (by simpa using h),h2]; simp only; rw [if_neg h3]
theorem rpat_4 {W N : List En} {d : Dl} (h : fm 0 W = 0) (h2 : patL W d = some N) (h3 : fm 0 N = 0 ∧ btw W N = d) : rpat W d = (0,N) := by unfold rpat; rw [if_neg (by simpa using h),h2]; simp only; rw [if_pos h3]
theorem pat_n1 {W : List En} {d : DlE} (h : goGone W d.G = none) : patL W d.v = none := by unfold patL; rw [show d.v.gone = d.G from rfl,h]; rfl
theorem pat_n2 {W L : List En} {d : DlE} (h : goGone W d.G = some L) (h2 : goChg L (chv d.H) = none) : patL W d.v = none := by unfold patL; rw [show d.v.gone = d.G from rfl,h,Option.bind_some,show d.v.chg = chv d.H from rfl,h2]; rfl
theorem pat_all' {W L M : List En} {d : DlE} (h : goGone W d.G = some L) (h2 : goChg L (chv d.H) = some M) : patL W d.v = goCome W M (evs d.M) := by unfold patL; rw [show d.v.gone = d.G from rfl,h,Option.bind_some,show d.v.chg = chv d.H from rfl,h2,Option.bind_some]; rfl
theorem pat_n3 {W L M : List En} {d : DlE} (h : goGone W d.G = some L) (h2 : goChg L (chv d.H) = some M) (h3 : goCome W M (evs d.M) = none) : patL W d.v = none := (pat_all' h h2).trans h3
theorem pat_all {W L M N : List En} {d : DlE} (h : goGone W d.G = some L) (h2 : goChg L (chv d.H) = some M) (h3 : goCome W M (evs d.M) = some N) : patL W d.v = some N := (pat_all' h h2).trans h3
theorem rpatch_any (w0 w : World) (l : List Thing) (h : Own w0 w l) (aw : Option Addr) (nw cw : Nat) (Wl : List EnE) (d : DlE) (hQ : ∀ w',Own w0 w' l → EntsAt w' aw Wl ∧ DlAt w' d) (hW : Wl.length = nw) (hIW : EIn Wl) (hIM : EIn d.M) (hH : ∀ x ∈ d.H,x.lost < 256 ∧ (∀ q ∈ x.N,q.k < 256) ∧ (∀ q ∈ x.S,q.k < 256)) (hz : esz Wl + hsz d.H + esz d.M ≤ 40000) (hg : d.G.length ≤ 40000) (hh : d.H.length ≤ 40000) :
  Calls Tryz.prog 55 #[.slice aw nw cw,.agg d.vs] w fun e w' => ∃ (ao : Option Addr) (cap : Nat) (R : List EnE),e = .returned (.tuple #[.slice ao R.length cap,.int .i64 (((rpat (evs Wl) d.v).1 : Nat) : Int)]) ∧ evs R = (rpat (evs Wl) d.v).2 ∧ Own w0 w' (EntsT ao cap R :: l) := by
 have hB := h.allocC d.vs 106
 have HF1 : Hid (Calls _ _ _ _ _) := rform_any _ aw nw cw Wl ((hQ _ hB.tail).1) hW hIW (by omega)
 have HZ : Hid (esz Wl + hsz d.H + esz d.M ≤ 40000) := hz
 have hnw : nw ≤ 40000 := by unfold esz at hz; omega
 have HQ : Hid (∀ w',Own w0 w' l → EntsAt w' aw Wl ∧ DlAt w' d) := hQ
 have HTS : Hid (∀ W m,Own w0 W (m ++ l) → Calls Tryz.prog 11 #[.slice aw nw cw] W fun e w' => ∃ (ao : Option Addr) (cap : Nat),e = .returned (.slice ao nw cap) ∧ ∃ M : List EnE,M.length = nw ∧ evs M = evs Wl ∧ Own w0 w' (EntsT ao cap M :: (m ++ l))) := fun W m hw => rtwins_any w0 W _ hw aw nw cw Wl (fun w' hw' => (hQ w' (Own.dropA hw')).1) hW (by omega)
 have HIN : Hid (EIn Wl ∧ EIn d.M ∧ (∀ x ∈ d.H,x.lost < 256 ∧ (∀ q ∈ x.N,q.k < 256) ∧ (∀ q ∈ x.S,q.k < 256)) ∧ Wl.length = nw) := ⟨hIW,hIM,hH,hW⟩
 have hs1 := fm_lt 0 (evs Wl)
 obtain ⟨x,hx⟩ : ∃ x,x = fm 0 (evs Wl) := ⟨_,rfl⟩
 have HX : Hid (x = fm 0 (evs Wl)) := hx
 rw [← hx] at HF1 hs1
 have hml : d.M.length ≤ 40000 := by unfold esz at hz; omega
 obtain ⟨gl,hgl⟩ : ∃ gl,gl = d.G.length := ⟨_,rfl⟩
 obtain ⟨ml,hml2⟩ : ∃ ml,ml = d.M.length := ⟨_,rfl⟩
 obtain ⟨hl,hhl⟩ : ∃ hl,hl = d.H.length := ⟨_,rfl⟩
 have HLN : Hid (d.G.length = gl ∧ d.M.length = ml ∧ d.H.length = hl) := ⟨hgl.symm,hml2.symm,hhl.symm⟩
 have hvs : d.vs = #[.slice d.ga gl d.gc,.slice d.ma ml d.mc,.slice d.ha hl d.hc] := by unfold DlE.vs; rw [hgl,hml2,hhl]
 have HVS : Hid (d.vs = #[.slice d.ga gl d.gc,.slice d.ma ml d.mc,.slice d.ha hl d.hc]) := hvs
 rw [hvs] at hB HF1 ⊢
 rw [← hgl] at hg
 rw [← hml2] at hml
 rw [← hhl] at hh
 have HB : Hid (Own w0 _ _) := hB
 clear h hQ hW hIW hIM hH hz hB hx hgl hml2 hhl hvs
 go_enter Tryz.func55,Tryz.ntmps55
 go_wp2_with fail
 refine HF1.out.mono ?_
 rintro e w1 ⟨rfl,hf1⟩
 have h1 := HB.out.quiet hf1
 clear HF1 HB hf1
 generalize w.heap.size = b3 at *
 by_cases hx0 : x = 0
 ·subst hx0
  have HTW : Hid (Calls _ _ _ _ _) := HTS.out w1 [_] h1
  have H1 : Hid (Own w0 w1 _) := h1
  clear h1
  go_wp2_with fail
  refine HTW.out.mono ?_
  rintro e w2 ⟨a1,c1,rfl,N1,hN1,hN1e,hO⟩
  obtain ⟨-,hO1⟩ := Own.ex_iff.1 hO
  have hO1 : Own w0 w2 (Row 60 2 (.slice a1 N1.length c1) N1.length (cat EnE.cs N1) :: (N1.map erow ++ (Cells b3 #[.slice d.ga gl d.gc,.slice d.ma ml d.mc,.slice d.ha hl d.hc] 106 :: l))) := hO1
  have HSW : Hid (Snap (evs Wl)) := Snap.of HX.out.symm
  have HNW : Hid (NowI w0 (N1.map erow) (Cells b3 #[.slice d.ga gl d.gc,.slice d.ma ml d.mc,.slice d.ha hl d.hc] 106 :: l) N1 (esz Wl)) := nowI_twin hN1e HIN.out.1
  have HU1 : Hid (Upe (evs N1)) := by show Upe _; rw [hN1e]; exact HSW.out.up
  have HE1 : Hid (evs N1 = evs Wl) := hN1e
  have p0 := hO1.tail.dropA.cell 0
  simp only [List.getElem?_toArray,List.getElem?_cons_zero] at p0
  subst hN1
  have HO1 : Hid (Own w0 w2 _) := hO1
  have HT : Hid (∀ w',Own w0 w' (Cells b3 #[.slice d.ga gl d.gc,.slice d.ma ml d.mc,.slice d.ha hl d.hc] 106 :: l) → EntsAt w' aw Wl ∧ DlAt w' d) := fun w' hw => HQ.out w' hw.tail
  clear hO hO1 hN1e H1 HTW HTS
  go_upto_block 0 with fail
  rename_i KK1 hKK1
  have HNIL : Hid (∀ wc,Own w0 wc (Cells b3 #[.slice d.ga gl d.gc,.slice d.ma ml d.mc,.slice d.ha hl d.hc] 106 :: l) → rpat (evs Wl) d.v = (4,[]) → ∃ (ao : Option Addr) (cap : Nat) (R : List EnE),Ending.returned (.tuple #[.slice none 0 0,.int .i64 4]) = .returned (.tuple #[.slice ao R.length cap,.int .i64 (((rpat (evs Wl) d.v).1 : Nat) : Int)]) ∧ evs R = (rpat (evs Wl) d.v).2 ∧ Own w0 wc (EntsT ao cap R :: l)) := fun wc hw hr => ⟨none,0,[],by rw [hr]; rfl,by rw [hr]; rfl,hw.tail.nilE⟩
  refine gp_gone w0 w2 (Cells b3 #[.slice d.ga gl d.gc,.slice d.ma ml d.mc,.slice d.ha hl d.hc] 106 :: l) aw N1.length cw b3 N1 (N1.map erow) a1 c1 gl (esz Wl) d.G d.ga d.gc (fun w' hw => by have := (HT.out w' hw).2.g; rw [HLN.out.1] at this; exact this) HLN.out.1 (by omega) (by have := HZ.out; omega) ⟨HU1.out,HNW.out⟩ HO1.out KK1 KK1 _ ?hm1 ?hr1 (fun _ _ h => h) _ ?ha1
  case ha1 => rfl
  case hr1 =>
   refine fun a' wc h => ?_
   obtain ⟨hact,hno,hOr⟩ := h
   obtain ⟨u9,hu⟩ : ∃ u9 : Nat → Value,∀ k,gQ a' k = u9 k := ⟨_,fun _ => rfl⟩
   simp only [hu] at hact
   clear hu
   subst hact
   go_ret2
   exact HNIL.out wc hOr (rpat_2 HX.out.symm (pat_n1 (by rw [← HE1.out]; exact hno)))
  case hm1 =>
   intro a' w3 hm
   obtain ⟨N2,a2,c2,hact,hU2,hNI2,hgo,hO2⟩ := hm
   obtain ⟨u3,hu⟩ : ∃ u3 : Nat → Value,∀ k,gQ a' k = u3 k := ⟨_,fun _ => rfl⟩
   simp only [hu] at hact
   clear hu
   subst hact
   have HG1 : Hid (goGone (evs Wl) d.G = some (evs N2)) := by show _ = _; rw [← HE1.out]; exact hgo
   have HP2 : Hid (Upe (evs N2) ∧ (∀ x ∈ N2,Ups x.C) ∧ NowI w0 (N1.map erow) (Cells b3 #[.slice d.ga gl d.gc,.slice d.ma ml d.mc,.slice d.ha hl d.hc] 106 :: l) N2 (esz Wl)) := ⟨hU2,fun x hx => (HSW.out.good _ (goGone_sub _ _ HG1.out _ (List.mem_map.2 ⟨x,hx,rfl⟩))).1,hNI2⟩
   have p2 := hO2.tail.dropA.cell 2
   simp only [List.getElem?_toArray,List.getElem?_cons_zero,List.getElem?_cons_succ] at p2
   have HO2 : Hid (Own w0 w3 _) := hO2
   clear hU2 hNI2 hgo hO2 HO1 p0
   go_upto_block 2 with fail
   rename_i KK2 hKK2
   refine gp_chg w0 w3 (Cells b3 #[.slice d.ga gl d.gc,.slice d.ma ml d.mc,.slice d.ha hl d.hc] 106 :: l) aw N1.length cw b3 N2 (N1.map erow) a2 c2 hl d.hc (esz Wl) d.ha d.H (fun w' hw => (HT.out w' hw).2.h) ⟨HLN.out.2.2,HIN.out.2.2.1⟩ (by omega) (by have := HZ.out; omega) HP2.out HO2.out KK2 KK2 _ ?hm2 ?hr2 (fun _ _ h => h) _ ?ha2
   case ha2 => rfl
   case hr2 =>
    refine fun a' wc h => ?_
    obtain ⟨hact,hno,hOr⟩ := h
    obtain ⟨u9,hu⟩ : ∃ u9 : Nat → Value,∀ k,gQ a' k = u9 k := ⟨_,fun _ => rfl⟩
    simp only [hu] at hact
    clear hu
    subst hact
    go_ret2
    exact HNIL.out wc hOr (rpat_2 HX.out.symm (pat_n2 HG1.out hno))
   case hm2 =>
    intro a' w4 hm
    obtain ⟨N3,X3,a3,c3,hact,hU3,hNI3,hgo,hO3⟩ := hm
    obtain ⟨u4,hu⟩ : ∃ u4 : Nat → Value,∀ k,gQ a' k = u4 k := ⟨_,fun _ => rfl⟩
    simp only [hu] at hact
    clear hu
    subst hact
    have HG2 : Hid (goChg (evs N2) (chv d.H) = some (evs N3)) := hgo
    have HP3 : Hid (NowI w0 X3 (Cells b3 #[.slice d.ga gl d.gc,.slice d.ma ml d.mc,.slice d.ha hl d.hc] 106 :: l) N3 (esz Wl + hsz d.H)) := hNI3
    have p1 := hO3.tail.dropA.cell 1
    simp only [List.getElem?_toArray,List.getElem?_cons_zero,List.getElem?_cons_succ] at p1
    have HO3 : Hid (Own w0 w4 _) := hO3
    clear hU3 hNI3 hgo hO3 HO2 p2
    go_upto_block 10 with fail
    rename_i KK3 hKK3
    refine gp_come w0 w4 (Cells b3 #[.slice d.ga gl d.gc,.slice d.ma ml d.mc,.slice d.ha hl d.hc] 106 :: l) aw N1.length cw b3 Wl d.M d.ma ml d.mc ⟨fun w' hw => ⟨(HT.out w' hw).1,(HT.out w' hw).2.m⟩,HIN.out.2.2.2,HSW.out.up,HLN.out.2.1,HIN.out.2.1⟩ (by omega) N3 X3 a3 c3 (esz Wl + hsz d.H) (by have := HZ.out; omega) HP3.out HO3.out KK3 KK3 _ ?hm3 ?hr3 (fun _ _ h => h) _ ?ha3
    case ha3 => rfl
    case hr3 =>
     refine fun a' wc h => ?_
     obtain ⟨hact,hno,hOr⟩ := h
     obtain ⟨u9,hu⟩ : ∃ u9 : Nat → Value,∀ k,gQ a' k = u9 k := ⟨_,fun _ => rfl⟩
     simp only [hu] at hact
     clear hu
     subst hact
     go_ret2
     exact HNIL.out wc hOr (rpat_2 HX.out.symm (pat_n3 HG1.out HG2.out hno))
    case hm3 =>
     intro a' w5 hm
     obtain ⟨N4,a4,c4,hact,hNI4,hgo,hO4⟩ := hm
     obtain ⟨u5,hu⟩ : ∃ u5 : Nat → Value,∀ k,gQ a' k = u5 k := ⟨_,fun _ => rfl⟩
     simp only [hu] at hact
     clear hu
     subst hact
     have HPL : Hid (patL (evs Wl) d.v = some (evs N4)) := pat_all HG1.out HG2.out hgo
     have hn4 : esz N4 ≤ 40000 := Nat.le_trans hNI4.sz HZ.out
     have hnl4 : N4.length ≤ 40000 := by unfold esz at hn4; omega
     have HD : Hid (Calls _ _ _ _ _) := rdiff_any w0 w5 _ hO4 aw a4 N1.length N4.length cw c4 Wl N4 (fun w' hw' => ⟨(HT.out w' hw'.tail.dropA).1,hNI4.ents hw'⟩) HIN.out.2.2.2 rfl HIN.out.1 hNI4.inn (by have := HZ.out; omega) (by omega)
     have HTN : Hid (∀ w' m,Own w0 w' (m ++ (Row 60 2 (.slice a4 N4.length c4) N4.length (cat EnE.cs N4) :: (X3 ++ (Cells b3 #[.slice d.ga gl d.gc,.slice d.ma ml d.mc,.slice d.ha hl d.hc] 106 :: l)))) → Calls Tryz.prog 11 #[.slice a4 N4.length c4] w' fun e w'' => ∃ (ao : Option Addr) (cap : Nat),e = .returned (.slice ao N4.length cap) ∧ ∃ M : List EnE,M.length = N4.length ∧ evs M = evs N4 ∧ Own w0 w'' (EntsT ao cap M :: (m ++ (Row 60 2 (.slice a4 N4.length c4) N4.length (cat EnE.cs N4) :: (X3 ++ (Cells b3 #[.slice d.ga gl d.gc,.slice d.ma ml d.mc,.slice d.ha hl d.hc] 106 :: l)))))) := fun w' m hw => rtwins_any w0 w' _ hw a4 N4.length c4 N4 (fun w'' hw'' => hNI4.ents hw''.dropA) rfl (by omega)
     have hyl := fm_lt 0 (evs N4)
     have HDC : Hid (dcode (evs Wl) (evs N4) = fm 0 (evs N4)) := by show _ = _; unfold dcode; rw [← HX.out]; rfl
     obtain ⟨y,hy⟩ : ∃ y,y = fm 0 (evs N4) := ⟨_,rfl⟩
     rw [HDC.out,← hy] at HD
     rw [← hy] at hyl
     have HY : Hid (y = fm 0 (evs N4)) := hy
     have HWZ : Hid (esz Wl ≤ 40000 ∧ esz N4 ≤ 40000) := ⟨by have := HZ.out; omega,hn4⟩
     clear hy hNI4 hgo hO4 HO3 p1
     go_wp2_with fail
     refine HD.out.mono ?_
     rintro e w6 ⟨d2,rfl,hv,hO6⟩
     have HV : Hid (d2.v = dlv (evs Wl) (evs N4)) := hv
     unfold DlE.vs
     obtain ⟨ng,hng⟩ : ∃ ng,ng = d2.G.length := ⟨_,rfl⟩
     obtain ⟨nm,hnm⟩ : ∃ nm,nm = d2.M.length := ⟨_,rfl⟩
     obtain ⟨nh,hnh⟩ : ∃ nh,nh = d2.H.length := ⟨_,rfl⟩
     have HV2 : Hid (d2.vs = #[.slice d2.ga ng d2.gc,.slice d2.ma nm d2.mc,.slice d2.ha nh d2.hc]) := by show _ = _; unfold DlE.vs; rw [hng,hnm,hnh]
     rw [← hng,← hnm,← hnh]
     have hA6 := hO6.allocC #[.slice d2.ga ng d2.gc,.slice d2.ma nm d2.mc,.slice d2.ha nh d2.hc] 106
     have r0 := hA6.cell 0
     have r1 := hA6.cell 1
     have r2 := hA6.cell 2
     have k3 := hA6.tail.dropA.tail.dropA
     have k0 := k3.cell 0
     have k1 := k3.cell 1
     have k2 := k3.cell 2
     simp only [List.getElem?_toArray,List.getElem?_cons_zero,List.getElem?_cons_succ] at r0 r1 r2 k0 k1 k2
     have HA6 : Hid (Own w0 _ _) := hA6
     clear hv hO6 hA6 k3 hng hnm hnh HD
     by_cases hy0 : y = 0
     ·subst hy0
      have HVB : Hid (d2.v = btw (evs Wl) (evs N4)) := by
       show _ = _
       have := HV.out
       unfold dlv at this
       rw [HDC.out,← HY.out,if_pos rfl] at this
       exact this
      have hi2 : DlIn d2 := dlIn_of HVB.out (by have := HWZ.out; omega) (by have := HWZ.out; omega)
      have hi1 : DlIn d := ⟨by have := HLN.out; omega,by have := HZ.out; omega,by have := HLN.out; have := HZ.out; omega,fun q hq => (HIN.out.2.2.1 q hq).1⟩
      have hcs := rsame_any _ d2 d (Own.dlAt HA6.out.tail) (HT.out _ HA6.out.tail.dropA.tail.dropA).2 hi2 hi1
      rw [HV2.out,HVS.out] at hcs
      have HCS : Hid (Calls _ _ _ _ _) := hcs
      clear hi1 hi2 hcs
      go_wp2_with fail
      refine HCS.out.mono ?_
      rintro e w7 ⟨rfl,hf7⟩
      have hA7 := HA6.out.quiet hf7
      clear HCS HA6 hf7 r0 r1 r2 k0 k1 k2
      by_cases hsm : d2.v = d.v
      ·have HPR : Hid (rpat (evs Wl) d.v = (0,evs N4)) := rpat_4 HX.out.symm HPL.out ⟨HY.out.symm,HVB.out.symm.trans hsm⟩
       have hdt : decide (d2.v = d.v) = true := decide_eq_true hsm
       rw [hdt]
       have HTN2 : Hid (Calls _ _ _ _ _) := HTN.out w7 (Cells w6.heap.size #[.slice d2.ga ng d2.gc,.slice d2.ma nm d2.mc,.slice d2.ha nh d2.hc] 106 :: d2.things) hA7
       clear hA7 hsm hdt HTN
       go_wp2_with fail
       refine HTN2.out.mono ?_
       rintro e w8 ⟨ao,cap,rfl,M,hM,hMe,hO8⟩
       have HF : Hid (M.length = N4.length ∧ evs M = evs N4) := ⟨hM,hMe⟩
       have HO8 : Hid (Own w0 w8 (EntsT ao cap M :: l)) := hO8.dropI.two.tail.dropI.two.tail
       clear hO8 hM hMe HTN2
       go_wp2
       go_ret2
       exact ⟨ao,cap,M,by rw [HPR.out,HF.out.1]; rfl,by rw [HPR.out]; exact HF.out.2,HO8.out⟩
      ·have hdt : decide (d2.v = d.v) = false := decide_eq_false hsm
       have HN : Hid (rpat (evs Wl) d.v = (4,[])) := rpat_3 HX.out.symm HPL.out (fun hc => hsm (HVB.out.trans hc.2))
       rw [hdt]
       have HL2 : Hid (Own w0 _ _) := hA7.tail.dropA.tail.dropA
       clear hA7 hsm hdt
       go_wp2
       go_ret2
       exact HNIL.out _ HL2.out HN.out
     ·have hy1 : ((y : Int) != 0) = true := by simpa using hy0
      have HN : Hid (rpat (evs Wl) d.v = (4,[])) := rpat_3 HX.out.symm HPL.out (fun hc => hy0 (HY.out.trans hc.1))
      have HL2 : Hid (Own w0 _ _) := HA6.out.tail.dropA.tail.dropA
      clear HA6 hy0
      go_wp2
      go_ret2
      exact HNIL.out _ HL2.out HN.out
 ·have hx1 : ((x : Int) != 0) = true := by simpa using hx0
  have HR : Hid (rpat (evs Wl) d.v = (x,[])) := by show _ = _; rw [rpat_1 (by rw [← HX.out]; exact hx0),← HX.out]
  have H1 : Hid (Own w0 w1 _) := h1
  clear h1 hx0 HTS
  go_wp2
  go_ret2
  exact ⟨none,0,[],by rw [HR.out]; rfl,by rw [HR.out]; rfl,H1.out.tail.nilE⟩
end Go.Proofs.YtgifeckbflkkpaaGreatDoor
namespace Go.Proofs.YtgifeckbflkkpaaGreatDoor
open Go.RowKit
set_option linter.unusedVariables false
set_option maxHeartbeats 16000000
set_option maxRecDepth 100000
theorem evs_get {L M : List EnE} (h : evs L = evs M) {j : Nat} {x : EnE} (hx : L[j]? = some x) : ∃ y,M[j]? = some y ∧ y.id = x.id ∧ y.C = x.C := by
 have h1 : (evs M)[j]? = some (x.id,x.C) := by rw [← h]; exact evs_at hx
 unfold evs at h1
 rw [List.getElem?_map] at h1
 obtain ⟨y,hy,e⟩ := Option.map_eq_some_iff.1 h1
 simp only [Prod.mk.injEq] at e
 exact ⟨y,hy,e.1,e.2⟩
theorem evs_mem {L M : List EnE} (h : evs L = evs M) {x : EnE} (hx : x ∈ L) : ∃ y ∈ M,y.id = x.id ∧ y.C = x.C := by
 obtain ⟨j,hj⟩ := List.getElem?_of_mem hx
 obtain ⟨y,hy,e⟩ := evs_get h hj
 exact ⟨y,List.mem_of_getElem? hy,e⟩
theorem EIn.of_evs {L M : List EnE} (h : evs L = evs M) (hM : EIn M) : EIn L := fun x hx => by
 obtain ⟨y,hy,e1,e2⟩ := evs_mem h hx
 rw [← e1,← e2]
 exact hM y hy
theorem csz_evs {L M : List EnE} (h : evs L = evs M) : csz L = csz M := by
 induction L generalizing M with
 | nil => cases M with
  | nil => rfl
  | cons y s => simp [evs] at h
 | cons x t ih =>
  cases M with
  | nil => simp [evs] at h
  | cons y s =>
   simp only [evs,List.map_cons,List.cons.injEq,Prod.mk.injEq] at h
   simp only [csz]
   rw [ih h.2,h.1.2]
theorem esz_evs {L M : List EnE} (h : evs L = evs M) : esz L = esz M := by
 have h1 := congrArg List.length h
 rw [evs_len,evs_len] at h1
 unfold esz
 rw [h1,csz_evs h]
theorem Own.entsCap {w0 w : World} {l : List Thing} {ao : Option Addr} {cap : Nat} {L : List EnE} (h : Own w0 w (EntsT ao cap L :: l)) : L.length ≤ cap ∧ cap ≤ 9223372036854775807 := by
 obtain ⟨_,h1⟩ := Own.ex_iff.1 h
 rcases h1.row.2 with ⟨hv,h0⟩ | ⟨g,cp,cur,hv,_,_,h3,h4,_⟩
 ·simp only [Value.slice.injEq] at hv
  omega
 ·simp only [Value.slice.injEq] at hv
  unfold maxLen at h4
  omega
theorem own_dropA {w0 w : World} {A l : List Thing} (h : Own w0 w (A ++ l)) : Own w0 w l := by
 induction A with
 | nil => exact h
 | cons x t ih => exact ih (Own.tail h)
theorem own_dropA2 {w0 w : World} {a b : Thing} {A l : List Thing} (h : Own w0 w (a :: b :: (A ++ l))) : Own w0 w (a :: b :: l) := by
 induction A with
 | nil => exact h
 | cons x t ih => exact ih (Own.tail (Own.three h))
theorem own_toThings {w0 w : World} {d : DlE} {X Y Z : Thing} {l : List Thing} (h : Own w0 w (X :: ((Y :: hrow1 d.H d.ha d.hc :: hrows d.H) ++ (EntsT d.ma d.mc d.M :: grow1 d.G d.ga d.gc :: Z :: l)))) : Own w0 w (d.things ++ (Z :: l)) := by
 have h1 : Own w0 w ((hrow1 d.H d.ha d.hc :: hrows d.H) ++ EntsT d.ma d.mc d.M :: (grow1 d.G d.ga d.gc :: Z :: l)) := h.tail.tail
 have h2 : Own w0 w ((EntsT d.ma d.mc d.M :: hrow1 d.H d.ha d.hc :: hrows d.H) ++ grow1 d.G d.ga d.gc :: (Z :: l)) := h1.perm List.perm_middle
 exact h2.perm List.perm_middle
theorem results_cell_tmp_tmp {fn : Func} {p u v : Tmp} {ty : TypeId} (h : fn.results = #[.cell p ty,.tmp u,.tmp v]) (tmps : Array Value) (P : Program) (w : World) :
  (results fn tmps).run P w =
   ((asAddr (tmps.getD p undef)).run P w).andThen fun a w₁ => ((loadVar ty a).run P w₁).andThen fun x w₂ => .ok (.tuple #[x,tmps.getD u undef,tmps.getD v undef]) w₂ := by
 simp only [results,h]
 simp [Sem.run_bind,Result.andThen]
def dltB (W : List En) (d : Dl) : List Bool := (var d.gone.length ++ idsB 0 d.gone) ++ ((var d.come.length ++ entsB 0 d.come) ++ (var d.chg.length ++ chgsB W 0 d.chg))
structure DtOk (W : List En) (d : DlE) : Prop where
 gu : d.G.Pairwise (· < ·)
 g1 : ∀ i ∈ d.G,0 < i ∧ i < 4294967296
 mi : EIn d.M
 mu : (evs d.M).Pairwise (fun a b => a.1 < b.1)
 mo : ∀ x ∈ evs d.M,1024 ≤ x.1 ∧ lst (-1) x.2 = 0 ∧ un x.2 = false
 hu : (d.H.map (·.id)).Pairwise (· < ·)
 ho : ∀ x ∈ d.H,ChOk W x.v
def dsz (d : DlE) : Nat := d.G.length + esz d.M + (d.H.length + chz (d.H.map ChE.v))
theorem pdelta (w0 w : World) (ht : Tab w0) (l : List Thing) (p b : Nat) (L : List Bool) (aw : Option Addr) (nw cw : Nat) (W : List EnE) (d : DlE) (h : Own w0 w (penC p b :: WrT b L :: l)) (hW : ∀ w',Own w0 w' l → EntsAt w' aw W) (hG : ∀ w',Own w0 w' l → ∀ (j : Nat) i,d.G[j]? = some i → ∃ g o,d.ga = some ⟨g,o,none⟩ ∧ w'.cell? ⟨g,o + j,none⟩ = some (.int .u32 (i : Int))) (hM : ∀ w',Own w0 w' l → EntsAt w' d.ma d.M) (hH : ∀ w',Own w0 w' l → ChL w' d.ha d.H) (hnw : W.length = nw) (hmw : esz W ≤ 1000000) (hup : (evs W).Pairwise (fun a b => a.1 < b.1)) (hd : DtOk (evs W) d) (hl : L.length + 100 * dsz d + 2000 ≤ 1048576) :
  Calls Tryz.prog 132 #[.pointer (some ⟨p,0,none⟩),.slice aw nw cw,.agg #[.slice d.ga d.G.length d.gc,.slice d.ma d.M.length d.mc,.slice d.ha d.H.length d.hc]] w fun e w' => e = .returned (.tuple #[]) ∧ Own w0 w' (penC p b :: WrT b (L ++ dltB (evs W) d.v) :: l) := by
 have hds : dsz d = d.G.length + esz d.M + (d.H.length + chz (d.H.map ChE.v)) := rfl
 rw [hds] at hl
 have hB := (h.allocC #[.slice d.ga d.G.length d.gc,.slice d.ma d.M.length d.mc,.slice d.ha d.H.length d.hc] 106).two.in23
 have q0 := hB.three.cell 0
 simp at q0
 have gg := (grp_bd d.G.length (by omega)).2
 have gm := (grp_bd d.M.length (by unfold esz at hl; omega)).2
 have li := idsB_le 0 d.G (fun i hi => (hd.g1 i hi).2)
 have lm := entsB_le 0 (evs d.M) (fun z hz => by obtain ⟨y,hy,rfl⟩ := List.mem_map.1 hz; exact (hd.mi y hy).1)
 rw [evs_len,cszV_evs] at lm
 have hez : esz d.M = d.M.length + csz d.M := rfl
 have H1 : Hid (Calls _ _ _ _ _) := pids w0 _ _ p b L d.ga d.G.length d.gc d.G hB (fun w' hw => hG w' hw.tail) rfl hd.gu hd.g1 (by omega)
 have H2 : Hid (∀ Z X,Own w0 Z (penC p b :: WrT b ((L ++ var d.G.length) ++ idsB 0 d.G) :: X :: l) → Calls Tryz.prog 130 #[.pointer (some ⟨p,0,none⟩),.slice d.ma d.M.length d.mc] Z fun e w' => e = .returned (.tuple #[]) ∧ Own w0 w' (penC p b :: WrT b ((((L ++ var d.G.length) ++ idsB 0 d.G) ++ var d.M.length) ++ entsB 0 (evs d.M)) :: X :: l)) := fun Z X hZ => pents w0 Z ht _ p b _ d.ma d.M.length d.mc d.M hZ (fun w' hw => hM w' hw.tail) rfl hd.mi hd.mu hd.mo (by rw [List.length_append,List.length_append,length_var]; omega)
 have H3 : Hid (∀ Z X,Own w0 Z (penC p b :: WrT b ((((L ++ var d.G.length) ++ idsB 0 d.G) ++ var d.M.length) ++ entsB 0 (evs d.M)) :: X :: l) → Calls Tryz.prog 162 #[.pointer (some ⟨p,0,none⟩),.slice aw nw cw,.slice d.ha d.H.length d.hc] Z fun e w' => e = .returned (.tuple #[]) ∧ Own w0 w' (penC p b :: WrT b ((((((L ++ var d.G.length) ++ idsB 0 d.G) ++ var d.M.length) ++ entsB 0 (evs d.M)) ++ var d.H.length) ++ chgsB (evs W) 0 (d.H.map ChE.v)) :: X :: l)) := fun Z X hZ => pchanges w0 Z ht _ p b _ aw nw cw W d.ha d.H.length d.hc d.H hZ (fun w' hw => hW w' hw.tail) (fun w' hw => hH w' hw.tail) hnw rfl hmw hup hd.hu hd.ho (by simp only [List.length_append,length_var]; omega)
 have HV : Hid (L ++ dltB (evs W) d.v = ((((((L ++ var d.G.length) ++ idsB 0 d.G) ++ var d.M.length) ++ entsB 0 (evs d.M)) ++ var d.H.length) ++ chgsB (evs W) 0 (d.H.map ChE.v))) := by
  show _ = _
  unfold dltB DlE.v
  simp only [evs_len,List.length_map,List.append_assoc]
 rw [HV.out]
 clear h hB hW hG hM hH hnw hmw hup hd hl hds gg gm li lm hez HV
 generalize d.G.length = gl at *
 generalize d.M.length = ml at *
 generalize d.H.length = hl at *
 go_enter Tryz.func132,Tryz.ntmps132
 go_wp2_with fail
 refine H1.out.mono ?_
 rintro e w1 ⟨rfl,h1⟩
 have q1 := h1.three.cell 1
 simp at q1
 have H2b : Hid (Calls _ _ _ _ _) := H2.out w1 _ h1
 clear h1 H1 q0 H2
 go_wp2_with fail
 refine H2b.out.mono ?_
 rintro e w2 ⟨rfl,h2⟩
 have q2 := h2.three.cell 2
 simp at q2
 have H3b : Hid (Calls _ _ _ _ _) := H3.out w2 _ h2
 clear h2 H2b q1 H3
 go_wp2_with fail
 refine H3b.out.mono ?_
 rintro e w3 ⟨rfl,h3⟩
 have H4 : Hid (Own w0 w3 _) := h3.three.tail
 clear h3 H3b q2
 go_wp2
 go_end0
 exact ⟨rfl,H4.out⟩
theorem fstE_hit {L : List En} {i : Nat} {e : En} (h : fstE L i = some e) : e ∈ L ∧ e.1 = i := by
 unfold fstE at h
 exact ⟨List.mem_of_find?_eq_some h,by simpa using List.find?_some h⟩
theorem chgO_of {W : List En} {e : En} {c : Chg} (h : chgO W e = some c) : ∃ w,fstE W e.1 = some w ∧ c = chg1 w e := by
 unfold chgO at h
 rcases hw : fstE W e.1 with _ | w
 ·rw [hw] at h; simp at h
 ·rw [hw] at h
  simp only [Option.bind_some] at h
  split at h
  ·cases h
  ·cases h; exact ⟨w,rfl,rfl⟩
theorem chg_up (W : List En) : ∀ {N : List En},N.Pairwise (fun a b => a.1 < b.1) → ((N.filterMap (chgO W)).map Chg.id).Pairwise (· < ·) := by
 intro N
 induction N with
 | nil => intro _; exact List.Pairwise.nil
 | cons x t ih =>
  intro h
  have h1 := List.pairwise_cons.1 h
  rw [List.filterMap_cons]
  rcases hx : chgO W x with _ | c
  ·exact ih h1.2
  ·refine List.pairwise_cons.2 ⟨fun i hi => ?_,ih h1.2⟩
   obtain ⟨c',hc',rfl⟩ := List.mem_map.1 hi
   obtain ⟨y,hy,hyc⟩ := List.mem_filterMap.1 hc'
   obtain ⟨w1,_,e1⟩ := chgO_of hx
   obtain ⟨w2,_,e2⟩ := chgO_of hyc
   rw [e1,e2]
   exact h1.1 y hy
theorem un_sub {C D : List Cp} (h : un C = false) (hs : ∀ q ∈ D,q ∈ C) : un D = false := by
 unfold un at h ⊢
 rw [List.any_eq_false] at h ⊢
 exact fun q hq => h q (hs q hq)
theorem val32n : ∀ (a b c d e : Bool),val a b c d e false < 32 := by decide
theorem lost32 {A B : List Cp} (h : un A = false) : lostm A B < 32 := by
 have h5 : hasK A 5 = false := by
  cases hh : hasK A 5 with
  | false => rfl
  | true =>
   obtain ⟨x,hx⟩ := hasK_fst hh
   have h1 := fst_some hx
   unfold un at h
   rw [List.any_eq_false] at h
   have := h x h1.1
   rw [h1.2,told5] at this
   simp at this
 rw [lost_val,h5]
 exact val32n _ _ _ _ _
theorem chOk_of {W N : List En} (hW : fm 0 W = 0) (hN : fm 0 N = 0) {e : En} (he : e ∈ N) (h32 : e.1 < 4294967296) {c : Chg} (h : chgO W e = some c) : ChOk W c := by
 obtain ⟨x,hx,rfl⟩ := chgO_of h
 obtain ⟨hxm,hxi⟩ := fstE_hit hx
 obtain ⟨a1,a2,a3⟩ := fm_each hW x hxm
 obtain ⟨b1,b2,b3⟩ := fm_each hN e he
 have hla := lst_ok a2
 have hlb := lst_ok b2
 have hwas : wasC W e.1 = x.2 := by unfold wasC; rw [hx]; rfl
 have hfc : ∀ {k : Nat} {C : List Cp},(∀ q ∈ C,q ∈ e.2) → ∀ q ∈ C,q.k < 256 ∧ chk q.k (f3 q.a q.b q.c) = 0 := fun hs q hq => ⟨by have := chk_k (hlb.2 q (hs q hq)).2; omega,(hlb.2 q (hs q hq)).2⟩
 have hn : ∀ q ∈ e.2.filter (isNew x.2),q ∈ e.2 := fun q hq => (List.mem_filter.1 hq).1
 have hs : ∀ q ∈ e.2.filter (isSet x.2),q ∈ e.2 := fun q hq => (List.mem_filter.1 hq).1
 refine ⟨by show 0 < e.1; omega,h32,lost32 a3,msk_lt32 (un_sub b3 hn),msk_lt32 (un_sub b3 hs),hfc (k := 0) hn,fun q hq => (hfc (k := 0) hs q hq).1,?_,⟨x,hx⟩⟩
 intro q hq
 have h1 := List.mem_filter.1 hq
 obtain ⟨y,hy,_⟩ := isSet_iff.1 h1.2
 refine ⟨y,?_,?_,(hlb.2 q h1.1).2⟩
 ·show fst (wasC W e.1) q.k = some y
  rw [hwas]; exact hy
 ·have h2 := fst_some hy
  have h3 := (hla.2 y h2.1).2
  rw [← h2.2]
  exact h3
theorem dtOk_of {W N : List EnE} {d : DlE} (hW : fm 0 (evs W) = 0) (hN : fm 0 (evs N) = 0) (hIW : EIn W) (hIN : EIn N) (hd : d.v = btw (evs W) (evs N)) : DtOk (evs W) d := by
 have sW := Snap.of hW
 have sN := Snap.of hN
 rw [btw_dlt _ _ sW.up sN.up] at hd
 have hg : d.G = ((evs W).filter (fun e => (fstE (evs N) e.1).isNone)).map (·.1) := congrArg Dl.gone hd
 have hm : evs d.M = (evs N).filter (fun e => (fstE (evs W) e.1).isNone) := congrArg Dl.come hd
 have hh : d.H.map ChE.v = (evs N).filterMap (chgO (evs W)) := congrArg Dl.chg hd
 have hids : d.H.map (·.id) = ((evs N).filterMap (chgO (evs W))).map Chg.id := by rw [← hh,List.map_map]; rfl
 refine ⟨?_,?_,?_,?_,?_,?_,?_⟩
 ·rw [hg]; exact List.pairwise_map.2 (sW.up.filter _)
 ·intro i hi
  rw [hg] at hi
  obtain ⟨e,he,rfl⟩ := List.mem_map.1 hi
  have he2 := (List.mem_filter.1 he).1
  have h1 := (fm_each hW e he2).1
  obtain ⟨y,hy,rfl⟩ := List.mem_map.1 he2
  exact ⟨by simp only; omega,(hIW y hy).1⟩
 ·intro x hx
  have h1 : (x.id,x.C) ∈ evs d.M := List.mem_map.2 ⟨x,hx,rfl⟩
  rw [hm] at h1
  obtain ⟨y,hy,hye⟩ := List.mem_map.1 (List.mem_filter.1 h1).1
  have h2 := hIN y hy
  have e1 : y.id = x.id := congrArg Prod.fst hye
  have e2 : y.C = x.C := congrArg Prod.snd hye
  rw [e1,e2] at h2
  exact h2
 ·rw [hm]; exact sN.up.filter _
 ·intro x hx
  rw [hm] at hx
  exact fm_each hN x (List.mem_filter.1 hx).1
 ·rw [hids]; exact chg_up _ sN.up
 ·intro x hx
  have h1 : x.v ∈ d.H.map ChE.v := List.mem_map.2 ⟨x,hx,rfl⟩
  rw [hh] at h1
  obtain ⟨e,he,hec⟩ := List.mem_filterMap.1 h1
  obtain ⟨y,hy,rfl⟩ := List.mem_map.1 he
  exact chOk_of hW hN he (hIN y hy).1 hec
theorem chz_of (W N : List En) : chz (N.filterMap (chgO W)) ≤ 2 * cszV N := by
 induction N with
 | nil => simp [chz]
 | cons e t ih =>
  rw [List.filterMap_cons]
  rcases hx : chgO W e with _ | c
  ·simp only [cszV]; omega
  ·obtain ⟨x,_,rfl⟩ := chgO_of hx
   have h1 := List.length_filter_le (isNew x.2) e.2
   have h2 := List.length_filter_le (isSet x.2) e.2
   have e1 : (chg1 x e).new.length = (e.2.filter (isNew x.2)).length := rfl
   have e2 : (chg1 x e).set.length = (e.2.filter (isSet x.2)).length := rfl
   simp only [chz,cszV]
   omega
theorem dsz_of {W N : List EnE} {d : DlE} (hW : fm 0 (evs W) = 0) (hN : fm 0 (evs N) = 0) (hd : d.v = btw (evs W) (evs N)) : dsz d ≤ esz W + 4 * esz N := by
 have sW := Snap.of hW
 have sN := Snap.of hN
 have hcs := come_sz (evs W) (evs N)
 rw [← hd] at hcs
 have hc2 : cszV (evs d.M) ≤ cszV (evs N) := hcs
 rw [cszV_evs,cszV_evs] at hc2
 rw [btw_dlt _ _ sW.up sN.up] at hd
 have hg : d.G.length = (((evs W).filter (fun e => (fstE (evs N) e.1).isNone)).map (·.1)).length := congrArg (fun x => x.gone.length) hd
 have hm : (evs d.M).length = ((evs N).filter (fun e => (fstE (evs W) e.1).isNone)).length := congrArg (fun x => x.come.length) hd
 have hh : d.H.map ChE.v = (evs N).filterMap (chgO (evs W)) := congrArg Dl.chg hd
 have h1 := List.length_filter_le (fun e => (fstE (evs N) e.1).isNone) (evs W)
 have h2 := List.length_filter_le (fun e => (fstE (evs W) e.1).isNone) (evs N)
 have h3 := List.length_filterMap_le (chgO (evs W)) (evs N)
 have h4 := chz_of (evs W) (evs N)
 rw [← hh] at h3 h4
 rw [List.length_map] at hg h3
 rw [evs_len] at hm h1 h2 h3
 rw [cszV_evs] at h4
 unfold dsz esz
 omega
theorem content_full (w0 w : World) (ht : Tab w0) (l : List Thing) (p b : Nat) (L : List Bool) (wv : Value) (h : Own w0 w (penC p b :: WrT b L :: l)) (an : Option Addr) (nn cn : Nat) (N : List EnE) (hQ : ∀ w',Own w0 w' l → EntsAt w' an N) (hN : N.length = nn) (hIN : EIn N) (hzN : esz N ≤ 400) (hf : fm 0 (evs N) = 0) (hl : L.length ≤ 1000) :
  Calls Tryz.prog 86 #[.pointer (some ⟨p,0,none⟩),.int .u8 1,wv,.slice an nn cn] w fun e w' => e = .returned (.int .i64 0) ∧ Own w0 w' (penC p b :: WrT b (L ++ (var nn ++ entsB 0 (evs N))) :: l) := by
 have hF := form_any w (ht.quiet h.fr) an nn cn N (hQ w h.tail.tail) hN hIN (by omega)
 rw [hf] at hF
 have HF : Hid (Calls Tryz.prog 60 #[.slice an nn cn] w fun e w' => e = .returned (.int .i64 0) ∧ Fr Nobody w w') := hF
 have HP : Hid (∀ Z,Own w0 Z (penC p b :: WrT b L :: l) → Calls Tryz.prog 130 #[.pointer (some ⟨p,0,none⟩),.slice an nn cn] Z fun e w' => e = .returned (.tuple #[]) ∧ Own w0 w' (penC p b :: WrT b ((L ++ var nn) ++ entsB 0 (evs N)) :: l)) := fun Z hZ => pents w0 Z ht l p b L an nn cn N hZ hQ hN hIN (Snap.of hf).up (fm_each hf) (by omega)
 have H : Hid (Own w0 w (penC p b :: WrT b L :: l)) := h
 have z0 : ((0 : Int) != 0) = false := rfl
 rw [← List.append_assoc]
 clear h hQ hN hIN hzN hf hl hF ht
 go_enter Tryz.func86,Tryz.ntmps86
 go_wp2_with fail
 refine HF.out.mono ?_
 rintro e w1 ⟨rfl,hf1⟩
 have HP1 : Hid (Calls _ _ _ _ _) := HP.out w1 (H.out.quiet hf1)
 clear hf1 HF HP H
 go_wp2_with fail
 refine HP1.out.mono ?_
 rintro e w2 ⟨rfl,h2⟩
 have H2 : Hid (Own w0 w2 _) := h2
 clear h2 HP1
 go_wp2
 go_ret
 exact ⟨rfl,by first | exact H2.out | (rw [← List.append_assoc]; exact H2.out)⟩
theorem content_step (w0 w : World) (ht : Tab w0) (l : List Thing) (p b : Nat) (L : List Bool) (h : Own w0 w (penC p b :: WrT b L :: l)) (aw an : Option Addr) (nw nn cw cn : Nat) (W N : List EnE) (hQ : ∀ w',Own w0 w' l → EntsAt w' aw W ∧ EntsAt w' an N) (hW : W.length = nw) (hN : N.length = nn) (hcw : nw ≤ cw) (hcn : nn ≤ cn) (hmw : cw ≤ 9223372036854775807) (hmn : cn ≤ 9223372036854775807) (hIW : EIn W) (hIN : EIn N) (hzW : esz W ≤ 400) (hzN : esz N ≤ 400) (hf : fm 0 (evs W) = 0) (hg : fm 0 (evs N) = 0) (hl : L.length ≤ 1000) :
  Calls Tryz.prog 86 #[.pointer (some ⟨p,0,none⟩),.int .u8 2,.slice aw nw cw,.slice an nn cn] w fun e w' => e = .returned (.int .i64 0) ∧ Own w0 w' (penC p b :: WrT b (L ++ dltB (evs W) (btw (evs W) (evs N))) :: l) := by
 have HD : Hid (Calls _ _ _ _ _) := diff_any w0 w ht _ h aw an nw nn cw cn W N (fun w' hw => hQ w' hw.tail.tail) hW hN hcw hcn hmw hmn hIW hIN (by omega) (by omega)
 have hdc : dcode (evs W) (evs N) = 0 := by unfold dcode; simp [hf,hg]
 have hdv : dlv (evs W) (evs N) = btw (evs W) (evs N) := by unfold dlv; rw [if_pos hdc]
 rw [hdc,hdv] at HD
 have HPD : Hid (∀ Z (d : DlE) (X : Thing),d.v = btw (evs W) (evs N) → Own w0 Z (penC p b :: WrT b L :: X :: (d.things ++ l)) → Calls Tryz.prog 132 #[.pointer (some ⟨p,0,none⟩),.slice aw nw cw,.agg #[.slice d.ga d.G.length d.gc,.slice d.ma d.M.length d.mc,.slice d.ha d.H.length d.hc]] Z fun e w' => e = .returned (.tuple #[]) ∧ Own w0 w' (penC p b :: WrT b (L ++ dltB (evs W) (btw (evs W) (evs N))) :: X :: (d.things ++ l))) := fun Z d X hd hZ => by
  have hds := dsz_of hf hg hd
  have h1 := pdelta w0 Z ht (X :: (d.things ++ l)) p b L aw nw cw W d hZ (fun w' hw => (hQ w' hw.tail.dropA).1) (fun w' hw j i hi => by
   obtain ⟨g,o,hga,hc⟩ := hw.tail.dlAt.g.at hi
   exact ⟨g,o,hga,hc⟩) (fun w' hw => hw.tail.dlAt.m) (fun w' hw j x hx => by
   obtain ⟨g,o,hga,hc,hn,hs⟩ := hw.tail.dlAt.h.at hx
   exact ⟨g,o,hga,hc,hn,hs⟩) hW (by omega) (Snap.of hf).up (dtOk_of hf hg hIW hIN hd) (by omega)
  rw [hd] at h1
  exact h1
 clear h hQ hW hN hcw hcn hmw hmn hIW hIN hzW hzN hf hg hdc hdv hl ht
 go_enter Tryz.func86,Tryz.ntmps86
 go_wp2_with fail
 refine HD.out.mono ?_
 rintro e w1 ⟨d,rfl,hd,h1⟩
 unfold DlE.vs
 have h2 := (h1.perm (List.perm_append_comm_assoc d.things [penC p b,WrT b L] l)).allocC #[.slice d.ga d.G.length d.gc,.slice d.ma d.M.length d.mc,.slice d.ha d.H.length d.hc] 106
 have q0 := h2.cell 0
 have q1 := h2.cell 1
 have q2 := h2.cell 2
 simp at q0 q1 q2
 have HP : Hid (Calls _ _ _ _ _) := HPD.out _ d _ hd h2.two.in23
 have z0 : ((0 : Int) != 0) = false := rfl
 clear h1 h2 hd HD HPD
 go_wp2_with fail
 refine HP.out.mono ?_
 rintro e w2 ⟨rfl,h3⟩
 have h4 := h3.three.tail
 have H3 : Hid (Own w0 w2 (penC p b :: WrT b (L ++ dltB (evs W) (btw (evs W) (evs N))) :: l)) := by
  have h5 := h4.perm ((List.perm_append_comm_assoc [penC p b,WrT b (L ++ dltB (evs W) (btw (evs W) (evs N)))] d.things l))
  exact h5.dropA
 clear h3 h4 HP q0 q1 q2
 go_wp2
 go_ret
 exact ⟨rfl,H3.out⟩
end Go.Proofs.YtgifeckbflkkpaaGreatDoor
