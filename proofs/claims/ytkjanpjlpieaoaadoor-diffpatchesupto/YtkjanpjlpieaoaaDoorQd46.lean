/-
  The document's Patch: the whole.
-/
import Derived.Test.YtkjanpjlpieaoaaDoorQd25
import Derived.Test.YtkjanpjlpieaoaaDoorQd42
import Derived.Test.YtkjanpjlpieaoaaDoorQd44
import Derived.Test.YtkjanpjlpieaoaaDoorQd45
import Derived.Test.YtkjanpjlpieaoaaDoorQd39
namespace Go.Proofs.YtkjanpjlpieaoaaDoor
open Go.ChangeShapes Go.WideShapes Go.ChangeAt Go.RowKit
set_option linter.unusedVariables false
set_option maxRecDepth 100000

theorem Own.dropI {w0 w : World} {P : Thing} {A l : List Thing} (h : Own w0 w (P :: (A ++ l))) : Own w0 w (P :: l) := (Own.sink (l := A) h).dropA
theorem Own.nilE {w0 w : World} {l : List Thing} (h : Own w0 w l) : Own w0 w (EntsT none 0 [] :: l) := Own.ents (h.nilRow _ _)
theorem cs_rows {w0 w : World} {T : List Thing} {N : List EnE} (h : Own w0 w (N.map erow ++ T)) : ∀ x ∈ N, Cs w x.ao x.C := fun x hx => by
  obtain ⟨A, B, rfl⟩ := List.append_of_mem hx
  rw [List.map_append, List.map_cons, List.append_assoc] at h
  have h2 : Own w0 w (erow x :: (A.map erow ++ (B.map erow ++ T))) := Own.lift h
  exact Own.cs (h2.view (by decide)) rfl
theorem ein_evs {A B : List EnE} (e : evs A = evs B) (h : EIn B) : EIn A := fun x hx => by
  have h1 : (x.id, x.C) ∈ evs A := List.mem_map.2 ⟨x, hx, rfl⟩
  rw [e] at h1
  obtain ⟨y, hy, hyx⟩ := List.mem_map.1 h1
  simp only [Prod.mk.injEq] at hyx
  have := h y hy
  rw [hyx.1, hyx.2] at this
  exact this
theorem nowI_twin {w0 : World} {T : List Thing} {N W : List EnE} (e : evs N = evs W) (h : EIn W) : NowI w0 (N.map erow) T N (esz W) where
  cs := fun w' hw => cs_rows hw
  inn := ein_evs e h
  sz := by rw [esz_ezv, esz_ezv, e]; exact Nat.le_refl _
theorem rpat_1 {W : List En} {d : Dl} (h : fm 0 W ≠ 0) : rpat W d = (fm 0 W, []) := by unfold rpat; rw [if_pos h]
theorem rpat_2 {W : List En} {d : Dl} (h : fm 0 W = 0) (h2 : patL W d = none) : rpat W d = (4, []) := by unfold rpat; rw [if_neg (by simpa using h), h2]
theorem rpat_3 {W N : List En} {d : Dl} (h : fm 0 W = 0) (h2 : patL W d = some N) (h3 : ¬ (fm 0 N = 0 ∧ btw W N = d)) : rpat W d = (4, []) := by unfold rpat; rw [if_neg (by simpa using h), h2]; simp only; rw [if_neg h3]
theorem rpat_4 {W N : List En} {d : Dl} (h : fm 0 W = 0) (h2 : patL W d = some N) (h3 : fm 0 N = 0 ∧ btw W N = d) : rpat W d = (0, N) := by unfold rpat; rw [if_neg (by simpa using h), h2]; simp only; rw [if_pos h3]
theorem pat_n1 {W : List En} {d : DlE} (h : goGone W d.G = none) : patL W d.v = none := by unfold patL; rw [show d.v.gone = d.G from rfl, h]; rfl
theorem pat_n2 {W L : List En} {d : DlE} (h : goGone W d.G = some L) (h2 : goChg L (chv d.H) = none) : patL W d.v = none := by unfold patL; rw [show d.v.gone = d.G from rfl, h, Option.bind_some, show d.v.chg = chv d.H from rfl, h2]; rfl
theorem pat_all' {W L M : List En} {d : DlE} (h : goGone W d.G = some L) (h2 : goChg L (chv d.H) = some M) : patL W d.v = goCome W M (evs d.M) := by unfold patL; rw [show d.v.gone = d.G from rfl, h, Option.bind_some, show d.v.chg = chv d.H from rfl, h2, Option.bind_some]; rfl
theorem pat_n3 {W L M : List En} {d : DlE} (h : goGone W d.G = some L) (h2 : goChg L (chv d.H) = some M) (h3 : goCome W M (evs d.M) = none) : patL W d.v = none := (pat_all' h h2).trans h3
theorem pat_all {W L M N : List En} {d : DlE} (h : goGone W d.G = some L) (h2 : goChg L (chv d.H) = some M) (h3 : goCome W M (evs d.M) = some N) : patL W d.v = some N := (pat_all' h h2).trans h3
set_option maxHeartbeats 16000000 in
theorem rpatch_any (w0 w : World) (l : List Thing) (h : Own w0 w l) (aw : Option Addr) (nw cw : Nat) (Wl : List EnE) (d : DlE) (hQ : ∀ w', Own w0 w' l → EntsAt w' aw Wl ∧ DlAt w' d) (hW : Wl.length = nw) (hIW : EIn Wl) (hIM : EIn d.M) (hH : ∀ x ∈ d.H, x.lost < 256 ∧ (∀ q ∈ x.N, q.k < 256) ∧ (∀ q ∈ x.S, q.k < 256)) (hz : esz Wl + hsz d.H + esz d.M ≤ 40000) (hg : d.G.length ≤ 40000) (hh : d.H.length ≤ 40000) :
    Calls Tryd.prog 10 #[.slice aw nw cw, .agg d.vs] w fun e w' => ∃ (ao : Option Addr) (cap : Nat) (R : List EnE), e = .returned (.tuple #[.slice ao R.length cap, .int .i64 (((rpat (evs Wl) d.v).1 : Nat) : Int)]) ∧ evs R = (rpat (evs Wl) d.v).2 ∧ Own w0 w' (EntsT ao cap R :: l) := by
  have hB := h.allocC d.vs 26
  have HF1 : Hid (Calls _ _ _ _ _) := rform_any _ aw nw cw Wl ((hQ _ hB.tail).1) hW hIW (by omega)
  have HZ : Hid (esz Wl + hsz d.H + esz d.M ≤ 40000) := hz
  have hnw : nw ≤ 40000 := by unfold esz at hz; omega
  have HQ : Hid (∀ w', Own w0 w' l → EntsAt w' aw Wl ∧ DlAt w' d) := hQ
  have HTS : Hid (∀ W m, Own w0 W (m ++ l) → Calls Tryd.prog 7 #[.slice aw nw cw] W fun e w' => ∃ (ao : Option Addr) (cap : Nat), e = .returned (.slice ao nw cap) ∧ ∃ M : List EnE, M.length = nw ∧ evs M = evs Wl ∧ Own w0 w' (EntsT ao cap M :: (m ++ l))) := fun W m hw => rtwins_any w0 W _ hw aw nw cw Wl (fun w' hw' => (hQ w' (Own.dropA hw')).1) hW (by omega)
  have HIN : Hid (EIn Wl ∧ EIn d.M ∧ (∀ x ∈ d.H, x.lost < 256 ∧ (∀ q ∈ x.N, q.k < 256) ∧ (∀ q ∈ x.S, q.k < 256)) ∧ Wl.length = nw) := ⟨hIW, hIM, hH, hW⟩
  have hs1 := fm_lt 0 (evs Wl)
  obtain ⟨x, hx⟩ : ∃ x, x = fm 0 (evs Wl) := ⟨_, rfl⟩
  have HX : Hid (x = fm 0 (evs Wl)) := hx
  rw [← hx] at HF1 hs1
  have hml : d.M.length ≤ 40000 := by unfold esz at hz; omega
  obtain ⟨gl, hgl⟩ : ∃ gl, gl = d.G.length := ⟨_, rfl⟩
  obtain ⟨ml, hml2⟩ : ∃ ml, ml = d.M.length := ⟨_, rfl⟩
  obtain ⟨hl, hhl⟩ : ∃ hl, hl = d.H.length := ⟨_, rfl⟩
  have HLN : Hid (d.G.length = gl ∧ d.M.length = ml ∧ d.H.length = hl) := ⟨hgl.symm, hml2.symm, hhl.symm⟩
  have hvs : d.vs = #[.slice d.ga gl d.gc, .slice d.ma ml d.mc, .slice d.ha hl d.hc] := by unfold DlE.vs; rw [hgl, hml2, hhl]
  have HVS : Hid (d.vs = #[.slice d.ga gl d.gc, .slice d.ma ml d.mc, .slice d.ha hl d.hc]) := hvs
  rw [hvs] at hB HF1 ⊢
  rw [← hgl] at hg
  rw [← hml2] at hml
  rw [← hhl] at hh
  have HB : Hid (Own w0 _ _) := hB
  clear h hQ hW hIW hIM hH hz hB hx hgl hml2 hhl hvs
  go_enter Tryd.func10, Tryd.ntmps10
  go_wp2_with fail
  refine HF1.out.mono ?_
  rintro e w1 ⟨rfl, hf1⟩
  have h1 := HB.out.quiet hf1
  clear HF1 HB hf1
  generalize w.heap.size = b3 at *
  by_cases hx0 : x = 0
  · subst hx0
    have HTW : Hid (Calls _ _ _ _ _) := HTS.out w1 [_] h1
    have H1 : Hid (Own w0 w1 _) := h1
    clear h1
    go_wp2_with fail
    refine HTW.out.mono ?_
    rintro e w2 ⟨a1, c1, rfl, N1, hN1, hN1e, hO⟩
    obtain ⟨-, hO1⟩ := Own.ex_iff.1 hO
    have hO1 : Own w0 w2 (Row 43 2 (.slice a1 N1.length c1) N1.length (cat EnE.cs N1) :: (N1.map erow ++ (Cells b3 #[.slice d.ga gl d.gc, .slice d.ma ml d.mc, .slice d.ha hl d.hc] 26 :: l))) := hO1
    have HSW : Hid (Snap (evs Wl)) := Snap.of HX.out.symm
    have HNW : Hid (NowI w0 (N1.map erow) (Cells b3 #[.slice d.ga gl d.gc, .slice d.ma ml d.mc, .slice d.ha hl d.hc] 26 :: l) N1 (esz Wl)) := nowI_twin hN1e HIN.out.1
    have HU1 : Hid (Upe (evs N1)) := by show Upe _; rw [hN1e]; exact HSW.out.up
    have HE1 : Hid (evs N1 = evs Wl) := hN1e
    have p0 := hO1.tail.dropA.cell 0
    simp only [List.getElem?_toArray, List.getElem?_cons_zero] at p0
    subst hN1
    have HO1 : Hid (Own w0 w2 _) := hO1
    have HT : Hid (∀ w', Own w0 w' (Cells b3 #[.slice d.ga gl d.gc, .slice d.ma ml d.mc, .slice d.ha hl d.hc] 26 :: l) → EntsAt w' aw Wl ∧ DlAt w' d) := fun w' hw => HQ.out w' hw.tail
    clear hO hO1 hN1e H1 HTW HTS
    go_upto_block 0 with fail
    rename_i KK1 hKK1
    have HNIL : Hid (∀ wc, Own w0 wc (Cells b3 #[.slice d.ga gl d.gc, .slice d.ma ml d.mc, .slice d.ha hl d.hc] 26 :: l) → rpat (evs Wl) d.v = (4, []) → ∃ (ao : Option Addr) (cap : Nat) (R : List EnE), Ending.returned (.tuple #[.slice none 0 0, .int .i64 4]) = .returned (.tuple #[.slice ao R.length cap, .int .i64 (((rpat (evs Wl) d.v).1 : Nat) : Int)]) ∧ evs R = (rpat (evs Wl) d.v).2 ∧ Own w0 wc (EntsT ao cap R :: l)) := fun wc hw hr => ⟨none, 0, [], by rw [hr]; rfl, by rw [hr]; rfl, hw.tail.nilE⟩
    refine gp_gone w0 w2 (Cells b3 #[.slice d.ga gl d.gc, .slice d.ma ml d.mc, .slice d.ha hl d.hc] 26 :: l) aw N1.length cw b3 N1 (N1.map erow) a1 c1 gl (esz Wl) d.G d.ga d.gc (fun w' hw => by have := (HT.out w' hw).2.g; rw [HLN.out.1] at this; exact this) HLN.out.1 (by omega) (by have := HZ.out; omega) ⟨HU1.out, HNW.out⟩ HO1.out KK1 KK1 _ ?hm1 ?hr1 (fun _ _ h => h) _ ?ha1
    case ha1 => rfl
    case hr1 =>
      refine fun a' wc h => ?_
      obtain ⟨hact, hno, hOr⟩ := h
      obtain ⟨u9, hu⟩ : ∃ u9 : Nat → Value, ∀ k, a'.tmps.getD k undef = u9 k := ⟨_, fun _ => rfl⟩
      simp only [hu] at hact
      clear hu
      subst hact
      go_ret2
      exact HNIL.out wc hOr (rpat_2 HX.out.symm (pat_n1 (by rw [← HE1.out]; exact hno)))
    case hm1 =>
      intro a' w3 hm
      obtain ⟨N2, a2, c2, hact, hU2, hNI2, hgo, hO2⟩ := hm
      obtain ⟨u3, hu⟩ : ∃ u3 : Nat → Value, ∀ k, a'.tmps.getD k undef = u3 k := ⟨_, fun _ => rfl⟩
      simp only [hu] at hact
      clear hu
      subst hact
      have HG1 : Hid (goGone (evs Wl) d.G = some (evs N2)) := by show _ = _; rw [← HE1.out]; exact hgo
      have HP2 : Hid (Upe (evs N2) ∧ (∀ x ∈ N2, Ups x.C) ∧ NowI w0 (N1.map erow) (Cells b3 #[.slice d.ga gl d.gc, .slice d.ma ml d.mc, .slice d.ha hl d.hc] 26 :: l) N2 (esz Wl)) := ⟨hU2, fun x hx => (HSW.out.good _ (goGone_sub _ _ HG1.out _ (List.mem_map.2 ⟨x, hx, rfl⟩))).1, hNI2⟩
      have p2 := hO2.tail.dropA.cell 2
      simp only [List.getElem?_toArray, List.getElem?_cons_zero, List.getElem?_cons_succ] at p2
      have HO2 : Hid (Own w0 w3 _) := hO2
      clear hU2 hNI2 hgo hO2 HO1 p0
      go_upto_block 2 with fail
      rename_i KK2 hKK2
      refine gp_chg w0 w3 (Cells b3 #[.slice d.ga gl d.gc, .slice d.ma ml d.mc, .slice d.ha hl d.hc] 26 :: l) aw N1.length cw b3 N2 (N1.map erow) a2 c2 hl d.hc (esz Wl) d.ha d.H (fun w' hw => (HT.out w' hw).2.h) ⟨HLN.out.2.2, HIN.out.2.2.1⟩ (by omega) (by have := HZ.out; omega) HP2.out HO2.out KK2 KK2 _ ?hm2 ?hr2 (fun _ _ h => h) _ ?ha2
      case ha2 => rfl
      case hr2 =>
        refine fun a' wc h => ?_
        obtain ⟨hact, hno, hOr⟩ := h
        obtain ⟨u9, hu⟩ : ∃ u9 : Nat → Value, ∀ k, a'.tmps.getD k undef = u9 k := ⟨_, fun _ => rfl⟩
        simp only [hu] at hact
        clear hu
        subst hact
        go_ret2
        exact HNIL.out wc hOr (rpat_2 HX.out.symm (pat_n2 HG1.out hno))
      case hm2 =>
        intro a' w4 hm
        obtain ⟨N3, X3, a3, c3, hact, hU3, hNI3, hgo, hO3⟩ := hm
        obtain ⟨u4, hu⟩ : ∃ u4 : Nat → Value, ∀ k, a'.tmps.getD k undef = u4 k := ⟨_, fun _ => rfl⟩
        simp only [hu] at hact
        clear hu
        subst hact
        have HG2 : Hid (goChg (evs N2) (chv d.H) = some (evs N3)) := hgo
        have HP3 : Hid (NowI w0 X3 (Cells b3 #[.slice d.ga gl d.gc, .slice d.ma ml d.mc, .slice d.ha hl d.hc] 26 :: l) N3 (esz Wl + hsz d.H)) := hNI3
        have p1 := hO3.tail.dropA.cell 1
        simp only [List.getElem?_toArray, List.getElem?_cons_zero, List.getElem?_cons_succ] at p1
        have HO3 : Hid (Own w0 w4 _) := hO3
        clear hU3 hNI3 hgo hO3 HO2 p2
        go_upto_block 10 with fail
        rename_i KK3 hKK3
        refine gp_come w0 w4 (Cells b3 #[.slice d.ga gl d.gc, .slice d.ma ml d.mc, .slice d.ha hl d.hc] 26 :: l) aw N1.length cw b3 Wl d.M d.ma ml d.mc ⟨fun w' hw => ⟨(HT.out w' hw).1, (HT.out w' hw).2.m⟩, HIN.out.2.2.2, HSW.out.up, HLN.out.2.1, HIN.out.2.1⟩ (by omega) N3 X3 a3 c3 (esz Wl + hsz d.H) (by have := HZ.out; omega) HP3.out HO3.out KK3 KK3 _ ?hm3 ?hr3 (fun _ _ h => h) _ ?ha3
        case ha3 => rfl
        case hr3 =>
          refine fun a' wc h => ?_
          obtain ⟨hact, hno, hOr⟩ := h
          obtain ⟨u9, hu⟩ : ∃ u9 : Nat → Value, ∀ k, a'.tmps.getD k undef = u9 k := ⟨_, fun _ => rfl⟩
          simp only [hu] at hact
          clear hu
          subst hact
          go_ret2
          exact HNIL.out wc hOr (rpat_2 HX.out.symm (pat_n3 HG1.out HG2.out hno))
        case hm3 =>
          intro a' w5 hm
          obtain ⟨N4, a4, c4, hact, hNI4, hgo, hO4⟩ := hm
          obtain ⟨u5, hu⟩ : ∃ u5 : Nat → Value, ∀ k, a'.tmps.getD k undef = u5 k := ⟨_, fun _ => rfl⟩
          simp only [hu] at hact
          clear hu
          subst hact
          have HPL : Hid (patL (evs Wl) d.v = some (evs N4)) := pat_all HG1.out HG2.out hgo
          have hn4 : esz N4 ≤ 40000 := Nat.le_trans hNI4.sz HZ.out
          have hnl4 : N4.length ≤ 40000 := by unfold esz at hn4; omega
          have HD : Hid (Calls _ _ _ _ _) := rdiff_any w0 w5 _ hO4 aw a4 N1.length N4.length cw c4 Wl N4 (fun w' hw' => ⟨(HT.out w' hw'.tail.dropA).1, hNI4.ents hw'⟩) HIN.out.2.2.2 rfl HIN.out.1 hNI4.inn (by have := HZ.out; omega) (by omega)
          have HTN : Hid (∀ w' m, Own w0 w' (m ++ (Row 43 2 (.slice a4 N4.length c4) N4.length (cat EnE.cs N4) :: (X3 ++ (Cells b3 #[.slice d.ga gl d.gc, .slice d.ma ml d.mc, .slice d.ha hl d.hc] 26 :: l)))) → Calls Tryd.prog 7 #[.slice a4 N4.length c4] w' fun e w'' => ∃ (ao : Option Addr) (cap : Nat), e = .returned (.slice ao N4.length cap) ∧ ∃ M : List EnE, M.length = N4.length ∧ evs M = evs N4 ∧ Own w0 w'' (EntsT ao cap M :: (m ++ (Row 43 2 (.slice a4 N4.length c4) N4.length (cat EnE.cs N4) :: (X3 ++ (Cells b3 #[.slice d.ga gl d.gc, .slice d.ma ml d.mc, .slice d.ha hl d.hc] 26 :: l)))))) := fun w' m hw => rtwins_any w0 w' _ hw a4 N4.length c4 N4 (fun w'' hw'' => hNI4.ents hw''.dropA) rfl (by omega)
          have hyl := fm_lt 0 (evs N4)
          have HDC : Hid (dcode (evs Wl) (evs N4) = fm 0 (evs N4)) := by show _ = _; unfold dcode; rw [← HX.out]; rfl
          obtain ⟨y, hy⟩ : ∃ y, y = fm 0 (evs N4) := ⟨_, rfl⟩
          rw [HDC.out, ← hy] at HD
          rw [← hy] at hyl
          have HY : Hid (y = fm 0 (evs N4)) := hy
          have HWZ : Hid (esz Wl ≤ 40000 ∧ esz N4 ≤ 40000) := ⟨by have := HZ.out; omega, hn4⟩
          clear hy hNI4 hgo hO4 HO3 p1
          go_wp2_with fail
          refine HD.out.mono ?_
          rintro e w6 ⟨d2, rfl, hv, hO6⟩
          have HV : Hid (d2.v = dlv (evs Wl) (evs N4)) := hv
          unfold DlE.vs
          obtain ⟨ng, hng⟩ : ∃ ng, ng = d2.G.length := ⟨_, rfl⟩
          obtain ⟨nm, hnm⟩ : ∃ nm, nm = d2.M.length := ⟨_, rfl⟩
          obtain ⟨nh, hnh⟩ : ∃ nh, nh = d2.H.length := ⟨_, rfl⟩
          have HV2 : Hid (d2.vs = #[.slice d2.ga ng d2.gc, .slice d2.ma nm d2.mc, .slice d2.ha nh d2.hc]) := by show _ = _; unfold DlE.vs; rw [hng, hnm, hnh]
          rw [← hng, ← hnm, ← hnh]
          have hA6 := hO6.allocC #[.slice d2.ga ng d2.gc, .slice d2.ma nm d2.mc, .slice d2.ha nh d2.hc] 26
          have r0 := hA6.cell 0
          have r1 := hA6.cell 1
          have r2 := hA6.cell 2
          have k3 := hA6.tail.dropA.tail.dropA
          have k0 := k3.cell 0
          have k1 := k3.cell 1
          have k2 := k3.cell 2
          simp only [List.getElem?_toArray, List.getElem?_cons_zero, List.getElem?_cons_succ] at r0 r1 r2 k0 k1 k2
          have HA6 : Hid (Own w0 _ _) := hA6
          clear hv hO6 hA6 k3 hng hnm hnh HD
          by_cases hy0 : y = 0
          · subst hy0
            have HVB : Hid (d2.v = btw (evs Wl) (evs N4)) := by
              show _ = _
              have := HV.out
              unfold dlv at this
              rw [HDC.out, ← HY.out, if_pos rfl] at this
              exact this
            have hi2 : DlIn d2 := dlIn_of HVB.out (by have := HWZ.out; omega) (by have := HWZ.out; omega)
            have hi1 : DlIn d := ⟨by have := HLN.out; omega, by have := HZ.out; omega, by have := HLN.out; have := HZ.out; omega, fun q hq => (HIN.out.2.2.1 q hq).1⟩
            have hcs := rsame_any _ d2 d (Own.dlAt HA6.out.tail) (HT.out _ HA6.out.tail.dropA.tail.dropA).2 hi2 hi1
            rw [HV2.out, HVS.out] at hcs
            have HCS : Hid (Calls _ _ _ _ _) := hcs
            clear hi1 hi2 hcs
            go_wp2_with fail
            refine HCS.out.mono ?_
            rintro e w7 ⟨rfl, hf7⟩
            have hA7 := HA6.out.quiet hf7
            clear HCS HA6 hf7 r0 r1 r2 k0 k1 k2
            by_cases hsm : d2.v = d.v
            · have HPR : Hid (rpat (evs Wl) d.v = (0, evs N4)) := rpat_4 HX.out.symm HPL.out ⟨HY.out.symm, HVB.out.symm.trans hsm⟩
              have hdt : decide (d2.v = d.v) = true := decide_eq_true hsm
              rw [hdt]
              have HTN2 : Hid (Calls _ _ _ _ _) := HTN.out w7 (Cells w6.heap.size #[.slice d2.ga ng d2.gc, .slice d2.ma nm d2.mc, .slice d2.ha nh d2.hc] 26 :: d2.things) hA7
              clear hA7 hsm hdt HTN
              go_wp2_with fail
              refine HTN2.out.mono ?_
              rintro e w8 ⟨ao, cap, rfl, M, hM, hMe, hO8⟩
              have HF : Hid (M.length = N4.length ∧ evs M = evs N4) := ⟨hM, hMe⟩
              have HO8 : Hid (Own w0 w8 (EntsT ao cap M :: l)) := hO8.dropI.two.tail.dropI.two.tail
              clear hO8 hM hMe HTN2
              go_wp2
              go_ret2
              exact ⟨ao, cap, M, by rw [HPR.out, HF.out.1]; rfl, by rw [HPR.out]; exact HF.out.2, HO8.out⟩
            · have hdt : decide (d2.v = d.v) = false := decide_eq_false hsm
              have HN : Hid (rpat (evs Wl) d.v = (4, [])) := rpat_3 HX.out.symm HPL.out (fun hc => hsm (HVB.out.trans hc.2))
              rw [hdt]
              have HL2 : Hid (Own w0 _ _) := hA7.tail.dropA.tail.dropA
              clear hA7 hsm hdt
              go_wp2
              go_ret2
              exact HNIL.out _ HL2.out HN.out
          · have hy1 : ((y : Int) != 0) = true := by simpa using hy0
            have HN : Hid (rpat (evs Wl) d.v = (4, [])) := rpat_3 HX.out.symm HPL.out (fun hc => hy0 (HY.out.trans hc.1))
            have HL2 : Hid (Own w0 _ _) := HA6.out.tail.dropA.tail.dropA
            clear HA6 hy0
            go_wp2
            go_ret2
            exact HNIL.out _ HL2.out HN.out
  · have hx1 : ((x : Int) != 0) = true := by simpa using hx0
    have HR : Hid (rpat (evs Wl) d.v = (x, [])) := by show _ = _; rw [rpat_1 (by rw [← HX.out]; exact hx0), ← HX.out]
    have H1 : Hid (Own w0 w1 _) := h1
    clear h1 hx0 HTS
    go_wp2
    go_ret2
    exact ⟨none, 0, [], by rw [HR.out]; rfl, by rw [HR.out]; rfl, H1.out.tail.nilE⟩
end Go.Proofs.YtkjanpjlpieaoaaDoor

