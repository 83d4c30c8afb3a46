/- The document's Seal of any packet; Peek and Open of what isn't a frame. -/
import Derived.Test.YtgifeckbflkkpaaGreatDoorQl48
import Derived.Test.YtgifeckbflkkpaaGreatDoorQl17
import Derived.Test.YtgifeckbflkkpaaGreatDoorQl42
import Derived.Test.YtgifeckbflkkpaaGreatDoorQl43
import Derived.OpenShut
import Derived.SevenTiedAt
import Derived.Deep.DeepHandedRow
import Derived.Test.YtgifeckbflkkpaaGreatDoorQl16
import Derived.Test.YtgifeckbflkkpaaGreatDoorQl04
import Derived.Test.YtgifeckbflkkpaaGreatDoorTie
import Derived.Test.YtgifeckbflkkpaaGreatDoorCards
import Derived.ProofKit
import Derived.LaidMore
import Derived.Stop.Joined
namespace Go.Proofs.YtgifeckbflkkpaaGreatDoor
open Go.RowKit
set_option linter.unusedVariables false
set_option maxHeartbeats 32000000
set_option maxRecDepth 100000
theorem rseal20 (w0 w : World) (l : List Thing) (h : Own w0 w l) (k c e t s : Nat) (hI : HIn k c e t s) (aw an : Option Addr) (nw nn cw cn : Nat) (W N : List EnE) (hQ : ∀ w',Own w0 w' l → EntsAt w' aw W ∧ EntsAt w' an N) (hW : W.length = nw) (hN : N.length = nn) (hIW : EIn W) (hIN : EIn N) (hzW : esz W ≤ 400) (hzN : esz N ≤ 400) :
  Calls Tryz.prog 32 #[.agg (hvs k c e t s),.slice aw nw cw,.slice an nn cn] w fun x w' => ∃ v code P,x = .returned (.tuple #[v,.int .i64 ((code : Nat) : Int)]) ∧ SealR k c e t s (evs W) (evs N) code P ∧ Own w0 w' (Row 5 1 v P.length (vrow P) :: l) := by
 by_cases hc : hchk k c e t s = 0
 ·by_cases k1 : k = 1
  ·subst k1
   exact rseal_1 w0 w l h c e t s hI hc aw an nw nn cw cn W N hQ hW hN hIW hIN hzW hzN
  ·by_cases k2 : k = 2
   ·subst k2
    exact rseal_2 w0 w l h c e t s hI hc aw an nw nn cw cn W N hQ hW hN hIW hIN hzW hzN
   ·exact rseal_3 w0 w l h k c e t s hI hc k1 k2 aw an nw nn cw cn W N hQ hW hN hIW hIN hzW hzN
 ·exact rseal_bad w0 w l h k c e t s hI hc aw an nw nn cw cn W N hQ hW hN hIW hIN hzW hzN
end Go.Proofs.YtgifeckbflkkpaaGreatDoor
namespace Go.Proofs.YtgifeckbflkkpaaGreatDoor
open Go.ChangeShapes Go.WideShapes Go.ChangeAt Go.RowKit Go.Deep
set_option linter.unusedVariables false
set_option maxHeartbeats 32000000
set_option maxRecDepth 100000
theorem cell_in {w w' : World} (h : Fr Nobody w w') {p : Addr} {v : Value} (hc : w.cell? p = some v) : w'.cell? p = some v := (h.cell (World.block_lt_of_cell? _ _ hc) (fun h => h)).trans hc
theorem lb_seal {c e t bud : Nat} {N : List En} {code : Nat} {P : List Nat} (h : SealR 1 c e t 0 [] N code P) (hf : wfit 1 c e t 0 [] N bud = false) : ¬ (code = 0 ∧ P.length ≤ bud) := by
 rintro ⟨h1,h2⟩
 have h3 := of_decide_eq_false hf
 refine h3 ⟨?_,?_⟩
 ·rw [← h.2.2.2.1]; exact h1
 ·have h4 := (h.2.2.1 h1).2.2.1
  unfold sfr
  rw [← h4]
  exact h2
theorem laneBudget_fr (w : World) (ht : Tab w ∧ Tabf w) (k0 : Nat) (g0 : k0 < 65536) (a1 : Option Addr) (len1 cap1 : Nat) (z1 : List LeE) (w1 : IsLents w a1 len1 cap1 z1) (hb1 : (z1.map (fun x => esz x.L)).sum ≤ 1048576) (a2 : Option Addr) (len2 cap2 : Nat) (z2 : List Bool) (w2 : IsBls w a2 len2 cap2 z2) :
  Calls Tryz.prog 6 #[.int .u16 (k0 : Int),.slice a1 len1 cap1,.slice a2 len2 cap2] w fun e w' => e = .returned (.bool true) ∧ Fr Nobody w w' := by
 have HT : Hid (Tab w ∧ Tabf w) := ht
 have HAW : Hid (Calls _ _ _ _ _) := awake21 w ht.1 ht.2
 have HL1 : Hid (IsLents w a1 len1 cap1 z1) := w1
 have HB1 : Hid (∀ x ∈ z1,esz x.L ≤ 1048576) := fun x hx => Nat.le_trans (sum_le (fun x => esz x.L) hx) hb1
 have HL2 : Hid (IsBls w a2 len2 cap2 z2) := w2
 have hl1 : len1 ≤ 9223372036854775807 := by have := w1.2.1; have := w1.2.2.1; unfold maxLen at this; omega
 have hl2 : len2 ≤ 9223372036854775807 := by have := w2.2.1; have := w2.2.2.1; unfold maxLen at this; omega
 obtain ⟨bud,hbud⟩ : ∃ bud : Nat,bud = 1 + k0 % 400 := ⟨_,rfl⟩
 have hbe : (1 : Int) + (k0 : Int) % 400 = (bud : Int) := by rw [hbud]; push_cast; rfl
 have hb_1 : 1 ≤ bud := by omega
 have hb_2 : bud ≤ 400 := by omega
 clear ht w1 w2 hb1 hbud
 go_enter Tryz.func6,Tryz.ntmps6
 go_wp2_with fail
 refine HAW.out.mono ?_
 rintro e wa ⟨rfl,hf⟩
 have HN : Hid (Calls _ _ _ _ _) := lnew w wa [] ((Own.start w).quiet hf) 0 1 (by decide) (by decide) 4 bud (by decide) (by decide) hb_1 (by omega)
 clear hf HAW
 go_wp2_with fail
 refine HN.out.mono ?_
 rintro e wb ⟨b,rb,rfl,h1⟩
 have H1 : Hid (Own w wb _) := h1
 clear HN h1 g0 hbe
 go_wp2
 refine wp_loop (fun a' wr => ∃ (ss as_ : Bool) (st at_ : Nat) (H : List HeE) (X : List Thing) (i : Nat),a' = { tmps := #[gQ a' 0,.slice a1 len1 cap1,.slice a2 len2 cap2,gQ a' 3,gQ a' 4,gQ a' 5,gQ a' 6,.int .i64 (bud : Int),.pointer (some ⟨b,0,none⟩),gQ a' 9,gQ a' 10,gQ a' 11,gQ a' 12,gQ a' 13,gQ a' 14,gQ a' 15,gQ a' 16,gQ a' 17,gQ a' 18,gQ a' 19,gQ a' 20,gQ a' 21,gQ a' 22,gQ a' 23,gQ a' 24,gQ a' 25,gQ a' 26,gQ a' 27,gQ a' 28,.slice a1 len1 cap1,.int .i64 (len1 : Int),.int .i64 (i : Int),gQ a' 32,gQ a' 33,gQ a' 34,gQ a' 35,gQ a' 36,gQ a' 37,gQ a' 38,gQ a' 39,gQ a' 40,gQ a' 41,gQ a' 42,gQ a' 43,gQ a' 44,gQ a' 45,gQ a' 46,gQ a' 47,gQ a' 48,gQ a' 49,gQ a' 50,gQ a' 51,gQ a' 52,gQ a' 53,gQ a' 54,gQ a' 55,gQ a' 56,gQ a' 57,gQ a' 58,gQ a' 59,gQ a' 60,gQ a' 61,gQ a' 62,gQ a' 63,gQ a' 64,gQ a' 65,gQ a' 66,gQ a' 67,gQ a' 68,gQ a' 69,gQ a' 70,gQ a' 71,gQ a' 72,gQ a' 73,gQ a' 74,gQ a' 75,gQ a' 76,gQ a' 77,gQ a' 78,gQ a' 79,gQ a' 80,gQ a' 81,gQ a' 82,gQ a' 83,gQ a' 84,gQ a' 85,gQ a' 86,gQ a' 87,gQ a' 88,gQ a' 89,gQ a' 90,gQ a' 91,gQ a' 92,gQ a' 93,gQ a' 94,gQ a' 95,gQ a' 96,gQ a' 97,gQ a' 98,gQ a' 99,gQ a' 100,gQ a' 101,gQ a' 102,gQ a' 103,gQ a' 104,gQ a' 105,gQ a' 106],defers := [] } ∧ i ≤ len1 ∧ i ≤ 20 ∧ st ≤ i ∧ at_ ≤ i ∧ LnI w X 4 H ss st ∧ Own w wr (Cells b (lc 0 1 bud rb ss st as_ at_) 128 :: Ringe rb 4 (H.map HeE.r) :: X)) (fun a' _ => len1 - (intOf (a'.tmps.getD 31 undef)).toNat) ?_ ?_
 ·exact ⟨false,false,0,0,[],[],0,rfl,Nat.zero_le _,Nat.zero_le _,Nat.le_refl _,Nat.le_refl _,⟨fun W hW x hx => (by cases hx),ROk.nil (by decide) (by decide),fun x hx => (by cases hx),fun x hx => (by cases hx)⟩,H1.out⟩
 ·intro a' wr hI
  obtain ⟨ss,as_,st,at_,H,X,i,hact,hi1,hi20,hst,hat,hln,hO⟩ := hI
  obtain ⟨u,hu⟩ : ∃ u : Nat → Value,∀ k,gQ a' k = u k := ⟨_,fun _ => rfl⟩
  simp only [hu] at hact
  clear hu
  subst hact
  have HO : Hid (Own w wr (Cells b (lc 0 1 bud rb ss st as_ at_) 128 :: Ringe rb 4 (H.map HeE.r) :: X) ∧ LnI w X 4 H ss st) := ⟨hO,hln⟩
  clear H1 hln hO
  by_cases hlt : i < len1
  ·obtain ⟨x,hx⟩ : ∃ x,z1[i]? = some x := ⟨_,List.getElem?_eq_getElem (by rw [HL1.out.1]; exact hlt)⟩
   obtain ⟨g,o,hao,c0,hxe⟩ := HL1.out.at hx
   have hfr := HO.out.1.fr
   have c1 := cell_in hfr c0
   have HX : Hid (x ∈ z1 ∧ IsEnts w x.ao x.L.length x.cap x.L) := ⟨List.mem_of_getElem? hx,hxe⟩
   have hlt' : (i : Int) < (len1 : Int) := by omega
   subst hao
   clear hx c0 hxe
   by_cases h20 : 20 ≤ i
   ·have h20' : (20 : Int) ≤ (i : Int) := by omega
    have HF : Hid (Fr Nobody w wr) := hfr
    clear hfr HO
    go_wp2
    go_ret
    exact ⟨rfl,HF.out⟩
   ·have h20' : ¬ (20 : Int) ≤ (i : Int) := by omega
    obtain ⟨T,hTe⟩ : ∃ T : Nat,T = i + 1 := ⟨_,rfl⟩
    have HTI : Hid ((T : Int) = (i : Int) + 1) := by show _ = _; omega
    obtain ⟨xl,hxl⟩ : ∃ xl,x.L.length = xl := ⟨_,rfl⟩
    have HXL : Hid (x.L.length = xl) := hxl
    have HFW : Hid (Calls _ _ _ _ _) := few_any wr x.ao x.L.length x.cap x.L rfl (HX.out.2.ents.1.quiet hfr) (HB1.out x HX.out.1)
    obtain ⟨xa,xc,L⟩ := x
    simp only at c1 HX hxl HXL HFW
    rw [hxl] at c1 HFW
    clear hfr hxl
    by_cases h4 : esz L ≤ 400
    ·rw [decide_eq_true h4] at HFW
     have HRF : Hid (∀ W,Fr Nobody w W → Calls Tryz.prog 31 #[.slice xa xl xc] W fun e w' => e = .returned (.int .i64 ((fm 0 (evs L) : Nat) : Int)) ∧ Fr Nobody W w') := fun W hf => rform_any W xa xl xc L (HX.out.2.ents.1.quiet hf) HXL.out HX.out.2.ents.2 (by omega)
     have HZ : Hid (esz L ≤ 400) := h4
     clear h4
     go_wp2_with fail
     refine HFW.out.mono ?_
     rintro e w2 ⟨rfl,hf2⟩
     have h2 := HO.out.1.quiet hf2
     have HFC : Hid (Calls _ _ _ _ _) := HRF.out w2 h2.fr
     have H2 : Hid (Own w w2 (Cells b (lc 0 1 bud rb ss st as_ at_) 128 :: Ringe rb 4 (H.map HeE.r) :: X) ∧ LnI w X 4 H ss st) := ⟨h2,HO.out.2⟩
     clear hf2 h2 HFW HRF HO
     obtain ⟨fx,hfx⟩ : ∃ fx,fx = fm 0 (evs L) := ⟨_,rfl⟩
     rw [← hfx] at HFC
     have HFX : Hid (fx = fm 0 (evs L)) := hfx
     clear hfx
     go_wp2_with fail
     refine HFC.out.mono ?_
     rintro e w3 ⟨rfl,hf3⟩
     have h3 := H2.out.1.quiet hf3
     have hln := H2.out.2
     clear hf3 HFC H2
     by_cases hx0 : fx = 0
     ·subst hx0
      have HTW : Hid (Calls _ _ _ _ _) := rtwins_any w w3 _ h3 xa xl xc L (fun w' hw => HX.out.2.ents.1.quiet hw.fr) HXL.out (by have := HZ.out; omega)
      have HLN : Hid (LnI w X 4 H ss st) := hln
      have hT0 : T < 4294967296 := by omega
      clear h3 hln
      go_wp2_with fail
      refine HTW.out.mono ?_
      rintro e w4 ⟨am,cm,rfl,M,hM1,hM2,h4⟩
      have hec := h4.entsCap
      have h4 := h4.perm (perm_lc _ _ _ _)
      have hs : (ss && decide (T ≤ st)) = false := by
       rw [Bool.and_eq_false_iff]
       exact .inr (decide_eq_false (by omega))
      have HS : Hid (Calls _ _ _ _ _) := lsend w w4 HT.out.1 HT.out.2 _ b 0 1 bud rb 4 st at_ ss as_ H HLN.out.rk HLN.out.ok HLN.out.tk (by omega) (by decide) (by decide) (by omega) h4 T hT0 am xl cm M (fun w' hw => ⟨hw.entsAt,fun x hx => HLN.out.cs w' hw.tail x hx⟩) hM1 (by omega) hec.2 (EIn.of_evs hM2 HX.out.2.ents.2) (by rw [esz_evs hM2]; exact HZ.out)
      rw [HTI.out] at HS
      have HM : Hid (fm 0 (evs M) = 0 ∧ evs M = evs L ∧ (ss && decide (T ≤ st)) = false) := ⟨by rw [hM2]; exact HFX.out.symm,hM2,hs⟩
      clear HTW h4 hec hM1 hM2 hs
      go_wp2_with fail
      refine HS.out.mono ?_
      rintro e w5 ⟨v,code,P,ss',st',put,y,rfl,hS,hyt,hyL,hyo,h5⟩
      clear HS
      rcases hS.two HM.out.2.2 HM.out.1 with ⟨hlf,rfl,rfl,rfl,htt,rfl⟩ | ⟨hlf,rfl,hP,rfl,htt,rfl⟩
      ·have htt := htt.symm
       subst htt
       obtain ⟨av,cv,rfl⟩ := row_any h5.row
       have h5 : Own w w5 (Cells b (lc 0 1 bud rb true T as_ at_) 128 :: Ringe rb 4 (H.map HeE.r) :: EntsT am cm M :: X) := h5.tail
       have HSE : Hid (Calls _ _ _ _ _) := rseal20 w w5 _ h5 1 0 1 T 0 ⟨by decide,by decide,by decide,hT0,by decide⟩ none xa 0 xl 0 xc [] L (fun w' hw => ⟨entsAt_nil w',HX.out.2.ents.1.quiet hw.fr⟩) rfl HXL.out (fun x hx => by cases hx) HX.out.2.ents.2 (by unfold esz; simp [csz]) HZ.out
       unfold hvs at HSE
       rw [HTI.out] at HSE
       have HNO : Hid (wfit 1 0 1 T 0 [] (evs L) bud = false) := by
        show _ = _
        rw [← HM.out.2.1]
        exact lfit_no hlf
       clear h5 hS hyt hyL hyo hlf
       go_wp2_with fail
       refine HSE.out.mono ?_
       rintro e w6 ⟨v2,code2,P2,rfl,hSR,h6⟩
       obtain ⟨av2,cv2,rfl⟩ := row_any h6.row
       have hno := lb_seal hSR HNO.out
       have H6 : Hid (Own w w6 (Cells b (lc 0 1 bud rb true T as_ at_) 128 :: Ringe rb 4 (H.map HeE.r) :: EntsT am cm M :: X)) := h6.tail
       clear HSE h6 hSR
       generalize P2.length = pl at *
       by_cases hc : code2 = 0
       ·subst hc
        have hpl : ¬ (pl : Int) ≤ (bud : Int) := by
         intro h
         exact hno ⟨rfl,by omega⟩
        clear hno
        go_wp2
        exact ⟨⟨true,as_,T,at_,H,EntsT am cm M :: X,i + 1,(by first | exact ⟨rfl,rfl⟩ | rfl),by omega,by omega,by omega,by omega,(HLN.out.more _).up HM.out.2.2,H6.out⟩,by simp [intOf]; omega⟩
       ·have hc' : ((code2 : Int) == 0) = false := by rw [beq_eq_false_iff_ne]; omega
        clear hno hc
        go_wp2
        exact ⟨⟨true,as_,T,at_,H,EntsT am cm M :: X,i + 1,(by first | exact ⟨rfl,rfl⟩ | rfl),by omega,by omega,by omega,by omega,(HLN.out.more _).up HM.out.2.2,H6.out⟩,by simp [intOf]; omega⟩
      ·have htt := htt.symm
       subst htt
       obtain ⟨av,cv,rfl⟩ := row_any h5.row
       have h5 : Own w w5 (Cells b (lc 0 1 bud rb true T as_ at_) 128 :: Ringe rb 4 ((putH 4 H y).map HeE.r) :: Row 5 1 (.slice av P.length cv) P.length (vrow P) :: EntsT y.ao y.cap y.L :: EntsT am cm M :: X) := h5.perm (perm_lc _ _ _ _)
       have hpl : P.length ≤ bud := by rw [hP]; exact lfrm_le hlf
       have hpl' : ¬ (bud : Int) < (P.length : Int) := by omega
       obtain ⟨hl2,hlt2⟩ := (HLN.out.more (EntsT am cm M)).put (y := y) hyo (by rw [hyt]; exact HM.out.2.2) (by rw [hyt]; exact hT0)
       have hg := hget_put (k := 4) (by decide) hlt2
       rw [hyt] at hl2 hg
       obtain ⟨H2,hH2⟩ : ∃ H2,H2 = putH 4 H y := ⟨_,rfl⟩
       obtain ⟨X2,hX2⟩ : ∃ X2,X2 = EntsT y.ao y.cap y.L :: EntsT am cm M :: X := ⟨_,rfl⟩
       rw [← hH2] at h5 hl2 hg
       rw [← hX2] at h5 hl2
       have HL3 : Hid (LnI w X2 4 H2 true T ∧ hget H2 T = some y) := ⟨hl2,hg⟩
       have H5 : Hid (Own w w5 _) := h5
       have h5f := h5.fr
       clear hS hyt hyL hyo hlf hl2 hg hH2 hX2 h5 hlt2 hP hpl
       generalize hplg : P.length = pl at *
       by_cases hi2 : i < len2
       ·have hi2' : (i : Int) < (len2 : Int) := by omega
        obtain ⟨q,hq⟩ : ∃ q,z2[i]? = some q := ⟨_,List.getElem?_eq_getElem (by rw [HL2.out.1]; exact hi2)⟩
        obtain ⟨g2,o2,hao2,c2⟩ := HL2.out.at hq
        have c3 := cell_in h5f c2
        subst hao2
        clear hq c2 h5f
        cases q with
        | false =>
         go_wp2
         exact ⟨⟨true,as_,T,at_,H2,_,i + 1,(by first | exact ⟨rfl,rfl⟩ | rfl),by omega,by omega,by omega,by omega,HL3.out.1.more _,H5.out⟩,by simp [intOf]; omega⟩
        | true =>
         have HA : Hid (Calls _ _ _ _ _) := lack w w5 _ b 0 1 bud rb 4 T at_ true as_ H2 HL3.out.1.rk H5.out T hT0
         rw [HTI.out] at HA
         have ha : (as_ && decide (T ≤ at_)) = false := by
          rw [Bool.and_eq_false_iff]
          exact .inr (decide_eq_false (by omega))
         go_wp2_with fail
         refine HA.out.mono ?_
         rintro e w6 ⟨code3,as',at',n,rfl,hA,h6⟩
         obtain ⟨rfl,rfl,htt,rfl⟩ := hA.yes ha HL3.out.2
         have htt := htt.symm
         subst htt
         have H6 : Hid (Own w w6 _) := h6
         clear hA h6 HA ha H5
         go_wp2
         exact ⟨⟨true,true,T,T,_,_,i + 1,(by first | exact ⟨rfl,rfl⟩ | rfl),by omega,by omega,by omega,by omega,(HL3.out.1.more _).drop _,H6.out⟩,by simp [intOf]; omega⟩
       ·have hi2' : ¬ (i : Int) < (len2 : Int) := by omega
        clear h5f
        go_wp2
        exact ⟨⟨true,as_,T,at_,H2,_,i + 1,(by first | exact ⟨rfl,rfl⟩ | rfl),by omega,by omega,by omega,by omega,HL3.out.1.more _,H5.out⟩,by simp [intOf]; omega⟩
     ·have hx1 : ((fx : Int) != 0) = true := by simpa using hx0
      have H3 : Hid (Own w w3 (Cells b (lc 0 1 bud rb ss st as_ at_) 128 :: Ringe rb 4 (H.map HeE.r) :: X) ∧ LnI w X 4 H ss st) := ⟨h3,hln⟩
      clear h3 hln hx0
      go_wp2
      exact ⟨⟨ss,as_,st,at_,H,X,i + 1,(by first | exact ⟨rfl,rfl⟩ | rfl),by omega,by omega,by omega,by omega,H3.out.2,H3.out.1⟩,by simp [intOf]; omega⟩
    ·rw [decide_eq_false h4] at HFW
     clear h4
     go_wp2_with fail
     refine HFW.out.mono ?_
     rintro e w2 ⟨rfl,hf2⟩
     have H2 : Hid (Own w w2 (Cells b (lc 0 1 bud rb ss st as_ at_) 128 :: Ringe rb 4 (H.map HeE.r) :: X) ∧ LnI w X 4 H ss st) := ⟨HO.out.1.quiet hf2,HO.out.2⟩
     clear hf2 HFW HO
     go_wp2
     exact ⟨⟨ss,as_,st,at_,H,X,i + 1,(by first | exact ⟨rfl,rfl⟩ | rfl),by omega,by omega,by omega,by omega,H2.out.2,H2.out.1⟩,by simp [intOf]; omega⟩
  ·have hlt' : ¬ (i : Int) < (len1 : Int) := by omega
   have HF : Hid (Fr Nobody w wr) := HO.out.1.fr
   clear HO
   go_wp2
   go_ret
   exact ⟨rfl,HF.out⟩
end Go.Proofs.YtgifeckbflkkpaaGreatDoor
namespace Go.Proofs.YtgifeckbflkkpaaGreatDoor
open Go.ChangeShapes Go.WideShapes Go.ChangeAt Go.WideMaps Go.WideElems Go.RowKit
set_option linter.unusedVariables false
set_option maxHeartbeats 32000000
set_option maxRecDepth 100000
theorem gSteps : Tryz.prog.globalNamed "pinnace/frame.steps" = some 0 := by kernel_rfl
theorem tSteps : (Tryz.prog.globals[0]?).map (·.type) = some 218 := by kernel_rfl
theorem tbl_vals : (List.range 16).map tbl = [0,498536548,997073096,651767980,1994146192,1802195444,1303535960,1342533948,3988292384,4027552580,3604390888,3412177804,2607071920,2262029012,2685067896,3183342108] := by decide +kernel
theorem steps_at (i : Nat) (hi : i < 16) : ([DataW.lit (Lit.int IntKind.u32 0),DataW.lit (Lit.int IntKind.u32 498536548),DataW.lit (Lit.int IntKind.u32 997073096),DataW.lit (Lit.int IntKind.u32 651767980),DataW.lit (Lit.int IntKind.u32 1994146192),DataW.lit (Lit.int IntKind.u32 1802195444),DataW.lit (Lit.int IntKind.u32 1303535960),DataW.lit (Lit.int IntKind.u32 1342533948),DataW.lit (Lit.int IntKind.u32 3988292384),DataW.lit (Lit.int IntKind.u32 4027552580),DataW.lit (Lit.int IntKind.u32 3604390888),DataW.lit (Lit.int IntKind.u32 3412177804),DataW.lit (Lit.int IntKind.u32 2607071920),DataW.lit (Lit.int IntKind.u32 2262029012),DataW.lit (Lit.int IntKind.u32 2685067896),DataW.lit (Lit.int IntKind.u32 3183342108)] : List (DataW Unit))[i]? = some (DataW.lit (Lit.int IntKind.u32 ((tbl i : Nat) : Int))) := by
 have e : (tbl i) = ((List.range 16).map tbl)[i]?.getD 0 := by simp [hi]
 rw [e,tbl_vals]
 clear e
 match i,hi with
 | 0,_ => rfl
 | 1,_ => rfl
 | 2,_ => rfl
 | 3,_ => rfl
 | 4,_ => rfl
 | 5,_ => rfl
 | 6,_ => rfl
 | 7,_ => rfl
 | 8,_ => rfl
 | 9,_ => rfl
 | 10,_ => rfl
 | 11,_ => rfl
 | 12,_ => rfl
 | 13,_ => rfl
 | 14,_ => rfl
 | 15,_ => rfl
 | n + 16,h => exact absurd h (by omega)
theorem of_laidf {W : World} (h : laidMetH Tryz.prog laid1 W) : Tabf W := by
 rw [MakeChecks.laidMetH_plain _ _ _ (by kernel_rfl)] at h
 obtain ⟨ps,⟨g0,t0,cs0,f0,p0,q0,hg0,ht0,hv0,hd0,_,_⟩,_,_⟩ := h
 obtain rfl := Option.some.inj (gSteps.symm.trans hg0)
 obtain rfl := Option.some.inj (tSteps.symm.trans ht0)
 obtain ⟨xs,m1,rfl,hx1,hlen,hn3,hel⟩ := DataW.trod_array Tryz.underlying218 hd0
 have c3 : Tryz.prog.cellsOf 27 = 1 := by kernel_rfl
 have c24 : Tryz.prog.cellsOf 218 = 16 := by kernel_rfl
 simp only [Prod.mk.injEq,DataW.agg.injEq,Rows.laid_pinnace_frame_steps] at hx1
 intro i hi
 have h0 := hel i hi
 have hxi : xs[i]? = some xs[i] := List.getElem?_eq_getElem (by rw [hn3]; exact hi)
 obtain ⟨k,e1,e2,_⟩ := DataW.trod_int Tryz.underlying27 (h0.trans hxi)
 have hk : k = ((tbl i : Nat) : Int) := by
  have h1 := steps_at i hi
  rw [hx1.1,List.getElem?_map,hxi] at h1
  simp only [Option.map_some,Option.some.injEq] at h1
  rw [e2] at h1
  simpa using h1
 subst hk
 have := World.var?_cell hg0 hv0 i
 rw [this]
 rw [c3,Nat.mul_one] at e1
 have h2 : (List.take 1 (List.drop i cs0.toList))[0]? = some (Value.int IntKind.u32 ((tbl i : Nat) : Int)) := by rw [e1]; rfl
 rw [List.getElem?_take,if_pos (by decide),List.getElem?_drop,Nat.add_zero,Array.getElem?_toList] at h2
 exact h2
end Go.Proofs.YtgifeckbflkkpaaGreatDoor
