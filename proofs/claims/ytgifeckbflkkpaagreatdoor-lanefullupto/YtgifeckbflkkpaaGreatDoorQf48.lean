/- Two lanes, one that is never answered, and one that is each time: Fulls alone, Steps alone behind the first. -/
import Derived.Test.YtgifeckbflkkpaaGreatDoorQf45
import Derived.Test.YtgifeckbflkkpaaGreatDoorQf46
import Derived.Test.YtgifeckbflkkpaaGreatDoorQf47
import Derived.OpenShut
import Derived.SevenTiedAt
import Derived.Deep.DeepHandedRow
namespace Go.Proofs.YtgifeckbflkkpaaGreatDoor
open Go.ChangeShapes Go.WideShapes Go.ChangeAt Go.RowKit Go.Deep
set_option linter.unusedVariables false
set_option maxHeartbeats 32000000
set_option maxRecDepth 100000
theorem cell_in2 {w w' : World} (h : Fr Nobody w w') {p : Addr} {v : Value} (hc : w.cell? p = some v) : w'.cell? p = some v := (h.cell (World.block_lt_of_cell? _ _ hc) (fun h => h)).trans hc
theorem LnI.into {w0 : World} {X Y : List Thing} {k : Nat} {H : List HeE} {ss : Bool} {st : Nat} (h : LnI w0 X k H ss st) (f : ∀ W,Own w0 W Y → Own w0 W X) : LnI w0 Y k H ss st := ⟨fun W hW => h.cs W (f W hW),h.rk,h.ok,h.tk⟩
def StepI (nn : Nat) (as_ : Bool) (at_ : Nat) (H : List HeE) : Prop := (nn = 0 ∧ as_ = false) ∨ (0 < nn ∧ as_ = true ∧ ∃ y,H = [y] ∧ y.t = at_ ∧ fm 0 (evs y.L) = 0 ∧ y.L.length ≤ 100 ∧ EIn y.L)
theorem hget_one (y : HeE) : hget [y] y.t = some y := hget_last (H := []) (fun x hx => by cases hx)
theorem EIn.lt {L : List EnE} (h : EIn L) : ∀ e ∈ evs L,e.1 < 4294967296 := fun e he => by
 obtain ⟨x,hx,rfl⟩ := List.mem_map.1 he
 exact (h x hx).1
theorem step_kind {nn at_ T : Nat} {as_ : Bool} {H : List HeE} {M : List EnE} (h : StepI nn as_ at_ H) (hat : at_ < T) (hT : T < 4294967296) (hM : fm 0 (evs M) = 0) (hI : EIn M) (hz : esz M ≤ 400) (hf : lfit 1 1 4100 T (lbo H as_ at_) (evs M) = true) : ∃ kq s W,(kq = 2 ∨ (kq = 1 ∧ nn = 0)) ∧ (kq = 1 ∨ kq = 2) ∧ Right kq 1 1 T s ∧ lfrm 1 1 4100 T (lbo H as_ at_) (evs M) = sfr kq 1 1 T s W (evs M) ∧ (sfr kq 1 1 T s W (evs M)).length ≤ 4100 := by
 rcases h with ⟨h0,rfl⟩ | ⟨h0,rfl,y,rfl,rfl,hy1,hy2,hy3⟩
 ·have e : lbo H false at_ = none := rfl
  rw [e] at hf ⊢
  have hw : wfit 1 1 1 T 0 [] (evs M) 4100 = true := by unfold lfit at hf; simpa using hf
  have hl : lfrm 1 1 4100 T none (evs M) = sfr 1 1 1 T 0 [] (evs M) := by show wfr 1 1 1 T 0 [] (evs M) 4100 = _; unfold wfr; rw [if_pos hw]
  refine ⟨1,0,[],.inr ⟨rfl,h0⟩,.inl rfl,⟨by decide,by decide,by decide,by decide,by decide,hT,by decide,rfl,rfl⟩,hl,(of_decide_eq_true hw).2⟩
 ·have e : lbo [y] true y.t = some (y.t,evs y.L) := by unfold lbo; rw [if_pos rfl,hget_one]; rfl
  rw [e]
  have hw : wfit 2 1 1 T y.t (evs y.L) (evs M) 4100 = true := step_fits (by decide) (by decide) (by decide) hT hat hy1 hM hy3.lt hI.lt (by rw [evs_len]; exact hy2) (by rw [evs_len,cszV_evs]; exact hz)
  have hl : lfrm 1 1 4100 T (some (y.t,evs y.L)) (evs M) = sfr 2 1 1 T y.t (evs y.L) (evs M) := by
   show (if wfit 2 1 1 T y.t (evs y.L) (evs M) 4100 = true then _ else _) = _
   rw [if_pos hw]
  refine ⟨2,y.t,evs y.L,.inl rfl,.inr rfl,⟨by decide,by decide,by decide,by decide,by decide,hT,by omega,rfl,?_⟩,hl,(of_decide_eq_true hw).2⟩
  unfold bfit
  rw [if_pos rfl]
  exact decide_eq_true hat
theorem laneFull_fr (w : World) (ht : Tab w ∧ Tabf w) (k0 : Nat) (g0 : k0 < 256) (a1 : Option Addr) (len1 cap1 : Nat) (z1 : List LeE) (w1 : IsLents w a1 len1 cap1 z1) (hb1 : (z1.map (fun x => esz x.L)).sum ≤ 1048576) :
  Calls Tryz.prog 8 #[.int .u8 (k0 : Int),.slice a1 len1 cap1] w fun e w' => e = .returned (.bool true) ∧ Fr Nobody w w' := by
 have HT : Hid (Tab w ∧ Tabf w) := ht
 have HAW : Hid (Calls _ _ _ _ _) := awake21 w ht.1 ht.2
 have HL1 : Hid (IsLents w a1 len1 cap1 z1) := w1
 have HB1 : Hid (∀ x ∈ z1,esz x.L ≤ 1048576) := fun x hx => Nat.le_trans (sum_le (fun x => esz x.L) hx) hb1
 have hl1 : len1 ≤ 9223372036854775807 := by have := w1.2.1; have := w1.2.2.1; unfold maxLen at this; omega
 obtain ⟨kk,hkk⟩ : ∃ kk : Nat,kk = 1 + k0 % 8 := ⟨_,rfl⟩
 have hke : (1 : Int) + (k0 : Int) % 8 = (kk : Int) := by rw [hkk]; push_cast; rfl
 have hk_1 : 1 ≤ kk := by omega
 have hk_2 : kk ≤ 8 := by omega
 clear ht w1 hb1 hkk
 go_enter Tryz.func8,Tryz.ntmps8
 go_wp2_with fail
 refine HAW.out.mono ?_
 rintro e wa ⟨rfl,hf⟩
 have HN : Hid (Calls _ _ _ _ _) := lnew w wa [] ((Own.start w).quiet hf) 1 1 (by decide) (by decide) kk 4100 hk_1 (by omega) (by decide) (by decide)
 clear hf HAW
 go_wp2_with fail
 refine HN.out.mono ?_
 rintro e wb ⟨b1,rb1,rfl,h1⟩
 have HN2 : Hid (Calls _ _ _ _ _) := lnew w wb _ h1 1 1 (by decide) (by decide) kk 4100 hk_1 (by omega) (by decide) (by decide)
 clear HN h1
 go_wp2_with fail
 refine HN2.out.mono ?_
 rintro e wc ⟨b2,rb2,rfl,h1⟩
 have H1 : Hid (Own w wc _) := h1
 clear HN2 h1 g0 hke
 go_wp2
 refine wp_loop (fun a' wr => ∃ (s1 s2 as_ : Bool) (t1 t2 at_ : Nat) (H1 H2 : List HeE) (X : List Thing) (nn i : Nat),a' = { tmps := #[gQ a' 0,gQ a' 1,gQ a' 2,gQ a' 3,gQ a' 4,.pointer (some ⟨b1,0,none⟩),gQ a' 6,.pointer (some ⟨b2,0,none⟩),gQ a' 8,.int .i64 (nn : Int),gQ a' 10,gQ a' 11,gQ a' 12,gQ a' 13,gQ a' 14,gQ a' 15,gQ a' 16,gQ a' 17,gQ a' 18,gQ a' 19,gQ a' 20,gQ a' 21,gQ a' 22,gQ a' 23,gQ a' 24,gQ a' 25,gQ a' 26,gQ a' 27,gQ a' 28,gQ a' 29,gQ a' 30,gQ a' 31,gQ a' 32,gQ a' 33,gQ a' 34,gQ a' 35,gQ a' 36,gQ a' 37,gQ a' 38,gQ a' 39,.slice a1 len1 cap1,.int .i64 (len1 : Int),.int .i64 (i : Int),gQ a' 43,gQ a' 44,gQ a' 45,gQ a' 46,gQ a' 47,gQ a' 48,gQ a' 49,gQ a' 50,gQ a' 51,gQ a' 52,gQ a' 53,gQ a' 54,gQ a' 55,gQ a' 56,gQ a' 57,gQ a' 58,gQ a' 59,gQ a' 60,gQ a' 61,gQ a' 62,gQ a' 63,gQ a' 64,gQ a' 65,gQ a' 66,gQ a' 67,gQ a' 68,gQ a' 69,gQ a' 70,gQ a' 71,gQ a' 72,gQ a' 73,gQ a' 74,gQ a' 75,gQ a' 76,gQ a' 77,gQ a' 78,gQ a' 79,gQ a' 80,gQ a' 81,gQ a' 82,gQ a' 83,gQ a' 84,gQ a' 85,gQ a' 86,gQ a' 87,gQ a' 88,gQ a' 89,gQ a' 90,gQ a' 91,gQ a' 92,gQ a' 93,gQ a' 94,gQ a' 95,gQ a' 96,gQ a' 97,gQ a' 98,gQ a' 99,gQ a' 100,gQ a' 101,gQ a' 102,gQ a' 103,gQ a' 104,gQ a' 105,gQ a' 106,gQ a' 107,gQ a' 108,gQ a' 109,gQ a' 110,gQ a' 111,gQ a' 112,gQ a' 113,gQ a' 114,gQ a' 115,gQ a' 116,gQ a' 117,gQ a' 118],defers := [] } ∧ i ≤ len1 ∧ i ≤ 15 ∧ t1 ≤ i ∧ t2 ≤ i ∧ at_ ≤ i ∧ nn ≤ i ∧ LnI w X kk H1 s1 t1 ∧ LnI w X kk H2 s2 t2 ∧ StepI nn as_ at_ H2 ∧ Own w wr (Cells b2 (lc 1 1 4100 rb2 s2 t2 as_ at_) 128 :: Ringe rb2 kk ((H2).map HeE.r) :: Cells b1 (lc 1 1 4100 rb1 s1 t1 false 0) 128 :: Ringe rb1 kk ((H1).map HeE.r) :: X)) (fun a' _ => len1 - (intOf (a'.tmps.getD 42 undef)).toNat) ?_ ?_
 ·exact ⟨false,false,false,0,0,0,[],[],[],0,0,rfl,Nat.zero_le _,Nat.zero_le _,Nat.le_refl _,Nat.le_refl _,Nat.le_refl _,Nat.le_refl _,⟨fun W hW x hx => (by cases hx),ROk.nil hk_1 (by omega),fun x hx => (by cases hx),fun x hx => (by cases hx)⟩,⟨fun W hW x hx => (by cases hx),ROk.nil hk_1 (by omega),fun x hx => (by cases hx),fun x hx => (by cases hx)⟩,.inl ⟨rfl,rfl⟩,H1.out⟩
 ·intro a' wr hI
  obtain ⟨s1,s2,as_,t1,t2,at_,HA,HB,X,nn,i,hact,hi1,hi15,ht1,ht2,hat,hnn,hlA,hlB,hstp,hO⟩ := hI
  obtain ⟨u,hu⟩ : ∃ u : Nat → Value,∀ k,gQ a' k = u k := ⟨_,fun _ => rfl⟩
  simp only [hu] at hact
  clear hu
  subst hact
  have HO : Hid (Own w wr (Cells b2 (lc 1 1 4100 rb2 s2 t2 as_ at_) 128 :: Ringe rb2 kk ((HB).map HeE.r) :: Cells b1 (lc 1 1 4100 rb1 s1 t1 false 0) 128 :: Ringe rb1 kk ((HA).map HeE.r) :: X)) := hO
  have HI : Hid (LnI w X kk HA s1 t1 ∧ LnI w X kk HB s2 t2 ∧ StepI nn as_ at_ HB) := ⟨hlA,hlB,hstp⟩
  clear H1 hlA hlB hstp hO
  by_cases hlt : i < len1
  ·obtain ⟨x,hx⟩ : ∃ x,z1[i]? = some x := ⟨_,List.getElem?_eq_getElem (by rw [HL1.out.1]; exact hlt)⟩
   obtain ⟨g,o,hao,c0,hxe⟩ := HL1.out.at hx
   have hfr := HO.out.fr
   have c1 := cell_in2 hfr c0
   have HX : Hid (x ∈ z1 ∧ IsEnts w x.ao x.L.length x.cap x.L) := ⟨List.mem_of_getElem? hx,hxe⟩
   have hlt' : (i : Int) < (len1 : Int) := by omega
   subst hao
   clear hx c0 hxe
   by_cases h20 : 15 ≤ i
   ·have h20' : (15 : Int) ≤ (i : Int) := by omega
    have HF : Hid (Fr Nobody w wr) := hfr
    clear hfr HO
    go_wp2
    go_ret
    exact ⟨rfl,HF.out⟩
   ·have h20' : ¬ (15 : Int) ≤ (i : Int) := by omega
    obtain ⟨T,hTe⟩ : ∃ T : Nat,T = i + 1 := ⟨_,rfl⟩
    have HTI : Hid ((T : Int) = (i : Int) + 1) := by show _ = _; omega
    obtain ⟨xl,hxl⟩ : ∃ xl,x.L.length = xl := ⟨_,rfl⟩
    have HXL : Hid (x.L.length = xl) := hxl
    have HFW : Hid (Calls _ _ _ _ _) := few_any wr x.ao x.L.length x.cap x.L rfl (HX.out.2.ents.1.quiet hfr) (HB1.out x HX.out.1)
    obtain ⟨xa,xc,L⟩ := x
    simp only at c1 HX hxl HXL HFW
    rw [hxl] at c1 HFW
    clear hfr hxl
    by_cases h4 : esz L ≤ 400
    ·rw [decide_eq_true h4] at HFW
     have HRF : Hid (∀ W,Fr Nobody w W → Calls Tryz.prog 31 #[.slice xa xl xc] W fun e w' => e = .returned (.int .i64 ((fm 0 (evs L) : Nat) : Int)) ∧ Fr Nobody W w') := fun W hf => rform_any W xa xl xc L (HX.out.2.ents.1.quiet hf) HXL.out HX.out.2.ents.2 (by omega)
     have HZ : Hid (esz L ≤ 400) := h4
     clear h4
     go_wp2_with fail
     refine HFW.out.mono ?_
     rintro e w2 ⟨rfl,hf2⟩
     have h2 := HO.out.quiet hf2
     have HFC : Hid (Calls _ _ _ _ _) := HRF.out w2 h2.fr
     have H2 : Hid (Own w w2 _) := h2
     clear hf2 h2 HFW HRF HO
     by_cases h100 : 100 < xl
     ·have h100' : (100 : Int) < (xl : Int) := by omega
      clear HFC
      go_wp2
      exact ⟨⟨s1,s2,as_,t1,t2,at_,HA,HB,X,nn,i + 1,(by first | exact ⟨rfl,rfl⟩ | exact ⟨⟨rfl,rfl⟩,rfl⟩ | rfl),by omega,by omega,by omega,by omega,by omega,by omega,HI.out.1,HI.out.2.1,HI.out.2.2,H2.out⟩,by simp [intOf]; omega⟩
     ·have h100' : ¬ (100 : Int) < (xl : Int) := by omega
      obtain ⟨fx,hfx⟩ : ∃ fx,fx = fm 0 (evs L) := ⟨_,rfl⟩
      rw [← hfx] at HFC
      have HFX : Hid (fx = fm 0 (evs L)) := hfx
      clear hfx
      go_wp2_with fail
      refine HFC.out.mono ?_
      rintro e w3 ⟨rfl,hf3⟩
      have h3 := H2.out.quiet hf3
      clear hf3 HFC H2
      by_cases hx0 : fx = 0
      ·subst hx0
       have HTW : Hid (Calls _ _ _ _ _) := rtwins_any w w3 _ h3 xa xl xc L (fun w' hw => HX.out.2.ents.1.quiet hw.fr) HXL.out (by have := HZ.out; omega)
       have hT0 : T < 4294967296 := by omega
       clear h3
       go_wp2_with fail
       refine HTW.out.mono ?_
       rintro e w4 ⟨am,cm,rfl,M,hM1,hM2,h4⟩
       have hec := h4.entsCap
       have h4 : Own w w4 (Cells b1 (lc 1 1 4100 rb1 s1 t1 false 0) 128 :: Ringe rb1 kk (HA.map HeE.r) :: Cells b2 (lc 1 1 4100 rb2 s2 t2 as_ at_) 128 :: Ringe rb2 kk (HB.map HeE.r) :: EntsT am cm M :: X) := h4.sel 5 [3,4,1,2,0] (by decide)
       have hs1 : (s1 && decide (T ≤ t1)) = false := by
        rw [Bool.and_eq_false_iff]
        exact .inr (decide_eq_false (by omega))
       have hs2 : (s2 && decide (T ≤ t2)) = false := by
        rw [Bool.and_eq_false_iff]
        exact .inr (decide_eq_false (by omega))
       have hsa : (as_ && decide (T ≤ at_)) = false := by
        rw [Bool.and_eq_false_iff]
        exact .inr (decide_eq_false (by omega))
       have HS : Hid (Calls _ _ _ _ _) := lsend w w4 HT.out.1 HT.out.2 _ b1 1 1 4100 rb1 kk t1 0 s1 false HA HI.out.1.rk HI.out.1.ok HI.out.1.tk (by decide) (by decide) (by decide) (by decide) h4 T hT0 am xl cm M (fun w' hw => ⟨Own.entsAt (l := X) (hw.sel 3 [2] (by decide)),fun x hx => HI.out.1.cs w' (hw.sel 3 [] (by decide)) x hx⟩) hM1 (by omega) hec.2 (EIn.of_evs hM2 HX.out.2.ents.2) (by rw [esz_evs hM2]; exact HZ.out)
       rw [HTI.out] at HS
       have HM : Hid (fm 0 (evs M) = 0 ∧ evs M = evs L ∧ (s1 && decide (T ≤ t1)) = false ∧ (s2 && decide (T ≤ t2)) = false ∧ (as_ && decide (T ≤ at_)) = false) := ⟨by rw [hM2]; exact HFX.out.symm,hM2,hs1,hs2,hsa⟩
       clear HTW h4 hec hM1 hM2 hs1 hs2 hsa
       go_wp2_with fail
       refine HS.out.mono ?_
       rintro e w5 ⟨v,code,P,ss',st',put,y1,rfl,hS,hyt,hyL,hyo,h5⟩
       clear HS
       rcases hS.two HM.out.2.2.1 HM.out.1 with ⟨hlf,rfl,rfl,rfl,htt,rfl⟩ | ⟨hlf,rfl,hP,rfl,htt,rfl⟩
       ·have htt := htt.symm
        subst htt
        obtain ⟨av,cv,rfl⟩ := row_any h5.row
        have h5 : Own w w5 (Cells b1 (lc 1 1 4100 rb1 true T false 0) 128 :: Ringe rb1 kk (HA.map HeE.r) :: Cells b2 (lc 1 1 4100 rb2 s2 t2 as_ at_) 128 :: Ringe rb2 kk (HB.map HeE.r) :: EntsT am cm M :: X) := h5.tail
        have HTW2 : Hid (Calls _ _ _ _ _) := rtwins_any w w5 _ h5 xa xl xc L (fun w' hw => HX.out.2.ents.1.quiet hw.fr) HXL.out (by have := HZ.out; omega)
        clear h5 hS hyt hyL hyo hlf
        go_wp2_with fail
        refine HTW2.out.mono ?_
        rintro e w6 ⟨am2,cm2,rfl,M2,hN1,hN2,h6⟩
        have hec := h6.entsCap
        have h6 : Own w w6 (Cells b2 (lc 1 1 4100 rb2 s2 t2 as_ at_) 128 :: Ringe rb2 kk (HB.map HeE.r) :: EntsT am2 cm2 M2 :: Cells b1 (lc 1 1 4100 rb1 true T false 0) 128 :: Ringe rb1 kk (HA.map HeE.r) :: EntsT am cm M :: X) := h6.sel 6 [3,4,0,1,2,5] (by decide)
        have HS2 : Hid (Calls _ _ _ _ _) := lsend w w6 HT.out.1 HT.out.2 _ b2 1 1 4100 rb2 kk t2 at_ s2 as_ HB HI.out.2.1.rk HI.out.2.1.ok HI.out.2.1.tk (by decide) (by decide) (by decide) (by omega) h6 T hT0 am2 xl cm2 M2 (fun w' hw => ⟨hw.entsAt,fun x hx => HI.out.2.1.cs w' (hw.sel 4 [] (by decide)) x hx⟩) hN1 (by omega) hec.2 (EIn.of_evs hN2 HX.out.2.ents.2) (by rw [esz_evs hN2]; exact HZ.out)
        rw [HTI.out] at HS2
        clear HTW2 h6 hec hN1 hN2
        go_wp2_with fail
        refine HS2.out.mono ?_
        rintro e w7 ⟨v2,code2,P2,ss2,st2,put2,y2,rfl,hS2,-,-,-,h7⟩
        obtain ⟨av2,cv2,rfl⟩ := row_any h7.row
        have HF : Hid (Fr Nobody w w7) := h7.fr
        clear HS2 hS2 h7
        go_wp2
        go_ret
        exact ⟨rfl,HF.out⟩
       ·have htt := htt.symm
        subst htt
        have hw1 : wfit 1 1 1 T 0 [] (evs M) 4100 = true := by
         have e0 : lbo HA false 0 = none := rfl
         rw [e0] at hlf
         unfold lfit at hlf
         simpa using hlf
        have hP1 : P = sfr 1 1 1 T 0 [] (evs M) := by
         rw [hP]
         show wfr 1 1 1 T 0 [] (evs M) 4100 = _
         unfold wfr
         rw [if_pos hw1]
        have h0 : 0 < P.length := by rw [hP1]; exact sfr_pos _ _ _ _ _ _ _
        obtain ⟨g1,cv1,rfl,_⟩ := row_shape h5.row h0
        obtain ⟨hl2,hlt2⟩ := (HI.out.1.more (EntsT am cm M)).put (y := y1) hyo (by rw [hyt]; exact HM.out.2.2.1) (by rw [hyt]; exact hT0)
        rw [hyt] at hl2
        have HP1 : Hid (P = sfr 1 1 1 T 0 [] (evs M) ∧ (sfr 1 1 1 T 0 [] (evs M)).length ≤ 4100 ∧ (∀ x ∈ P,x < 256) ∧ LnI w (EntsT y1.ao y1.cap y1.L :: EntsT am cm M :: X) kk (putH kk HA y1) true T) := ⟨hP1,(of_decide_eq_true hw1).2,by rw [hP1]; exact sfr_byte _ _ _ _ _ _ _,hl2⟩
        have h5 : Own w w5 (Row 5 1 (.slice (some ⟨g1,0,none⟩) P.length cv1) P.length (vrow P) :: Cells b1 (lc 1 1 4100 rb1 true T false 0) 128 :: Ringe rb1 kk ((putH kk HA y1).map HeE.r) :: EntsT y1.ao y1.cap y1.L :: Cells b2 (lc 1 1 4100 rb2 s2 t2 as_ at_) 128 :: Ringe rb2 kk (HB.map HeE.r) :: EntsT am cm M :: X) := h5
        have HTW2 : Hid (Calls _ _ _ _ _) := rtwins_any w w5 _ h5 xa xl xc L (fun w' hw => HX.out.2.ents.1.quiet hw.fr) HXL.out (by have := HZ.out; omega)
        clear h5 hS hyt hyL hyo hlf hw1 hP1 h0 hl2 hlt2 hP
        obtain ⟨pl,hpl⟩ : ∃ pl,pl = P.length := ⟨_,rfl⟩
        rw [← hpl] at HTW2 ⊢
        have HPL : Hid (pl = P.length) := hpl
        clear hpl
        go_wp2_with fail
        refine HTW2.out.mono ?_
        rintro e w6 ⟨am2,cm2,rfl,M2,hN1,hN2,h6⟩
        have hec := h6.entsCap
        have h6 : Own w w6 (Cells b2 (lc 1 1 4100 rb2 s2 t2 as_ at_) 128 :: Ringe rb2 kk (HB.map HeE.r) :: EntsT am2 cm2 M2 :: Row 5 1 (.slice (some ⟨g1,0,none⟩) pl cv1) pl (vrow P) :: Cells b1 (lc 1 1 4100 rb1 true T false 0) 128 :: Ringe rb1 kk ((putH kk HA y1).map HeE.r) :: EntsT y1.ao y1.cap y1.L :: EntsT am cm M :: X) := h6.sel 8 [5,6,0,1,2,3,4,7] (by decide)
        have HS2 : Hid (Calls _ _ _ _ _) := lsend w w6 HT.out.1 HT.out.2 _ b2 1 1 4100 rb2 kk t2 at_ s2 as_ HB HI.out.2.1.rk HI.out.2.1.ok HI.out.2.1.tk (by decide) (by decide) (by decide) (by omega) h6 T hT0 am2 xl cm2 M2 (fun w' hw => ⟨hw.entsAt,fun x hx => HI.out.2.1.cs w' (hw.sel 6 [] (by decide)) x hx⟩) hN1 (by omega) hec.2 (EIn.of_evs hN2 HX.out.2.ents.2) (by rw [esz_evs hN2]; exact HZ.out)
        rw [HTI.out] at HS2
        have hf2 : fm 0 (evs M2) = 0 := by rw [hN2]; exact HFX.out.symm
        have HM2 : Hid (fm 0 (evs M2) = 0 ∧ EIn M2 ∧ esz M2 ≤ 400 ∧ M2.length = xl) := ⟨hf2,EIn.of_evs hN2 HX.out.2.ents.2,by rw [esz_evs hN2]; exact HZ.out,hN1⟩
        clear HTW2 h6 hec hN1 hN2 hf2
        go_wp2_with fail
        refine HS2.out.mono ?_
        rintro e w7 ⟨v2,code2,P2,ss2,st2,put2,y2,rfl,hS2,hyt2,hyL2,hyo2,h7⟩
        clear HS2
        rcases hS2.two HM.out.2.2.2.1 HM2.out.1 with ⟨hlf,rfl,rfl,rfl,htt,rfl⟩ | ⟨hlf,rfl,hP2,rfl,htt,rfl⟩
        ·obtain ⟨av2,cv2,rfl⟩ := row_any h7.row
         have HF : Hid (Fr Nobody w w7) := h7.fr
         clear hS2 h7 hlf htt hyt2 hyL2 hyo2
         go_wp2
         go_ret
         exact ⟨rfl,HF.out⟩
        ·have htt := htt.symm
         subst htt
         obtain ⟨kq,sq,Wq,hq1,hq2,hq3,hq4,hq5⟩ := step_kind HI.out.2.2 (show at_ < T by omega) hT0 HM2.out.1 HM2.out.2.1 HM2.out.2.2.1 hlf
         rw [hq4] at hP2
         have h0 : 0 < P2.length := by rw [hP2]; exact sfr_pos _ _ _ _ _ _ _
         obtain ⟨g2,cv2,rfl,_⟩ := row_shape h7.row h0
         obtain ⟨hl3,hlt3⟩ := (HI.out.2.1.more (EntsT am2 cm2 M2)).put (y := y2) hyo2 (by rw [hyt2]; exact HM.out.2.2.2.1) (by rw [hyt2]; exact hT0)
         have hdp := drop_put hk_1 hlt3
         have hgt := hget_put hk_1 hlt3
         rw [hyt2] at hl3 hdp hgt
         have hyl : y2.L.length = xl := by
          have := congrArg List.length hyL2
          rw [evs_len,evs_len] at this
          rw [this]; exact HM2.out.2.2.2
         have HL3 : Hid (LnI w (EntsT y2.ao y2.cap y2.L :: EntsT am2 cm2 M2 :: X) kk (putH kk HB y2) true T ∧ hget (putH kk HB y2) T = some y2 ∧ (putH kk HB y2).drop (below T ((putH kk HB y2).map HeE.r)) = [y2] ∧ y2.t = T ∧ fm 0 (evs y2.L) = 0 ∧ y2.L.length ≤ 100 ∧ EIn y2.L) := ⟨hl3,hgt,hdp,hyt2,by rw [hyL2]; exact HM2.out.1,by omega,EIn.of_evs hyL2 HM2.out.2.1⟩
         have h7 : Own w w7 (Row 5 1 (.slice (some ⟨g2,0,none⟩) P2.length cv2) P2.length (vrow P2) :: Cells b2 (lc 1 1 4100 rb2 true T as_ at_) 128 :: Ringe rb2 kk ((putH kk HB y2).map HeE.r) :: EntsT y2.ao y2.cap y2.L :: EntsT am2 cm2 M2 :: Row 5 1 (.slice (some ⟨g1,0,none⟩) pl cv1) pl (vrow P) :: Cells b1 (lc 1 1 4100 rb1 true T false 0) 128 :: Ringe rb1 kk ((putH kk HA y1).map HeE.r) :: EntsT y1.ao y1.cap y1.L :: EntsT am cm M :: X) := h7
         have hinP : In w7 (some ⟨g1,0,none⟩) P.length cv1 P := by
          have := h7.sel 10 [5] (by decide)
          rw [HPL.out] at this
          exact frame_in this HP1.out.2.2.1
         rw [← HPL.out] at hinP
         have HKP : Hid (Calls _ _ _ _ _) := kind_ok w w7 _ h7 (some ⟨g1,0,none⟩) pl cv1 P 1 1 1 T 0 (.inl rfl) ⟨by decide,by decide,by decide,by decide,by decide,hT0,by decide,rfl,rfl⟩ _ _ rfl HP1.out.1 (pk_len HP1.out.2.1) hinP
         have HQ : Hid (P2 = sfr kq 1 1 T sq Wq (evs M2) ∧ (∀ x ∈ P2,x < 256) ∧ (sfr kq 1 1 T sq Wq (evs M2)).length ≤ 4100 ∧ Right kq 1 1 T sq ∧ (kq = 1 ∨ kq = 2)) := ⟨hP2,by rw [hP2]; exact sfr_byte _ _ _ _ _ _ _,hq5,hq3,hq2⟩
         clear hS2 h7 hlf hyt2 hyL2 hyo2 hP2 h0 hl3 hlt3 hdp hgt hyl hinP hq2 hq3 hq4 hq5
         obtain ⟨ql,hql⟩ : ∃ ql,ql = P2.length := ⟨_,rfl⟩
         rw [← hql] at HKP ⊢
         have HQL : Hid (ql = P2.length) := hql
         clear hql
         go_wp2_with fail
         refine HKP.out.mono ?_
         rintro e w8 ⟨rfl,h8⟩
         have hinQ : In w8 (some ⟨g2,0,none⟩) P2.length cv2 P2 := by
          have := h8
          rw [HQL.out] at this
          exact frame_in this HQ.out.2.1
         rw [← HQL.out] at hinQ
         have HKQ : Hid (Calls _ _ _ _ _) := kind_ok w w8 _ h8 (some ⟨g2,0,none⟩) ql cv2 P2 kq 1 1 T sq HQ.out.2.2.2.2 HQ.out.2.2.2.1 _ _ rfl HQ.out.1 (pk_len HQ.out.2.2.1) hinQ
         clear HKP h8 hinQ
         go_wp2_with fail
         refine HKQ.out.mono ?_
         rintro e w9 ⟨rfl,h9⟩
         have h9 : Own w w9 (Cells b2 (lc 1 1 4100 rb2 true T as_ at_) 128 :: Ringe rb2 kk ((putH kk HB y2).map HeE.r) :: Row 5 1 (.slice (some ⟨g2,0,none⟩) ql cv2) ql (vrow P2) :: EntsT y2.ao y2.cap y2.L :: EntsT am2 cm2 M2 :: Row 5 1 (.slice (some ⟨g1,0,none⟩) pl cv1) pl (vrow P) :: Cells b1 (lc 1 1 4100 rb1 true T false 0) 128 :: Ringe rb1 kk ((putH kk HA y1).map HeE.r) :: EntsT y1.ao y1.cap y1.L :: EntsT am cm M :: X) := h9.sel 10 [1,2,0,3,4,5,6,7,8,9] (by decide)
         have HAC : Hid (Calls _ _ _ _ _) := lack w w9 _ b2 1 1 4100 rb2 kk T at_ true as_ (putH kk HB y2) HL3.out.1.rk h9 T hT0
         rw [HTI.out] at HAC
         clear HKQ h9
         rcases hq1 with rfl | ⟨rfl,rfl⟩
         all_goals
          go_wp2_with fail
          refine HAC.out.mono ?_
          rintro e w10 ⟨code3,as',at',n,rfl,hA,h10⟩
          obtain ⟨rfl,rfl,htt,rfl⟩ := hA.yes HM.out.2.2.2.2 HL3.out.2.1
          have htt := htt.symm
          subst htt
          have H10 : Hid (Own w w10 (Cells b2 (lc 1 1 4100 rb2 true T true T) 128 :: Ringe rb2 kk (((putH kk HB y2).drop (below T ((putH kk HB y2).map HeE.r))).map HeE.r) :: Cells b1 (lc 1 1 4100 rb1 true T false 0) 128 :: Ringe rb1 kk ((putH kk HA y1).map HeE.r) :: Row 5 1 (.slice (some ⟨g2,0,none⟩) ql cv2) ql (vrow P2) :: EntsT y2.ao y2.cap y2.L :: EntsT am2 cm2 M2 :: Row 5 1 (.slice (some ⟨g1,0,none⟩) pl cv1) pl (vrow P) :: EntsT y1.ao y1.cap y1.L :: EntsT am cm M :: X)) := h10.sel 10 [0,1,6,7,2,3,4,5,8,9] (by decide)
          have HLA : Hid (LnI w (Row 5 1 (.slice (some ⟨g2,0,none⟩) ql cv2) ql (vrow P2) :: EntsT y2.ao y2.cap y2.L :: EntsT am2 cm2 M2 :: Row 5 1 (.slice (some ⟨g1,0,none⟩) pl cv1) pl (vrow P) :: EntsT y1.ao y1.cap y1.L :: EntsT am cm M :: X) kk (putH kk HA y1) true T) := HP1.out.2.2.2.into (fun W hW => hW.sel 6 [4,5] (by decide))
          have HLB : Hid (LnI w (Row 5 1 (.slice (some ⟨g2,0,none⟩) ql cv2) ql (vrow P2) :: EntsT y2.ao y2.cap y2.L :: EntsT am2 cm2 M2 :: Row 5 1 (.slice (some ⟨g1,0,none⟩) pl cv1) pl (vrow P) :: EntsT y1.ao y1.cap y1.L :: EntsT am cm M :: X) kk ((putH kk HB y2).drop (below T ((putH kk HB y2).map HeE.r))) true T) := by
           have h := HL3.out.1.into (Y := Row 5 1 (.slice (some ⟨g2,0,none⟩) ql cv2) ql (vrow P2) :: EntsT y2.ao y2.cap y2.L :: EntsT am2 cm2 M2 :: Row 5 1 (.slice (some ⟨g1,0,none⟩) pl cv1) pl (vrow P) :: EntsT y1.ao y1.cap y1.L :: EntsT am cm M :: X) (fun W hW => hW.sel 6 [1,2] (by decide))
           exact h.drop _
          clear hA h10 HAC
          go_wp2
          first
           | exact ⟨⟨true,true,true,T,T,T,putH kk HA y1,_,_,nn + 1,i + 1,(by first | exact ⟨rfl,rfl⟩ | exact ⟨⟨rfl,rfl⟩,rfl⟩ | rfl),by omega,by omega,by omega,by omega,by omega,by omega,HLA.out,HLB.out,.inr ⟨by omega,rfl,y2,HL3.out.2.2.1,HL3.out.2.2.2⟩,H10.out⟩,by simp [intOf]; omega⟩
           | exact ⟨⟨true,true,true,T,T,T,putH kk HA y1,_,_,0 + 1,i + 1,(by first | exact ⟨rfl,rfl⟩ | exact ⟨⟨rfl,rfl⟩,rfl⟩ | rfl),by omega,by omega,by omega,by omega,by omega,by omega,HLA.out,HLB.out,.inr ⟨by omega,rfl,y2,HL3.out.2.2.1,HL3.out.2.2.2⟩,H10.out⟩,by simp [intOf]; omega⟩
      ·have hx1 : ((fx : Int) != 0) = true := by simpa using hx0
       have H3 : Hid (Own w w3 _) := h3
       clear h3 hx0
       go_wp2
       exact ⟨⟨s1,s2,as_,t1,t2,at_,HA,HB,X,nn,i + 1,(by first | exact ⟨rfl,rfl⟩ | exact ⟨⟨rfl,rfl⟩,rfl⟩ | rfl),by omega,by omega,by omega,by omega,by omega,by omega,HI.out.1,HI.out.2.1,HI.out.2.2,H3.out⟩,by simp [intOf]; omega⟩
    ·rw [decide_eq_false h4] at HFW
     clear h4
     go_wp2_with fail
     refine HFW.out.mono ?_
     rintro e w2 ⟨rfl,hf2⟩
     have H2 : Hid (Own w w2 _) := HO.out.quiet hf2
     clear hf2 HFW HO
     go_wp2
     exact ⟨⟨s1,s2,as_,t1,t2,at_,HA,HB,X,nn,i + 1,(by first | exact ⟨rfl,rfl⟩ | exact ⟨⟨rfl,rfl⟩,rfl⟩ | rfl),by omega,by omega,by omega,by omega,by omega,by omega,HI.out.1,HI.out.2.1,HI.out.2.2,H2.out⟩,by simp [intOf]; omega⟩
  ·have hlt' : ¬ (i : Int) < (len1 : Int) := by omega
   have HF : Hid (Fr Nobody w wr) := HO.out.fr
   clear HO
   go_wp2
   go_ret
   exact ⟨rfl,HF.out⟩
end Go.Proofs.YtgifeckbflkkpaaGreatDoor
