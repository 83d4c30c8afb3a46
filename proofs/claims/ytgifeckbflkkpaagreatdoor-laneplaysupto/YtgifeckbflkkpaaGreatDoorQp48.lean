/- LanePlays: the walk. -/
import Derived.Test.YtgifeckbflkkpaaGreatDoorQp38
import Derived.Test.YtgifeckbflkkpaaGreatDoorQp47
import Derived.Test.YtgifeckbflkkpaaGreatDoorQp22
import Derived.OpenShut
import Derived.SevenTiedAt
import Derived.Deep.DeepHandedRow
namespace Go.Proofs.YtgifeckbflkkpaaGreatDoor
open Go.ChangeShapes Go.WideShapes Go.ChangeAt Go.RowKit Go.Deep
set_option linter.unusedVariables false
set_option maxHeartbeats 32000000
set_option maxRecDepth 100000
theorem cell_in3 {w w' : World} (h : Fr Nobody w w') {p : Addr} {v : Value} (hc : w.cell? p = some v) : w'.cell? p = some v := (h.cell (World.block_lt_of_cell? _ _ hc) (fun h => h)).trans hc
theorem tv_if {H G : List HeE} (h : tv H = tv G) {y1 y2 : HeE} (ht : y1.t = y2.t) (hL : evs y1.L = evs y2.L) (k : Nat) (put : Bool) : tv (if put = true then putH k H y1 else H) = tv (if put = true then putH k G y2 else G) := by
 cases put
 ·exact h
 ·exact tv_put k h ht hL
theorem SendO.no {z : Bool} {c e bud st t : Nat} {ss : Bool} {bo : Option (Nat × List En)} {N : List En} {code st' : Nat} {P : List Nat} {ss' put : Bool} (h : SendO z c e bud ss st bo t N code P ss' st' put) (hz : z = true) : put = false := by
 rcases h with ⟨_,_,_,_,_,h⟩ | ⟨h0,_⟩
 ·exact h
 ·rw [h0] at hz; cases hz
def E5 (w : World) (p : Option (Nat × Nat)) (q : Option Nat) (c e k bud : Nat) (v v74 : Value) (wc : World) : Prop := v = .pointer (pv p) ∧ v74 = .bool false ∧ Own w wc [LnO p c e k bud false 0 false 0 [],RLO q c e k bud (mrk false 0) (mrk false 0) []]
def RBi (w : World) (p : Option (Nat × Nat)) (q : Option Nat) (c e k bud i : Nat) (v : Value) (wc : World) : Prop := v = .int .i64 (i : Int) ∧ RB w p q c e k bud wc
theorem lanePlays_fr (w : World) (ht : Tab w ∧ Tabf w) (c0 : Nat) (gc : c0 < 256) (e0 : Nat) (ge : e0 < 4294967296) (k0 b0 : Int) (a1 : Option Addr) (len1 cap1 : Nat) (z1 : List OpL) (w1 : IsOpLs w a1 len1 cap1 z1) (hb1 : (z1.map (fun x => esz x.L)).sum ≤ 1048576) :
  Calls Tryz.prog 5 #[.int .u8 (c0 : Int),.int .u32 (e0 : Int),.int .i64 k0,.int .i64 b0,.slice a1 len1 cap1] w fun e w' => e = .returned (.bool true) ∧ Fr Nobody w w' := by
 have HT : Hid (Tab w ∧ Tabf w) := ht
 have HAW : Hid (Calls _ _ _ _ _) := awake21 w ht.1 ht.2
 have HL1 : Hid (IsOpLs w a1 len1 cap1 z1) := w1
 have HB1 : Hid (∀ x ∈ z1,esz x.L ≤ 1048576) := fun x hx => Nat.le_trans (sum_le (fun x => esz x.L) hx) hb1
 have hl1 : len1 ≤ 9223372036854775807 := by have := w1.2.1; have := w1.2.2.1; unfold maxLen at this; omega
 obtain ⟨z,c,e,k,bud,hk1,hk2,hbu,hcc,hee,hcase⟩ := args21 c0 e0 gc ge k0 b0
 have HK : Hid (1 ≤ k ∧ k ≤ 64 ∧ bud ≤ 4100 ∧ c < 256 ∧ e < 4294967296) := ⟨hk1,hk2,hbu,hcc,hee⟩
 obtain ⟨ez,hez⟩ : ∃ ez : Int,ez = (if z = true then 1 else 0) := ⟨_,rfl⟩
 have HN : Hid (∀ W,Fr Nobody w W → Calls Tryz.prog 20 #[.int .u8 (c0 : Int),.int .u32 (e0 : Int),.int .i64 k0,.int .i64 b0] W fun x w' => ∃ p,x = .returned (.tuple #[.pointer (pv p),.int .i64 ez]) ∧ p.isNone = z ∧ Own w w' [LnO p c e k bud false 0 false 0 []]) := fun W hf => by
  rw [hez]
  rcases hcase with ⟨rfl,rfl,rfl,rfl,rfl,h1,h2,h3⟩ | ⟨rfl,hbad⟩
  ·refine (lnew w W [] ((Own.start w).quiet hf) c0 e0 h1 h2 k bud hk1 hk2 h3 hbu).mono ?_
   rintro x w' ⟨b,rb,rfl,hO⟩
   exact ⟨some (b,rb),rfl,rfl,Own.toLn hO⟩
  ·refine (lnew_bad W c0 e0 k0 b0 hbad).mono ?_
   rintro x w' ⟨rfl,hf2⟩
   exact ⟨none,rfl,rfl,Own.nilLn ((Own.start w).quiet (hf.trans hf2))⟩
 have HM : Hid (∀ W l,Own w W l → Calls Tryz.prog 21 #[.int .u8 (c0 : Int),.int .u32 (e0 : Int),.int .i64 k0,.int .i64 b0] W fun x w' => ∃ q,x = .returned (.tuple #[.pointer (qv q),.int .i64 ez]) ∧ q.isNone = z ∧ Own w w' (RLO q c e k bud (mrk false 0) (mrk false 0) [] :: l)) := fun W l hW => by
  rw [hez]
  rcases hcase with ⟨rfl,rfl,rfl,rfl,rfl,h1,h2,h3⟩ | ⟨rfl,hbad⟩
  ·refine (rlnew w W l hW c0 e0 h1 h2 k bud hk1 hk2 h3 hbu).mono ?_
   rintro x w' ⟨b,rfl,hO⟩
   exact ⟨some b,rfl,rfl,hO⟩
  ·refine (rnew_bad W c0 e0 k0 b0 hbad).mono ?_
   rintro x w' ⟨rfl,hf2⟩
   exact ⟨none,rfl,rfl,Own.nilRL (hW.quiet hf2)⟩
 have HE : Hid (z = false → e0 = e) := fun h => by
  rcases hcase with ⟨_,_,h1,_⟩ | ⟨h1,_⟩
  ·exact h1
  ·rw [h] at h1; cases h1
 have hzz : (ez != ez) = false := by simp
 clear ht w1 hb1 hk1 hk2 hbu hcc hee hcase hez gc ge
 go_enter Tryz.func5,Tryz.ntmps5
 go_wp2_with fail
 refine HAW.out.mono ?_
 rintro x wa ⟨rfl,hf⟩
 have HN1 : Hid (Calls _ _ _ _ _) := HN.out wa hf
 clear hf HAW HN
 go_wp2_with fail
 refine HN1.out.mono ?_
 rintro x wb ⟨p,rfl,hp,h1⟩
 have HM1 : Hid (Calls _ _ _ _ _) := HM.out wb _ h1
 clear HN1 h1 HM
 go_wp2_with fail
 refine HM1.out.mono ?_
 rintro x wd ⟨q,rfl,hq,h2⟩
 have H2 : Hid (Own w wd [LnO p c e k bud false 0 false 0 [],RLO q c e k bud (mrk false 0) (mrk false 0) []]) := h2.two
 clear HM1 h2
 go_upto_region 5 with (fail)
 go_cut [11,74] from 28 (E5 w p q c e k bud)
 case first =>
  cases z with
  | true =>
   cases p with
   | some x => cases hp
   | none =>
    cases q with
    | some x => cases hq
    | none =>
     have HP : Hid (Calls _ _ _ _ _) := lepoch_nil wd
     simp only [pv,qv,Option.map_none]
     go_wp2_with fail
     refine HP.out.mono ?_
     rintro x w2 ⟨rfl,hf2⟩
     have H3 : Hid (Own w w2 _) := H2.out.quiet hf2
     clear hf2 HP
     go_wp2
     go_meet
     case rel => exact ⟨rfl,rfl,H3.out⟩
  | false =>
   cases p with
   | none => cases hp
   | some x =>
    obtain ⟨b,rb⟩ := x
    cases q with
    | none => cases hq
    | some b2 =>
     have he0 := HE.out rfl
     subst he0
     have HP : Hid (Calls _ _ _ _ _) := lepoch w wd _ b c e0 bud rb 0 0 false false (Own.ofLn H2.out)
     have hee : ((e0 : Int) != (e0 : Int)) = false := by simp
     simp only [pv,qv,Option.map_some]
     go_wp2_with fail
     refine HP.out.mono ?_
     rintro x w2 ⟨rfl,hf2⟩
     have H3 : Hid (Own w w2 _) := H2.out.quiet hf2
     clear hf2 HP
     go_wp2
     go_meet
     case rel => exact ⟨rfl,rfl,H3.out⟩
 case rest =>
  obtain ⟨rfl,rfl,h3⟩ := hcut
  have HPQ : Hid (p.isNone = z ∧ q.isNone = z) := ⟨hp,hq⟩
  have H3 : Hid (RB w p q c e k bud wc) := ⟨false,0,false,0,[],[],[],by decide,⟨fun W hW x hx => (by cases hx),ROk.nil HK.out.1 HK.out.2.1,fun x hx => (by cases hx),fun x hx => (by cases hx)⟩,⟨fun W hW x hx => (by cases hx),ROk.nil HK.out.1 HK.out.2.1,fun x hx => (by cases hx),fun x hx => (by cases hx)⟩,rfl,fun _ => rfl,h3⟩
  clear H2 h3 hp hq HE hzz
  go_wp2
  refine wp_loop (fun a' wr => ∃ i : Nat,a' = { tmps := #[gQ a' 0,gQ a' 1,gQ a' 2,gQ a' 3,gQ a' 4,gQ a' 5,gQ a' 6,gQ a' 7,gQ a' 8,gQ a' 9,gQ a' 10,.pointer (pv p),gQ a' 12,.pointer (qv q),gQ a' 14,gQ a' 15,gQ a' 16,gQ a' 17,gQ a' 18,gQ a' 19,gQ a' 20,gQ a' 21,gQ a' 22,gQ a' 23,gQ a' 24,gQ a' 25,gQ a' 26,gQ a' 27,gQ a' 28,gQ a' 29,gQ a' 30,gQ a' 31,gQ a' 32,gQ a' 33,gQ a' 34,gQ a' 35,gQ a' 36,gQ a' 37,gQ a' 38,gQ a' 39,gQ a' 40,gQ a' 41,gQ a' 42,gQ a' 43,gQ a' 44,gQ a' 45,gQ a' 46,gQ a' 47,gQ a' 48,gQ a' 49,gQ a' 50,gQ a' 51,gQ a' 52,gQ a' 53,gQ a' 54,gQ a' 55,gQ a' 56,gQ a' 57,gQ a' 58,gQ a' 59,gQ a' 60,gQ a' 61,gQ a' 62,gQ a' 63,gQ a' 64,gQ a' 65,gQ a' 66,gQ a' 67,gQ a' 68,gQ a' 69,gQ a' 70,gQ a' 71,gQ a' 72,gQ a' 73,gQ a' 74,.slice a1 len1 cap1,.int .i64 (len1 : Int),.int .i64 (i : Int),gQ a' 78,gQ a' 79,gQ a' 80,gQ a' 81,gQ a' 82,gQ a' 83,gQ a' 84,gQ a' 85,gQ a' 86,gQ a' 87,gQ a' 88,gQ a' 89,gQ a' 90,gQ a' 91,gQ a' 92,gQ a' 93,gQ a' 94,gQ a' 95,gQ a' 96,gQ a' 97,gQ a' 98,gQ a' 99,gQ a' 100,gQ a' 101,gQ a' 102,gQ a' 103,gQ a' 104,gQ a' 105,gQ a' 106,gQ a' 107,gQ a' 108,gQ a' 109,gQ a' 110,gQ a' 111,gQ a' 112,gQ a' 113,gQ a' 114,gQ a' 115,gQ a' 116,gQ a' 117,gQ a' 118,gQ a' 119,gQ a' 120,gQ a' 121,gQ a' 122,gQ a' 123,gQ a' 124,gQ a' 125,gQ a' 126,gQ a' 127,gQ a' 128,gQ a' 129,gQ a' 130,gQ a' 131,gQ a' 132,gQ a' 133,gQ a' 134,gQ a' 135,gQ a' 136,gQ a' 137,gQ a' 138,gQ a' 139,gQ a' 140,gQ a' 141,gQ a' 142,gQ a' 143,gQ a' 144,gQ a' 145,gQ a' 146,gQ a' 147,gQ a' 148,gQ a' 149,gQ a' 150,gQ a' 151,gQ a' 152,gQ a' 153,gQ a' 154,gQ a' 155,gQ a' 156,gQ a' 157,gQ a' 158,gQ a' 159,gQ a' 160,gQ a' 161,gQ a' 162,gQ a' 163,gQ a' 164,gQ a' 165,gQ a' 166,gQ a' 167,gQ a' 168,gQ a' 169,gQ a' 170,gQ a' 171,gQ a' 172,gQ a' 173,gQ a' 174,gQ a' 175,gQ a' 176,gQ a' 177,gQ a' 178,gQ a' 179,gQ a' 180,gQ a' 181,gQ a' 182,gQ a' 183,gQ a' 184,gQ a' 185,gQ a' 186,gQ a' 187,gQ a' 188,gQ a' 189,gQ a' 190,gQ a' 191,gQ a' 192,gQ a' 193,gQ a' 194,gQ a' 195,gQ a' 196],defers := [] } ∧ i ≤ len1 ∧ i ≤ 30 ∧ RB w p q c e k bud wr) (fun a' _ => len1 - (intOf (a'.tmps.getD 77 undef)).toNat) ?_ ?_
  ·exact ⟨0,rfl,Nat.zero_le _,Nat.zero_le _,H3.out⟩
  ·intro a' wr hI
   obtain ⟨i,hact,hi1,hi30,hRB⟩ := hI
   obtain ⟨u,hu⟩ : ∃ u : Nat → Value,∀ k,gQ a' k = u k := ⟨_,fun _ => rfl⟩
   simp only [hu] at hact
   clear hu
   subst hact
   obtain ⟨ss,st,as_,at_,H,G,X,ha,hlA,hlB,htv,hz,hO⟩ := hRB
   clear H3
   by_cases hlt : i < len1
   ·obtain ⟨x,hx⟩ : ∃ x,z1[i]? = some x := ⟨_,List.getElem?_eq_getElem (by rw [HL1.out.1]; exact hlt)⟩
    obtain ⟨g,o,hao,c0',c1',c2',hxd,hxt,hxe⟩ := HL1.out.at hx
    have hfr := hO.fr
    have q0 := cell_in3 hfr c0'
    have q1 := cell_in3 hfr c1'
    have q2 := cell_in3 hfr c2'
    have hmem := List.mem_of_getElem? hx
    have hlt' : (i : Int) < (len1 : Int) := by omega
    subst hao
    obtain ⟨xd,xt,xa,xc,L⟩ := x
    simp only at q0 q1 q2 hxd hxt hxe
    obtain ⟨xl,hxl⟩ : ∃ xl,L.length = xl := ⟨_,rfl⟩
    rw [hxl] at q2 hxe
    have hb4 := HB1.out _ hmem
    simp only at hb4
    have h4 := hO.allocC #[.int .u8 (xd : Int),.int .u32 (xt : Int),.slice xa xl xc] 53
    have HX : Hid (IsEnts w xa xl xc L ∧ xt < 4294967296 ∧ L.length = xl) := ⟨hxe,hxt,hxl⟩
    have HI : Hid (LnI w X k H ss st ∧ LnI w X k G ss st ∧ tv H = tv G ∧ (p.isNone = true → H = []) ∧ at_ < 4294967296) := ⟨hlA,hlB,htv,hz,ha⟩
    have H4 : Hid (Own w _ _) := h4
    by_cases h30 : 30 ≤ i
    ·have h30' : (30 : Int) ≤ (i : Int) := by omega
     have HF : Hid (Fr Nobody w _) := h4.fr
     clear hx hmem c0' c1' c2' hxe hxl hb4 h4 hlA hlB htv hz ha hO hfr hxt hxd H4
     go_wp2
     go_ret
     exact ⟨rfl,HF.out⟩
    ·have h30' : ¬ (30 : Int) ≤ (i : Int) := by omega
     have HFW : Hid (Calls _ _ _ _ _) := few_any _ xa xl xc L hxl (hxe.ents.1.quiet h4.fr) hb4
     clear hx hmem c0' c1' c2' hxe hxl hb4 hlA hlB htv hz ha hO hfr hxt
     have d0 := h4.cell 0
     have d1 := h4.cell 1
     have d2 := h4.cell 2
     simp at d0 d1 d2
     clear h4
     by_cases h400 : esz L ≤ 400
     ·rw [decide_eq_true h400] at HFW
      have HZ : Hid (esz L ≤ 400) := h400
      clear h400
      go_wp2_with fail
      refine HFW.out.mono ?_
      rintro x w5 ⟨rfl,hf5⟩
      have h5 := H4.out.quiet hf5
      clear HFW hf5 H4 d0 d1 d2 q0 q1 q2
      generalize wr.heap.size = B at *
      have b0 := h5.cell 0
      have b1 := h5.cell 1
      have b2 := h5.cell 2
      simp at b0 b1 b2
      have H5 : Hid (Own w w5 (Cells B #[.int .u8 (xd : Int),.int .u32 (xt : Int),.slice xa xl xc] 53 :: LnO p c e k bud ss st as_ at_ (H) :: RLO q c e k bud (mrk ss st) (mrk as_ at_) (G) :: X)) := h5
      clear h5
      go_upto_block 2 with (fail)
      go_cut [77] from 78 to 196 (RBi w p q c e k bud i)
      case first =>
       by_cases hd : xd < 3
       ·have hd' : (xd : Int) < 3 := by omega
        have HTW : Hid (Calls _ _ _ _ _) := rtwins_any w w5 _ H5.out xa xl xc L (fun w' hw => HX.out.1.ents.1.quiet hw.fr) HX.out.2.2 (by have := HZ.out; omega)
        clear H5
        go_wp2_with fail
        refine HTW.out.mono ?_
        rintro x w6 ⟨am,cm,rfl,M,hM1,hM2,h6⟩
        have hec := h6.entsCap
        have h6 : Own w w6 (LnO p c e k bud ss st as_ at_ (H) :: EntsT am cm M :: Cells B #[.int .u8 (xd : Int),.int .u32 (xt : Int),.slice xa xl xc] 53 :: RLO q c e k bud (mrk ss st) (mrk as_ at_) (G) :: X) := h6.sel 4 [2,0,1,3] (by decide)
        have d1 := (h6.sel 3 [2] (by decide)).cell 1
        simp at d1
        have HS : Hid (Calls _ _ _ _ _) := lsend_o w w6 HT.out.1 HT.out.2 _ p c e bud k st at_ ss as_ H HI.out.1.rk HI.out.1.ok HI.out.1.tk HK.out.2.2.1 HK.out.2.2.2.1 HK.out.2.2.2.2 HI.out.2.2.2.2 h6 xt HX.out.2.1 am xl cm M (fun w' hw => ⟨hw.entsAt,fun y hy => HI.out.1.cs w' (hw.sel 3 [] (by decide)) y hy⟩) hM1 (by omega) hec.2 (EIn.of_evs hM2 HX.out.1.ents.2) (by rw [esz_evs hM2]; exact HZ.out)
        have HMM : Hid (M.length = xl ∧ evs M = evs L) := ⟨hM1,hM2⟩
        clear HTW h6 hec hM1 hM2 b0 b1 b2
        go_wp2_with fail
        refine HS.out.mono ?_
        rintro x w7 ⟨v1,code,P,ss',st',put,y1,rfl,hS,hyt,hyL,hy,h7⟩
        have h7 := h7.mid3
        have hlA' := HI.out.1.send hS hy hyt HX.out.2.1
        obtain ⟨H1,hH1⟩ : ∃ H1,H1 = (if put = true then putH k H y1 else H) := ⟨_,rfl⟩
        obtain ⟨E1,hE1⟩ : ∃ E1 : List Thing,E1 = (if put = true then [EntsT y1.ao y1.cap y1.L] else []) := ⟨_,rfl⟩
        rw [← hH1,← hE1] at h7
        rw [← hH1,← hE1] at hlA'
        have h7 : Own w w7 (RLO q c e k bud (mrk ss st) (mrk as_ at_) (G) :: Row 5 1 v1 P.length (vrow P) :: LnO p c e k bud ss' st' as_ at_ (H1) :: EntsT am cm M :: Cells B #[.int .u8 (xd : Int),.int .u32 (xt : Int),.slice xa xl xc] 53 :: (E1 ++ X)) := h7.sel 5 [4,0,1,2,3] (by decide)
        have d5 := (h7.sel 5 [4] (by decide)).cell 1
        have d6 := (h7.sel 5 [4] (by decide)).cell 2
        simp at d5 d6
        have HS2 : Hid (Calls _ _ _ _ _) := rsend_o w w7 HT.out.1 HT.out.2 _ q c e bud k st at_ ss as_ G HI.out.2.1.rk HI.out.2.1.ok HI.out.2.1.tk HK.out.2.2.1 HK.out.2.2.2.1 HK.out.2.2.2.2 HI.out.2.2.2.2 h7 xt HX.out.2.1 xa xl xc L (fun w' hw => ⟨HX.out.1.ents.1.quiet hw.fr,fun y hy => HI.out.2.1.cs w' (hw.tail.tail.tail.tail).dropA y hy⟩) HX.out.2.2 HX.out.1.2.1 (by have := HX.out.1.2.2.1; unfold maxLen at this; omega) HX.out.1.ents.2 HZ.out
        have HA : Hid (LnI w (E1 ++ X) k H1 ss' st' ∧ SendO p.isNone c e bud ss st (lbo H as_ at_) xt (evs M) code P ss' st' put ∧ y1.t = xt ∧ evs y1.L = evs M ∧ H1 = (if put = true then putH k H y1 else H)) := ⟨hlA',hS,hyt,hyL,hH1⟩
        clear HS h7 hS hyt hyL hy hlA' hH1 hE1 d1
        go_wp2_with fail
        refine HS2.out.mono ?_
        rintro x w8 ⟨v2,code2,P2,ss2,st2,put2,y2,rfl,hS2,hyt2,hyL2,hy2,h8⟩
        have h8 := h8.mid4
        rw [HPQ.out.2,← HPQ.out.1,← tv_lbo HI.out.2.2.1 as_ at_,← HMM.out.2] at hS2
        obtain ⟨rfl,rfl,rfl,rfl,rfl⟩ := HA.out.2.1.one hS2
        have hlB' := HI.out.2.1.send hS2 hy2 hyt2 HX.out.2.1
        have htv' := tv_if HI.out.2.2.1 (HA.out.2.2.1.trans hyt2.symm) (HA.out.2.2.2.1.trans (HMM.out.2.trans hyL2.symm)) k put
        rw [← HA.out.2.2.2.2] at htv'
        obtain ⟨G1,hG1⟩ : ∃ G1,G1 = (if put = true then putH k G y2 else G) := ⟨_,rfl⟩
        obtain ⟨E2,hE2⟩ : ∃ E2 : List Thing,E2 = (if put = true then [EntsT y2.ao y2.cap y2.L] else []) := ⟨_,rfl⟩
        rw [← hG1,← hE2] at h8
        rw [← hG1,← hE2] at hlB'
        rw [← hG1] at htv'
        have hz' : p.isNone = true → H1 = [] := fun h => by
         rw [HA.out.2.2.2.2,HA.out.2.1.no h]
         exact HI.out.2.2.2.1 h
        have h8 : Own w w8 (EntsT am cm M :: LnO p c e k bud ss' st' as_ at_ (H1) :: RLO q c e k bud (mrk ss' st') (mrk as_ at_) (G1) :: Row 5 1 v2 P.length (vrow P) :: Row 5 1 v1 P.length (vrow P) :: Cells B #[.int .u8 (xd : Int),.int .u32 (xt : Int),.slice xa xl xc] 53 :: (E2 ++ (E1 ++ X))) := h8.sel 6 [4,3,1,0,2,5] (by decide)
        have HZR : Hid (∀ W,Own w W (LnO p c e k bud ss' st' as_ at_ (H1) :: RLO q c e k bud (mrk ss' st') (mrk as_ at_) (G1) :: Row 5 1 v2 P.length (vrow P) :: Row 5 1 v1 P.length (vrow P) :: Cells B #[.int .u8 (xd : Int),.int .u32 (xt : Int),.slice xa xl xc] 53 :: (E2 ++ (E1 ++ X))) → RB w p q c e k bud W) := fun W hW => ⟨ss',st',as_,at_,H1,G1,E2 ++ (E1 ++ X),HI.out.2.2.2.2,HA.out.1.onto (fun W hW => hW.dropA),hlB'.onto (fun W hW => (hW.perm (List.perm_append_comm_assoc E2 E1 X)).dropA),htv',hz',hW.sel 5 [0,1] (by decide)⟩
        have HSM : Hid (Calls _ _ _ _ _) := same_fr w8 v1 v2 P (Src.of_row (h8.sel 5 [4] (by decide)).row) (Src.of_row (h8.sel 4 [3] (by decide)).row)
        have hcc : ((code : Int) != (code : Int)) = false := by simp
        have HSE : Hid (∀ W,Fr Nobody w8 W → Calls Tryz.prog 16 #[.slice am xl cm,.slice xa xl xc] W fun x w' => x = .returned (.bool true) ∧ Fr Nobody W w') := fun W hf => by
         have h9 := sameEnts_any W am xa xl xl cm xc M L ((h8.quiet hf).entsAt) (HX.out.1.ents.1.quiet (h8.quiet hf).fr) HMM.out.1 HX.out.2.2 (by rw [esz_evs HMM.out.2]; have := HZ.out; omega) (by have := HZ.out; omega)
         rw [decide_eq_true HMM.out.2] at h9
         exact h9
        have HC2 : Hid (∀ W,Fr Nobody w8 W → W.cell? ⟨B,2,none⟩ = some (.slice xa xl xc)) := fun W hf => by
         have := ((h8.quiet hf).sel 6 [5] (by decide)).cell 2
         simpa using this
        have d2 := HC2.out w8 (Fr.refl _ _)
        have H8 : Hid (Own w w8 _) := h8
        clear HS2 hS2 hyt2 hyL2 hy2 h8 hlB' htv' hG1 hE2 hz' d5 d6
        go_wp2_with fail
        refine HSM.out.mono ?_
        rintro x w9 ⟨rfl,hf9⟩
        have d3 := HC2.out w9 hf9
        have HSC : Hid (Calls _ _ _ _ _) := HSE.out w9 hf9
        have H9 : Hid (Own w w9 _) := H8.out.quiet hf9
        clear HSM HSE HC2 hf9 H8 d2
        go_wp2_with fail
        refine HSC.out.mono ?_
        rintro x w10 ⟨rfl,hf10⟩
        have h10 := H9.out.quiet hf10
        clear HSC hf10 H9 d3
        have hxl4 : xl ≤ 400 := by
         have h1 := HZ.out
         have h2 := HX.out.2.2
         unfold esz at h1
         omega
        obtain ⟨Z,hZ⟩ : ∃ Z : List Thing,Z = (LnO p c e k bud ss' st' as_ at_ (H1) :: RLO q c e k bud (mrk ss' st') (mrk as_ at_) (G1) :: Row 5 1 v2 P.length (vrow P) :: Row 5 1 v1 P.length (vrow P) :: Cells B #[.int .u8 (xd : Int),.int .u32 (xt : Int),.slice xa xl xc] 53 :: (E2 ++ (E1 ++ X))) := ⟨_,rfl⟩
        rw [← hZ] at h10 HZR
        have H10 : Hid (Own w w10 (EntsT am cm M :: Z)) := h10
        have HMC : Hid (M.length = xl ∧ ∀ y ∈ M,y.C.length ≤ 400) := ⟨HMM.out.1,fun y hy => by
         have h1 : esz M ≤ 400 := by rw [esz_evs HMM.out.2]; exact HZ.out
         have h2 := csz_mem hy
         unfold esz at h1
         omega⟩
        clear h10 hZ HA HMM
        go_wp2
        go_loopw [130] (fun cc wq => ∃ (j : Nat) (D : List EnE),j ≤ xl ∧ cc = .int .i64 (j : Int) ∧ (D.length = xl ∧ ∀ y ∈ D,y.C.length ≤ 400) ∧ Own w wq (EntsT am cm D :: Z)) (fun cc _ => xl - (intOf cc).toNat)
        case atStart => exact ⟨0,M,Nat.zero_le _,rfl,HMC.out,H10.out⟩
        case round =>
         obtain ⟨j,D,hj,rfl,hD,hO⟩ := hrel
         have HD : Hid (D.length = xl ∧ ∀ y ∈ D,y.C.length ≤ 400) := hD
         clear H10 HMC hD
         by_cases hlt2 : j < xl
         ·have hlt2' : (j : Int) < (xl : Int) := by omega
          obtain ⟨x,hx⟩ : ∃ x,D[j]? = some x := ⟨_,List.getElem?_eq_getElem (by rw [HD.out.1]; exact hlt2)⟩
          obtain ⟨⟨ga,hga,-,s1⟩,_⟩ := hO.entAt hx
          have hxc := HD.out.2 x (List.mem_of_getElem? hx)
          subst hga
          have HX2 : Hid (D[j]? = some x) := hx
          have HOQ : Hid (Own w _ (EntsT (some ⟨ga,0,none⟩) cm D :: Z)) := hO
          clear hO hx
          obtain ⟨yi,ya,yc,yC⟩ := x
          simp only at s1 hxc HX2
          obtain ⟨cl,hcl⟩ : ∃ cl,yC.length = cl := ⟨_,rfl⟩
          rw [hcl] at s1 hxc
          have HCL : Hid (yC.length = cl) := hcl
          clear hcl
          go_wp2
          go_loopw [139] (fun cc wr2 => ∃ (i2 : Nat) (D' : List EnE) (x' : EnE),i2 ≤ cl ∧ cc = .int .i64 (i2 : Int) ∧ (D'.length = xl ∧ ∀ y ∈ D',y.C.length ≤ 400) ∧ D'[j]? = some x' ∧ x'.ao = ya ∧ x'.cap = yc ∧ x'.C.length = cl ∧ Own w wr2 (EntsT (some ⟨ga,0,none⟩) cm D' :: Z)) (fun cc _ => cl - (intOf cc).toNat)
          case atStart => exact ⟨0,D,⟨yi,ya,yc,yC⟩,Nat.zero_le _,rfl,HD.out,HX2.out,rfl,rfl,HCL.out,HOQ.out⟩
          case round =>
           obtain ⟨i2,D',x',hi2,rfl,hD',hx',hxa,hxc',hxl,hO2⟩ := hrel
           clear HOQ HX2 HD s1
           have HD' : Hid (D'.length = xl ∧ ∀ y ∈ D',y.C.length ≤ 400) := hD'
           have HX' : Hid (D'[j]? = some x' ∧ x'.ao = ya ∧ x'.cap = yc ∧ x'.C.length = cl) := ⟨hx',hxa,hxc',hxl⟩
           clear hD'
           by_cases hlt3 : i2 < cl
           ·have hlt3' : (i2 : Int) < (cl : Int) := by omega
            have hr := hO2.entRow hx'
            obtain ⟨⟨g',hg',_,q1⟩,_⟩ := hO2.entAt hx'
            cases hg'
            rw [hxa,hxl,hxc'] at q1 hr
            obtain ⟨gc,cp,hv,_⟩ := row_shape hr (by omega)
            have hva := (Value.slice.inj hv).1
            rw [hva] at hr
            obtain ⟨q',hq'⟩ : ∃ q',x'.C[i2]? = some q' := ⟨_,List.getElem?_eq_getElem (by rw [hxl]; exact hlt3)⟩
            have y1 : wr.cell? ⟨gc,i2 * 4 + 1,none⟩ = some (.int .i32 q'.a) := by
             rw [hr.cellAt _ (by omega)]
             exact (ccat_at x'.C i2 q' hq' 1 (by decide)).trans rfl
            have y2 := hr.frozenAt (i2 * 4 + 1)
            subst hva
            have HQ : Hid (x'.C[i2]? = some q') := hq'
            have HO2 : Hid (Own w _ _) := hO2
            have HG : Hid (∀ u : Int,∃ (i' : Nat) (D2 : List EnE) (x2 : EnE),i' ≤ cl ∧ Value.int .i64 ((i2 : Int) + 1) = .int .i64 (i' : Int) ∧ (D2.length = xl ∧ ∀ y ∈ D2,y.C.length ≤ 400) ∧ D2[j]? = some x2 ∧ x2.ao = some ⟨gc,0,none⟩ ∧ x2.cap = yc ∧ x2.C.length = cl ∧ Own w (wr.setCell ⟨gc,i2 * 4 + 1,none⟩ (.int .i32 u)).drew (EntsT (some ⟨ga,0,none⟩) cm D2 :: Z)) := fun u => by
             have e := HX'.out
             refine ⟨i2 + 1,D'.set j { x' with C := x'.C.set i2 { q' with a := u } },{ x' with C := x'.C.set i2 { q' with a := u } },by omega,by go_num,⟨by rw [List.length_set]; exact HD'.out.1,fun y hy => ?_⟩,?_,e.2.1,e.2.2.1,by rw [List.length_set]; exact e.2.2.2,(Own.entCp HO2.out e.1 HQ.out e.2.1 u).drew⟩
             ·rcases List.mem_or_eq_of_mem_set hy with hy | rfl
              ·exact HD'.out.2 y hy
              ·show (x'.C.set i2 _).length ≤ 400
               rw [List.length_set]; exact HD'.out.2 x' (List.mem_of_getElem? e.1)
             ·rw [List.getElem?_set]; simp [(List.getElem?_eq_some_iff.1 e.1).1]
            clear hr hv hx' hxa hxc' hxl hq' hO2
            go_wp2
            go_region_law (fail)
            go_wp2
            go_roundw
            case rel => exact HG.out _
            case measure => simp [intOf]; omega
           ·have hlt3' : ¬ (i2 : Int) < (cl : Int) := by omega
            have HO2 : Hid (Own w _ _) := hO2
            clear hO2 hx' hxa hxc' hxl
            go_wp2
            go_roundw
            case rel => exact ⟨j + 1,D',by omega,by go_num,HD'.out,HO2.out⟩
            case measure => simp [intOf]; omega
         ·have hlt2' : ¬ (j : Int) < (xl : Int) := by omega
          have HOQ : Hid (Own w _ (EntsT am cm D :: Z)) := hO
          clear hO
          go_wp2
          go_meet
          case rel => exact ⟨rfl,HZR.out _ HOQ.out.tail⟩
       ·have hd' : ¬ (xd : Int) < 3 := by omega
        by_cases hd3 : xd = 3
        ·subst hd3
         have HA1 : Hid (∀ W Y,Own w W (LnO p c e k bud ss st as_ at_ (H) :: Y) → Calls Tryz.prog 25 #[.pointer (pv p),.int .u32 (xt : Int)] W fun x w' => ∃ (code : Nat) (as' : Bool) (at' n : Nat),x = .returned (.int .i64 (code : Int)) ∧ AckO z as_ at_ H xt code as' at' n ∧ Own w w' (LnO p c e k bud ss st as' at' (H.drop n) :: Y)) := fun W Y hW => by
          have h := lack_o w W Y p c e bud k st at_ ss as_ H HI.out.1.rk hW xt HX.out.2.1
          rw [HPQ.out.1] at h
          exact h
         have HA2 : Hid (∀ W Y,Own w W (RLO q c e k bud (mrk ss st) (mrk as_ at_) (G) :: Y) → Calls Tryz.prog 26 #[.pointer (qv q),.int .u32 (xt : Int)] W fun x w' => ∃ (code : Nat) (as' : Bool) (at' n : Nat),x = .returned (.int .i64 (code : Int)) ∧ AckO z as_ at_ G xt code as' at' n ∧ Own w w' (RLO q c e k bud (mrk ss st) (mrk as' at') (G.drop n) :: Y)) := fun W Y hW => by
          have h := rack_o w W Y q c e bud k at_ (mrk ss st) as_ G HI.out.2.1.rk hW xt HX.out.2.1
          rw [HPQ.out.2] at h
          exact h
         have HLD : Hid (Own w w5.drew (LnO p c e k bud ss st as_ at_ (H) :: RLO q c e k bud (mrk ss st) (mrk as_ at_) (G) :: Cells B #[.int .u8 ((3 : Nat) : Int),.int .u32 (xt : Int),.slice xa xl xc] 53 :: X)) := (H5.out.drew).sel 3 [1,2,0] (by decide)
         have HRD : Hid (Own w w5.drew (RLO q c e k bud (mrk ss st) (mrk as_ at_) (G) :: LnO p c e k bud ss st as_ at_ (H) :: Cells B #[.int .u8 ((3 : Nat) : Int),.int .u32 (xt : Int),.slice xa xl xc] 53 :: X)) := HLD.out.two
         clear H5 b2
         go_wp2
         go_region_law (first
          | (go_simp; go_at_call 25; refine (HA1.out _ _ HLD.out).mono ?_; rintro x w6 ⟨code1,as1,at1,n1,rfl,hA1,h6⟩; dsimp only
             have HL6 : Hid (Own w w6 (RLO q c e k bud (mrk ss st) (mrk as_ at_) (G) :: LnO p c e k bud ss st as1 at1 (H.drop n1) :: Cells B #[.int .u8 ((3 : Nat) : Int),.int .u32 (xt : Int),.slice xa xl xc] 53 :: X)) := h6.two
             have HK1 : Hid (AckO z as_ at_ H xt code1 as1 at1 n1) := hA1
             have d1 := (h6.sel 3 [2] (by decide)).cell 1
             simp at d1
             clear h6 hA1)
          | (go_simp; go_at_call 26; refine (HA2.out _ _ HL6.out).mono ?_; rintro x w7 ⟨code2,as2,at2,n2,rfl,hA2,h7⟩; dsimp only
             obtain ⟨rfl,rfl,rfl,rfl⟩ := HK1.out.one HI.out.2.2.1 hA2
             have H7 : Hid (Own w w7 (LnO p c e k bud ss st as1 at1 (H.drop n1) :: RLO q c e k bud (mrk ss st) (mrk as1 at1) (G.drop n1) :: X)) := h7.sel 3 [1,0] (by decide)
             clear h7 hA2)
          | (go_simp; go_at_call 26; refine (HA2.out _ _ HRD.out).mono ?_; rintro x w6 ⟨code1,as1,at1,n1,rfl,hA2,h6⟩; dsimp only
             have HR6 : Hid (Own w w6 (LnO p c e k bud ss st as_ at_ (H) :: RLO q c e k bud (mrk ss st) (mrk as1 at1) (G.drop n1) :: Cells B #[.int .u8 ((3 : Nat) : Int),.int .u32 (xt : Int),.slice xa xl xc] 53 :: X)) := h6.two
             have HK2 : Hid (AckO z as_ at_ G xt code1 as1 at1 n1) := hA2
             have d1 := (h6.sel 3 [2] (by decide)).cell 1
             simp at d1
             clear h6 hA2)
          | (go_simp; go_at_call 25; refine (HA1.out _ _ HR6.out).mono ?_; rintro x w7 ⟨code2,as2,at2,n2,rfl,hA1,h7⟩; dsimp only
             obtain ⟨rfl,rfl,rfl,rfl⟩ := HK2.out.one HI.out.2.2.1.symm hA1
             have HK1 : Hid (AckO z as_ at_ H xt code1 as1 at1 n1) := hA1
             have H7 : Hid (Own w w7 (LnO p c e k bud ss st as1 at1 (H.drop n1) :: RLO q c e k bud (mrk ss st) (mrk as1 at1) (G.drop n1) :: X)) := h7.sel 3 [0,1] (by decide)
             clear h7 hA1)
          | fail)
         all_goals
          have hcc : ((code1 : Int) != (code1 : Int)) = false := by simp
          go_wp2
          go_meet
          case rel => exact ⟨rfl,ss,st,as1,at1,H.drop n1,G.drop n1,X,HK1.out.lt HX.out.2.1 HI.out.2.2.2.2,HI.out.1.drop n1,HI.out.2.1.drop n1,tv_drop n1 HI.out.2.2.1,fun h => by rw [HI.out.2.2.2.1 h]; exact List.drop_nil,H7.out⟩
        ·have hd3' : ((xd : Int) == 3) = false := by rw [beq_eq_false_iff_ne]; omega
         clear b1 b2
         go_wp2
         go_meet
         case rel => exact ⟨rfl,ss,st,as_,at_,H,G,X,HI.out.2.2.2.2,HI.out.1,HI.out.2.1,HI.out.2.2.1,HI.out.2.2.2.1,H5.out.tail⟩
      case rest =>
       obtain ⟨rfl,hRB⟩ := hcut
       clear H5 HI HX HZ b0 b1 b2 hxd
       obtain ⟨ss,st,as_,at_,H,G,X,ha,hlA,hlB,htv,hz,hO⟩ := hRB
       have HI : Hid (LnI w X k H ss st ∧ LnI w X k G ss st ∧ tv H = tv G ∧ (p.isNone = true → H = []) ∧ at_ < 4294967296) := ⟨hlA,hlB,htv,hz,ha⟩
       have hB1 := lbase_o w wc _ p c e bud k st at_ ss as_ H hlA.rk hO
       have HB2 : Hid (∀ W,Own w W (LnO p c e k bud ss st as_ at_ (H) :: RLO q c e k bud (mrk ss st) (mrk as_ at_) (G) :: X) → Calls Tryz.prog 28 #[.pointer (qv q)] W fun x w' => x = .returned (.tuple #[.int .u32 ((if bi p.isNone (lbo H as_ at_) = true then at_ else 0 : Nat) : Int),.bool (bi p.isNone (lbo H as_ at_))]) ∧ Fr Nobody W w') := fun W hW => by
        have h := rbase_o w W _ q c e bud k at_ HI.out.2.2.2.2 (mrk ss st) as_ G HI.out.2.1.rk hW.two
        rw [HPQ.out.2,← HPQ.out.1,← tv_lbo HI.out.2.2.1 as_ at_] at h
        exact h
       obtain ⟨bb,hbb⟩ : ∃ bb,bb = bi p.isNone (lbo H as_ at_) := ⟨_,rfl⟩
       rw [← hbb] at hB1 HB2
       obtain ⟨bn,hbn⟩ : ∃ bn : Nat,bn = (if bb = true then at_ else 0) := ⟨_,rfl⟩
       rw [← hbn] at hB1 HB2
       have HB3 : Hid (Calls _ _ _ _ _) := hB1
       have hb1' : ((bn : Int) != (bn : Int)) = false := by simp
       have hb2' : (bb != bb) = false := by simp
       clear hB1 hbb hbn hlA hlB htv hz ha hO
       go_wp2_with fail
       refine HB3.out.mono ?_
       rintro x w6 ⟨rfl,h6⟩
       have HB4 : Hid (Calls _ _ _ _ _) := HB2.out w6 h6
       have H6 : Hid (Own w w6 _) := h6
       clear HB3 HB2 h6
       go_wp2_with fail
       refine HB4.out.mono ?_
       rintro x w7 ⟨rfl,hf7⟩
       have HH : Hid (Calls _ _ _ _ _) := lheld_o w w7 _ p c e bud k st at_ ss as_ H HI.out.1.rk HI.out.2.2.2.1 (H6.out.quiet hf7)
       obtain ⟨hl,hhl⟩ : ∃ hl,H.length = hl := ⟨_,rfl⟩
       rw [hhl] at HH
       have HHL : Hid (H.length = hl) := hhl
       clear HB4 hf7 H6 hhl
       go_wp2_with fail
       refine HH.out.mono ?_
       rintro x w8 ⟨ao,cap,rfl,h8⟩
       have HSM : Hid (Calls _ _ _ _ _) := same_o21 w w8 _ q c e k bud (mrk ss st) (mrk as_ at_) G (fun h => by
        have h1 := HI.out.2.2.2.1 (by rw [HPQ.out.1,← HPQ.out.2]; exact h)
        have h2 := tv_len HI.out.2.2.1
        rw [h1] at h2
        exact List.eq_nil_of_length_eq_zero h2.symm) HI.out.2.1.rk hl (by rw [← tv_len HI.out.2.2.1]; exact HHL.out) ao cap (H.map HeE.t) (tv_tick HI.out.2.2.1) (h8.sel 3 [0,2,1] (by decide))
       have H8 : Hid (Own w w8 (LnO p c e k bud ss st as_ at_ (H) :: RLO q c e k bud (mrk ss st) (mrk as_ at_) (G) :: X)) := h8.tail
       clear HH h8
       go_wp2_with fail
       refine HSM.out.mono ?_
       rintro x w9 ⟨rfl,hf9⟩
       have H9 : Hid (RB w p q c e k bud w9) := ⟨ss,st,as_,at_,H,G,X,HI.out.2.2.2.2,HI.out.1,HI.out.2.1,HI.out.2.2.1,HI.out.2.2.2.1,H8.out.quiet hf9⟩
       clear HSM hf9 H8
       go_wp2
       exact ⟨⟨i + 1,(by first | exact ⟨rfl,rfl⟩ | rfl),by omega,by omega,H9.out⟩,by simp [intOf]; omega⟩
     ·rw [decide_eq_false h400] at HFW
      clear h400
      go_wp2_with fail
      refine HFW.out.mono ?_
      rintro x w5 ⟨rfl,hf5⟩
      have H5 : Hid (RB w p q c e k bud w5) := ⟨ss,st,as_,at_,H,G,X,HI.out.2.2.2.2,HI.out.1,HI.out.2.1,HI.out.2.2.1,HI.out.2.2.2.1,(H4.out.quiet hf5).tail⟩
      clear hf5 HFW H4 d0 d1 d2 q0 q1 q2
      go_wp2
      exact ⟨⟨i + 1,(by first | exact ⟨rfl,rfl⟩ | rfl),by omega,by omega,H5.out⟩,by simp [intOf]; omega⟩
   ·have hlt' : ¬ (i : Int) < (len1 : Int) := by omega
    have HF : Hid (Fr Nobody w wr) := hO.fr
    clear hlA hlB htv hz ha hO
    go_wp2
    go_ret
    exact ⟨rfl,HF.out⟩
end Go.Proofs.YtgifeckbflkkpaaGreatDoor
