/- The document's lane: Send. -/
import Derived.Test.YtgifeckbflkkpaaGreatDoorQp36
import Derived.Test.YtgifeckbflkkpaaGreatDoorQp45
import Derived.Test.YtgifeckbflkkpaaGreatDoorQp41
import Derived.Test.YtgifeckbflkkpaaGreatDoorQp18
import Derived.Deep.RegionHeld3
import Derived.Test.YtgifeckbflkkpaaGreatDoorQp37
import Derived.Deep.CutBlock
import Derived.Deep.RegionLaw
namespace Go.Proofs.YtgifeckbflkkpaaGreatDoor
open Go.RowKit
set_option linter.unusedVariables false
set_option maxHeartbeats 8000000
set_option maxRecDepth 100000
theorem RLn.asked {w0 w : World} {l : List Thing} {b c e k bud : Nat} {sm am : Int} {H : List HeE} (h : Own w0 w (RLn b c e k bud sm am H :: l)) (x : Int) : Own w0 (w.setCell ⟨b,5,none⟩ (.int .i64 x)) (RLn b c e k bud x am H :: l) := by
 obtain ⟨v,h⟩ := Own.ex_iff.1 h
 exact Own.ex_iff.2 ⟨v,h.setC 5 (.int .i64 x)⟩
theorem RLn.fz {w0 w : World} {l : List Thing} {b c e k bud : Nat} {sm am : Int} {H : List HeE} (h : Own w0 w (RLn b c e k bud sm am H :: l)) (i : Nat) : w.frozen? ⟨b,i,none⟩ = false := by
 obtain ⟨v,h⟩ := Own.ex_iff.1 h
 exact h.froz i
theorem seal_fit {k c e t s bud : Nat} {W N : List En} {code : Nat} {P : List Nat} (h : SealR k c e t s W N code P) : (wfit k c e t s W N bud = true ↔ code = 0 ∧ P.length ≤ bud) ∧ (code = 0 → P = sfr k c e t s W N) := by
 refine ⟨?_,fun h0 => (h.2.2.1 h0).2.2.1⟩
 unfold wfit
 rw [decide_eq_true_eq]
 have e := h.2.2.2.1
 constructor
 ·rintro ⟨h1,h2⟩
  have h0 : code = 0 := e.trans h1
  exact ⟨h0,by rw [(h.2.2.1 h0).2.2.1]; exact h2⟩
 ·rintro ⟨h1,h2⟩
  exact ⟨e.symm.trans h1,by unfold sfr; rw [← (h.2.2.1 h1).2.2.1]; exact h2⟩
def S14 (c e t at_ : Nat) (bo : Option (Nat × List En)) (N : List En) (code : Nat) (P : List Nat) : Prop := (∃ W,bo = some (at_,W) ∧ SealR 2 c e t at_ W N code P) ∨ (bo = none ∧ code = 3 ∧ P = [])
def F16 (c e bud t : Nat) (bo : Option (Nat × List En)) (N : List En) (code : Nat) (P : List Nat) : Prop := (code = 0 ∧ P.length ≤ bud ∧ lfit c e bud t bo N = true ∧ P = lfrm c e bud t bo N) ∨ (¬ (code = 0 ∧ P.length ≤ bud) ∧ lfit c e bud t bo N = false)
theorem f16_good {c e t at_ bud : Nat} {bo : Option (Nat × List En)} {N : List En} {code : Nat} {P : List Nat} (h : S14 c e t at_ bo N code P) (h0 : code = 0) (hl : P.length ≤ bud) : F16 c e bud t bo N code P := by
 rcases h with ⟨W,rfl,hS⟩ | ⟨_,h3,_⟩
 ·have hw := ((seal_fit (bud := bud) hS).1).2 ⟨h0,hl⟩
  refine .inl ⟨h0,hl,by unfold lfit; simp [hw],?_⟩
  show P = if wfit 2 c e t at_ W N bud = true then _ else _
  rw [if_pos hw]
  exact (seal_fit (bud := bud) hS).2 h0
 ·omega
theorem f16_bad {c e t at_ bud : Nat} {bo : Option (Nat × List En)} {N : List En} {code code' : Nat} {P P' : List Nat} (h : S14 c e t at_ bo N code P) (hb : ¬ (code = 0 ∧ P.length ≤ bud)) (h1 : SealR 1 c e t 0 [] N code' P') : F16 c e bud t bo N code' P' := by
 have hw0 : lfit c e bud t bo N = wfit 1 c e t 0 [] N bud ∧ lfrm c e bud t bo N = wfr 1 c e t 0 [] N bud := by
  rcases h with ⟨W,rfl,hS⟩ | ⟨rfl,_,_⟩
  ·have hw : wfit 2 c e t at_ W N bud = false := by rw [← Bool.not_eq_true]; exact fun hh => hb (((seal_fit hS).1).1 hh)
   constructor
   ·unfold lfit; simp [hw]
   ·show (if wfit 2 c e t at_ W N bud = true then _ else _) = _
    rw [hw]; rfl
  ·exact ⟨by unfold lfit; simp,rfl⟩
 by_cases h0 : code' = 0 ∧ P'.length ≤ bud
 ·have hw := ((seal_fit (bud := bud) h1).1).2 h0
  refine .inl ⟨h0.1,h0.2,hw0.1.trans hw,?_⟩
  rw [hw0.2]
  unfold wfr
  rw [if_pos hw]
  exact (seal_fit (bud := bud) h1).2 h0.1
 ·refine .inr ⟨h0,?_⟩
  rw [hw0.1,← Bool.not_eq_true]
  exact fun hh => h0 (((seal_fit h1).1).1 hh)
def Fc (w0 : World) (l : List Thing) (b c e k bud : Nat) (sm am : Int) (H : List HeE) (R : Nat → List Nat → Prop) (v9 v10 : Value) (wc : World) : Prop := ∃ (a9 : Option Addr) (c9 code9 : Nat) (P9 : List Nat),v9 = .slice a9 P9.length c9 ∧ v10 = .int .i64 (code9 : Int) ∧ Own w0 wc (Row 5 1 (.slice a9 P9.length c9) P9.length (vrow P9) :: RLn b c e k bud sm am H :: l) ∧ R code9 P9
theorem Own.putOff {w0 w : World} {l : List Thing} {b c e k bud : Nat} {v : Value} {sm am : Int} {H : List HeE} {a8 : Option Addr} {c8 n t nn : Nat} {a6 : Option Addr} {c6 : Nat} {M : List EnE} (hM : M.length = nn) (hn : H.length = n) (h : Own w0 w (OffRow 138 2 (.slice a8 (n + 1) c8) (n + 1) (cat ele (H.map HeE.r) ++ [.int .u32 (t : Int),.slice a6 nn c6]) :: Cells b (rlc c e k bud v sm am) 131 :: l)) : Own w0 (w.setCell ⟨b,4,none⟩ (.slice a8 (n + 1) c8)) (RLn b c e k bud sm am (H ++ [⟨t,a6,c6,M⟩]) :: l) := by
 subst hM hn
 refine Own.ex_iff.2 ⟨.slice a8 (H.length + 1) c8,?_⟩
 have h2 := (h.two.setC 4 (.slice a8 (H.length + 1) c8))
 have e1 : cat ele ((H ++ [(⟨t,a6,c6,M⟩ : HeE)]).map HeE.r) = cat ele (H.map HeE.r) ++ [.int .u32 (t : Int),.slice a6 M.length c6] := by
  rw [List.map_append,cat_append]
  rfl
 have e2 : (H ++ [(⟨t,a6,c6,M⟩ : HeE)]).length = H.length + 1 := by simp
 rw [e1,e2]
 exact h2
def SendPost (w0 : World) (l : List Thing) (b c e k bud : Nat) (ss : Bool) (st : Nat) (as_ : Bool) (at_ : Nat) (H : List HeE) (t : Nat) (N : List EnE) (x : Ending) (w' : World) : Prop := ∃ (v : Value) (code : Nat) (P : List Nat) (ss' : Bool) (st' : Nat) (put : Bool) (y : HeE),x = .returned (.tuple #[v,.int .i64 (code : Int)]) ∧ SendR c e bud ss st (lbo H as_ at_) t (evs N) code P ss' st' put ∧ y.t = t ∧ evs y.L = evs N ∧ HOk [y] ∧ Own w0 w' (Row 5 1 v P.length (vrow P) :: RLn b c e k bud (mrk ss' st') (mrk as_ at_) (if put = true then putH k H y else H) :: ((if put = true then [EntsT y.ao y.cap y.L] else []) ++ l))
def R77 (bb : Bool) (W : World) (v : Value) (wc : World) : Prop := v = .bool bb ∧ wc = W
theorem sent_one (t : Int) (a : Option Addr) (n c : Nat) : ∀ u ∈ [Value.int .u32 t,.slice a n c],u.oneCell' = true := by
 intro u hu
 simp at hu
 rcases hu with rfl | rfl <;> rfl
def R18 (w0 : World) (l : List Thing) (b c e k bud t nn : Nat) (am : Int) (H : List HeE) (N : List EnE) (P : List Nat) (v : Value) (pl : Nat) (v9 : Value) (wd : World) : Prop := v9 = v ∧ ∃ (a6 : Option Addr) (c6 : Nat) (M6 : List EnE),M6.length = nn ∧ evs M6 = evs N ∧ Own w0 wd (RLn b c e k bud (t : Int) am (H ++ [⟨t,a6,c6,M6⟩]) :: Row 5 1 v pl (vrow P) :: EntsT a6 c6 M6 :: l)
theorem Own.tail1 {w0 w : World} {l : List Thing} {b c e k bud g o cap n : Nat} {v : Value} {sm am : Int} {H : List HeE} (hn : H.length = n + 1) (h : Own w0 w (Cells b (rlc c e k bud v sm am) 131 :: OffRow 138 2 (.slice (some ⟨g,o,none⟩) (n + 1) cap) (n + 1) (cat ele (H.map HeE.r)) :: l)) : Own w0 (w.setCell ⟨b,4,none⟩ (.slice (some ⟨g,o + 2,none⟩) n (cap - 1))) (RLn b c e k bud sm am (H.drop 1) :: l) := by
 have hX := (h.setC 4 (.slice (some ⟨g,o + 2,none⟩) n (cap - 1))).two.oTail (m := 1) (by omega)
 have e1 : (H.drop 1).length = n := by rw [List.length_drop,hn]; rfl
 have e2 : cat ele ((H.drop 1).map HeE.r) = (cat ele (H.map HeE.r)).drop (1 * 2) := by rw [List.map_drop]; exact (cat_drop ele 2 ele_len _ 1).symm
 refine Own.ex_iff.2 ⟨.slice (some ⟨g,o + 2,none⟩) n (cap - 1),?_⟩
 rw [e1,e2]
 exact hX.two
theorem rSend (w0 w : World) (htb : Tab w0) (htf : Tabf w0) (l : List Thing) (b c e k bud : Nat) (ss : Bool) (st : Nat) (as_ : Bool) (at_ : Nat) (H : List HeE) (hR : ROk k (H.map HeE.r)) (hH : HOk H) (hT : ∀ x ∈ H,ss = true ∧ x.t ≤ st) (hbud : bud ≤ 4100) (hc : c < 256) (he : e < 4294967296) (ha : at_ < 4294967296) (h : Own w0 w (RLn b c e k bud (mrk ss st) (mrk as_ at_) H :: l)) (t : Nat) (ht : t < 4294967296) (an : Option Addr) (nn cn : Nat) (N : List EnE) (hQ : ∀ w',Own w0 w' l → EntsAt w' an N ∧ ∀ x ∈ H,EntsAt w' x.ao x.L) (hN : N.length = nn) (hcn : nn ≤ cn) (hmn : cn ≤ 9223372036854775807) (hIN : EIn N) (hzN : esz N ≤ 400) :
  Calls Tryz.prog 24 #[.pointer (some ⟨b,0,none⟩),.int .u32 (t : Int),.slice an nn cn] w (SendPost w0 l b c e k bud ss st as_ at_ H t N) := by
 obtain ⟨sm,hsm⟩ : ∃ sm,sm = mrk ss st := ⟨_,rfl⟩
 have hml := mrk_le ss st t
 rw [← hsm] at h hml
 have HSM : Hid (sm = mrk ss st) := hsm
 obtain ⟨ao,cap,q0,q1,q2,q3,q4,q5,q6,-⟩ := RLn.cells h
 have HFM : Hid (∀ W l',Own w0 W (l' ++ l) → Calls Tryz.prog 31 #[.slice an nn cn] W fun x w' => x = .returned (.int .i64 ((fm 0 (evs N) : Nat) : Int)) ∧ Fr Nobody W w') := fun W l' hW => rform_any W an nn cn N (hQ W hW.dropA).1 hN hIN (by omega)
 have HY0 : Hid (HOk [⟨t,an,cn,N⟩]) := fun x hx => by
  rw [List.mem_singleton.1 hx]
  exact ⟨by show N.length ≤ cn; omega,hmn,hIN,hzN⟩
 have HIN : Hid (EIn N ∧ esz N ≤ 400 ∧ N.length = nn ∧ nn ≤ cn ∧ cn ≤ 9223372036854775807) := ⟨hIN,hzN,hN,hcn,hmn⟩
 have HTK : Hid ((∀ y ∈ H,ss = true ∧ y.t ≤ st) ∧ ROk k (H.map HeE.r) ∧ HOk H ∧ t < 4294967296 ∧ c < 256 ∧ e < 4294967296 ∧ at_ < 4294967296 ∧ bud ≤ 4100) := ⟨hT,hR,hH,ht,hc,he,ha,hbud⟩
 have HQ : Hid (∀ w',Own w0 w' l → EntsAt w' an N ∧ ∀ x ∈ H,EntsAt w' x.ao x.L) := hQ
 have HTB : Hid (Tab w0 ∧ Tabf w0) := ⟨htb,htf⟩
 have HO : Hid (Own w0 w _) := h
 obtain ⟨fx,hfx⟩ : ∃ fx,fx = fm 0 (evs N) := ⟨_,rfl⟩
 rw [← hfx] at HFM
 have HFX : Hid (fx = fm 0 (evs N)) := hfx
 clear h hQ hN hcn hmn hIN hzN htb htf hR hH hT hbud hc he ha hsm hfx
 cases hst : (ss && decide (t ≤ st)) with
 | true =>
  rw [hst] at hml
  have g0 : (t : Int) ≤ sm := hml.2 rfl
  have HST : Hid (ss = true ∧ t ≤ st) := by show _ ∧ _; simpa using hst
  clear HFM hml hst q0 q1 q2 q3 q4 q6
  go_enter Tryz.func24,Tryz.ntmps24
  go_wp2
  go_ret2
  unfold SendPost
  refine ⟨_,12,[],ss,st,false,⟨t,an,cn,N⟩,rfl,.inl ⟨HST.out.1,HST.out.2,rfl,rfl,rfl,rfl,rfl⟩,rfl,rfl,HY0.out,?_⟩
  rw [← HSM.out]
  exact HO.out.nilRow _ _
 | false =>
  rw [hst] at hml
  have g0 : ¬ (t : Int) ≤ sm := fun h => by have := hml.1 h; cases this
  have HST : Hid ((ss && decide (t ≤ st)) = false) := hst
  have HFC : Hid (Calls _ _ _ _ _) := HFM.out w [_] HO.out
  clear HFM hml hst q0 q1 q2 q3 q4 q6
  go_enter Tryz.func24,Tryz.ntmps24
  go_wp2_with fail
  refine HFC.out.mono ?_
  rintro x w2 ⟨rfl,hf2⟩
  have h2 := HO.out.quiet hf2
  clear HFC hf2 HO q5
  by_cases hx0 : fx = 0
  ·subst hx0
   have z5 := RLn.fz h2 5
   obtain ⟨ao,cap,-,-,-,-,-,q5,-⟩ := RLn.cells h2
   have h3 := RLn.asked h2 (t : Int)
   have HBA : Hid (Calls _ _ _ _ _) := rBase w0 _ l b c e k bud _ as_ at_ HTK.out.2.2.2.2.2.2.1 H k HTK.out.2.1 h3
   have H3 : Hid (Own w0 _ _) := h3
   obtain ⟨bo,hbo⟩ : ∃ bo,bo = lbo H as_ at_ := ⟨_,rfl⟩
   have HBO : Hid (bo = lbo H as_ at_) := hbo
   rw [← hbo] at HBA
   clear h2 h3 hbo
   go_upto_region 11 with (fail)
   go_wp2_with fail
   refine HBA.out.mono ?_
   rintro x w4 ⟨rfl,hf4⟩
   have h4 := H3.out.quiet hf4
   clear HBA hf4 H3 q5 z5
   have H4 : Hid (Own w0 w4 _) := h4
   obtain ⟨bi_,hbi⟩ : ∃ bi_,bi_ = bo.isSome := ⟨_,rfl⟩
   rw [← hbi]
   have HBI : Hid (bi_ = bo.isSome) := hbi
   obtain ⟨bv,hbv⟩ : ∃ bv : Int,bv = (if bi_ = true then (at_ : Int) else 0) := ⟨_,rfl⟩
   rw [← hbv]
   have HBV : Hid (bv = (if bi_ = true then (at_ : Int) else 0)) := hbv
   clear hbi hbv
   go_upto_if 37 with (fail)
   go_cut [9,10] from 14 (Fc w0 l b c e k bud (t : Int) (mrk as_ at_) H (S14 c e t at_ bo (evs N)))
   case first =>
    have hbi := HBI.out
    subst hbi
    rcases bo with _ | ⟨bt,bW⟩
    ·simp only [Option.isSome_none]
     clear h4
     go_wp2
     go_meet
     case rel =>
      unfold Fc
      exact ⟨none,0,3,[],rfl,rfl,H4.out.nilRow _ _,.inr ⟨rfl,rfl,rfl⟩⟩
    ·obtain ⟨x,rfl,hx,hbt,hbW⟩ : ∃ x,as_ = true ∧ hget H at_ = some x ∧ bt = at_ ∧ bW = evs x.L := by
      have hb := HBO.out
      unfold lbo at hb
      split at hb
      ·rename_i ht
       cases hg : hget H at_ with
       | none => rw [hg] at hb; cases hb
       | some x => rw [hg] at hb; cases hb; exact ⟨x,ht,rfl,rfl,rfl⟩
      ·cases hb
     subst hbt hbW
     have hbv : bv = (bt : Int) := by rw [HBV.out]; rfl
     subst hbv
     have em : mrk true bt = (bt : Int) := rfl
     obtain ⟨hxm,hxt⟩ := hget_mem hx
     obtain ⟨n,hn⟩ : ∃ n,n = below bt (H.map HeE.r) := ⟨_,rfl⟩
     have hxn : H[n]? = some x := by
      have h0 := hx
      unfold hget at h0
      rw [← hn] at h0
      cases h1 : H[n]? with
      | none => rw [h1] at h0; cases h0
      | some y =>
       rw [h1] at h0
       simp only at h0
       split at h0
       ·exact h0
       ·cases h0
     have hnl : n < H.length := (List.getElem?_eq_some_iff.1 hxn).1
     have HFI : Hid (∀ W,Fr Nobody w4 W → Calls Tryz.prog 64 #[.pointer (some ⟨b,0,none⟩),.int .i64 (bt : Int)] W fun y w' => y = .returned (.int .i64 (n : Int)) ∧ Fr Nobody W w') := fun W hf => by
      have h5 := rfind w0 W l b c e k bud (t : Int) (mrk true bt) H k HTK.out.2.1 (H4.out.quiet hf) bt
      rw [fi_some hx,← hn] at h5
      exact h5
     obtain ⟨ao4,cap4,q0,q1,q2,q3,q4,q5,q6,hlc,hcm,hO4⟩ := RLn.cells h4
     obtain ⟨g,o,hao,-,hs4⟩ := sent_at hO4.two hxn
     subst hao
     rw [em] at q6 hO4
     obtain ⟨xl,hxl⟩ : ∃ xl,xl = x.L.length := ⟨_,rfl⟩
     rw [← hxl] at hs4
     have HXL : Hid (x.L.length = xl) := hxl.symm
     have HC : Hid (∀ W Y,Own w0 W (Cells b (rlc c e k bud (.slice (some ⟨g,o,none⟩) H.length cap4) (t : Int) (bt : Int)) 131 :: OffRow 138 2 (.slice (some ⟨g,o,none⟩) H.length cap4) H.length (cat ele (H.map HeE.r)) :: Y) → W.cell? ⟨b,0,none⟩ = some (.int .u8 (c : Int)) ∧ W.cell? ⟨b,1,none⟩ = some (.int .u32 (e : Int)) ∧ W.cell? ⟨b,4,none⟩ = some (.slice (some ⟨g,o,none⟩) H.length cap4) ∧ W.cell? ⟨b,6,none⟩ = some (.int .i64 (bt : Int)) ∧ W.cell? ⟨g,o + n * 2 + 1,none⟩ = some (.slice x.ao xl x.cap)) := fun W Y hW => by
      have r0 := hW.cell 0
      have r1 := hW.cell 1
      have r4 := hW.cell 4
      have r6 := hW.cell 6
      simp [rlc] at r0 r1 r4 r6
      obtain ⟨g',o',h1,_,h3⟩ := sent_at hW.two hxn
      cases h1
      rw [← hxl] at h3
      exact ⟨r0,r1,r4,r6,h3⟩
     have HOQ : Hid (Own w0 w4 (Cells b (rlc c e k bud (.slice (some ⟨g,o,none⟩) H.length cap4) (t : Int) (bt : Int)) 131 :: OffRow 138 2 (.slice (some ⟨g,o,none⟩) H.length cap4) H.length (cat ele (H.map HeE.r)) :: l)) := hO4
     have HSE : Hid (∀ W,Fr Nobody w4 W → Calls Tryz.prog 32 #[.agg #[.int .u8 2,.int .u8 (c : Int),.int .u32 (e : Int),.int .u32 (t : Int),.int .u32 (bt : Int)],.slice x.ao xl x.cap,.slice an nn cn] W fun y w' => ∃ v code P,y = .returned (.tuple #[v,.int .i64 ((code : Nat) : Int)]) ∧ SealR 2 c e t bt (evs x.L) (evs N) code P ∧ Own w0 w' (Row 5 1 v P.length (vrow P) :: Cells b (rlc c e k bud (.slice (some ⟨g,o,none⟩) H.length cap4) (t : Int) (bt : Int)) 131 :: OffRow 138 2 (.slice (some ⟨g,o,none⟩) H.length cap4) H.length (cat ele (H.map HeE.r)) :: l)) := fun W hf => rseal20 w0 W _ (HOQ.out.quiet hf) 2 c e t bt ⟨by decide,HTK.out.2.2.2.2.1,HTK.out.2.2.2.2.2.1,HTK.out.2.2.2.1,HTK.out.2.2.2.2.2.2.1⟩ x.ao an xl nn x.cap cn x.L N (fun w' hw => ⟨(HQ.out w' hw.tail.tail).2 x hxm,(HQ.out w' hw.tail.tail).1⟩) HXL.out HIN.out.2.2.1 (HTK.out.2.2.1 x hxm).2.2.1 HIN.out.1 (HTK.out.2.2.1 x hxm).2.2.2 HIN.out.2.1
     have HFD : Hid (Fr Nobody w4 w4.drew) := (Fr.refl _ w4).drew
     obtain ⟨hl,hhl⟩ : ∃ hl,hl = H.length := ⟨_,rfl⟩
     have HHL : Hid (hl = H.length) := hhl
     rw [← hhl] at q4 hlc hnl HC HOQ HSE
     have hnl' : (n : Int) < (hl : Int) := by omega
     have hn0 : (0 : Int) ≤ (n : Int) := by omega
     simp only [Option.isSome_some]
     clear h4 hx hxm hxt hn hxn hO4 q2 q3 q5 hxl hhl
     go_wp2
     go_region_held3 (fun w' => w'.cell? ⟨b,0,none⟩ = some (.int .u8 (c : Int)) ∧ w'.cell? ⟨b,1,none⟩ = some (.int .u32 (e : Int)) ∧ w'.cell? ⟨b,4,none⟩ = some (.slice (some ⟨g,o,none⟩) hl cap4) ∧ w'.cell? ⟨b,6,none⟩ = some (.int .i64 (bt : Int)) ∧ w'.cell? ⟨g,o + n * 2 + 1,none⟩ = some (.slice x.ao xl x.cap)) (go_keep)
      (first
        | (go_at_call 64; with_reducible refine (HFI.out _ HFD.out).mono ?_; rintro y w5 ⟨rfl,hf5⟩
           have HF5 : Hid (Fr Nobody w4 w5) := HFD.out.trans hf5
           obtain ⟨p0,p1,p4,p6,p5⟩ := HC.out w5 _ (HOQ.out.quiet HF5.out)
           clear hf5)
        | (go_at_call 32; with_reducible refine (HSE.out _ HF5.out).mono ?_; rintro y w6 ⟨v6,code6,P6,rfl,hS6,h6⟩
           obtain ⟨av6,cv6,hv6⟩ := row_any h6.row
           subst hv6
           obtain ⟨p0,p1,p4,p6,p5⟩ := HC.out w6 _ h6.tail
           have H6 : Hid (Own w0 w6 _) := h6
           have HS6 : Hid (SealR 2 c e t bt (evs x.L) (evs N) code6 P6) := hS6
           clear h6 hS6))
     all_goals
      go_wp2
      go_meet
      case rel =>
       unfold Fc
       refine ⟨av6,cv6,code6,P6,rfl,rfl,?_,.inl ⟨_,rfl,HS6.out⟩⟩
       have hX := H6.out
       rw [HHL.out] at hX
       exact Own.two (Own.ex_iff.2 ⟨_,(hX.sel 3 [1,2,0] (by decide))⟩)
   case rest =>
    obtain ⟨a9,c9,code9,P9,rfl,rfl,hO,hS⟩ := hcut
    clear H4 h4
    have HO : Hid (Own w0 wc _) := hO
    have HS : Hid (S14 c e t at_ bo (evs N) code9 P9) := hS
    obtain ⟨ao4,cap4,q0,q1,q2,q3,q4,q5,q6,hlc,hcm,hO4⟩ := RLn.cells hO.two
    have HS1 : Hid (∀ W,Fr Nobody wc W → Calls Tryz.prog 32 #[.agg #[.int .u8 1,.int .u8 (c : Int),.int .u32 (e : Int),.int .u32 (t : Int),.int .u32 0],.slice none 0 0,.slice an nn cn] W fun y w' => ∃ v code P,y = .returned (.tuple #[v,.int .i64 ((code : Nat) : Int)]) ∧ SealR 1 c e t 0 [] (evs N) code P ∧ Own w0 w' (Row 5 1 v P.length (vrow P) :: RLn b c e k bud (t : Int) (mrk as_ at_) H :: l)) := fun W hf => rseal20 w0 W _ (HO.out.tail.quiet hf) 1 c e t 0 ⟨by decide,HTK.out.2.2.2.2.1,HTK.out.2.2.2.2.2.1,HTK.out.2.2.2.1,by decide⟩ none an 0 nn 0 cn [] N (fun w' hw => ⟨entsAt_nil w',(HQ.out w' hw.tail).1⟩) rfl HIN.out.2.2.1 (fun x hx => by cases hx) HIN.out.1 (by unfold esz; simp [csz]) HIN.out.2.1
    have HFD : Hid (Fr Nobody wc wc.drew) := (Fr.refl _ wc).drew
    obtain ⟨pl,hpl⟩ : ∃ pl,pl = P9.length := ⟨_,rfl⟩
    rw [← hpl]
    have HPL : Hid (pl = P9.length) := hpl
    clear hO hS hO4 q2 q4 q5 q6 hlc hcm hpl
    obtain ⟨bb,hbb⟩ : ∃ bb,bb = !decide (code9 = 0 ∧ pl ≤ bud) := ⟨_,rfl⟩
    go_upto_region 14 with (fail)
    go_cut [77] from 67 (R77 bb wc)
    case first =>
     by_cases h0 : code9 = 0
     ·have h0' : ((code9 : Int) != 0) = false := by rw [h0]; rfl
      by_cases h1 : pl ≤ bud
      ·have h1' : ¬ (bud : Int) < (pl : Int) := by omega
       rw [show decide (code9 = 0 ∧ pl ≤ bud) = true from decide_eq_true ⟨h0,h1⟩] at hbb
       subst hbb
       clear h0 h1
       go_wp2
       go_meet
       case rel => exact ⟨rfl,rfl⟩
      ·have h1' : (bud : Int) < (pl : Int) := by omega
       rw [show decide (code9 = 0 ∧ pl ≤ bud) = false from decide_eq_false (fun h => h1 h.2)] at hbb
       subst hbb
       clear h0 h1
       go_wp2
       go_meet
       case rel => exact ⟨rfl,rfl⟩
     ·have h0' : ((code9 : Int) != 0) = true := by simpa using h0
      rw [show decide (code9 = 0 ∧ pl ≤ bud) = false from decide_eq_false (fun h => h0 h.1)] at hbb
      subst hbb
      clear h0
      go_wp2
      go_meet
      case rel => exact ⟨rfl,rfl⟩
    case rest =>
    obtain ⟨rfl,rfl⟩ := hcut
    have HBB : Hid (bb = !decide (code9 = 0 ∧ pl ≤ bud)) := hbb
    clear hbb
    go_upto_if 77 with (fail)
    go_cut [9,10] from 16 (Fc w0 l b c e k bud (t : Int) (mrk as_ at_) H (F16 c e bud t bo (evs N)))
    case first =>
     cases bb with
     | false =>
      have hg : code9 = 0 ∧ pl ≤ bud := by simpa using HBB.out
      have HG : Hid (F16 c e bud t bo (evs N) code9 P9) := f16_good HS.out hg.1 (by rw [← HPL.out]; exact hg.2)
      clear hg
      go_wp2
      go_meet
      case rel =>
       unfold Fc
       rw [HPL.out]
       exact ⟨a9,c9,code9,P9,rfl,rfl,HO.out,HG.out⟩
     | true =>
      have HB : Hid (¬ (code9 = 0 ∧ P9.length ≤ bud)) := by
       show ¬ _
       have h := HBB.out
       rw [HPL.out] at h
       intro hh
       rw [decide_eq_true hh] at h
       cases h
      go_wp2
      go_region_law (first
       | (go_simp; go_at_call 32; refine (HS1.out _ HFD.out).mono ?_; rintro y w6 ⟨v6,code6,P6,rfl,hS6,h6⟩; dsimp only
          obtain ⟨av6,cv6,hv6⟩ := row_any h6.row
          subst hv6
          have H6 : Hid (Own w0 w6 _) := h6
          have HG : Hid (F16 c e bud t bo (evs N) code6 P6) := f16_bad HS.out HB.out hS6
          clear h6 hS6))
      all_goals
       go_wp2
       go_meet
       case rel =>
        unfold Fc
        exact ⟨av6,cv6,code6,P6,rfl,rfl,H6.out,HG.out⟩
    case rest =>
     obtain ⟨a7,c7,code7,P7,rfl,rfl,hO,hF⟩ := hcut
     clear HO HS HS1 HFD HPL q0 q1 q3
     have H7 : Hid (Own w0 wc _) := hO
     obtain ⟨ao4,cap4,-,-,-,q3,q4,-,-,hlc,hcm,hO4⟩ := RLn.cells hO.two
     obtain ⟨pl,hpl⟩ : ∃ pl,pl = P7.length := ⟨_,rfl⟩
     rw [← hpl] at hO4 ⊢
     have HPL : Hid (pl = P7.length) := hpl
     clear hO
     rcases hF with ⟨rfl,hle,hfit,hP7⟩ | ⟨hno,hfit⟩
     ·have h0' : (((0 : Nat) : Int) != 0) = false := rfl
      have h1' : ¬ (bud : Int) < (pl : Int) := by omega
      have HP : Hid (lfit c e bud t bo (evs N) = true ∧ P7 = lfrm c e bud t bo (evs N)) := ⟨hfit,hP7⟩
      have hle64 : H.length ≤ 64 := by have := HTK.out.2.1.le; have := HTK.out.2.1.k2; rw [List.length_map] at *; omega
      have hk1 := HTK.out.2.1.k1
      obtain ⟨hl,hhl⟩ : ∃ hl,H.length = hl := ⟨_,rfl⟩
      rw [hhl] at hO4 hle64 q4
      have HL : Hid (H.length = hl) := hhl
      clear hfit hP7 hle hpl hlc hcm H7 hhl
      go_upto_region 18 with (fail)
      go_cut [9] from 104 (R18 w0 l b c e k bud t nn (mrk as_ at_) H N P7 (.slice a7 pl c7) pl)
      case first =>
       have HTW : Hid (∀ W m,Own w0 W (m ++ l) → Calls Tryz.prog 11 #[.slice an nn cn] W fun y w' => ∃ (ao : Option Addr) (cap : Nat),y = .returned (.slice ao nn cap) ∧ ∃ M : List EnE,M.length = nn ∧ evs M = evs N ∧ Own w0 w' (EntsT ao cap M :: (m ++ l))) := fun W m hW => rtwins_any w0 W _ hW an nn cn N (fun w' hw' => (HQ.out w' hw'.dropA).1) HIN.out.2.2.1 (by have := HIN.out.2.1; omega)
       obtain ⟨iS,hiS,hS0,hS1,hS2⟩ := info3w Tryz.infoSent
       have H18 : Hid (Own w0 wc.drew ([Cells b (rlc c e k bud (.slice ao4 hl cap4) (t : Int) (mrk as_ at_)) 131,OffRow 138 2 (.slice ao4 hl cap4) hl (cat ele (H.map HeE.r)),Row 5 1 (.slice a7 pl c7) pl (vrow P7)] ++ l)) := hO4.drew
       have hlim : hl + 1 ≤ maxLen := by unfold maxLen; omega
       have hby : (hl + 1) * 32 ≤ 140737488355328 := by omega
       clear hO4
       go_region_law (first
        | (refine step_off rfl _ _ 129 rfl 138 iS (.agg #[.int .u32 0,.slice none 0 0]) 2 32 Tryz.underlying129 hiS hS0 hS1 hS2 rfl (by decide) _ hl _ rfl HA.out ⟨w6.heap.size,0,none⟩ 1 1 [.int .u32 (t : Int),.slice a6 nn c6] rfl rfl HNW.out (sent_one _ _ _ _) (by decide) hlim hby ?_
           intro a8 c8 w8 hO8
           have s4 := hO8.two.froz 4
           have s5 := hO8.two.cell 4
           simp [rlc] at s5
           have H8 : Hid (Own w0 w8 _) := hO8
           clear hO8)
        | (go_simp; go_at_call 11; refine (HTW.out _ [_,_,_] H18.out).mono ?_; rintro y w6 ⟨a6,c6,rfl,M6,hM1,hM2,h6⟩; dsimp only
           have h6 : Own w0 w6 (Cells b (rlc c e k bud (.slice ao4 hl cap4) (t : Int) (mrk as_ at_)) 131 :: OffRow 138 2 (.slice ao4 hl cap4) hl (cat ele (H.map HeE.r)) :: Row 5 1 (.slice a7 pl c7) pl (vrow P7) :: EntsT a6 c6 M6 :: l) := h6.sel 4 [1,2,3,0] (by decide)
           have p4 := h6.cell 4
           have h7 := h6.allocC #[.int .u32 (t : Int),.slice a6 nn c6] 138
           have r4 := h7.two.cell 4
           simp [rlc] at p4 r4
           have HA : Hid (Own w0 (w6.alloc (.cells #[.int .u32 (t : Int),.slice a6 nn c6] 138)) (OffRow 138 2 (.slice ao4 hl cap4) hl (cat ele (H.map HeE.r)) :: Cells b (rlc c e k bud (.slice ao4 hl cap4) (t : Int) (mrk as_ at_)) 131 :: Row 5 1 (.slice a7 pl c7) pl (vrow P7) :: EntsT a6 c6 M6 :: l)) := h7.tail.two
           have HNW : Hid (∀ (j : Nat) (u : Value),[Value.int .u32 (t : Int),.slice a6 nn c6][j]? = some u → (w6.alloc (.cells #[.int .u32 (t : Int),.slice a6 nn c6] 138)).cell? ((⟨w6.heap.size,0,none⟩ : Addr).add j) = some u) := cells_new w6 #[.int .u32 (t : Int),.slice a6 nn c6] 138 w6.heap.size rfl
           have HM6 : Hid (M6.length = nn ∧ evs M6 = evs N) := ⟨hM1,hM2⟩
           clear h6 h7 hM1 hM2))
       all_goals
        go_wp2
        go_meet
        case rel =>
         unfold R18
         exact ⟨rfl,a6,c6,M6,HM6.out.1,HM6.out.2,Own.putOff HM6.out.1 HL.out H8.out⟩
      case rest =>
       obtain ⟨rfl,a6,c6,M6,hM1,hM2,hO⟩ := hcut
       clear hO4 q3 q4
       have HM6 : Hid (M6.length = nn ∧ evs M6 = evs N) := ⟨hM1,hM2⟩
       obtain ⟨ao5,cap5,-,-,q2,-,q4,-,-,hlc,hcm,hO5⟩ := RLn.cells hO
       have eL : (H ++ [(⟨t,a6,c6,M6⟩ : HeE)]).length = hl + 1 := by simp [HL.out]
       obtain ⟨g,o,cap',hv,-⟩ := hO5.two.oCell (by rw [eL]; omega)
       obtain ⟨rfl,_,rfl⟩ := Value.slice.inj hv
       rw [eL] at q4 hlc hO5
       have z4 := hO5.froz 4
       have HO : Hid (Own w0 wc _) := hO
       have H5 : Hid (Own w0 wc _) := hO5
       have EL : Hid ((H ++ [(⟨t,a6,c6,M6⟩ : HeE)]).length = hl + 1) := eL
       have hcm2 : cap5 ≤ 9223372036854775807 := by unfold maxLen at hcm; omega
       clear hM1 hM2 hO hO5 hv eL hcm
       obtain ⟨bb,hbb⟩ : ∃ bb,bb = decide (k < hl + 1) := ⟨_,rfl⟩
       have HBK : Hid (bb = decide (k < hl + 1)) := hbb
       clear hbb
       go_upto_region 19 with (fail)
       go_cut [126] from 117 (R77 bb wc.drew)
       case first =>
        cases bb with
        | true =>
         have hk' : (k : Int) < (hl : Int) + 1 := by have := of_decide_eq_true HBK.out.symm; omega
         go_region_law (fail)
         all_goals
          go_wp2
          go_meet
          case rel => exact ⟨rfl,rfl⟩
        | false =>
         have hk' : ¬ (k : Int) < (hl : Int) + 1 := by have := of_decide_eq_false HBK.out.symm; omega
         go_region_law (fail)
         all_goals
          go_wp2
          go_meet
          case rel => exact ⟨rfl,rfl⟩
       case rest =>
       obtain ⟨rfl,rfl⟩ := hcut
       have HEND : Hid (∀ W,Own w0 W (RLn b c e k bud (t : Int) (mrk as_ at_) (putH k H ⟨t,a6,c6,M6⟩) :: Row 5 1 (.slice a7 pl c7) pl (vrow P7) :: EntsT a6 c6 M6 :: l) → SendPost w0 l b c e k bud ss st as_ at_ H t N (.returned (.tuple #[.slice a7 pl c7,.int .i64 0])) W) := fun W hX => by
        rw [HPL.out] at hX ⊢
        have hec := Own.entsCap (hX.sel 3 [2] (by decide))
        unfold SendPost
        refine ⟨_,0,P7,true,t,true,⟨t,a6,c6,M6⟩,rfl,.inr (.inr (.inr ⟨HST.out,HFX.out.symm,by rw [← HBO.out]; exact HP.out.1,rfl,by rw [← HBO.out]; exact HP.out.2,rfl,rfl,rfl⟩)),rfl,HM6.out.2,?_,hX.two⟩
        intro x hx
        rw [List.mem_singleton.1 hx]
        exact ⟨hec.1,hec.2,EIn.of_evs HM6.out.2 HIN.out.1,by show esz M6 ≤ 400; rw [esz_evs HM6.out.2]; exact HIN.out.2.1⟩
       cases bb with
       | true =>
        have hk : k < hl + 1 := of_decide_eq_true HBK.out.symm
        have hne : ¬ cap5 - 1 = 0 := by omega
        have hne2 : ¬ cap5 = 1 := by omega
        have hi1 : (1 : Int) ≤ (hl : Int) + 1 := by omega
        have hi2 : (hl : Int) + 1 ≤ (cap5 : Int) := by omega
        have HPH : Hid (putH k H ⟨t,a6,c6,M6⟩ = (H ++ [(⟨t,a6,c6,M6⟩ : HeE)]).drop 1) := by show _ = _; unfold putH; rw [if_pos (by rw [HL.out]; exact hk)]
        clear HO hk
        go_wp2
        go_ret2
        have hX := (Own.tail1 EL.out H5.out).drew
        rw [← HPH.out] at hX
        exact HEND.out _ hX
       | false =>
        have hk : ¬ k < hl + 1 := of_decide_eq_false HBK.out.symm
        have HPH : Hid (putH k H ⟨t,a6,c6,M6⟩ = H ++ [(⟨t,a6,c6,M6⟩ : HeE)]) := by show _ = _; unfold putH; rw [if_neg (by rw [HL.out]; exact hk)]
        have HOD : Hid (Own w0 wc.drew _) := HO.out.drew
        clear HO H5 hk
        go_wp2
        go_ret2
        have hX := HOD.out
        rw [← HPH.out] at hX
        exact HEND.out _ hX
     ·have HF : Hid (lfit c e bud t bo (evs N) = false) := hfit
      by_cases h0 : code7 = 0
      ·have h0' : ((code7 : Int) != 0) = false := by rw [h0]; rfl
       have h1' : (bud : Int) < (pl : Int) := by
        have : ¬ P7.length ≤ bud := fun hh => hno ⟨h0,hh⟩
        omega
       clear hO4 hno hfit h0 q4 hpl
       go_wp2
       go_ret2
       unfold SendPost
       exact ⟨_,3,[],true,t,false,⟨t,an,cn,N⟩,rfl,.inr (.inr (.inl ⟨HST.out,HFX.out.symm,by rw [← HBO.out]; exact HF.out,rfl,rfl,rfl,rfl,rfl⟩)),rfl,rfl,HY0.out,H7.out.tail.nilRow _ _⟩
      ·have h0' : ((code7 : Int) != 0) = true := by simpa using h0
       clear hO4 hno hfit h0 q4 hpl
       go_wp2
       go_ret2
       unfold SendPost
       exact ⟨_,3,[],true,t,false,⟨t,an,cn,N⟩,rfl,.inr (.inr (.inl ⟨HST.out,HFX.out.symm,by rw [← HBO.out]; exact HF.out,rfl,rfl,rfl,rfl,rfl⟩)),rfl,rfl,HY0.out,H7.out.tail.nilRow _ _⟩
  ·have hx1 : ((fx : Int) != 0) = true := by simpa using hx0
   have H2 : Hid (Own w0 _ _) := h2
   have HNE : Hid (fx ≠ 0) := hx0
   clear hx0 h2
   go_wp2
   go_ret2
   unfold SendPost
   refine ⟨_,fx,[],ss,st,false,⟨t,an,cn,N⟩,rfl,.inr (.inl ⟨HST.out,by rw [← HFX.out]; exact HNE.out,HFX.out,rfl,rfl,rfl,rfl⟩),rfl,rfl,HY0.out,?_⟩
   rw [← HSM.out]
   exact H2.out.nilRow _ _
end Go.Proofs.YtgifeckbflkkpaaGreatDoor
