/- Lanes: what a frame is, base and within. -/
import Derived.Test.YtgifeckbflkkpaaGreatDoorQp29
import Derived.Test.YtgifeckbflkkpaaGreatDoorQp30
import Derived.Deep.RegionHeld3
import Derived.Deep.CutBlock
import Derived.Deep.RegionLaw
namespace Go.Proofs.YtgifeckbflkkpaaGreatDoor
open Go.RowKit
set_option linter.unusedVariables false
set_option maxHeartbeats 4000000
set_option maxRecDepth 100000
def sfr (k c e t s : Nat) (W N : List En) : List Nat := frm (pack (headB k c e t s ++ contB k W N))
def wfit (k c e t s : Nat) (W N : List En) (bud : Nat) : Bool := decide (secode k c e t s W N = 0 ∧ (sfr k c e t s W N).length ≤ bud)
def wfr (k c e t s : Nat) (W N : List En) (bud : Nat) : List Nat := if wfit k c e t s W N bud = true then sfr k c e t s W N else []
def lc (c e bud rb : Nat) (ss : Bool) (st : Nat) (as_ : Bool) (at_ : Nat) : Array Value := #[.int .u8 (c : Int),.int .u32 (e : Int),.int .i64 (bud : Int),.pointer (some ⟨rb,0,none⟩),.bool ss,.int .u32 (st : Int),.bool as_,.int .u32 (at_ : Int)]
theorem lbase (w0 w : World) (l : List Thing) (b c e bud rb k st at_ : Nat) (ss as_ : Bool) (R : List (Nat × (Option Addr × Nat × Nat))) (h : Own w0 w (Cells b (lc c e bud rb ss st as_ at_) 128 :: Ringe rb k R :: l)) (hR : ROk k R) :
  Calls Tryz.prog 67 #[.pointer (some ⟨b,0,none⟩)] w fun x w' => x = .returned (gve (if as_ = true then rget R at_ else none)) ∧ Own w0 w' (Cells b (lc c e bud rb ss st as_ at_) 128 :: Ringe rb k R :: l) := by
 have p6 := h.cell 6
 have p7 := h.cell 7
 have p3 := h.cell 3
 simp [lc] at p3 p6 p7
 have H : Hid (Own w0 w (Cells b (lc c e bud rb ss st as_ at_) 128 :: Ringe rb k R :: l)) := h
 have HG : Hid (∀ W,Own w0 W (Ringe rb k R :: Cells b (lc c e bud rb ss st as_ at_) 128 :: l) → Calls Tryz.prog 65 #[.pointer (some ⟨rb,0,none⟩),.int .u32 (at_ : Int)] W fun x w' => x = .returned (gve (rget R at_)) ∧ Own w0 w' (Ringe rb k R :: Cells b (lc c e bud rb ss st as_ at_) 128 :: l)) := fun W hW => gete w0 W _ rb k R at_ hW hR
 clear h hR
 cases as_ with
 | false =>
  clear HG
  go_enter Tryz.func67,Tryz.ntmps67
  go_wp2
  go_ret2
  exact ⟨rfl,H.out⟩
 | true =>
  have O1 := H.out.two.drew
  clear H
  simp only [if_true]
  generalize rget R at_ = og at HG ⊢
  rcases og with _ | ⟨xa,xn,xc⟩
  all_goals
   (simp only [gve] at HG ⊢
    go_enter Tryz.func67,Tryz.ntmps67
    go_wp2
    go_region_held3 (fun w' => w'.cell? ⟨b,3,none⟩ = some (.pointer (some ⟨rb,0,none⟩)) ∧ w'.cell? ⟨b,7,none⟩ = some (.int .u32 (at_ : Int))) (first | exact ⟨u3,u7⟩ | go_keep)
     (first
       | (go_at_call 65; with_reducible refine (HG.out _ O1).mono ?_; rintro x w6 ⟨rfl,O6⟩
          have u3 := (Own.two O6).cell 3
          have u7 := (Own.two O6).cell 7
          simp [lc] at u3 u7))
    have H6 : Hid (Own w0 w6 _) := Own.two O6
    clear O1 O6 HG p3 p6 p7 u3 u7
    go_wp2
    go_ret2
    exact ⟨rfl,H6.out⟩)
theorem lwithin (w0 w : World) (htb : Tab w0) (htf : Tabf w0) (l : List Thing) (b c e bud rb st at_ : Nat) (ss as_ : Bool) (hbud : bud ≤ 4100) (h : Own w0 w (Cells b (lc c e bud rb ss st as_ at_) 128 :: l)) (hk hc he ht hs : Nat) (hI : HIn hk hc he ht hs) (aw an : Option Addr) (nw nn cw cn : Nat) (W N : List EnE) (hQ : ∀ w',Own w0 w' l → EntsAt w' aw W ∧ EntsAt w' an N) (hW : W.length = nw) (hN : N.length = nn) (hcw : nw ≤ cw) (hcn : nn ≤ cn) (hmw : cw ≤ 9223372036854775807) (hmn : cn ≤ 9223372036854775807) (hIW : EIn W) (hIN : EIn N) (hzW : esz W ≤ 400) (hzN : esz N ≤ 400) :
  Calls Tryz.prog 120 #[.pointer (some ⟨b,0,none⟩),.agg #[.int .u8 (hk : Int),.int .u8 (hc : Int),.int .u32 (he : Int),.int .u32 (ht : Int),.int .u32 (hs : Int)],.slice aw nw cw,.slice an nn cn] w fun x w' => ∃ v,x = .returned (.tuple #[v,.bool (wfit hk hc he ht hs (evs W) (evs N) bud)]) ∧ Own w0 w' (Row 5 1 v (wfr hk hc he ht hs (evs W) (evs N) bud).length (vrow (wfr hk hc he ht hs (evs W) (evs N) bud)) :: Cells b (lc c e bud rb ss st as_ at_) 128 :: l) := by
 have h1 := h.allocC #[.int .u8 (hk : Int),.int .u8 (hc : Int),.int .u32 (he : Int),.int .u32 (ht : Int),.int .u32 (hs : Int)] 29
 have q0 := h1.cell 0
 have q1 := h1.cell 1
 have q2 := h1.cell 2
 have q3 := h1.cell 3
 have q4 := h1.cell 4
 simp at q0 q1 q2 q3 q4
 have HP : Hid (Calls Tryz.prog 34 #[.agg #[.int .u8 (hk : Int),.int .u8 (hc : Int),.int .u32 (he : Int),.int .u32 (ht : Int),.int .u32 (hs : Int)],.slice aw nw cw,.slice an nn cn] _ _) := pseal_any w0 _ htb htf _ h1 hk hc he ht hs hI aw an nw nn cw cn W N (fun w' hw => hQ w' hw.tail.tail) hW hN hcw hcn hmw hmn hIW hIN hzW hzN
 clear h h1 hQ hW hN hcw hcn hmw hmn hIW hIN hzW hzN htb htf
 generalize w.heap.size = bh at *
 go_enter Tryz.func120,Tryz.ntmps120
 go_wp2_with fail
 refine HP.out.mono ?_
 rintro x w1 ⟨v,code,P,rfl,hR,h2⟩
 have p2 := h2.three.cell 2
 simp [lc] at p2
 have hcl := hR.1
 have H2 : Hid (Own w0 w1 (Row 5 1 v P.length (vrow P) :: Cells b (lc c e bud rb ss st as_ at_) 128 :: l)) := h2.two.tail
 obtain ⟨av,cv,hvv⟩ := row_any h2.row
 subst hvv
 have HR : Hid (SealR hk hc he ht hs (evs W) (evs N) code P) := hR
 clear h2 hR HP q0 q1 q2 q3 q4
 by_cases h0 : code = 0
 ·subst h0
  obtain ⟨-,-,hP,hPl⟩ := HR.out.2.2.1 rfl
  have HPP : Hid (P = sfr hk hc he ht hs (evs W) (evs N)) := hP
  have HS0 : Hid (0 = secode hk hc he ht hs (evs W) (evs N)) := HR.out.2.2.2.1
  clear HR hP
  generalize hpl : P.length = pl at *
  have HPL : Hid (P.length = pl) := hpl
  clear hpl
  by_cases h1 : pl ≤ bud
  ·have hfit : wfit hk hc he ht hs (evs W) (evs N) bud = true := decide_eq_true ⟨HS0.out.symm,by rw [← HPP.out,HPL.out]; exact h1⟩
   have HWF : Hid (wfr hk hc he ht hs (evs W) (evs N) bud = P) := by show _ = _; unfold wfr; rw [if_pos hfit,HPP.out]
   have HFT : Hid (wfit hk hc he ht hs (evs W) (evs N) bud = true) := hfit
   have g1 : ¬ (bud : Int) < (pl : Int) := by omega
   clear h1 hfit
   go_wp2
   go_ret2
   refine ⟨_,(by rw [HFT.out]; rfl),?_⟩
   rw [HWF.out,HPL.out]
   exact H2.out
  ·have hfit : wfit hk hc he ht hs (evs W) (evs N) bud = false := decide_eq_false (fun hh => h1 (by rw [← HPL.out,HPP.out]; exact hh.2))
   have HWF : Hid (wfr hk hc he ht hs (evs W) (evs N) bud = []) := by show _ = _; unfold wfr; rw [hfit]; rfl
   have HFT : Hid (wfit hk hc he ht hs (evs W) (evs N) bud = false) := hfit
   have g1 : (bud : Int) < (pl : Int) := by omega
   clear h1 hfit
   go_wp2
   go_ret2
   refine ⟨_,(by rw [HFT.out]; rfl),?_⟩
   rw [HWF.out]
   exact H2.out.tail.nilRow _ _
 ·have hfit : wfit hk hc he ht hs (evs W) (evs N) bud = false := decide_eq_false (fun hh => h0 (HR.out.2.2.2.1.trans hh.1))
  have HWF : Hid (wfr hk hc he ht hs (evs W) (evs N) bud = []) := by show _ = _; unfold wfr; rw [hfit]; rfl
  have z0 : ((code : Int) != 0) = true := by simpa using h0
  have HFT : Hid (wfit hk hc he ht hs (evs W) (evs N) bud = false) := hfit
  clear h0 hfit HR
  go_wp2
  go_ret2
  refine ⟨_,(by rw [HFT.out]; rfl),?_⟩
  rw [HWF.out]
  exact H2.out.tail.nilRow _ _
def lfit (c e bud t : Nat) (bo : Option (Nat × List En)) (N : List En) : Bool := (match bo with | some x => wfit 2 c e t x.1 x.2 N bud | none => false) || wfit 1 c e t 0 [] N bud
def lfrm (c e bud t : Nat) (bo : Option (Nat × List En)) (N : List En) : List Nat := match bo with
 | some x => if wfit 2 c e t x.1 x.2 N bud = true then sfr 2 c e t x.1 x.2 N else wfr 1 c e t 0 [] N bud
 | none => wfr 1 c e t 0 [] N bud
theorem entsAt_nil (w : World) : EntsAt w none [] := ⟨.inl rfl,fun x hx => by cases hx⟩
structure HeE where
 t : Nat
 ao : Option Addr
 cap : Nat
 L : List EnE
def HeE.r (x : HeE) : Nat × (Option Addr × Nat × Nat) := (x.t,(x.ao,x.L.length,x.cap))
def hget (H : List HeE) (t : Nat) : Option HeE := match H[below t (H.map HeE.r)]? with
 | some x => if x.t = t then some x else none
 | none => none
theorem rget_hget (H : List HeE) (t : Nat) : rget (H.map HeE.r) t = (hget H t).map (fun x => (x.ao,x.L.length,x.cap)) := by
 unfold rget hget
 rw [List.getElem?_map]
 cases H[below t (H.map HeE.r)]? with
 | none => rfl
 | some x =>
  simp only [Option.map_some]
  show (if x.t = t then some (HeE.r x).2 else none) = _
  split <;> rfl
theorem hget_mem {H : List HeE} {t : Nat} {x : HeE} (h : hget H t = some x) : x ∈ H ∧ x.t = t := by
 unfold hget at h
 cases hx : H[below t (H.map HeE.r)]? with
 | none => rw [hx] at h; cases h
 | some y =>
  rw [hx] at h
  simp only at h
  split at h
  ·rename_i he
   simp only [Option.some.injEq] at h
   subst h
   exact ⟨List.mem_of_getElem? hx,he⟩
  ·cases h
def HOk (H : List HeE) : Prop := ∀ x ∈ H,x.L.length ≤ x.cap ∧ x.cap ≤ 9223372036854775807 ∧ EIn x.L ∧ esz x.L ≤ 400
def lbo (H : List HeE) (as_ : Bool) (at_ : Nat) : Option (Nat × List En) := if as_ = true then (hget H at_).map (fun x => (at_,evs x.L)) else none
theorem perm_lc (P Q R : Thing) (m : List Thing) : (P :: Q :: R :: m).Perm (Q :: R :: P :: m) := (List.Perm.swap Q P (R :: m)).trans ((List.Perm.swap R P m).cons Q)
theorem lframe (w0 w : World) (htb : Tab w0) (htf : Tabf w0) (l : List Thing) (b c e bud rb k st at_ : Nat) (ss as_ : Bool) (H : List HeE) (hR : ROk k (H.map HeE.r)) (hH : HOk H) (hbud : bud ≤ 4100) (hc : c < 256) (he : e < 4294967296) (ha : at_ < 4294967296) (h : Own w0 w (Cells b (lc c e bud rb ss st as_ at_) 128 :: Ringe rb k (H.map HeE.r) :: l)) (t : Nat) (ht : t < 4294967296) (an : Option Addr) (nn cn : Nat) (N : List EnE) (hQ : ∀ w',Own w0 w' l → EntsAt w' an N ∧ ∀ x ∈ H,EntsAt w' x.ao x.L) (hN : N.length = nn) (hcn : nn ≤ cn) (hmn : cn ≤ 9223372036854775807) (hIN : EIn N) (hzN : esz N ≤ 400) :
  Calls Tryz.prog 61 #[.pointer (some ⟨b,0,none⟩),.int .u32 (t : Int),.slice an nn cn] w fun x w' => ∃ v,x = .returned (.tuple #[v,.bool (lfit c e bud t (lbo H as_ at_) (evs N))]) ∧ Own w0 w' (Row 5 1 v (lfrm c e bud t (lbo H as_ at_) (evs N)).length (vrow (lfrm c e bud t (lbo H as_ at_) (evs N))) :: Cells b (lc c e bud rb ss st as_ at_) 128 :: Ringe rb k (H.map HeE.r) :: l) := by
 obtain ⟨LC,hLC⟩ : ∃ LC,LC = lc c e bud rb ss st as_ at_ := ⟨_,rfl⟩
 have HB : Hid (∀ W l',Own w0 W (Cells b LC 128 :: Ringe rb k (H.map HeE.r) :: l') → Calls Tryz.prog 67 #[.pointer (some ⟨b,0,none⟩)] W fun x w' => x = .returned (gve (if as_ = true then rget (H.map HeE.r) at_ else none)) ∧ Own w0 w' (Cells b LC 128 :: Ringe rb k (H.map HeE.r) :: l')) := fun W l' hW => by
  rw [hLC] at hW ⊢
  exact lbase w0 W l' b c e bud rb k st at_ ss as_ _ hW hR
 have HWI : Hid (∀ W m,Own w0 W (Cells b LC 128 :: (m ++ (Ringe rb k (H.map HeE.r) :: l))) → Calls Tryz.prog 120 #[.pointer (some ⟨b,0,none⟩),.agg #[.int .u8 1,.int .u8 (c : Int),.int .u32 (e : Int),.int .u32 (t : Int),.int .u32 0],.slice none 0 0,.slice an nn cn] W fun x w' => ∃ v,x = .returned (.tuple #[v,.bool (wfit 1 c e t 0 [] (evs N) bud)]) ∧ Own w0 w' (Row 5 1 v (wfr 1 c e t 0 [] (evs N) bud).length (vrow (wfr 1 c e t 0 [] (evs N) bud)) :: Cells b LC 128 :: (m ++ (Ringe rb k (H.map HeE.r) :: l)))) := fun W m hW => by
  rw [hLC] at hW ⊢
  exact lwithin w0 W htb htf _ b c e bud rb st at_ ss as_ hbud hW 1 c e t 0 ⟨by omega,hc,he,ht,by omega⟩ none an 0 nn 0 cn [] N (fun w' hw => ⟨entsAt_nil w',(hQ w' hw.dropA.tail).1⟩) rfl hN (by omega) hcn (by omega) hmn (fun x hx => by cases hx) hIN (by unfold esz; simp [csz]) hzN
 have HWS : Hid (∀ W m,∀ x ∈ H,Own w0 W (Cells b LC 128 :: (m ++ (Ringe rb k (H.map HeE.r) :: l))) → Calls Tryz.prog 120 #[.pointer (some ⟨b,0,none⟩),.agg #[.int .u8 2,.int .u8 (c : Int),.int .u32 (e : Int),.int .u32 (t : Int),.int .u32 (at_ : Int)],.slice x.ao x.L.length x.cap,.slice an nn cn] W fun y w' => ∃ v,y = .returned (.tuple #[v,.bool (wfit 2 c e t at_ (evs x.L) (evs N) bud)]) ∧ Own w0 w' (Row 5 1 v (wfr 2 c e t at_ (evs x.L) (evs N) bud).length (vrow (wfr 2 c e t at_ (evs x.L) (evs N) bud)) :: Cells b LC 128 :: (m ++ (Ringe rb k (H.map HeE.r) :: l)))) := fun W m x hx hW => by
  rw [hLC] at hW ⊢
  exact lwithin w0 W htb htf _ b c e bud rb st at_ ss as_ hbud hW 2 c e t at_ ⟨by omega,hc,he,ht,ha⟩ x.ao an x.L.length nn x.cap cn x.L N (fun w' hw => ⟨(hQ w' hw.dropA.tail).2 x hx,(hQ w' hw.dropA.tail).1⟩) rfl hN (hH x hx).1 hcn (hH x hx).2.1 hmn (hH x hx).2.2.1 hIN (hH x hx).2.2.2 hzN
 have p0 := h.cell 0
 have p1 := h.cell 1
 have hz := h.allocC #[.int .u8 0,.int .u8 0,.int .u32 0,.int .u32 0,.int .u32 0] 29
 have q0 := hz.two.cell 0
 have q1 := hz.two.cell 1
 simp [lc] at p0 p1 q0 q1
 have HZ : Hid (Own w0 _ _) := hz
 have HO : Hid (Own w0 w _) := h
 have P7 : Hid (∀ W l',Own w0 W (Cells b LC 128 :: l') → W.cell? ⟨b,7,none⟩ = some (.int .u32 (at_ : Int))) := fun W l' hW => by
  have := hW.cell 7
  rw [hLC] at this
  simpa [lc] using this
 rw [← hLC] at HO HZ ⊢
 obtain ⟨ob,hob⟩ : ∃ ob,ob = if as_ = true then hget H at_ else none := ⟨_,rfl⟩
 have hrg : (if as_ = true then rget (H.map HeE.r) at_ else none) = ob.map (fun x => (x.ao,x.L.length,x.cap)) := by rw [hob,rget_hget]; split <;> rfl
 have HLB : Hid (lbo H as_ at_ = ob.map (fun x => (at_,evs x.L))) := by show _ = _; unfold lbo; rw [hob]; split <;> rfl
 have HMM : Hid (∀ x,ob = some x → x ∈ H) := fun x hx => by
  rw [hob] at hx
  split at hx
  ·exact (hget_mem hx).1
  ·cases hx
 rw [hrg] at HB
 rw [HLB.out]
 clear h hz hQ hN hcn hmn hIN hzN htb htf hR hH hbud hLC hob hrg HLB
 go_enter Tryz.func61,Tryz.ntmps61
 go_wp2
 go_cut [8] from 14 (fun v8 wc => ∃ bh : Nat,v8 = .pointer (some ⟨bh,0,none⟩) ∧ Own w0 wc (Cells bh #[.int .u8 1,.int .u8 (c : Int),.int .u32 (e : Int),.int .u32 (t : Int),.int .u32 0] 29 :: Cells b LC 128 :: Ringe rb k (H.map HeE.r) :: l))
 case first =>
  go_region_law (fail)
  all_goals
   go_wp2
   go_meet
   case rel =>
    first
     | exact ⟨_,rfl,(HO.out.allocC #[.int .u8 1,.int .u8 (c : Int),.int .u32 (e : Int),.int .u32 (t : Int),.int .u32 0] 29).drew⟩
     | exact ⟨_,rfl,HO.out.drew.allocC #[.int .u8 1,.int .u8 (c : Int),.int .u32 (e : Int),.int .u32 (t : Int),.int .u32 0] 29⟩
     | trace_state
 case rest =>
  obtain ⟨bh,rfl,hO⟩ := hcut
  have hbc := HB.out wc _ (hO.perm (perm_lc _ _ _ _))
  clear hO HZ HO p0 p1 q0 q1 HB
  rcases ob with _ | x
  ·have HBC : Hid (Calls _ _ _ _ _) := hbc
   clear hbc HMM HWS P7
   go_wp2_with fail
   refine HBC.out.mono ?_
   rintro y w3 ⟨rfl,h3⟩
   have c0 := h3.three.cell 0
   have c1 := h3.three.cell 1
   have c2 := h3.three.cell 2
   have c3 := h3.three.cell 3
   have c4 := h3.three.cell 4
   simp at c0 c1 c2 c3 c4
   have HW2 : Hid (Calls _ _ _ _ _) := HWI.out w3 [_] h3.in23
   clear h3 HBC HWI
   simp only [gve,Option.map_none]
   go_wp2_with fail
   refine HW2.out.mono ?_
   rintro y w4 ⟨v,rfl,h4⟩
   have H4 : Hid (Own w0 _ _) := h4.three.tail
   clear h4 HW2 c0 c1 c2 c3 c4
   go_wp2
   go_ret2
   exact ⟨v,by unfold lfit; simp,H4.out⟩
  ·have HBC : Hid (Calls _ _ _ _ _) := hbc
   have HMX : Hid (x ∈ H) := HMM.out x rfl
   clear hbc HMM
   obtain ⟨xt,xa,xc,xL⟩ := x
   obtain ⟨xl,hxl⟩ : ∃ xl,xl = xL.length := ⟨_,rfl⟩
   have HXL : Hid (xL.length = xl) := hxl.symm
   go_wp2_with fail
   refine HBC.out.mono ?_
   rintro y w3 ⟨rfl,h3⟩
   simp only [gve,Option.map_some]
   rw [← hxl]
   have c0 := h3.three.cell 0
   have c1 := h3.three.cell 1
   have c2 := h3.three.cell 2
   have c3 := h3.three.cell 3
   have c4 := h3.three.cell 4
   simp at c0 c1 c2 c3 c4
   have h3b : Own w0 w3 (Cells bh #[.int .u8 1,.int .u8 (c : Int),.int .u32 (e : Int),.int .u32 (t : Int),.int .u32 0] 29 :: Cells b LC 128 :: Ringe rb k (H.map HeE.r) :: l) := h3.three
   have h4 := h3b.allocC #[.int .u8 1,.int .u8 (c : Int),.int .u32 (e : Int),.int .u32 (t : Int),.int .u32 0] 29
   have p7 := P7.out _ _ h3b.two
   have n1 := h3b.two.lt
   have n2 : w3.heap.size ≠ b := by omega
   have H3B : Hid (Own w0 _ _) := h3b
   have y0 := h4.froz 0
   have y4 := h4.froz 4
   have z0 := h4.cell 0
   have z4 := h4.cell 4
   simp at z0 z4
   have H4 : Hid (Own w0 _ _) := h4.drew
   clear h3 h3b h4 HBC hxl
   go_wp2
   go_cut [] (fun wc => Own w0 wc (Cells w3.heap.size #[.int .u8 2,.int .u8 (c : Int),.int .u32 (e : Int),.int .u32 (t : Int),.int .u32 (at_ : Int)] 29 :: Cells bh #[.int .u8 1,.int .u8 (c : Int),.int .u32 (e : Int),.int .u32 (t : Int),.int .u32 0] 29 :: Cells b LC 128 :: Ringe rb k (H.map HeE.r) :: l))
   case first =>
    go_region_law (fail)
    all_goals
     go_wp2
     go_meet
     case rel =>
      first
       | exact (H3B.out.allocC #[.int .u8 2,.int .u8 (c : Int),.int .u32 (e : Int),.int .u32 (t : Int),.int .u32 (at_ : Int)] 29).drew
       | exact H3B.out.drew.allocC #[.int .u8 2,.int .u8 (c : Int),.int .u32 (e : Int),.int .u32 (t : Int),.int .u32 (at_ : Int)] 29
       | (have h5 := (H4.out.setC 0 (.int .u8 2)).setC 4 (.int .u32 (at_ : Int))
          simp at h5
          exact h5)
   case rest =>
    have h5 := hcut
    clear hcut H4 H3B n1 n2 y0 y4 z0 z4 c0 c1 c2 c3 c4 p7 P7
    generalize w3.heap.size = bs at *
    have c0 := h5.cell 0
    have c1 := h5.cell 1
    have c2 := h5.cell 2
    have c3 := h5.cell 3
    have c4 := h5.cell 4
    simp at c0 c1 c2 c3 c4
    have hw := HWS.out wc [_,_] _ HMX.out h5.three
    simp only [HXL.out] at hw
    have HW2 : Hid (Calls _ _ _ _ _) := hw
    clear h5 hw HWS
    go_wp2_with fail
    refine HW2.out.mono ?_
    rintro y w4 ⟨v,rfl,h6⟩
    clear HW2 c0 c1 c2 c3 c4
    cases hwf : wfit 2 c e t at_ (evs xL) (evs N) bud with
    | true =>
     have HWF : Hid (wfit 2 c e t at_ (evs xL) (evs N) bud = true) := hwf
     have h7 := h6.three.tail.three.tail
     have e : wfr 2 c e t at_ (evs xL) (evs N) bud = lfrm c e bud t (some (at_,evs xL)) (evs N) := by unfold wfr lfrm; simp only [hwf,if_true]
     rw [e] at h7
     have H7 : Hid (Own w0 _ _) := h7
     clear h6 h7 e hwf HWI
     go_wp2
     go_ret2
     have e2 : lfit c e bud t (some (at_,evs xL)) (evs N) = true := by unfold lfit; simp only [HWF.out,Bool.true_or]
     refine ⟨v,?_,H7.out⟩
     show _ = Ending.returned (.tuple #[v,.bool (lfit c e bud t (some (at_,evs xL)) (evs N))])
     rw [e2]; rfl
    | false =>
     have HWF : Hid (wfit 2 c e t at_ (evs xL) (evs N) bud = false) := hwf
     have h7 := h6.tail
     have d0 := h7.three.cell 0
     have d1 := h7.three.cell 1
     have d2 := h7.three.cell 2
     have d3 := h7.three.cell 3
     have d4 := h7.three.cell 4
     simp at d0 d1 d2 d3 d4
     have HW3 : Hid (Calls _ _ _ _ _) := HWI.out w4 [_,_] h7
     clear h6 h7 hwf HWI
     go_wp2_with fail
     refine HW3.out.mono ?_
     rintro y w5 ⟨v5,rfl,h8⟩
     have h9 := h8.three.tail.three.tail
     have e : wfr 1 c e t 0 [] (evs N) bud = lfrm c e bud t (some (at_,evs xL)) (evs N) := by unfold lfrm; simp only [HWF.out]; simp
     rw [e] at h9
     have H9 : Hid (Own w0 _ _) := h9
     clear h8 h9 e HW3 d0 d1 d2 d3 d4
     go_wp2
     go_ret2
     have e2 : lfit c e bud t (some (at_,evs xL)) (evs N) = wfit 1 c e t 0 [] (evs N) bud := by unfold lfit; simp only [HWF.out,Bool.false_or]
     refine ⟨v5,?_,H9.out⟩
     show _ = Ending.returned (.tuple #[v5,.bool (lfit c e bud t (some (at_,evs xL)) (evs N))])
     rw [e2]; rfl
end Go.Proofs.YtgifeckbflkkpaaGreatDoor
