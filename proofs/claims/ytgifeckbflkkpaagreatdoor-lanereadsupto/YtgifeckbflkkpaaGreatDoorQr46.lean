/- The document's Seal of any packet; Peek and Open of what isn't a frame. -/
import Derived.Test.YtgifeckbflkkpaaGreatDoorQr45
import Derived.Test.YtgifeckbflkkpaaGreatDoorQr13
import Derived.Test.YtgifeckbflkkpaaGreatDoorQr39
import Derived.Test.YtgifeckbflkkpaaGreatDoorQr14
import Derived.Test.YtgifeckbflkkpaaGreatDoorQr41
import Derived.Deep.RegionHeld3
namespace Go.Proofs.YtgifeckbflkkpaaGreatDoor
open Go.RowKit
set_option linter.unusedVariables false
set_option maxHeartbeats 2000000
set_option maxRecDepth 100000
theorem rseal20 (w0 w : World) (l : List Thing) (h : Own w0 w l) (k c e t s : Nat) (hI : HIn k c e t s) (aw an : Option Addr) (nw nn cw cn : Nat) (W N : List EnE) (hQ : ∀ w',Own w0 w' l → EntsAt w' aw W ∧ EntsAt w' an N) (hW : W.length = nw) (hN : N.length = nn) (hIW : EIn W) (hIN : EIn N) (hzW : esz W ≤ 400) (hzN : esz N ≤ 400) :
  Calls Tryz.prog 32 #[.agg (hvs k c e t s),.slice aw nw cw,.slice an nn cn] w fun x w' => ∃ v code P,x = .returned (.tuple #[v,.int .i64 ((code : Nat) : Int)]) ∧ SealR k c e t s (evs W) (evs N) code P ∧ Own w0 w' (Row 5 1 v P.length (vrow P) :: l) := by
 by_cases hc : hchk k c e t s = 0
 ·by_cases k1 : k = 1
  ·subst k1
   exact rseal_1 w0 w l h c e t s hI hc aw an nw nn cw cn W N hQ hW hN hIW hIN hzW hzN
  ·by_cases k2 : k = 2
   ·subst k2
    exact rseal_2 w0 w l h c e t s hI hc aw an nw nn cw cn W N hQ hW hN hIW hIN hzW hzN
   ·exact rseal_3 w0 w l h k c e t s hI hc k1 k2 aw an nw nn cw cn W N hQ hW hN hIW hIN hzW hzN
 ·exact rseal_bad w0 w l h k c e t s hI hc aw an nw nn cw cn W N hQ hW hN hIW hIN hzW hzN
def ele (e : Nat × (Option Addr × Nat × Nat)) : List Value := [.int .u32 (e.1 : Int),(.slice (e.2).1 (e.2).2.1 (e.2).2.2)]
theorem ele_len (e : Nat × (Option Addr × Nat × Nat)) : (ele e).length = 2 := rfl
theorem ele_one (e : Nat × (Option Addr × Nat × Nat)) : ∀ u ∈ ele e,u.oneCell' = true := by
 intro u hu
 simp [ele] at hu
 rcases hu with rfl | rfl <;> rfl
theorem Tryz.infoHe : (Tryz.prog.info? 203).map (fun i => (i.zero,i.size,i.bytes)) = some (some (.agg #[.int .u32 0,.slice none 0 0]),2,32) := by kernel_rfl
theorem zeroHe (w : World) : (zeroValue 203).run Tryz.prog w = .ok (.agg #[.int .u32 0,.slice none 0 0]) w := by kernel_rfl
def Ringe (b k : Nat) (L : List (Nat × (Option Addr × Nat × Nat))) : Thing := Ex (fun v : Value => [Cells b #[.int .i64 (k : Int),v] 196,Row 203 2 v L.length (cat ele L)])
set_option maxRecDepth 100000 in
theorem dele (w0 w : World) (l : List Thing) (v : Value) (L : List (Nat × (Option Addr × Nat × Nat))) (n : Nat) (h : Own w0 w (Row 203 2 v L.length (cat ele L) :: l)) (hn : n ≤ L.length) (hL : L.length ≤ 1000) :
  Calls Tryz.prog 150 #[v,.int .i64 0,.int .i64 (n : Int)] w fun e w' => ∃ ao' cap',e = .returned (.slice ao' (L.length - n) cap') ∧ Own w0 w' (Row 203 2 (.slice ao' (L.length - n) cap') (L.length - n) (cat ele (L.drop n)) :: l) := by
 obtain ⟨ao,cap,rfl⟩ := row_any h.row
 by_cases h0 : n = 0
 ·subst h0
  have hlc : L.length ≤ cap := by
   rcases h.row.2 with ⟨h1,h2⟩ | ⟨g,c,cur,h1,_,_,h2,_⟩
   ·omega
   ·have := Value.slice.inj h1; omega
  have hcm : cap ≤ 9223372036854775807 := by
   rcases h.row.2 with ⟨h1,h2⟩ | ⟨g,c,cur,h1,_,_,h2,h3,_⟩
   ·have := Value.slice.inj h1; omega
   ·have := Value.slice.inj h1; unfold maxLen at h3; omega
  have H : Hid (Own w0 w _) := h
  clear h
  cases ao with
  | none =>
   have hc0 : cap = 0 ∧ L.length = 0 := by
    rcases H.out.row.2 with ⟨h1,h2⟩ | ⟨g,c,cur,h1,_⟩
    ·exact ⟨(Value.slice.inj h1).2.2,h2⟩
    ·have := (Value.slice.inj h1).1; cases this
   obtain ⟨rfl,hl0⟩ := hc0
   rw [hl0]
   have H2 : Hid (Own w0 w (Row 203 2 (.slice none 0 0) 0 (cat ele L) :: l)) := by have := H.out; rw [hl0] at this; exact this
   clear hlc H
   go_enter Tryz.func150,Tryz.ntmps150
   go_wp2
   go_ret
   exact ⟨none,0,rfl,H2.out⟩
  | some a =>
   generalize L.length = ln at *
   go_enter Tryz.func150,Tryz.ntmps150
   go_wp2
   all_goals
    go_ret
    exact ⟨some a,cap,rfl,H.out⟩
 ·have hln : 0 < L.length := by omega
  obtain ⟨g,cap',he,_⟩ := row_shape h.row hln
  cases he
  obtain ⟨hlc,hcm⟩ := (row_cap h.row).2
  unfold maxLen at hcm
  obtain ⟨i0,hi,hz0,hz1,hz2⟩ := info_parts Tryz.infoHe
  obtain ⟨A,hA⟩ : ∃ A : Addr,A = if cap = n then ⟨g,0,none⟩ else ⟨g,n * 2,none⟩ := ⟨_,rfl⟩
  obtain ⟨w1,hrun,hO1⟩ := h.drew.moved (P := Tryz.prog) 194 194 i0 Tryz.underlying194 hi hz1 (one_cat _ ele_one L) n hn A hA
  obtain ⟨w2,hcl,hO2⟩ := hO1.cleared (P := Tryz.prog) 194 (.agg #[.int .u32 0,.slice none 0 0]) Tryz.underlying194 zeroHe rfl (by intro u hu; simp [Value.cells] at hu; rcases hu with rfl | rfl <;> rfl) (by decide) n (cap - (L.length - n)) (by omega) (by omega)
  rw [cat_drop ele 2 ele_len] at hO2
  have HR : Hid _ := hrun
  have H2 : Hid (Own w0 w2 _) := hO2
  have hA' : (if cap = n then some (⟨g,0,none⟩ : Addr) else some ⟨g,n * 2,none⟩) = some A := by rw [hA]; split <;> rfl
  have hnz : ((0 : Int) == (n : Int)) = false := by simp; omega
  have hn0 : ¬ (0 : Int) = (n : Int) := by omega
  clear hrun hO1 hO2 hA h
  generalize L.length = ln at *
  have hsub : ln - (ln - n) = n := by omega
  have hcc : ln ≤ cap := by omega
  have hnc : n ≤ cap := by omega
  have hmc : ¬ cap = ln - n := by omega
  go_enter Tryz.func150,Tryz.ntmps150
  go_wp2_with fail
  go_region_law (refine step_run rfl (.tmp 22) (.tmp 25) 194 194 194 rfl rfl (.slice (some ⟨g,0,none⟩) 0 cap) (.slice (some A) (ln - n) (cap - n)) (.slice (some ⟨g,0,none⟩) (ln - n) cap) w1 (by simp [Act.eval,Act.put]) (by simp [Act.eval,Act.put]) HR.out ?_)
  go_wp2
  go_ret
  exact ⟨some ⟨g,0,none⟩,cap,rfl,H2.out⟩
set_option maxRecDepth 100000 in
theorem drope (w0 w : World) (l : List Thing) (b k : Nat) (L : List (Nat × (Option Addr × Nat × Nat))) (n : Nat) (h : Own w0 w (Ringe b k L :: l)) (hn : n ≤ L.length) (hL : L.length ≤ 1000) :
  Calls Tryz.prog 121 #[.pointer (some ⟨b,0,none⟩),.int .i64 (n : Int)] w fun e w' => e = .returned (.tuple #[]) ∧ Own w0 w' (Ringe b k (L.drop n) :: l) := by
 obtain ⟨v,h⟩ := Own.ex_iff.1 h
 have q1 := h.cell 1
 simp at q1
 have HD : Hid (Calls _ _ _ _ _) := dele w0 w _ v L n h.two hn hL
 obtain ⟨ao,cap,rfl⟩ := row_any h.two.row
 clear h
 go_enter Tryz.func121,Tryz.ntmps121
 go_wp2_with fail
 refine HD.out.mono ?_
 rintro e w1 ⟨ao',cap',rfl,hO⟩
 have k1 := hO.two.cell 1
 have z1 := hO.two.froz 1
 simp at k1
 have H1 : Hid (Own w0 w1 _) := hO
 clear hO HD
 go_wp2
 go_end0
 refine ⟨rfl,Own.ex_iff.2 ⟨.slice ao' (L.length - n) cap',?_⟩⟩
 rw [List.length_drop]
 exact H1.out.two.setC 1 _
theorem newe (w0 w : World) (l : List Thing) (k : Nat) (h : Own w0 w l) (h1 : 1 ≤ k) (h2 : k ≤ 64) :
  Calls Tryz.prog 58 #[.int .i64 (k : Int)] w fun e w' => ∃ b,e = .returned (.tuple #[.pointer (some ⟨b,0,none⟩),.int .i64 0]) ∧ Own w0 w' (Ringe b k [] :: l) := by
 have H : Hid (Own w0 w l) := h
 clear h
 go_enter Tryz.func58,Tryz.ntmps58
 go_wp2
 go_ret2
 refine ⟨_,rfl,Own.ex_iff.2 ⟨.slice none 0 0,?_⟩⟩
 exact ((H.out.allocC #[.int .i64 (k : Int),.slice none 0 0] 196).nilRow 203 2).two
theorem rcelle {w0 w : World} {l : List Thing} {g n cap : Nat} {L : List (Nat × (Option Addr × Nat × Nat))} (h : Own w0 w (Row 203 2 (.slice (some ⟨g,0,none⟩) n cap) L.length (cat ele L) :: l)) (hn : n = L.length) (i : Nat) (e : Nat × (Option Addr × Nat × Nat)) (he : L[i]? = some e) :
  w.cell? ⟨g,i * 2,none⟩ = some (.int .u32 (e.1 : Int)) ∧ w.cell? ⟨g,i * 2 + 1,none⟩ = some ((.slice (e.2).1 (e.2).2.1 (e.2).2.2)) := by
 subst hn
 have hi := (List.getElem?_eq_some_iff.1 he).1
 refine ⟨?_,?_⟩
 ·rw [h.row.cellAt _ (by omega)]
  exact (cat_at ele 2 ele_len L i 0 e he (by decide)).trans rfl
 ·rw [h.row.cellAt _ (by omega)]
  exact (cat_at ele 2 ele_len L i 1 e he (by decide)).trans rfl
set_option maxRecDepth 100000 in
theorem pute (w0 w : World) (l : List Thing) (b k : Nat) (L : List (Nat × (Option Addr × Nat × Nat))) (t : Nat) (x : (Option Addr × Nat × Nat)) (h : Own w0 w (Ringe b k L :: l)) (hR : ROk k L) (ht : t < 4294967296) :
  Calls Tryz.prog 62 #[.pointer (some ⟨b,0,none⟩),.int .u32 (t : Int),(.slice (x).1 (x).2.1 (x).2.2)] w fun e w' => e = .returned (.int .i64 (rput k L t x).1) ∧ Own w0 w' (Ringe b k (rput k L t x).2 :: l) := by
 have H0 : Hid (Own w0 w (Ringe b k L :: l)) := h
 obtain ⟨v,h⟩ := Own.ex_iff.1 h
 have q0 := h.cell 0
 have q1 := h.cell 1
 simp at q0 q1
 obtain ⟨ao,cap,rfl⟩ := row_any h.two.row
 have hk := hR.k2
 have hle := hR.le
 obtain ⟨i0,hi,hz0,hz1,hz2⟩ := info_parts Tryz.infoHe
 have H : Hid (Own w0 w (Cells b #[.int .i64 (k : Int),.slice ao L.length cap] 196 :: Row 203 2 (.slice ao L.length cap) L.length (cat ele L) :: l)) := h
 have HR : Hid (ROk k L) := hR
 clear h hR
 by_cases hst : ∃ e,L.getLast? = some e ∧ t ≤ e.1
 ·have HP : Hid (rput k L t x = (12,L)) := by unfold rput; exact if_pos hst
  obtain ⟨e,he,hte⟩ := hst
  have hlen : 0 < L.length := by
   cases L with
   | nil => simp at he
   | cons a L => simp
  obtain ⟨g,cap',hv,_⟩ := row_shape H.out.two.row hlen
  cases hv
  rw [List.getLast?_eq_getElem?] at he
  obtain ⟨c0,_⟩ := rcelle H.out.two rfl (L.length - 1) e he
  have hlen' : (0 : Int) < (L.length : Int) := by omega
  have hte' : (t : Int) ≤ (e.1 : Int) := by omega
  have he2 := HR.out.lt e (List.mem_of_getElem? he)
  have hte2 := hte
  generalize e.1 = et at *
  have hidx : ((L.length : Int) - 1) = ((L.length - 1 : Nat) : Int) := by omega
  have hidl : L.length - 1 < L.length := by omega
  clear he
  generalize hm : L.length - 1 = m at *
  clear hm
  generalize hln : L.length = ln at *
  go_enter Tryz.func62,Tryz.ntmps62
  go_wp2
  go_ret
  rw [HP.out]
  exact ⟨rfl,H0.out⟩
 ·obtain ⟨M,hM⟩ : ∃ M,M = L ++ [(t,x)] := ⟨_,rfl⟩
  have HM : Hid (M.length = L.length + 1 ∧ cat ele M = cat ele L ++ [.int .u32 (t : Int),(.slice (x).1 (x).2.1 (x).2.2)]) := ⟨by rw [hM]; simp,by rw [hM,cat_append]; rfl⟩
  have HP : Hid (rput k L t x = (0,if k < L.length + 1 then M.drop 1 else M)) := by unfold rput; rw [hM]; exact if_neg hst
  have hcase : L.length = 0 ∨ (0 < L.length ∧ ∃ g e et,ao = some ⟨g,0,none⟩ ∧ L[L.length - 1]? = some e ∧ et = e.1 ∧ et < t ∧ w.cell? ⟨g,(L.length - 1) * 2,none⟩ = some (.int .u32 (et : Int))) := by
   rcases Nat.eq_zero_or_pos L.length with c | c
   ·exact .inl c
   ·right
    obtain ⟨g,cap',hv,_⟩ := row_shape H.out.two.row c
    have hg := (Value.slice.inj hv).1
    subst hg
    obtain ⟨e,he⟩ : ∃ e,L[L.length - 1]? = some e := ⟨_,List.getElem?_eq_getElem (by omega)⟩
    refine ⟨c,g,e,e.1,rfl,he,rfl,?_,(rcelle H.out.two rfl _ e he).1⟩
    rcases Nat.lt_or_ge e.1 t with q | q
    ·exact q
    ·exact absurd ⟨e,by rw [List.getLast?_eq_getElem?]; exact he,q⟩ hst
  clear hst hM
  have hfin : Hid (∀ g' c' w1,Own w0 w1 (Row 203 2 (.slice (some ⟨g',0,none⟩) (L.length + 1) c') (L.length + 1) (cat ele L ++ [.int .u32 (t : Int),(.slice (x).1 (x).2.1 (x).2.2)]) :: Cells b #[.int .i64 (k : Int),.slice ao L.length cap] 196 :: l) → Own w0 (w1.setCell ⟨b,1,none⟩ (.slice (some ⟨g',0,none⟩) (L.length + 1) c')) (Ringe b k M :: l)) := by
   intro g' c' w1 hO
   refine Own.ex_iff.2 ⟨.slice (some ⟨g',0,none⟩) (L.length + 1) c',?_⟩
   rw [HM.out.1,HM.out.2]
   exact hO.two.setC 1 _
  have hML : Hid (M.length = L.length + 1) := HM.out.1
  rcases hcase with hl0 | ⟨hlen,g,e,et,rfl,he,het,hlt,c0⟩
  ·have hd0 : decide ((0 : Int) < (L.length : Int)) = false := decide_eq_false (by omega)
   have hd1 : ¬ (0 : Int) < (L.length : Int) := by omega
   have hkk : ¬ (k : Int) < (L.length : Int) + 1 := by have := HR.out.k1; omega
   have HIF : Hid ((if k < L.length + 1 then M.drop 1 else M) = M) := if_neg (by omega)
   have hl1 : ¬ 0 < L.length := by omega
   have hkn : ¬ k < L.length + 1 := by omega
   clear hl0
   generalize L.length = ln at *
   go_enter Tryz.func62,Tryz.ntmps62
   go_wp2_with (at_builtin; refine append1_own rfl _ _ 194 rfl 203 i0 (.agg #[.int .u32 0,.slice none 0 0]) 2 32 Tryz.underlying194 hi hz0 hz1 hz2 rfl (by decide) _ _ _ rfl H.out.two _ #[.int .u32 (t : Int),(.slice (x).1 (x).2.1 (x).2.2)] (by simp) rfl rfl (by intro u hu; simp at hu; rcases hu with rfl | rfl <;> rfl) (by unfold maxLen; omega) (by omega) ?_)
   intro g' c' w1 hO hsz
   have HF : Hid (Own w0 (w1.setCell ⟨b,1,none⟩ (.slice (some ⟨g',0,none⟩) (ln + 1) c')) (Ringe b k M :: l)) := hfin.out g' c' w1 hO
   have k0 := hO.two.cell 0
   have k1 := hO.two.cell 1
   have z1 := hO.two.froz 1
   simp at k0 k1
   clear hO H hsz q0 q1
   go_wp2
   go_region
   go_wp2
   go_ret
   rw [HP.out]
   exact ⟨rfl,by rw [HIF.out]; exact HF.out.drew⟩
  ·have hlen' : (0 : Int) < (L.length : Int) := by omega
   have hte' : decide ((t : Int) ≤ (et : Int)) = false := by simp; omega
   have hte2 : ¬ t ≤ et := by omega
   have hidx : ((L.length : Int) - 1) = ((L.length - 1 : Nat) : Int) := by omega
   have hidl : L.length - 1 < L.length := by omega
   have het2 : et < 4294967296 := by rw [het]; exact HR.out.lt e (List.mem_of_getElem? he)
   clear he het
   by_cases hfull : k < L.length + 1
   ·have hfull' : (k : Int) < (L.length : Int) + 1 := by omega
    have HIF : Hid ((if k < L.length + 1 then M.drop 1 else M) = M.drop 1) := if_pos hfull
    generalize hm : L.length - 1 = m at *
    clear hm
    generalize L.length = ln at *
    go_enter Tryz.func62,Tryz.ntmps62
    go_wp2_with (at_builtin; refine append1_own rfl _ _ 194 rfl 203 i0 (.agg #[.int .u32 0,.slice none 0 0]) 2 32 Tryz.underlying194 hi hz0 hz1 hz2 rfl (by decide) _ _ _ rfl H.out.two _ #[.int .u32 (t : Int),(.slice (x).1 (x).2.1 (x).2.2)] (by simp) rfl rfl (by intro u hu; simp at hu; rcases hu with rfl | rfl <;> rfl) (by unfold maxLen; omega) (by omega) ?_)
    intro g' c' w1 hO hsz
    have HF : Hid (Own w0 (w1.setCell ⟨b,1,none⟩ (.slice (some ⟨g',0,none⟩) (ln + 1) c')) (Ringe b k M :: l)) := hfin.out g' c' w1 hO
    have k0 := hO.two.cell 0
    have k1 := hO.two.cell 1
    have z1 := hO.two.froz 1
    simp at k0 k1
    clear hO H hsz q0 q1 c0
    go_wp2
    go_region
    go_wp2_with fail
    refine (drope w0 _ l b k M 1 HF.out.drew (by rw [hML.out]; omega) (by rw [hML.out]; omega)).mono ?_
    rintro e w2 ⟨rfl,hO⟩
    have H2 : Hid (Own w0 w2 _) := hO
    clear hO HF
    go_wp2
    go_ret
    rw [HP.out]
    exact ⟨rfl,by rw [HIF.out]; exact H2.out⟩
   ·have hkk : ¬ (k : Int) < (L.length : Int) + 1 := by omega
    have HIF : Hid ((if k < L.length + 1 then M.drop 1 else M) = M) := if_neg hfull
    generalize hm : L.length - 1 = m at *
    clear hm
    generalize L.length = ln at *
    go_enter Tryz.func62,Tryz.ntmps62
    go_wp2_with (at_builtin; refine append1_own rfl _ _ 194 rfl 203 i0 (.agg #[.int .u32 0,.slice none 0 0]) 2 32 Tryz.underlying194 hi hz0 hz1 hz2 rfl (by decide) _ _ _ rfl H.out.two _ #[.int .u32 (t : Int),(.slice (x).1 (x).2.1 (x).2.2)] (by simp) rfl rfl (by intro u hu; simp at hu; rcases hu with rfl | rfl <;> rfl) (by unfold maxLen; omega) (by omega) ?_)
    intro g' c' w1 hO hsz
    have HF : Hid (Own w0 (w1.setCell ⟨b,1,none⟩ (.slice (some ⟨g',0,none⟩) (ln + 1) c')) (Ringe b k M :: l)) := hfin.out g' c' w1 hO
    have k0 := hO.two.cell 0
    have k1 := hO.two.cell 1
    have z1 := hO.two.froz 1
    simp at k0 k1
    clear hO H hsz q0 q1 c0
    go_wp2
    go_region
    go_wp2
    go_ret
    rw [HP.out]
    exact ⟨rfl,by rw [HIF.out]; exact HF.out.drew⟩
set_option maxRecDepth 100000 in
theorem belowe (w0 w : World) (l : List Thing) (b k : Nat) (L : List (Nat × (Option Addr × Nat × Nat))) (t : Nat) (h : Own w0 w (Ringe b k L :: l)) (hL : L.length ≤ 1000) (hLt : ∀ e ∈ L,e.1 < 4294967296) :
  Calls Tryz.prog 122 #[.pointer (some ⟨b,0,none⟩),.int .u32 (t : Int)] w fun e w' => e = .returned (.int .i64 (below t L : Int)) ∧ Own w0 w' (Ringe b k L :: l) := by
 obtain ⟨v,h⟩ := Own.ex_iff.1 h
 obtain ⟨ao,cap,rfl⟩ := row_any h.two.row
 have H : Hid (Own w0 w (Cells b #[.int .i64 (k : Int),.slice ao L.length cap] 196 :: Row 203 2 (.slice ao L.length cap) L.length (cat ele L) :: l)) := h
 have hbl := below_le t L
 have HLT : Hid (∀ e ∈ L,e.1 < 4294967296) := hLt
 clear h hLt
 go_enter Tryz.func122,Tryz.ntmps122
 go_wp2
 go_loopw [5] (fun c wr => ∃ n : Nat,n ≤ below t L ∧ c = .int .i64 n ∧ Own w0 wr (Cells b #[.int .i64 (k : Int),.slice ao L.length cap] 196 :: Row 203 2 (.slice ao L.length cap) L.length (cat ele L) :: l)) (fun c _ => L.length - (intOf c).toNat)
 case atStart => exact ⟨0,Nat.zero_le _,rfl,H.out⟩
 case round =>
  obtain ⟨n,hn,rfl,hO⟩ := hrel
  have q1 := hO.cell 1
  simp at q1
  have HO : Hid (Own w0 wr _) := hO
  clear H
  by_cases hlt : n < L.length
  ·obtain ⟨e,he⟩ : ∃ e,L[n]? = some e := ⟨_,List.getElem?_eq_getElem hlt⟩
   obtain ⟨g,cap',hv,_⟩ := row_shape hO.two.row (by omega)
   have hg := (Value.slice.inj hv).1
   subst hg
   obtain ⟨c0,_⟩ := rcelle hO.two rfl n e he
   have he2 := HLT.out e (List.mem_of_getElem? he)
   have hlt' : (n : Int) < (L.length : Int) := by omega
   clear hO hv
   by_cases hb : n < below t L
   ·have het := below_lt t L n e hb he
    have het' : (e.1 : Int) < (t : Int) := by omega
    clear he
    generalize e.1 = et at *
    generalize below t L = bl at *
    generalize L.length = ln at *
    go_wp2
    go_roundw
    case rel => exact ⟨n + 1,by omega,by go_num,HO.out⟩
    case measure => simp [intOf]; omega
   ·have hnb : n = below t L := by omega
    have het : t ≤ e.1 := below_at t L e (by rw [← hnb]; exact he)
    have HNB : Hid (n = below t L) := hnb
    have het' : decide ((e.1 : Int) < (t : Int)) = false := decide_eq_false (by omega)
    have het2 : ¬ e.1 < t := by omega
    clear he hnb hb
    generalize e.1 = et at *
    go_wp2
    go_ret
    exact ⟨by rw [← HNB.out]; rfl,Own.ex_iff.2 ⟨_,HO.out⟩⟩
  ·have HNB : Hid (n = below t L) := by show n = below t L; omega
   have hd : decide ((n : Int) < (L.length : Int)) = false := decide_eq_false (by omega)
   clear hO
   go_wp2
   go_ret
   exact ⟨by rw [← HNB.out]; rfl,Own.ex_iff.2 ⟨_,HO.out⟩⟩
def gve (o : Option (Option Addr × Nat × Nat)) : Value := match o with
 | some x => .tuple #[(.slice (x).1 (x).2.1 (x).2.2),.bool true]
 | none => .tuple #[.slice none 0 0,.bool false]
set_option maxRecDepth 100000 in
theorem gete (w0 w : World) (l : List Thing) (b k : Nat) (L : List (Nat × (Option Addr × Nat × Nat))) (t : Nat) (h : Own w0 w (Ringe b k L :: l)) (hR : ROk k L) :
  Calls Tryz.prog 65 #[.pointer (some ⟨b,0,none⟩),.int .u32 (t : Int)] w fun e w' => e = .returned (gve (rget L t)) ∧ Own w0 w' (Ringe b k L :: l) := by
 have hk := hR.k2
 have hle := hR.le
 have HB : Hid (Calls _ _ _ _ _) := belowe w0 w l b k L t h (by omega) hR.lt
 have HLT : Hid (∀ e ∈ L,e.1 < 4294967296) := hR.lt
 have hbl := below_le t L
 clear h hR
 go_enter Tryz.func65,Tryz.ntmps65
 go_wp2_with fail
 refine HB.out.mono ?_
 rintro e w1 ⟨rfl,hO⟩
 obtain ⟨v,hO⟩ := Own.ex_iff.1 hO
 obtain ⟨ao,cap,rfl⟩ := row_any hO.two.row
 have q1 := hO.cell 1
 simp at q1
 have H1 : Hid (Own w0 w1 (Cells b #[.int .i64 (k : Int),.slice ao L.length cap] 196 :: Row 203 2 (.slice ao L.length cap) L.length (cat ele L) :: l)) := hO
 have HF : Hid (Own w0 w1 (Ringe b k L :: l)) := Own.ex_iff.2 ⟨_,hO⟩
 clear hO HB
 by_cases hlt : below t L < L.length
 ·obtain ⟨e,he⟩ : ∃ e,L[below t L]? = some e := ⟨_,List.getElem?_eq_getElem hlt⟩
  obtain ⟨g,cap',hv,_⟩ := row_shape H1.out.two.row (by omega)
  have hg := (Value.slice.inj hv).1
  subst hg
  obtain ⟨c0,c1⟩ := rcelle H1.out.two rfl (below t L) e he
  have he2 := HLT.out e (List.mem_of_getElem? he)
  have hne : ((below t L : Int) == (L.length : Int)) = false := by rw [beq_eq_false_iff_ne]; omega
  have hlt' : (below t L : Int) < (L.length : Int) := by omega
  by_cases het : e.1 = t
  ·have HG : Hid (rget L t = some e.2) := by unfold rget; rw [he]; exact if_pos het
   have hq : ((e.1 : Int) != (t : Int)) = false := by rw [het]; simp
   rw [het] at c0
   have hq2 : ((t : Int) != (t : Int)) = false := by simp
   clear he het hv H1
   generalize e.2 = ex at *
   generalize below t L = bl at *
   generalize L.length = ln at *
   go_wp2
   go_ret2
   rw [HG.out]
   exact ⟨rfl,HF.out⟩
  ·have HG : Hid (rget L t = none) := by unfold rget; rw [he]; exact if_neg het
   have hq : ((e.1 : Int) != (t : Int)) = true := by simp; omega
   have hq2 : ¬ e.1 = t := het
   clear he het hv c1 H1
   generalize e.1 = et at *
   generalize below t L = bl at *
   generalize L.length = ln at *
   go_wp2
   go_ret2
   rw [HG.out]
   exact ⟨rfl,HF.out⟩
 ·have heq : below t L = L.length := by omega
  have HG : Hid (rget L t = none) := by unfold rget; rw [heq,List.getElem?_eq_none (Nat.le_refl _)]; rfl
  rw [heq]
  clear heq hlt hbl H1
  generalize L.length = ln at *
  go_wp2
  go_ret2
  rw [HG.out]
  exact ⟨rfl,HF.out⟩
theorem cute (w0 w : World) (l : List Thing) (b k : Nat) (L : List (Nat × (Option Addr × Nat × Nat))) (t : Nat) (h : Own w0 w (Ringe b k L :: l)) (hR : ROk k L) :
  Calls Tryz.prog 66 #[.pointer (some ⟨b,0,none⟩),.int .u32 (t : Int)] w fun e w' => e = .returned (.int .i64 (below t L : Int)) ∧ Own w0 w' (Ringe b k (L.drop (below t L)) :: l) := by
 have hk := hR.k2
 have hle := hR.le
 have HB : Hid (Calls _ _ _ _ _) := belowe w0 w l b k L t h (by omega) hR.lt
 have hbl := below_le t L
 clear h hR
 go_enter Tryz.func66,Tryz.ntmps66
 go_wp2_with fail
 refine HB.out.mono ?_
 rintro e w1 ⟨rfl,hO⟩
 have H1 : Hid (Own w0 w1 _) := hO
 clear hO HB
 go_wp2_with fail
 refine (drope w0 w1 l b k L (below t L) H1.out hbl (by omega)).mono ?_
 rintro e w2 ⟨rfl,hO⟩
 have H2 : Hid (Own w0 w2 _) := hO
 clear hO H1
 go_wp2
 go_ret
 exact ⟨rfl,H2.out⟩
def sfr (k c e t s : Nat) (W N : List En) : List Nat := frm (pack (headB k c e t s ++ contB k W N))
def wfit (k c e t s : Nat) (W N : List En) (bud : Nat) : Bool := decide (secode k c e t s W N = 0 ∧ (sfr k c e t s W N).length ≤ bud)
def wfr (k c e t s : Nat) (W N : List En) (bud : Nat) : List Nat := if wfit k c e t s W N bud = true then sfr k c e t s W N else []
def lc (c e bud rb : Nat) (ss : Bool) (st : Nat) (as_ : Bool) (at_ : Nat) : Array Value := #[.int .u8 (c : Int),.int .u32 (e : Int),.int .i64 (bud : Int),.pointer (some ⟨rb,0,none⟩),.bool ss,.int .u32 (st : Int),.bool as_,.int .u32 (at_ : Int)]
theorem lbase (w0 w : World) (l : List Thing) (b c e bud rb k st at_ : Nat) (ss as_ : Bool) (R : List (Nat × (Option Addr × Nat × Nat))) (h : Own w0 w (Cells b (lc c e bud rb ss st as_ at_) 128 :: Ringe rb k R :: l)) (hR : ROk k R) :
  Calls Tryz.prog 67 #[.pointer (some ⟨b,0,none⟩)] w fun x w' => x = .returned (gve (if as_ = true then rget R at_ else none)) ∧ Own w0 w' (Cells b (lc c e bud rb ss st as_ at_) 128 :: Ringe rb k R :: l) := by
 have p6 := h.cell 6
 have p7 := h.cell 7
 have p3 := h.cell 3
 simp [lc] at p3 p6 p7
 have H : Hid (Own w0 w (Cells b (lc c e bud rb ss st as_ at_) 128 :: Ringe rb k R :: l)) := h
 have HG : Hid (∀ W,Own w0 W (Ringe rb k R :: Cells b (lc c e bud rb ss st as_ at_) 128 :: l) → Calls Tryz.prog 65 #[.pointer (some ⟨rb,0,none⟩),.int .u32 (at_ : Int)] W fun x w' => x = .returned (gve (rget R at_)) ∧ Own w0 w' (Ringe rb k R :: Cells b (lc c e bud rb ss st as_ at_) 128 :: l)) := fun W hW => gete w0 W _ rb k R at_ hW hR
 clear h hR
 cases as_ with
 | false =>
  clear HG
  go_enter Tryz.func67,Tryz.ntmps67
  go_wp2
  go_ret2
  exact ⟨rfl,H.out⟩
 | true =>
  have O1 := H.out.two.drew
  clear H
  simp only [if_true]
  generalize rget R at_ = og at HG ⊢
  rcases og with _ | ⟨xa,xn,xc⟩
  all_goals
   (simp only [gve] at HG ⊢
    go_enter Tryz.func67,Tryz.ntmps67
    go_wp2
    go_region_held3 (fun w' => w'.cell? ⟨b,3,none⟩ = some (.pointer (some ⟨rb,0,none⟩)) ∧ w'.cell? ⟨b,7,none⟩ = some (.int .u32 (at_ : Int))) (first | exact ⟨u3,u7⟩ | go_keep)
     (first
       | (go_at_call 65; with_reducible refine (HG.out _ O1).mono ?_; rintro x w6 ⟨rfl,O6⟩
          have u3 := (Own.two O6).cell 3
          have u7 := (Own.two O6).cell 7
          simp [lc] at u3 u7))
    have H6 : Hid (Own w0 w6 _) := Own.two O6
    clear O1 O6 HG p3 p6 p7 u3 u7
    go_wp2
    go_ret2
    exact ⟨rfl,H6.out⟩)
theorem lwithin (w0 w : World) (htb : Tab w0) (htf : Tabf w0) (l : List Thing) (b c e bud rb st at_ : Nat) (ss as_ : Bool) (hbud : bud ≤ 4100) (h : Own w0 w (Cells b (lc c e bud rb ss st as_ at_) 128 :: l)) (hk hc he ht hs : Nat) (hI : HIn hk hc he ht hs) (aw an : Option Addr) (nw nn cw cn : Nat) (W N : List EnE) (hQ : ∀ w',Own w0 w' l → EntsAt w' aw W ∧ EntsAt w' an N) (hW : W.length = nw) (hN : N.length = nn) (hcw : nw ≤ cw) (hcn : nn ≤ cn) (hmw : cw ≤ 9223372036854775807) (hmn : cn ≤ 9223372036854775807) (hIW : EIn W) (hIN : EIn N) (hzW : esz W ≤ 400) (hzN : esz N ≤ 400) :
  Calls Tryz.prog 120 #[.pointer (some ⟨b,0,none⟩),.agg #[.int .u8 (hk : Int),.int .u8 (hc : Int),.int .u32 (he : Int),.int .u32 (ht : Int),.int .u32 (hs : Int)],.slice aw nw cw,.slice an nn cn] w fun x w' => ∃ v,x = .returned (.tuple #[v,.bool (wfit hk hc he ht hs (evs W) (evs N) bud)]) ∧ Own w0 w' (Row 5 1 v (wfr hk hc he ht hs (evs W) (evs N) bud).length (vrow (wfr hk hc he ht hs (evs W) (evs N) bud)) :: Cells b (lc c e bud rb ss st as_ at_) 128 :: l) := by
 have h1 := h.allocC #[.int .u8 (hk : Int),.int .u8 (hc : Int),.int .u32 (he : Int),.int .u32 (ht : Int),.int .u32 (hs : Int)] 29
 have q0 := h1.cell 0
 have q1 := h1.cell 1
 have q2 := h1.cell 2
 have q3 := h1.cell 3
 have q4 := h1.cell 4
 simp at q0 q1 q2 q3 q4
 have HP : Hid (Calls Tryz.prog 34 #[.agg #[.int .u8 (hk : Int),.int .u8 (hc : Int),.int .u32 (he : Int),.int .u32 (ht : Int),.int .u32 (hs : Int)],.slice aw nw cw,.slice an nn cn] _ _) := pseal_any w0 _ htb htf _ h1 hk hc he ht hs hI aw an nw nn cw cn W N (fun w' hw => hQ w' hw.tail.tail) hW hN hcw hcn hmw hmn hIW hIN hzW hzN
 clear h h1 hQ hW hN hcw hcn hmw hmn hIW hIN hzW hzN htb htf
 generalize w.heap.size = bh at *
 go_enter Tryz.func120,Tryz.ntmps120
 go_wp2_with fail
 refine HP.out.mono ?_
 rintro x w1 ⟨v,code,P,rfl,hR,h2⟩
 have p2 := h2.three.cell 2
 simp [lc] at p2
 have hcl := hR.1
 have H2 : Hid (Own w0 w1 (Row 5 1 v P.length (vrow P) :: Cells b (lc c e bud rb ss st as_ at_) 128 :: l)) := h2.two.tail
 obtain ⟨av,cv,hvv⟩ := row_any h2.row
 subst hvv
 have HR : Hid (SealR hk hc he ht hs (evs W) (evs N) code P) := hR
 clear h2 hR HP q0 q1 q2 q3 q4
 by_cases h0 : code = 0
 ·subst h0
  obtain ⟨-,-,hP,hPl⟩ := HR.out.2.2.1 rfl
  have HPP : Hid (P = sfr hk hc he ht hs (evs W) (evs N)) := hP
  have HS0 : Hid (0 = secode hk hc he ht hs (evs W) (evs N)) := HR.out.2.2.2.1
  clear HR hP
  generalize hpl : P.length = pl at *
  have HPL : Hid (P.length = pl) := hpl
  clear hpl
  by_cases h1 : pl ≤ bud
  ·have hfit : wfit hk hc he ht hs (evs W) (evs N) bud = true := decide_eq_true ⟨HS0.out.symm,by rw [← HPP.out,HPL.out]; exact h1⟩
   have HWF : Hid (wfr hk hc he ht hs (evs W) (evs N) bud = P) := by show _ = _; unfold wfr; rw [if_pos hfit,HPP.out]
   have HFT : Hid (wfit hk hc he ht hs (evs W) (evs N) bud = true) := hfit
   have g1 : ¬ (bud : Int) < (pl : Int) := by omega
   clear h1 hfit
   go_wp2
   go_ret2
   refine ⟨_,(by rw [HFT.out]; rfl),?_⟩
   rw [HWF.out,HPL.out]
   exact H2.out
  ·have hfit : wfit hk hc he ht hs (evs W) (evs N) bud = false := decide_eq_false (fun hh => h1 (by rw [← HPL.out,HPP.out]; exact hh.2))
   have HWF : Hid (wfr hk hc he ht hs (evs W) (evs N) bud = []) := by show _ = _; unfold wfr; rw [hfit]; rfl
   have HFT : Hid (wfit hk hc he ht hs (evs W) (evs N) bud = false) := hfit
   have g1 : (bud : Int) < (pl : Int) := by omega
   clear h1 hfit
   go_wp2
   go_ret2
   refine ⟨_,(by rw [HFT.out]; rfl),?_⟩
   rw [HWF.out]
   exact H2.out.tail.nilRow _ _
 ·have hfit : wfit hk hc he ht hs (evs W) (evs N) bud = false := decide_eq_false (fun hh => h0 (HR.out.2.2.2.1.trans hh.1))
  have HWF : Hid (wfr hk hc he ht hs (evs W) (evs N) bud = []) := by show _ = _; unfold wfr; rw [hfit]; rfl
  have z0 : ((code : Int) != 0) = true := by simpa using h0
  have HFT : Hid (wfit hk hc he ht hs (evs W) (evs N) bud = false) := hfit
  clear h0 hfit HR
  go_wp2
  go_ret2
  refine ⟨_,(by rw [HFT.out]; rfl),?_⟩
  rw [HWF.out]
  exact H2.out.tail.nilRow _ _
end Go.Proofs.YtgifeckbflkkpaaGreatDoor
