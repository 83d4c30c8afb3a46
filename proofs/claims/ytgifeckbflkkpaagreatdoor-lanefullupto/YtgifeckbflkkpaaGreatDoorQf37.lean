/- Package ring at lists of entities: what is let go, New, Put, Get, Last, Ticks, Len, Cut, Clear. -/
import Derived.Test.YtgifeckbflkkpaaGreatDoorQf17
namespace Go.Proofs.YtgifeckbflkkpaaGreatDoor
open Go.RowKit
set_option linter.unusedVariables false
set_option maxHeartbeats 2000000
def ele (e : Nat × (Option Addr × Nat × Nat)) : List Value := [.int .u32 (e.1 : Int),(.slice (e.2).1 (e.2).2.1 (e.2).2.2)]
theorem ele_len (e : Nat × (Option Addr × Nat × Nat)) : (ele e).length = 2 := rfl
theorem ele_one (e : Nat × (Option Addr × Nat × Nat)) : ∀ u ∈ ele e,u.oneCell' = true := by
 intro u hu
 simp [ele] at hu
 rcases hu with rfl | rfl <;> rfl
theorem Tryz.infoHe : (Tryz.prog.info? 203).map (fun i => (i.zero,i.size,i.bytes)) = some (some (.agg #[.int .u32 0,.slice none 0 0]),2,32) := by kernel_rfl
theorem zeroHe (w : World) : (zeroValue 203).run Tryz.prog w = .ok (.agg #[.int .u32 0,.slice none 0 0]) w := by kernel_rfl
def Ringe (b k : Nat) (L : List (Nat × (Option Addr × Nat × Nat))) : Thing := Ex (fun v : Value => [Cells b #[.int .i64 (k : Int),v] 196,Row 203 2 v L.length (cat ele L)])
set_option maxRecDepth 100000 in
theorem dele (w0 w : World) (l : List Thing) (v : Value) (L : List (Nat × (Option Addr × Nat × Nat))) (n : Nat) (h : Own w0 w (Row 203 2 v L.length (cat ele L) :: l)) (hn : n ≤ L.length) (hL : L.length ≤ 1000) :
  Calls Tryz.prog 150 #[v,.int .i64 0,.int .i64 (n : Int)] w fun e w' => ∃ ao' cap',e = .returned (.slice ao' (L.length - n) cap') ∧ Own w0 w' (Row 203 2 (.slice ao' (L.length - n) cap') (L.length - n) (cat ele (L.drop n)) :: l) := by
 obtain ⟨ao,cap,rfl⟩ := row_any h.row
 by_cases h0 : n = 0
 ·subst h0
  have hlc : L.length ≤ cap := by
   rcases h.row.2 with ⟨h1,h2⟩ | ⟨g,c,cur,h1,_,_,h2,_⟩
   ·omega
   ·have := Value.slice.inj h1; omega
  have hcm : cap ≤ 9223372036854775807 := by
   rcases h.row.2 with ⟨h1,h2⟩ | ⟨g,c,cur,h1,_,_,h2,h3,_⟩
   ·have := Value.slice.inj h1; omega
   ·have := Value.slice.inj h1; unfold maxLen at h3; omega
  have H : Hid (Own w0 w _) := h
  clear h
  cases ao with
  | none =>
   have hc0 : cap = 0 ∧ L.length = 0 := by
    rcases H.out.row.2 with ⟨h1,h2⟩ | ⟨g,c,cur,h1,_⟩
    ·exact ⟨(Value.slice.inj h1).2.2,h2⟩
    ·have := (Value.slice.inj h1).1; cases this
   obtain ⟨rfl,hl0⟩ := hc0
   rw [hl0]
   have H2 : Hid (Own w0 w (Row 203 2 (.slice none 0 0) 0 (cat ele L) :: l)) := by have := H.out; rw [hl0] at this; exact this
   clear hlc H
   go_enter Tryz.func150,Tryz.ntmps150
   go_wp2
   go_ret
   exact ⟨none,0,rfl,H2.out⟩
  | some a =>
   generalize L.length = ln at *
   go_enter Tryz.func150,Tryz.ntmps150
   go_wp2
   all_goals
    go_ret
    exact ⟨some a,cap,rfl,H.out⟩
 ·have hln : 0 < L.length := by omega
  obtain ⟨g,cap',he,_⟩ := row_shape h.row hln
  cases he
  obtain ⟨hlc,hcm⟩ := (row_cap h.row).2
  unfold maxLen at hcm
  obtain ⟨i0,hi,hz0,hz1,hz2⟩ := info_parts Tryz.infoHe
  obtain ⟨A,hA⟩ : ∃ A : Addr,A = if cap = n then ⟨g,0,none⟩ else ⟨g,n * 2,none⟩ := ⟨_,rfl⟩
  obtain ⟨w1,hrun,hO1⟩ := h.drew.moved (P := Tryz.prog) 194 194 i0 Tryz.underlying194 hi hz1 (one_cat _ ele_one L) n hn A hA
  obtain ⟨w2,hcl,hO2⟩ := hO1.cleared (P := Tryz.prog) 194 (.agg #[.int .u32 0,.slice none 0 0]) Tryz.underlying194 zeroHe rfl (by intro u hu; simp [Value.cells] at hu; rcases hu with rfl | rfl <;> rfl) (by decide) n (cap - (L.length - n)) (by omega) (by omega)
  rw [cat_drop ele 2 ele_len] at hO2
  have HR : Hid _ := hrun
  have H2 : Hid (Own w0 w2 _) := hO2
  have hA' : (if cap = n then some (⟨g,0,none⟩ : Addr) else some ⟨g,n * 2,none⟩) = some A := by rw [hA]; split <;> rfl
  have hnz : ((0 : Int) == (n : Int)) = false := by simp; omega
  have hn0 : ¬ (0 : Int) = (n : Int) := by omega
  clear hrun hO1 hO2 hA h
  generalize L.length = ln at *
  have hsub : ln - (ln - n) = n := by omega
  have hcc : ln ≤ cap := by omega
  have hnc : n ≤ cap := by omega
  have hmc : ¬ cap = ln - n := by omega
  go_enter Tryz.func150,Tryz.ntmps150
  go_wp2_with fail
  go_region_law (refine step_run rfl (.tmp 22) (.tmp 25) 194 194 194 rfl rfl (.slice (some ⟨g,0,none⟩) 0 cap) (.slice (some A) (ln - n) (cap - n)) (.slice (some ⟨g,0,none⟩) (ln - n) cap) w1 (by simp [Act.eval,Act.put]) (by simp [Act.eval,Act.put]) HR.out ?_)
  go_wp2
  go_ret
  exact ⟨some ⟨g,0,none⟩,cap,rfl,H2.out⟩
set_option maxRecDepth 100000 in
theorem drope (w0 w : World) (l : List Thing) (b k : Nat) (L : List (Nat × (Option Addr × Nat × Nat))) (n : Nat) (h : Own w0 w (Ringe b k L :: l)) (hn : n ≤ L.length) (hL : L.length ≤ 1000) :
  Calls Tryz.prog 121 #[.pointer (some ⟨b,0,none⟩),.int .i64 (n : Int)] w fun e w' => e = .returned (.tuple #[]) ∧ Own w0 w' (Ringe b k (L.drop n) :: l) := by
 obtain ⟨v,h⟩ := Own.ex_iff.1 h
 have q1 := h.cell 1
 simp at q1
 have HD : Hid (Calls _ _ _ _ _) := dele w0 w _ v L n h.two hn hL
 obtain ⟨ao,cap,rfl⟩ := row_any h.two.row
 clear h
 go_enter Tryz.func121,Tryz.ntmps121
 go_wp2_with fail
 refine HD.out.mono ?_
 rintro e w1 ⟨ao',cap',rfl,hO⟩
 have k1 := hO.two.cell 1
 have z1 := hO.two.froz 1
 simp at k1
 have H1 : Hid (Own w0 w1 _) := hO
 clear hO HD
 go_wp2
 go_end0
 refine ⟨rfl,Own.ex_iff.2 ⟨.slice ao' (L.length - n) cap',?_⟩⟩
 rw [List.length_drop]
 exact H1.out.two.setC 1 _
theorem newe (w0 w : World) (l : List Thing) (k : Nat) (h : Own w0 w l) (h1 : 1 ≤ k) (h2 : k ≤ 64) :
  Calls Tryz.prog 58 #[.int .i64 (k : Int)] w fun e w' => ∃ b,e = .returned (.tuple #[.pointer (some ⟨b,0,none⟩),.int .i64 0]) ∧ Own w0 w' (Ringe b k [] :: l) := by
 have H : Hid (Own w0 w l) := h
 clear h
 go_enter Tryz.func58,Tryz.ntmps58
 go_wp2
 go_ret2
 refine ⟨_,rfl,Own.ex_iff.2 ⟨.slice none 0 0,?_⟩⟩
 exact ((H.out.allocC #[.int .i64 (k : Int),.slice none 0 0] 196).nilRow 203 2).two
theorem rcelle {w0 w : World} {l : List Thing} {g n cap : Nat} {L : List (Nat × (Option Addr × Nat × Nat))} (h : Own w0 w (Row 203 2 (.slice (some ⟨g,0,none⟩) n cap) L.length (cat ele L) :: l)) (hn : n = L.length) (i : Nat) (e : Nat × (Option Addr × Nat × Nat)) (he : L[i]? = some e) :
  w.cell? ⟨g,i * 2,none⟩ = some (.int .u32 (e.1 : Int)) ∧ w.cell? ⟨g,i * 2 + 1,none⟩ = some ((.slice (e.2).1 (e.2).2.1 (e.2).2.2)) := by
 subst hn
 have hi := (List.getElem?_eq_some_iff.1 he).1
 refine ⟨?_,?_⟩
 ·rw [h.row.cellAt _ (by omega)]
  exact (cat_at ele 2 ele_len L i 0 e he (by decide)).trans rfl
 ·rw [h.row.cellAt _ (by omega)]
  exact (cat_at ele 2 ele_len L i 1 e he (by decide)).trans rfl
set_option maxRecDepth 100000 in
theorem pute (w0 w : World) (l : List Thing) (b k : Nat) (L : List (Nat × (Option Addr × Nat × Nat))) (t : Nat) (x : (Option Addr × Nat × Nat)) (h : Own w0 w (Ringe b k L :: l)) (hR : ROk k L) (ht : t < 4294967296) :
  Calls Tryz.prog 62 #[.pointer (some ⟨b,0,none⟩),.int .u32 (t : Int),(.slice (x).1 (x).2.1 (x).2.2)] w fun e w' => e = .returned (.int .i64 (rput k L t x).1) ∧ Own w0 w' (Ringe b k (rput k L t x).2 :: l) := by
 have H0 : Hid (Own w0 w (Ringe b k L :: l)) := h
 obtain ⟨v,h⟩ := Own.ex_iff.1 h
 have q0 := h.cell 0
 have q1 := h.cell 1
 simp at q0 q1
 obtain ⟨ao,cap,rfl⟩ := row_any h.two.row
 have hk := hR.k2
 have hle := hR.le
 obtain ⟨i0,hi,hz0,hz1,hz2⟩ := info_parts Tryz.infoHe
 have H : Hid (Own w0 w (Cells b #[.int .i64 (k : Int),.slice ao L.length cap] 196 :: Row 203 2 (.slice ao L.length cap) L.length (cat ele L) :: l)) := h
 have HR : Hid (ROk k L) := hR
 clear h hR
 by_cases hst : ∃ e,L.getLast? = some e ∧ t ≤ e.1
 ·have HP : Hid (rput k L t x = (12,L)) := by unfold rput; exact if_pos hst
  obtain ⟨e,he,hte⟩ := hst
  have hlen : 0 < L.length := by
   cases L with
   | nil => simp at he
   | cons a L => simp
  obtain ⟨g,cap',hv,_⟩ := row_shape H.out.two.row hlen
  cases hv
  rw [List.getLast?_eq_getElem?] at he
  obtain ⟨c0,_⟩ := rcelle H.out.two rfl (L.length - 1) e he
  have hlen' : (0 : Int) < (L.length : Int) := by omega
  have hte' : (t : Int) ≤ (e.1 : Int) := by omega
  have he2 := HR.out.lt e (List.mem_of_getElem? he)
  have hte2 := hte
  generalize e.1 = et at *
  have hidx : ((L.length : Int) - 1) = ((L.length - 1 : Nat) : Int) := by omega
  have hidl : L.length - 1 < L.length := by omega
  clear he
  generalize hm : L.length - 1 = m at *
  clear hm
  generalize hln : L.length = ln at *
  go_enter Tryz.func62,Tryz.ntmps62
  go_wp2
  go_ret
  rw [HP.out]
  exact ⟨rfl,H0.out⟩
 ·obtain ⟨M,hM⟩ : ∃ M,M = L ++ [(t,x)] := ⟨_,rfl⟩
  have HM : Hid (M.length = L.length + 1 ∧ cat ele M = cat ele L ++ [.int .u32 (t : Int),(.slice (x).1 (x).2.1 (x).2.2)]) := ⟨by rw [hM]; simp,by rw [hM,cat_append]; rfl⟩
  have HP : Hid (rput k L t x = (0,if k < L.length + 1 then M.drop 1 else M)) := by unfold rput; rw [hM]; exact if_neg hst
  have hcase : L.length = 0 ∨ (0 < L.length ∧ ∃ g e et,ao = some ⟨g,0,none⟩ ∧ L[L.length - 1]? = some e ∧ et = e.1 ∧ et < t ∧ w.cell? ⟨g,(L.length - 1) * 2,none⟩ = some (.int .u32 (et : Int))) := by
   rcases Nat.eq_zero_or_pos L.length with c | c
   ·exact .inl c
   ·right
    obtain ⟨g,cap',hv,_⟩ := row_shape H.out.two.row c
    have hg := (Value.slice.inj hv).1
    subst hg
    obtain ⟨e,he⟩ : ∃ e,L[L.length - 1]? = some e := ⟨_,List.getElem?_eq_getElem (by omega)⟩
    refine ⟨c,g,e,e.1,rfl,he,rfl,?_,(rcelle H.out.two rfl _ e he).1⟩
    rcases Nat.lt_or_ge e.1 t with q | q
    ·exact q
    ·exact absurd ⟨e,by rw [List.getLast?_eq_getElem?]; exact he,q⟩ hst
  clear hst hM
  have hfin : Hid (∀ g' c' w1,Own w0 w1 (Row 203 2 (.slice (some ⟨g',0,none⟩) (L.length + 1) c') (L.length + 1) (cat ele L ++ [.int .u32 (t : Int),(.slice (x).1 (x).2.1 (x).2.2)]) :: Cells b #[.int .i64 (k : Int),.slice ao L.length cap] 196 :: l) → Own w0 (w1.setCell ⟨b,1,none⟩ (.slice (some ⟨g',0,none⟩) (L.length + 1) c')) (Ringe b k M :: l)) := by
   intro g' c' w1 hO
   refine Own.ex_iff.2 ⟨.slice (some ⟨g',0,none⟩) (L.length + 1) c',?_⟩
   rw [HM.out.1,HM.out.2]
   exact hO.two.setC 1 _
  have hML : Hid (M.length = L.length + 1) := HM.out.1
  rcases hcase with hl0 | ⟨hlen,g,e,et,rfl,he,het,hlt,c0⟩
  ·have hd0 : decide ((0 : Int) < (L.length : Int)) = false := decide_eq_false (by omega)
   have hd1 : ¬ (0 : Int) < (L.length : Int) := by omega
   have hkk : ¬ (k : Int) < (L.length : Int) + 1 := by have := HR.out.k1; omega
   have HIF : Hid ((if k < L.length + 1 then M.drop 1 else M) = M) := if_neg (by omega)
   have hl1 : ¬ 0 < L.length := by omega
   have hkn : ¬ k < L.length + 1 := by omega
   clear hl0
   generalize L.length = ln at *
   go_enter Tryz.func62,Tryz.ntmps62
   go_wp2_with (at_builtin; refine append1_own rfl _ _ 194 rfl 203 i0 (.agg #[.int .u32 0,.slice none 0 0]) 2 32 Tryz.underlying194 hi hz0 hz1 hz2 rfl (by decide) _ _ _ rfl H.out.two _ #[.int .u32 (t : Int),(.slice (x).1 (x).2.1 (x).2.2)] (by simp) rfl rfl (by intro u hu; simp at hu; rcases hu with rfl | rfl <;> rfl) (by unfold maxLen; omega) (by omega) ?_)
   intro g' c' w1 hO hsz
   have HF : Hid (Own w0 (w1.setCell ⟨b,1,none⟩ (.slice (some ⟨g',0,none⟩) (ln + 1) c')) (Ringe b k M :: l)) := hfin.out g' c' w1 hO
   have k0 := hO.two.cell 0
   have k1 := hO.two.cell 1
   have z1 := hO.two.froz 1
   simp at k0 k1
   clear hO H hsz q0 q1
   go_wp2
   go_region
   go_wp2
   go_ret
   rw [HP.out]
   exact ⟨rfl,by rw [HIF.out]; exact HF.out.drew⟩
  ·have hlen' : (0 : Int) < (L.length : Int) := by omega
   have hte' : decide ((t : Int) ≤ (et : Int)) = false := by simp; omega
   have hte2 : ¬ t ≤ et := by omega
   have hidx : ((L.length : Int) - 1) = ((L.length - 1 : Nat) : Int) := by omega
   have hidl : L.length - 1 < L.length := by omega
   have het2 : et < 4294967296 := by rw [het]; exact HR.out.lt e (List.mem_of_getElem? he)
   clear he het
   by_cases hfull : k < L.length + 1
   ·have hfull' : (k : Int) < (L.length : Int) + 1 := by omega
    have HIF : Hid ((if k < L.length + 1 then M.drop 1 else M) = M.drop 1) := if_pos hfull
    generalize hm : L.length - 1 = m at *
    clear hm
    generalize L.length = ln at *
    go_enter Tryz.func62,Tryz.ntmps62
    go_wp2_with (at_builtin; refine append1_own rfl _ _ 194 rfl 203 i0 (.agg #[.int .u32 0,.slice none 0 0]) 2 32 Tryz.underlying194 hi hz0 hz1 hz2 rfl (by decide) _ _ _ rfl H.out.two _ #[.int .u32 (t : Int),(.slice (x).1 (x).2.1 (x).2.2)] (by simp) rfl rfl (by intro u hu; simp at hu; rcases hu with rfl | rfl <;> rfl) (by unfold maxLen; omega) (by omega) ?_)
    intro g' c' w1 hO hsz
    have HF : Hid (Own w0 (w1.setCell ⟨b,1,none⟩ (.slice (some ⟨g',0,none⟩) (ln + 1) c')) (Ringe b k M :: l)) := hfin.out g' c' w1 hO
    have k0 := hO.two.cell 0
    have k1 := hO.two.cell 1
    have z1 := hO.two.froz 1
    simp at k0 k1
    clear hO H hsz q0 q1 c0
    go_wp2
    go_region
    go_wp2_with fail
    refine (drope w0 _ l b k M 1 HF.out.drew (by rw [hML.out]; omega) (by rw [hML.out]; omega)).mono ?_
    rintro e w2 ⟨rfl,hO⟩
    have H2 : Hid (Own w0 w2 _) := hO
    clear hO HF
    go_wp2
    go_ret
    rw [HP.out]
    exact ⟨rfl,by rw [HIF.out]; exact H2.out⟩
   ·have hkk : ¬ (k : Int) < (L.length : Int) + 1 := by omega
    have HIF : Hid ((if k < L.length + 1 then M.drop 1 else M) = M) := if_neg hfull
    generalize hm : L.length - 1 = m at *
    clear hm
    generalize L.length = ln at *
    go_enter Tryz.func62,Tryz.ntmps62
    go_wp2_with (at_builtin; refine append1_own rfl _ _ 194 rfl 203 i0 (.agg #[.int .u32 0,.slice none 0 0]) 2 32 Tryz.underlying194 hi hz0 hz1 hz2 rfl (by decide) _ _ _ rfl H.out.two _ #[.int .u32 (t : Int),(.slice (x).1 (x).2.1 (x).2.2)] (by simp) rfl rfl (by intro u hu; simp at hu; rcases hu with rfl | rfl <;> rfl) (by unfold maxLen; omega) (by omega) ?_)
    intro g' c' w1 hO hsz
    have HF : Hid (Own w0 (w1.setCell ⟨b,1,none⟩ (.slice (some ⟨g',0,none⟩) (ln + 1) c')) (Ringe b k M :: l)) := hfin.out g' c' w1 hO
    have k0 := hO.two.cell 0
    have k1 := hO.two.cell 1
    have z1 := hO.two.froz 1
    simp at k0 k1
    clear hO H hsz q0 q1 c0
    go_wp2
    go_region
    go_wp2
    go_ret
    rw [HP.out]
    exact ⟨rfl,by rw [HIF.out]; exact HF.out.drew⟩
end Go.Proofs.YtgifeckbflkkpaaGreatDoor
