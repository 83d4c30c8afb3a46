/- Package ring at lists of entities: what is let go, New, Put, Get, Last, Ticks, Len, Cut, Clear. -/
import Derived.Test.YtgifeckbflkkpaaGreatDoorQp14
namespace Go.Proofs.YtgifeckbflkkpaaGreatDoor
open Go.RowKit
set_option linter.unusedVariables false
set_option maxHeartbeats 2000000
def ele (e : Nat × (Option Addr × Nat × Nat)) : List Value := [.int .u32 (e.1 : Int),(.slice (e.2).1 (e.2).2.1 (e.2).2.2)]
theorem ele_len (e : Nat × (Option Addr × Nat × Nat)) : (ele e).length = 2 := rfl
theorem ele_one (e : Nat × (Option Addr × Nat × Nat)) : ∀ u ∈ ele e,u.oneCell' = true := by
 intro u hu
 simp [ele] at hu
 rcases hu with rfl | rfl <;> rfl
theorem Tryz.infoHe : (Tryz.prog.info? 203).map (fun i => (i.zero,i.size,i.bytes)) = some (some (.agg #[.int .u32 0,.slice none 0 0]),2,32) := by kernel_rfl
theorem zeroHe (w : World) : (zeroValue 203).run Tryz.prog w = .ok (.agg #[.int .u32 0,.slice none 0 0]) w := by kernel_rfl
def Ringe (b k : Nat) (L : List (Nat × (Option Addr × Nat × Nat))) : Thing := Ex (fun v : Value => [Cells b #[.int .i64 (k : Int),v] 196,Row 203 2 v L.length (cat ele L)])
set_option maxRecDepth 100000 in
theorem dele (w0 w : World) (l : List Thing) (v : Value) (L : List (Nat × (Option Addr × Nat × Nat))) (n : Nat) (h : Own w0 w (Row 203 2 v L.length (cat ele L) :: l)) (hn : n ≤ L.length) (hL : L.length ≤ 1000) :
  Calls Tryz.prog 150 #[v,.int .i64 0,.int .i64 (n : Int)] w fun e w' => ∃ ao' cap',e = .returned (.slice ao' (L.length - n) cap') ∧ Own w0 w' (Row 203 2 (.slice ao' (L.length - n) cap') (L.length - n) (cat ele (L.drop n)) :: l) := by
 obtain ⟨ao,cap,rfl⟩ := row_any h.row
 by_cases h0 : n = 0
 ·subst h0
  have hlc : L.length ≤ cap := by
   rcases h.row.2 with ⟨h1,h2⟩ | ⟨g,c,cur,h1,_,_,h2,_⟩
   ·omega
   ·have := Value.slice.inj h1; omega
  have hcm : cap ≤ 9223372036854775807 := by
   rcases h.row.2 with ⟨h1,h2⟩ | ⟨g,c,cur,h1,_,_,h2,h3,_⟩
   ·have := Value.slice.inj h1; omega
   ·have := Value.slice.inj h1; unfold maxLen at h3; omega
  have H : Hid (Own w0 w _) := h
  clear h
  cases ao with
  | none =>
   have hc0 : cap = 0 ∧ L.length = 0 := by
    rcases H.out.row.2 with ⟨h1,h2⟩ | ⟨g,c,cur,h1,_⟩
    ·exact ⟨(Value.slice.inj h1).2.2,h2⟩
    ·have := (Value.slice.inj h1).1; cases this
   obtain ⟨rfl,hl0⟩ := hc0
   rw [hl0]
   have H2 : Hid (Own w0 w (Row 203 2 (.slice none 0 0) 0 (cat ele L) :: l)) := by have := H.out; rw [hl0] at this; exact this
   clear hlc H
   go_enter Tryz.func150,Tryz.ntmps150
   go_wp2
   go_ret
   exact ⟨none,0,rfl,H2.out⟩
  | some a =>
   generalize L.length = ln at *
   go_enter Tryz.func150,Tryz.ntmps150
   go_wp2
   all_goals
    go_ret
    exact ⟨some a,cap,rfl,H.out⟩
 ·have hln : 0 < L.length := by omega
  obtain ⟨g,cap',he,_⟩ := row_shape h.row hln
  cases he
  obtain ⟨hlc,hcm⟩ := (row_cap h.row).2
  unfold maxLen at hcm
  obtain ⟨i0,hi,hz0,hz1,hz2⟩ := info_parts Tryz.infoHe
  obtain ⟨A,hA⟩ : ∃ A : Addr,A = if cap = n then ⟨g,0,none⟩ else ⟨g,n * 2,none⟩ := ⟨_,rfl⟩
  obtain ⟨w1,hrun,hO1⟩ := h.drew.moved (P := Tryz.prog) 194 194 i0 Tryz.underlying194 hi hz1 (one_cat _ ele_one L) n hn A hA
  obtain ⟨w2,hcl,hO2⟩ := hO1.cleared (P := Tryz.prog) 194 (.agg #[.int .u32 0,.slice none 0 0]) Tryz.underlying194 zeroHe rfl (by intro u hu; simp [Value.cells] at hu; rcases hu with rfl | rfl <;> rfl) (by decide) n (cap - (L.length - n)) (by omega) (by omega)
  rw [cat_drop ele 2 ele_len] at hO2
  have HR : Hid _ := hrun
  have H2 : Hid (Own w0 w2 _) := hO2
  have hA' : (if cap = n then some (⟨g,0,none⟩ : Addr) else some ⟨g,n * 2,none⟩) = some A := by rw [hA]; split <;> rfl
  have hnz : ((0 : Int) == (n : Int)) = false := by simp; omega
  have hn0 : ¬ (0 : Int) = (n : Int) := by omega
  clear hrun hO1 hO2 hA h
  generalize L.length = ln at *
  have hsub : ln - (ln - n) = n := by omega
  have hcc : ln ≤ cap := by omega
  have hnc : n ≤ cap := by omega
  have hmc : ¬ cap = ln - n := by omega
  go_enter Tryz.func150,Tryz.ntmps150
  go_wp2_with fail
  go_region_law (refine step_run rfl (.tmp 22) (.tmp 25) 194 194 194 rfl rfl (.slice (some ⟨g,0,none⟩) 0 cap) (.slice (some A) (ln - n) (cap - n)) (.slice (some ⟨g,0,none⟩) (ln - n) cap) w1 (by simp [Act.eval,Act.put]) (by simp [Act.eval,Act.put]) HR.out ?_)
  go_wp2
  go_ret
  exact ⟨some ⟨g,0,none⟩,cap,rfl,H2.out⟩
set_option maxRecDepth 100000 in
theorem drope (w0 w : World) (l : List Thing) (b k : Nat) (L : List (Nat × (Option Addr × Nat × Nat))) (n : Nat) (h : Own w0 w (Ringe b k L :: l)) (hn : n ≤ L.length) (hL : L.length ≤ 1000) :
  Calls Tryz.prog 121 #[.pointer (some ⟨b,0,none⟩),.int .i64 (n : Int)] w fun e w' => e = .returned (.tuple #[]) ∧ Own w0 w' (Ringe b k (L.drop n) :: l) := by
 obtain ⟨v,h⟩ := Own.ex_iff.1 h
 have q1 := h.cell 1
 simp at q1
 have HD : Hid (Calls _ _ _ _ _) := dele w0 w _ v L n h.two hn hL
 obtain ⟨ao,cap,rfl⟩ := row_any h.two.row
 clear h
 go_enter Tryz.func121,Tryz.ntmps121
 go_wp2_with fail
 refine HD.out.mono ?_
 rintro e w1 ⟨ao',cap',rfl,hO⟩
 have k1 := hO.two.cell 1
 have z1 := hO.two.froz 1
 simp at k1
 have H1 : Hid (Own w0 w1 _) := hO
 clear hO HD
 go_wp2
 go_end0
 refine ⟨rfl,Own.ex_iff.2 ⟨.slice ao' (L.length - n) cap',?_⟩⟩
 rw [List.length_drop]
 exact H1.out.two.setC 1 _
theorem newe (w0 w : World) (l : List Thing) (k : Nat) (h : Own w0 w l) (h1 : 1 ≤ k) (h2 : k ≤ 64) :
  Calls Tryz.prog 58 #[.int .i64 (k : Int)] w fun e w' => ∃ b,e = .returned (.tuple #[.pointer (some ⟨b,0,none⟩),.int .i64 0]) ∧ Own w0 w' (Ringe b k [] :: l) := by
 have H : Hid (Own w0 w l) := h
 clear h
 go_enter Tryz.func58,Tryz.ntmps58
 go_wp2
 go_ret2
 refine ⟨_,rfl,Own.ex_iff.2 ⟨.slice none 0 0,?_⟩⟩
 exact ((H.out.allocC #[.int .i64 (k : Int),.slice none 0 0] 196).nilRow 203 2).two
theorem newnoe (w : World) (k : Int) (h : k < 1 ∨ 64 < k) : Calls Tryz.prog 58 #[.int .i64 k] w fun e w' => e = .returned (.tuple #[.pointer none,.int .i64 1]) ∧ w' = w := by
 by_cases c : k < 1
 ·go_enter Tryz.func58,Tryz.ntmps58
  go_wp2
  go_ret2
  exact ⟨rfl,rfl⟩
 ·have c2 : 64 < k := by omega
  go_enter Tryz.func58,Tryz.ntmps58
  go_wp2
  go_ret2
  exact ⟨rfl,rfl⟩
theorem rcelle {w0 w : World} {l : List Thing} {g n cap : Nat} {L : List (Nat × (Option Addr × Nat × Nat))} (h : Own w0 w (Row 203 2 (.slice (some ⟨g,0,none⟩) n cap) L.length (cat ele L) :: l)) (hn : n = L.length) (i : Nat) (e : Nat × (Option Addr × Nat × Nat)) (he : L[i]? = some e) :
  w.cell? ⟨g,i * 2,none⟩ = some (.int .u32 (e.1 : Int)) ∧ w.cell? ⟨g,i * 2 + 1,none⟩ = some ((.slice (e.2).1 (e.2).2.1 (e.2).2.2)) := by
 subst hn
 have hi := (List.getElem?_eq_some_iff.1 he).1
 refine ⟨?_,?_⟩
 ·rw [h.row.cellAt _ (by omega)]
  exact (cat_at ele 2 ele_len L i 0 e he (by decide)).trans rfl
 ·rw [h.row.cellAt _ (by omega)]
  exact (cat_at ele 2 ele_len L i 1 e he (by decide)).trans rfl
set_option maxRecDepth 100000 in
theorem pute (w0 w : World) (l : List Thing) (b k : Nat) (L : List (Nat × (Option Addr × Nat × Nat))) (t : Nat) (x : (Option Addr × Nat × Nat)) (h : Own w0 w (Ringe b k L :: l)) (hR : ROk k L) (ht : t < 4294967296) :
  Calls Tryz.prog 62 #[.pointer (some ⟨b,0,none⟩),.int .u32 (t : Int),(.slice (x).1 (x).2.1 (x).2.2)] w fun e w' => e = .returned (.int .i64 (rput k L t x).1) ∧ Own w0 w' (Ringe b k (rput k L t x).2 :: l) := by
 have H0 : Hid (Own w0 w (Ringe b k L :: l)) := h
 obtain ⟨v,h⟩ := Own.ex_iff.1 h
 have q0 := h.cell 0
 have q1 := h.cell 1
 simp at q0 q1
 obtain ⟨ao,cap,rfl⟩ := row_any h.two.row
 have hk := hR.k2
 have hle := hR.le
 obtain ⟨i0,hi,hz0,hz1,hz2⟩ := info_parts Tryz.infoHe
 have H : Hid (Own w0 w (Cells b #[.int .i64 (k : Int),.slice ao L.length cap] 196 :: Row 203 2 (.slice ao L.length cap) L.length (cat ele L) :: l)) := h
 have HR : Hid (ROk k L) := hR
 clear h hR
 by_cases hst : ∃ e,L.getLast? = some e ∧ t ≤ e.1
 ·have HP : Hid (rput k L t x = (12,L)) := by unfold rput; exact if_pos hst
  obtain ⟨e,he,hte⟩ := hst
  have hlen : 0 < L.length := by
   cases L with
   | nil => simp at he
   | cons a L => simp
  obtain ⟨g,cap',hv,_⟩ := row_shape H.out.two.row hlen
  cases hv
  rw [List.getLast?_eq_getElem?] at he
  obtain ⟨c0,_⟩ := rcelle H.out.two rfl (L.length - 1) e he
  have hlen' : (0 : Int) < (L.length : Int) := by omega
  have hte' : (t : Int) ≤ (e.1 : Int) := by omega
  have he2 := HR.out.lt e (List.mem_of_getElem? he)
  have hte2 := hte
  generalize e.1 = et at *
  have hidx : ((L.length : Int) - 1) = ((L.length - 1 : Nat) : Int) := by omega
  have hidl : L.length - 1 < L.length := by omega
  clear he
  generalize hm : L.length - 1 = m at *
  clear hm
  generalize hln : L.length = ln at *
  go_enter Tryz.func62,Tryz.ntmps62
  go_wp2
  go_ret
  rw [HP.out]
  exact ⟨rfl,H0.out⟩
 ·obtain ⟨M,hM⟩ : ∃ M,M = L ++ [(t,x)] := ⟨_,rfl⟩
  have HM : Hid (M.length = L.length + 1 ∧ cat ele M = cat ele L ++ [.int .u32 (t : Int),(.slice (x).1 (x).2.1 (x).2.2)]) := ⟨by rw [hM]; simp,by rw [hM,cat_append]; rfl⟩
  have HP : Hid (rput k L t x = (0,if k < L.length + 1 then M.drop 1 else M)) := by unfold rput; rw [hM]; exact if_neg hst
  have hcase : L.length = 0 ∨ (0 < L.length ∧ ∃ g e et,ao = some ⟨g,0,none⟩ ∧ L[L.length - 1]? = some e ∧ et = e.1 ∧ et < t ∧ w.cell? ⟨g,(L.length - 1) * 2,none⟩ = some (.int .u32 (et : Int))) := by
   rcases Nat.eq_zero_or_pos L.length with c | c
   ·exact .inl c
   ·right
    obtain ⟨g,cap',hv,_⟩ := row_shape H.out.two.row c
    have hg := (Value.slice.inj hv).1
    subst hg
    obtain ⟨e,he⟩ : ∃ e,L[L.length - 1]? = some e := ⟨_,List.getElem?_eq_getElem (by omega)⟩
    refine ⟨c,g,e,e.1,rfl,he,rfl,?_,(rcelle H.out.two rfl _ e he).1⟩
    rcases Nat.lt_or_ge e.1 t with q | q
    ·exact q
    ·exact absurd ⟨e,by rw [List.getLast?_eq_getElem?]; exact he,q⟩ hst
  clear hst hM
  have hfin : Hid (∀ g' c' w1,Own w0 w1 (Row 203 2 (.slice (some ⟨g',0,none⟩) (L.length + 1) c') (L.length + 1) (cat ele L ++ [.int .u32 (t : Int),(.slice (x).1 (x).2.1 (x).2.2)]) :: Cells b #[.int .i64 (k : Int),.slice ao L.length cap] 196 :: l) → Own w0 (w1.setCell ⟨b,1,none⟩ (.slice (some ⟨g',0,none⟩) (L.length + 1) c')) (Ringe b k M :: l)) := by
   intro g' c' w1 hO
   refine Own.ex_iff.2 ⟨.slice (some ⟨g',0,none⟩) (L.length + 1) c',?_⟩
   rw [HM.out.1,HM.out.2]
   exact hO.two.setC 1 _
  have hML : Hid (M.length = L.length + 1) := HM.out.1
  rcases hcase with hl0 | ⟨hlen,g,e,et,rfl,he,het,hlt,c0⟩
  ·have hd0 : decide ((0 : Int) < (L.length : Int)) = false := decide_eq_false (by omega)
   have hd1 : ¬ (0 : Int) < (L.length : Int) := by omega
   have hkk : ¬ (k : Int) < (L.length : Int) + 1 := by have := HR.out.k1; omega
   have HIF : Hid ((if k < L.length + 1 then M.drop 1 else M) = M) := if_neg (by omega)
   have hl1 : ¬ 0 < L.length := by omega
   have hkn : ¬ k < L.length + 1 := by omega
   clear hl0
   generalize L.length = ln at *
   go_enter Tryz.func62,Tryz.ntmps62
   go_wp2_with (at_builtin; refine append1_own rfl _ _ 194 rfl 203 i0 (.agg #[.int .u32 0,.slice none 0 0]) 2 32 Tryz.underlying194 hi hz0 hz1 hz2 rfl (by decide) _ _ _ rfl H.out.two _ #[.int .u32 (t : Int),(.slice (x).1 (x).2.1 (x).2.2)] (by simp) rfl rfl (by intro u hu; simp at hu; rcases hu with rfl | rfl <;> rfl) (by unfold maxLen; omega) (by omega) ?_)
   intro g' c' w1 hO hsz
   have HF : Hid (Own w0 (w1.setCell ⟨b,1,none⟩ (.slice (some ⟨g',0,none⟩) (ln + 1) c')) (Ringe b k M :: l)) := hfin.out g' c' w1 hO
   have k0 := hO.two.cell 0
   have k1 := hO.two.cell 1
   have z1 := hO.two.froz 1
   simp at k0 k1
   clear hO H hsz q0 q1
   go_wp2
   go_region
   go_wp2
   go_ret
   rw [HP.out]
   exact ⟨rfl,by rw [HIF.out]; exact HF.out.drew⟩
  ·have hlen' : (0 : Int) < (L.length : Int) := by omega
   have hte' : decide ((t : Int) ≤ (et : Int)) = false := by simp; omega
   have hte2 : ¬ t ≤ et := by omega
   have hidx : ((L.length : Int) - 1) = ((L.length - 1 : Nat) : Int) := by omega
   have hidl : L.length - 1 < L.length := by omega
   have het2 : et < 4294967296 := by rw [het]; exact HR.out.lt e (List.mem_of_getElem? he)
   clear he het
   by_cases hfull : k < L.length + 1
   ·have hfull' : (k : Int) < (L.length : Int) + 1 := by omega
    have HIF : Hid ((if k < L.length + 1 then M.drop 1 else M) = M.drop 1) := if_pos hfull
    generalize hm : L.length - 1 = m at *
    clear hm
    generalize L.length = ln at *
    go_enter Tryz.func62,Tryz.ntmps62
    go_wp2_with (at_builtin; refine append1_own rfl _ _ 194 rfl 203 i0 (.agg #[.int .u32 0,.slice none 0 0]) 2 32 Tryz.underlying194 hi hz0 hz1 hz2 rfl (by decide) _ _ _ rfl H.out.two _ #[.int .u32 (t : Int),(.slice (x).1 (x).2.1 (x).2.2)] (by simp) rfl rfl (by intro u hu; simp at hu; rcases hu with rfl | rfl <;> rfl) (by unfold maxLen; omega) (by omega) ?_)
    intro g' c' w1 hO hsz
    have HF : Hid (Own w0 (w1.setCell ⟨b,1,none⟩ (.slice (some ⟨g',0,none⟩) (ln + 1) c')) (Ringe b k M :: l)) := hfin.out g' c' w1 hO
    have k0 := hO.two.cell 0
    have k1 := hO.two.cell 1
    have z1 := hO.two.froz 1
    simp at k0 k1
    clear hO H hsz q0 q1 c0
    go_wp2
    go_region
    go_wp2_with fail
    refine (drope w0 _ l b k M 1 HF.out.drew (by rw [hML.out]; omega) (by rw [hML.out]; omega)).mono ?_
    rintro e w2 ⟨rfl,hO⟩
    have H2 : Hid (Own w0 w2 _) := hO
    clear hO HF
    go_wp2
    go_ret
    rw [HP.out]
    exact ⟨rfl,by rw [HIF.out]; exact H2.out⟩
   ·have hkk : ¬ (k : Int) < (L.length : Int) + 1 := by omega
    have HIF : Hid ((if k < L.length + 1 then M.drop 1 else M) = M) := if_neg hfull
    generalize hm : L.length - 1 = m at *
    clear hm
    generalize L.length = ln at *
    go_enter Tryz.func62,Tryz.ntmps62
    go_wp2_with (at_builtin; refine append1_own rfl _ _ 194 rfl 203 i0 (.agg #[.int .u32 0,.slice none 0 0]) 2 32 Tryz.underlying194 hi hz0 hz1 hz2 rfl (by decide) _ _ _ rfl H.out.two _ #[.int .u32 (t : Int),(.slice (x).1 (x).2.1 (x).2.2)] (by simp) rfl rfl (by intro u hu; simp at hu; rcases hu with rfl | rfl <;> rfl) (by unfold maxLen; omega) (by omega) ?_)
    intro g' c' w1 hO hsz
    have HF : Hid (Own w0 (w1.setCell ⟨b,1,none⟩ (.slice (some ⟨g',0,none⟩) (ln + 1) c')) (Ringe b k M :: l)) := hfin.out g' c' w1 hO
    have k0 := hO.two.cell 0
    have k1 := hO.two.cell 1
    have z1 := hO.two.froz 1
    simp at k0 k1
    clear hO H hsz q0 q1 c0
    go_wp2
    go_region
    go_wp2
    go_ret
    rw [HP.out]
    exact ⟨rfl,by rw [HIF.out]; exact HF.out.drew⟩
set_option maxRecDepth 100000 in
theorem belowe (w0 w : World) (l : List Thing) (b k : Nat) (L : List (Nat × (Option Addr × Nat × Nat))) (t : Nat) (h : Own w0 w (Ringe b k L :: l)) (hL : L.length ≤ 1000) (hLt : ∀ e ∈ L,e.1 < 4294967296) :
  Calls Tryz.prog 122 #[.pointer (some ⟨b,0,none⟩),.int .u32 (t : Int)] w fun e w' => e = .returned (.int .i64 (below t L : Int)) ∧ Own w0 w' (Ringe b k L :: l) := by
 obtain ⟨v,h⟩ := Own.ex_iff.1 h
 obtain ⟨ao,cap,rfl⟩ := row_any h.two.row
 have H : Hid (Own w0 w (Cells b #[.int .i64 (k : Int),.slice ao L.length cap] 196 :: Row 203 2 (.slice ao L.length cap) L.length (cat ele L) :: l)) := h
 have hbl := below_le t L
 have HLT : Hid (∀ e ∈ L,e.1 < 4294967296) := hLt
 clear h hLt
 go_enter Tryz.func122,Tryz.ntmps122
 go_wp2
 go_loopw [5] (fun c wr => ∃ n : Nat,n ≤ below t L ∧ c = .int .i64 n ∧ Own w0 wr (Cells b #[.int .i64 (k : Int),.slice ao L.length cap] 196 :: Row 203 2 (.slice ao L.length cap) L.length (cat ele L) :: l)) (fun c _ => L.length - (intOf c).toNat)
 case atStart => exact ⟨0,Nat.zero_le _,rfl,H.out⟩
 case round =>
  obtain ⟨n,hn,rfl,hO⟩ := hrel
  have q1 := hO.cell 1
  simp at q1
  have HO : Hid (Own w0 wr _) := hO
  clear H
  by_cases hlt : n < L.length
  ·obtain ⟨e,he⟩ : ∃ e,L[n]? = some e := ⟨_,List.getElem?_eq_getElem hlt⟩
   obtain ⟨g,cap',hv,_⟩ := row_shape hO.two.row (by omega)
   have hg := (Value.slice.inj hv).1
   subst hg
   obtain ⟨c0,_⟩ := rcelle hO.two rfl n e he
   have he2 := HLT.out e (List.mem_of_getElem? he)
   have hlt' : (n : Int) < (L.length : Int) := by omega
   clear hO hv
   by_cases hb : n < below t L
   ·have het := below_lt t L n e hb he
    have het' : (e.1 : Int) < (t : Int) := by omega
    clear he
    generalize e.1 = et at *
    generalize below t L = bl at *
    generalize L.length = ln at *
    go_wp2
    go_roundw
    case rel => exact ⟨n + 1,by omega,by go_num,HO.out⟩
    case measure => simp [intOf]; omega
   ·have hnb : n = below t L := by omega
    have het : t ≤ e.1 := below_at t L e (by rw [← hnb]; exact he)
    have HNB : Hid (n = below t L) := hnb
    have het' : decide ((e.1 : Int) < (t : Int)) = false := decide_eq_false (by omega)
    have het2 : ¬ e.1 < t := by omega
    clear he hnb hb
    generalize e.1 = et at *
    go_wp2
    go_ret
    exact ⟨by rw [← HNB.out]; rfl,Own.ex_iff.2 ⟨_,HO.out⟩⟩
  ·have HNB : Hid (n = below t L) := by show n = below t L; omega
   have hd : decide ((n : Int) < (L.length : Int)) = false := decide_eq_false (by omega)
   clear hO
   go_wp2
   go_ret
   exact ⟨by rw [← HNB.out]; rfl,Own.ex_iff.2 ⟨_,HO.out⟩⟩
def gve (o : Option (Option Addr × Nat × Nat)) : Value := match o with
 | some x => .tuple #[(.slice (x).1 (x).2.1 (x).2.2),.bool true]
 | none => .tuple #[.slice none 0 0,.bool false]
set_option maxRecDepth 100000 in
theorem gete (w0 w : World) (l : List Thing) (b k : Nat) (L : List (Nat × (Option Addr × Nat × Nat))) (t : Nat) (h : Own w0 w (Ringe b k L :: l)) (hR : ROk k L) :
  Calls Tryz.prog 65 #[.pointer (some ⟨b,0,none⟩),.int .u32 (t : Int)] w fun e w' => e = .returned (gve (rget L t)) ∧ Own w0 w' (Ringe b k L :: l) := by
 have hk := hR.k2
 have hle := hR.le
 have HB : Hid (Calls _ _ _ _ _) := belowe w0 w l b k L t h (by omega) hR.lt
 have HLT : Hid (∀ e ∈ L,e.1 < 4294967296) := hR.lt
 have hbl := below_le t L
 clear h hR
 go_enter Tryz.func65,Tryz.ntmps65
 go_wp2_with fail
 refine HB.out.mono ?_
 rintro e w1 ⟨rfl,hO⟩
 obtain ⟨v,hO⟩ := Own.ex_iff.1 hO
 obtain ⟨ao,cap,rfl⟩ := row_any hO.two.row
 have q1 := hO.cell 1
 simp at q1
 have H1 : Hid (Own w0 w1 (Cells b #[.int .i64 (k : Int),.slice ao L.length cap] 196 :: Row 203 2 (.slice ao L.length cap) L.length (cat ele L) :: l)) := hO
 have HF : Hid (Own w0 w1 (Ringe b k L :: l)) := Own.ex_iff.2 ⟨_,hO⟩
 clear hO HB
 by_cases hlt : below t L < L.length
 ·obtain ⟨e,he⟩ : ∃ e,L[below t L]? = some e := ⟨_,List.getElem?_eq_getElem hlt⟩
  obtain ⟨g,cap',hv,_⟩ := row_shape H1.out.two.row (by omega)
  have hg := (Value.slice.inj hv).1
  subst hg
  obtain ⟨c0,c1⟩ := rcelle H1.out.two rfl (below t L) e he
  have he2 := HLT.out e (List.mem_of_getElem? he)
  have hne : ((below t L : Int) == (L.length : Int)) = false := by rw [beq_eq_false_iff_ne]; omega
  have hlt' : (below t L : Int) < (L.length : Int) := by omega
  by_cases het : e.1 = t
  ·have HG : Hid (rget L t = some e.2) := by unfold rget; rw [he]; exact if_pos het
   have hq : ((e.1 : Int) != (t : Int)) = false := by rw [het]; simp
   rw [het] at c0
   have hq2 : ((t : Int) != (t : Int)) = false := by simp
   clear he het hv H1
   generalize e.2 = ex at *
   generalize below t L = bl at *
   generalize L.length = ln at *
   go_wp2
   go_ret2
   rw [HG.out]
   exact ⟨rfl,HF.out⟩
  ·have HG : Hid (rget L t = none) := by unfold rget; rw [he]; exact if_neg het
   have hq : ((e.1 : Int) != (t : Int)) = true := by simp; omega
   have hq2 : ¬ e.1 = t := het
   clear he het hv c1 H1
   generalize e.1 = et at *
   generalize below t L = bl at *
   generalize L.length = ln at *
   go_wp2
   go_ret2
   rw [HG.out]
   exact ⟨rfl,HF.out⟩
 ·have heq : below t L = L.length := by omega
  have HG : Hid (rget L t = none) := by unfold rget; rw [heq,List.getElem?_eq_none (Nat.le_refl _)]; rfl
  rw [heq]
  clear heq hlt hbl H1
  generalize L.length = ln at *
  go_wp2
  go_ret2
  rw [HG.out]
  exact ⟨rfl,HF.out⟩
theorem cute (w0 w : World) (l : List Thing) (b k : Nat) (L : List (Nat × (Option Addr × Nat × Nat))) (t : Nat) (h : Own w0 w (Ringe b k L :: l)) (hR : ROk k L) :
  Calls Tryz.prog 66 #[.pointer (some ⟨b,0,none⟩),.int .u32 (t : Int)] w fun e w' => e = .returned (.int .i64 (below t L : Int)) ∧ Own w0 w' (Ringe b k (L.drop (below t L)) :: l) := by
 have hk := hR.k2
 have hle := hR.le
 have HB : Hid (Calls _ _ _ _ _) := belowe w0 w l b k L t h (by omega) hR.lt
 have hbl := below_le t L
 clear h hR
 go_enter Tryz.func66,Tryz.ntmps66
 go_wp2_with fail
 refine HB.out.mono ?_
 rintro e w1 ⟨rfl,hO⟩
 have H1 : Hid (Own w0 w1 _) := hO
 clear hO HB
 go_wp2_with fail
 refine (drope w0 w1 l b k L (below t L) H1.out hbl (by omega)).mono ?_
 rintro e w2 ⟨rfl,hO⟩
 have H2 : Hid (Own w0 w2 _) := hO
 clear hO H1
 go_wp2
 go_ret
 exact ⟨rfl,H2.out⟩
theorem Tryz.infoUe : (Tryz.prog.info? 27).map (fun i => (i.zero,i.size,i.bytes)) = some (some (.int .u32 0),1,4) := by kernel_rfl
def tkse (L : List (Nat × (Option Addr × Nat × Nat))) : List Nat := L.map (·.1)
set_option maxRecDepth 100000 in
theorem tickse (w0 w : World) (l : List Thing) (b k : Nat) (L : List (Nat × (Option Addr × Nat × Nat))) (h : Own w0 w (Ringe b k L :: l)) (hR : ROk k L) :
  Calls Tryz.prog 68 #[.pointer (some ⟨b,0,none⟩)] w fun e w' => ∃ ao cap,e = .returned (.slice ao L.length cap) ∧ Own w0 w' (Row 27 1 (.slice ao L.length cap) L.length (irow .u32 (tkse L)) :: Ringe b k L :: l) := by
 have hk := hR.k2
 have hle := hR.le
 have HLT : Hid (∀ e ∈ L,e.1 < 4294967296) := hR.lt
 obtain ⟨v,h⟩ := Own.ex_iff.1 h
 obtain ⟨ao,cap,rfl⟩ := row_any h.two.row
 have q1 := h.cell 1
 simp at q1
 obtain ⟨i0,hi,hz0,hz1,hz2⟩ := info_parts Tryz.infoUe
 obtain ⟨w1,hmk,hO,hf⟩ := make_own (P := Tryz.prog) h 70 27 i0 (.int .u32 0) 1 Tryz.underlying70 hi hz0 hz1 L.length (by rw [hz2]; omega) (by unfold maxLen; omega)
 have q1' := hO.two.cell 1
 simp at q1'
 have H1 : Hid (Own w0 w1 (Row 27 1 (.slice (some ⟨w.heap.size,0,none⟩) 0 L.length) (tkse (L.take 0)).length (irow .u32 (tkse (L.take 0))) :: _)) := hO
 clear h hR hO hf
 go_enter Tryz.func68,Tryz.ntmps68
 go_wp2
 go_loopw [3,19] (fun lv c wr => ∃ n : Nat,n ≤ L.length ∧ c = .int .i64 n ∧ ∃ g c2,lv = .slice (some ⟨g,0,none⟩) n c2 ∧ Own w0 wr (Row 27 1 (.slice (some ⟨g,0,none⟩) n c2) n (irow .u32 (tkse (L.take n))) :: Cells b #[.int .i64 (k : Int),.slice ao L.length cap] 196 :: Row 203 2 (.slice ao L.length cap) L.length (cat ele L) :: l)) (fun _ c _ => L.length - (intOf c).toNat)
 case atStart => exact ⟨0,Nat.zero_le _,rfl,_,_,rfl,H1.out⟩
 case round =>
  obtain ⟨n,hn,rfl,g2,c2,rfl,hO⟩ := hrel
  clear H1 hmk q1 q1'
  by_cases hlt : n < L.length
  ·obtain ⟨e,he⟩ : ∃ e,L[n]? = some e := ⟨_,List.getElem?_eq_getElem hlt⟩
   obtain ⟨g,cap',hv,_⟩ := row_shape hO.three.row (by omega)
   have hg := (Value.slice.inj hv).1
   subst hg
   obtain ⟨c0,c1⟩ := rcelle hO.three rfl n e he
   have he2 := HLT.out e (List.mem_of_getElem? he)
   have HT : Hid (irow .u32 (tkse (L.take (n + 1))) = irow .u32 (tkse (L.take n)) ++ [.int .u32 (e.1 : Int)]) := by
    show _ = _
    rw [List.take_add_one,he]; simp [tkse,irow]
   have hlt' : (n : Int) < (L.length : Int) := by omega
   have HO : Hid (Own w0 wr _) := hO
   clear he hv hO
   obtain ⟨et,ex⟩ := e
   simp only at c0 c1 he2
   go_wp2_with (at_builtin; refine append1_own rfl _ _ 70 rfl 27 i0 (.int .u32 0) 1 4 Tryz.underlying70 hi hz0 hz1 hz2 rfl (by decide) _ _ _ rfl (HO.out.alloc _) _ _ (by simp) rfl rfl (one_int _ _) (by unfold maxLen; omega) (by omega) ?_)
   intro g' c' w2 hO2 hsz
   have H2 : Hid (Own w0 w2 _) := hO2
   clear hO2 HO
   go_wp2
   go_roundw
   case rel => exact ⟨n + 1,by omega,by go_num,g',c',rfl,by rw [HT.out]; exact H2.out⟩
   case measure => simp [intOf]; omega
  ·have en : n = L.length := by omega
   have HO : Hid (Own w0 wr (Row 27 1 (.slice (some ⟨g2,0,none⟩) L.length c2) L.length (irow .u32 (tkse L)) :: Cells b #[.int .i64 (k : Int),.slice ao L.length cap] 196 :: Row 203 2 (.slice ao L.length cap) L.length (cat ele L) :: l)) := by
    rw [en,List.take_of_length_le (Nat.le_refl _)] at hO; exact hO
   have HN : Hid (n = L.length) := en
   clear hO en
   go_wp2
   go_ret
   exact ⟨some ⟨g2,0,none⟩,c2,by rw [← HN.out]; rfl,Own.ex2.2 ⟨_,HO.out⟩⟩
end Go.Proofs.YtgifeckbflkkpaaGreatDoor
