/- The document's Diff. -/
import Derived.Test.YtgifeckbflkkpaaGreatDoorQr26
namespace Go.Proofs.YtgifeckbflkkpaaGreatDoor
open Go.RowKit
set_option linter.unusedVariables false
set_option maxHeartbeats 64000000
set_option maxRecDepth 100000
def gonL (W N : List EnE) (k : Nat) : List Nat := ((evs (W.take k)).filter (fun e => (fstE (evs N) e.1).isNone)).map (·.1)
theorem gonL_le (W N : List EnE) (k : Nat) : (gonL W N k).length ≤ k := by
 unfold gonL
 rw [List.length_map]
 refine Nat.le_trans (List.length_filter_le _ _) ?_
 rw [evs_len,List.length_take]; omega
theorem evs_take {L : List EnE} {k : Nat} {x : EnE} (hx : L[k]? = some x) : evs (L.take (k + 1)) = evs (L.take k) ++ [(x.id,x.C)] := by
 rw [List.take_add_one,hx]; simp [evs]
theorem gonL_yes {W N : List EnE} {k : Nat} {x : EnE} (hx : W[k]? = some x) (h : fstE (evs N) x.id = none) : gonL W N (k + 1) = gonL W N k ++ [x.id] := by
 unfold gonL
 rw [evs_take hx]
 simp [h]
theorem gonL_no {W N : List EnE} {k : Nat} {x : EnE} {e : En} (hx : W[k]? = some x) (h : fstE (evs N) x.id = some e) : gonL W N (k + 1) = gonL W N k := by
 unfold gonL
 rw [evs_take hx]
 simp [h]
theorem FindR.none {L : List EnE} {i : Nat} (h : ∀ x ∈ L,x.id ≠ i) : fstE (evs L) i = none := fstE_none (fun x hx => by
 obtain ⟨y,hy,rfl⟩ := List.mem_map.1 hx
 exact h y hy)
theorem fstE_mem {L : List En} (h : L.Pairwise (fun a b => a.1 < b.1)) {x : En} (hx : x ∈ L) : fstE L x.1 = some x := by
 rcases hw : fstE L x.1 with _ | w
 ·exact absurd rfl (fstE_isNone.1 (by rw [hw]; rfl) x hx)
 ·have hw2 := fstE_some hw
  rw [up_eq h hw2.1 hx hw2.2]
theorem Own.nil3 {w0 w : World} {l : List Thing} {b5 b4 : Nat} (h : Own w0 w (Cells b5 #[.slice none 0 0,.slice none 0 0,.slice none 0 0] 106 :: Cells b4 #[.slice none 0 0,.slice none 0 0,.slice none 0 0] 106 :: l)) : Own w0 w (BTh nilD b5 b4 l) := ((h.nilRow _ _).nilRow _ _).nilRow _ _
def ComeR (W N : List EnE) (k : Nat) (d : DlE) : Prop := d.G = gonL W N W.length ∧ evs d.M = (evs (N.take k)).filter (fun e => (fstE (evs W) e.1).isNone) ∧ d.H.map ChE.v = (evs (N.take k)).filterMap (chgO (evs W)) ∧ d.M.length ≤ k ∧ d.H.length ≤ k
theorem ComeR.fin {W N : List EnE} {d : DlE} (h : ComeR W N N.length d) (hW : Snap (evs W)) (hN : Snap (evs N)) : d.v = btw (evs W) (evs N) := by
 obtain ⟨h1,h2,h3,_⟩ := h
 rw [btw_dlt _ _ hW.up hN.up]
 unfold DlE.v dlt
 rw [h1,h2,h3]
 unfold gonL
 simp
theorem ComeR.come {W N : List EnE} {d : DlE} {k : Nat} {y : EnE} (h : ComeR W N k d) (hy : N[k]? = some y) (hn : fstE (evs W) y.id = none) (a : Option Addr) (c : Nat) (m6 : Option Addr) (c6 : Nat) : ComeR W N (k + 1) ⟨d.G,d.ga,d.gc,d.M ++ [EnE.mk y.id a c y.C],m6,c6,d.H,d.ha,d.hc⟩ := by
 obtain ⟨h1,h2,h3,h4,h5⟩ := h
 refine ⟨h1,?_,?_,?_,by simp only; omega⟩
 ·show evs (d.M ++ _) = _
  have e0 : evs (d.M ++ [EnE.mk y.id a c y.C]) = evs d.M ++ [(y.id,y.C)] := by simp [evs]
  rw [evs_take hy,List.filter_append,← h2,e0]
  simp [hn]
 ·show d.H.map ChE.v = _
  rw [evs_take hy,List.filterMap_append,← h3]
  simp [chgO,hn]
 ·simp; exact h4
theorem ComeR.chg {W N : List EnE} {d : DlE} {k : Nat} {y : EnE} {x : En} (h : ComeR W N k d) (hy : N[k]? = some y) (hs : fstE (evs W) y.id = some x) (z : ChE) (hz : z.v = chg1 x (y.id,y.C)) (hn : z.v.nil = false) (h6 : Option Addr) (c6 : Nat) : ComeR W N (k + 1) ⟨d.G,d.ga,d.gc,d.M,d.ma,d.mc,d.H ++ [z],h6,c6⟩ := by
 obtain ⟨h1,h2,h3,h4,h5⟩ := h
 refine ⟨h1,?_,?_,by simp only; omega,?_⟩
 ·show evs d.M = _
  rw [evs_take hy,List.filter_append,← h2]
  simp [hs]
 ·show (d.H ++ [z]).map ChE.v = _
  rw [evs_take hy,List.filterMap_append,← h3]
  rw [hz] at hn
  simp [chgO,hs,hn,hz]
 ·simp; exact h5
theorem ComeR.same {W N : List EnE} {d : DlE} {k : Nat} {y : EnE} {x : En} (h : ComeR W N k d) (hy : N[k]? = some y) (hs : fstE (evs W) y.id = some x) (hn : (chg1 x (y.id,y.C)).nil = true) : ComeR W N (k + 1) d := by
 obtain ⟨h1,h2,h3,h4,h5⟩ := h
 refine ⟨h1,?_,?_,by omega,by omega⟩
 ·rw [evs_take hy,List.filter_append,← h2]
  simp [hs]
 ·rw [evs_take hy,List.filterMap_append,← h3]
  simp [chgO,hs,hn]
theorem rplace_any (w : World) (ao : Option Addr) (n cap : Nat) (C : List Cp) (hn : C.length = n) (hs : Cs w ao C) (hG : C.Pairwise (fun x y => x.k < y.k)) (hk : ∀ q ∈ C,q.k < 256) (hm : n ≤ 1000000) (k : Nat) (hkk : k < 256) :
  Calls Tryz.prog 53 #[.slice ao n cap,.int .u8 (k : Int)] w fun e w' => ∃ r : Int,e = .returned (.int .i64 r) ∧ PlR C k r ∧ Fr Nobody w w' := by
 refine (find_any w ao n cap C hn hs hk hm k hkk).mono ?_
 rintro e w' ⟨r,rfl,hf,h⟩
 refine ⟨r,rfl,?_,hf⟩
 rcases h with ⟨rfl,hno⟩ | ⟨i,rfl,q,hq,hqk,_⟩
 ·refine .inl ⟨rfl,?_⟩
  rcases hx : fst C k with _ | x
  ·rfl
  ·have h1 := fst_some hx
   have h2 := mem_hasK h1.1
   rw [h1.2,hno] at h2
   cases h2
 ·exact .inr ⟨i,q,rfl,hq,by rw [← hqk]; exact fst_mem hG (List.mem_of_getElem? hq)⟩
theorem rplace_fix (ao : Option Addr) (n cap : Nat) (C : List Cp) (hn : C.length = n) (hG : C.Pairwise (fun x y => x.k < y.k)) (hk : ∀ q ∈ C,q.k < 256) (hm : n ≤ 1000000) (k : Nat) (hkk : k < 256) :
  ∃ r : Int,PlR C k r ∧ ∀ w,Cs w ao C → Calls Tryz.prog 53 #[.slice ao n cap,.int .u8 (k : Int)] w fun e w' => e = .returned (.int .i64 r) ∧ Fr Nobody w w' := by
 rcases hf : fst C k with _ | q
 ·refine ⟨-1,.inl ⟨rfl,hf⟩,fun w hs => (rplace_any w ao n cap C hn hs hG hk hm k hkk).mono ?_⟩
  rintro e w' ⟨r,rfl,hp,hfr⟩
  rcases hp with ⟨rfl,_⟩ | ⟨j,q,rfl,_,hq⟩
  ·exact ⟨rfl,hfr⟩
  ·rw [hf] at hq; cases hq
 ·obtain ⟨j,hj⟩ := List.mem_iff_getElem?.1 (fst_some hf).1
  refine ⟨(j : Int),.inr ⟨j,q,rfl,hj,hf⟩,fun w hs => (rplace_any w ao n cap C hn hs hG hk hm k hkk).mono ?_⟩
  rintro e w' ⟨r,rfl,hp,hfr⟩
  rcases hp with ⟨_,hq⟩ | ⟨j',q',rfl,hj',hq⟩
  ·rw [hf] at hq; cases hq
  ·rw [hf] at hq
   cases hq
   obtain ⟨h1,e1⟩ := List.getElem?_eq_some_iff.1 hj
   obtain ⟨h2,e2⟩ := List.getElem?_eq_some_iff.1 hj'
   have hP := List.pairwise_iff_getElem.1 hG
   have : j = j' := by
    rcases Nat.lt_trichotomy j j' with hlt | heq | hlt
    ·have := hP j j' h1 h2 hlt; rw [e1,e2] at this; omega
    ·exact heq
    ·have := hP j' j h2 h1 hlt; rw [e1,e2] at this; omega
   subst this
   exact ⟨rfl,hfr⟩
theorem newK_zero (A B : List Cp) : newK A B 0 = [] := by unfold newK; rw [bel_none (fun q _ => Nat.zero_le _)]; rfl
theorem setK_zero (A B : List Cp) : setK A B 0 = [] := by unfold setK; rw [bel_none (fun q _ => Nat.zero_le _)]; rfl
theorem Own.l7 {w0 w : World} {A B C D E F G P : Thing} {m : List Thing} (h : Own w0 w (A :: B :: C :: D :: E :: F :: G :: P :: m)) : Own w0 w (P :: A :: B :: C :: D :: E :: F :: G :: m) := Own.lift (l := [A,B,C,D,E,F,G]) h
def ix9 (a b c d e f g h i : Thing) : Nat → Thing
 | 0 => a
 | 1 => b
 | 2 => c
 | 3 => d
 | 4 => e
 | 5 => f
 | 6 => g
 | 7 => h
 | _ => i
theorem perm_q (B8 R n s B14 B12 g m B4 : Thing) (X l : List Thing) : (B8 :: R :: n :: s :: B14 :: B12 :: g :: m :: B4 :: (X ++ l)).Perm (B14 :: B12 :: g :: m :: R :: B8 :: B4 :: ((X ++ [n,s]) ++ l)) := by
 have h1 : ([0,1,2,3,4,5,6,7,8] : List Nat).Perm [4,5,6,7,1,0,8,2,3] := by decide
 have h2 := (h1.map (ix9 B8 R n s B14 B12 g m B4)).append_right (X ++ l)
 have h3 := List.perm_append_comm_assoc [n,s] X l
 have h4 := h3.append_left [B14,B12,g,m,R,B8,B4]
 have e : (X ++ [n,s]) ++ l = X ++ ([n,s] ++ l) := by simp
 rw [e]
 exact h2.trans h4
def INN (A B : List Cp) (yi : Nat) (ya : Option Addr) (yl yc b14 b12 : Nat) (LB : List Thing) (kk : Nat) (na : Option Addr) (nc : Nat) (sa : Option Addr) (sc : Nat) : List Thing := Row 63 4 (.slice na (newK A B kk).length nc) (newK A B kk).length (ccat (newK A B kk)) :: Row 63 4 (.slice sa (setK A B kk).length sc) (setK A B kk).length (ccat (setK A B kk)) :: Cells b14 #[.int .u32 (yi : Int),.int .u8 ((lostN A B kk : Nat) : Int),.slice na (newK A B kk).length nc,.slice sa (setK A B kk).length sc] 112 :: Cells b12 #[.int .u32 (yi : Int),.slice ya yl yc] 60 :: LB
theorem perm_m (B8 RE RC B12 g h B4 : Thing) (X Y l : List Thing) : (B8 :: RE :: RC :: B12 :: g :: h :: B4 :: (X ++ (Y ++ l))).Perm (B12 :: g :: RE :: h :: B8 :: B4 :: (X ++ (Y ++ (RC :: l)))) := by
 have h1 : ([0,1,2,3,4,5,6] : List Nat).Perm [3,4,1,5,0,6,2] := by decide
 have h2 := (h1.map (ix8 B8 RE RC B12 g h B4 B4)).append_right (X ++ (Y ++ l))
 have h3 : (RC :: (X ++ (Y ++ l))).Perm (X ++ (Y ++ (RC :: l))) := by
  have e : X ++ (Y ++ (RC :: l)) = (X ++ Y) ++ RC :: l := by simp
  have e2 : X ++ (Y ++ l) = (X ++ Y) ++ l := by simp
  rw [e,e2]; exact List.perm_middle.symm
 exact h2.trans (h3.append_left [B12,g,RE,h,B8,B4])
theorem perm_n (B4 g RE h B8 : Thing) (X Y l : List Thing) : (B4 :: g :: RE :: h :: B8 :: (X ++ (Y ++ l))).Perm (B4 :: B8 :: ((RE :: Y) ++ (g :: h :: (X ++ l)))) := by
 have h1 : ([0,1,2,3,4] : List Nat).Perm [0,4,2,1,3] := by decide
 have h2 := (h1.map (ix8 B4 g RE h B8 B8 B8 B8)).append_right (X ++ (Y ++ l))
 have h3 : (g :: h :: (X ++ (Y ++ l))).Perm (Y ++ (g :: h :: (X ++ l))) := by
  have := List.perm_append_comm_assoc (g :: h :: X) Y l
  simpa using this
 exact h2.trans (h3.append_left [B4,B8,RE])
theorem rdiff_any (w0 w : World) (l : List Thing) (h : Own w0 w l) (aw an : Option Addr) (nw nn cw cn : Nat) (W N : List EnE) (hQ : ∀ w',Own w0 w' l → EntsAt w' aw W ∧ EntsAt w' an N) (hW : W.length = nw) (hN : N.length = nn) (hIW : EIn W) (hIN : EIn N) (hzW : esz W ≤ 1000000) (hzN : esz N ≤ 1000000) :
  Calls Tryz.prog 75 #[.slice aw nw cw,.slice an nn cn] w fun e w' => ∃ d : DlE,e = .returned (.tuple #[.agg d.vs,.int .i64 ((dcode (evs W) (evs N) : Nat) : Int)]) ∧ d.v = dlv (evs W) (evs N) ∧ Own w0 w' (d.things ++ l) := by
 obtain ⟨iI,hiI,hI0,hI1,hI2⟩ := info3w Tryz.infoIDk
 obtain ⟨iE,hiE,hE0,hE1,hE2⟩ := info3w Tryz.infoEnt
 obtain ⟨iH,hiH,hH0,hH1,hH2⟩ := info3w Tryz.infoChg
 obtain ⟨iC,hiC,hC0,hC1,hC2⟩ := info_parts Tryz.infoComp
 have hB := h.allocC #[.slice none 0 0,.slice none 0 0,.slice none 0 0] 106
 have HF1 : Hid (Calls _ _ _ _ _) := rform_any _ aw nw cw W ((hQ _ hB.tail).1) hW hIW hzW
 have HF2 : Hid (∀ w' b,Own w0 w' (Cells b #[.slice none 0 0,.slice none 0 0,.slice none 0 0] 106 :: l) → Calls Tryz.prog 31 #[.slice an nn cn] w' fun e w'' => e = .returned (.int .i64 ((fm 0 (evs N) : Nat) : Int)) ∧ Fr Nobody w' w'') := fun w' b hw => rform_any w' an nn cn N ((hQ w' hw.tail).2) hN hIN hzN
 have HB : Hid (Own w0 _ _) := hB
 have HIN : Hid (EIn W ∧ EIn N ∧ (∀ x ∈ W,x.C.length ≤ 1000000) ∧ ∀ x ∈ N,x.C.length ≤ 1000000) := ⟨hIW,hIN,fun x hx => by have := csz_mem hx; unfold esz at hzW; omega,fun x hx => by have := csz_mem hx; unfold esz at hzN; omega⟩
 have hnw : nw ≤ 1000000 := by unfold esz at hzW; omega
 have hnn : nn ≤ 1000000 := by unfold esz at hzN; omega
 have HWN : Hid (W.length = nw ∧ N.length = nn) := ⟨hW,hN⟩
 have HQ : Hid (∀ w',Own w0 w' l → EntsAt w' aw W ∧ EntsAt w' an N) := hQ
 have hs1 := fm_lt 0 (evs W)
 have hs2 := fm_lt 0 (evs N)
 obtain ⟨x,hx⟩ : ∃ x,x = fm 0 (evs W) := ⟨_,rfl⟩
 obtain ⟨y,hy⟩ : ∃ y,y = fm 0 (evs N) := ⟨_,rfl⟩
 have HDC2 : Hid (dcode (evs W) (evs N) = if x ≠ 0 then x else y) := by show _ = _; rw [hx,hy]; rfl
 have HX : Hid (x = fm 0 (evs W)) := hx
 have HY : Hid (y = fm 0 (evs N)) := hy
 rw [← hx] at HF1 hs1
 rw [← hy] at HF2 hs2
 clear h hQ hW hN hIW hIN hzW hzN hB hx hy
 go_enter Tryz.func75,Tryz.ntmps75
 go_wp2_with fail
 refine HF1.out.mono ?_
 rintro e w1 ⟨rfl,hf1⟩
 have h1 := HB.out.quiet hf1
 generalize w.heap.size = b4 at *
 clear HF1 HB hf1
 by_cases hx0 : x = 0
 ·subst hx0
  have HFN : Hid (Calls _ _ _ _ _) := HF2.out w1 b4 h1
  have H1 : Hid (Own w0 w1 _) := h1
  clear h1 HF2
  go_wp2_with fail
  refine HFN.out.mono ?_
  rintro e w2 ⟨rfl,hf2⟩
  have h2 := H1.out.quiet hf2
  clear HFN H1 hf2
  by_cases hy0 : y = 0
  ·subst hy0
   have HC : Hid (dcode (evs W) (evs N) = 0) := by show _ = _; rw [HDC2.out]; rfl
   have HSW : Hid (Snap (evs W)) := Snap.of HX.out.symm
   have HSN : Hid (Snap (evs N)) := Snap.of HY.out.symm
   have hB8 := h2.allocC #[.slice none 0 0,.slice none 0 0,.slice none 0 0] 106
   have HB8 : Hid (Own w0 _ _) := Own.nil3 hB8
   clear h2 hB8 HDC2 HX HY
   go_wp2
   generalize hWg : w2.alloc (.cells #[.slice none 0 0,.slice none 0 0,.slice none 0 0] 106) = W1 at *
   generalize w2.heap.size = b8 at *
   clear hWg
   go_loopw [10,32] (fun v10 cc wr => ∃ (k : Nat) (ga : Option Addr) (gc : Nat),k ≤ nw ∧ cc = .int .i64 (k : Int) ∧ Own w0 wr (BTh ⟨gonL W N k,ga,gc,[],none,0,[],none,0⟩ b8 b4 l)) (fun _ cc _ => nw - (intOf cc).toNat)
   case atStart => exact ⟨0,none,0,Nat.zero_le _,rfl,HB8.out⟩
   case round =>
    obtain ⟨k,ga,gc,hk,rfl,hO⟩ := hrel
    clear HB8
    by_cases hlt : k < nw
    ·obtain ⟨x,hx⟩ : ∃ x,W[k]? = some x := ⟨_,List.getElem?_eq_getElem (by rw [HWN.out.1]; exact hlt)⟩
     obtain ⟨g,o,hga,hc0,hc1,-⟩ := ((HQ.out wr hO.bth).1).at hx
     have hlt' : (k : Int) < (nw : Int) := by omega
     have hb1 : g < wr.heap.size := World.block_lt_of_cell? wr _ hc0
     have hb2 : wr.heap.size ≠ g := by omega
     have hA := hO.allocC #[.int .u32 (x.id : Int),.slice x.ao x.C.length x.cap] 60
     have HFI : Hid (Calls _ _ _ _ _) := rfindE_any (wr.alloc (.cells #[.int .u32 (x.id : Int),.slice x.ao x.C.length x.cap] 60)) an nn cn N ((HQ.out _ hA.tail.bth).2) HWN.out.2 (by omega) x.id
     have HA : Hid (Own w0 _ _) := hA
     have HX : Hid (W[k]? = some x) := hx
     clear hO hA hx
     have HGA : Hid (aw = some ⟨g,o,none⟩) := hga
     rw [hga]
     clear hga
     obtain ⟨xi,xa,xc,xC⟩ := x
     simp only at hc0 hc1 HFI HA HX
     generalize hxl : xC.length = xl at *
     clear hxl
     go_wp2_with fail
     refine HFI.out.mono ?_
     rintro e w2 ⟨r,rfl,hfr,hf⟩
     have hA2 := HA.out.quiet hf
     clear HFI hf HA hc0 hc1 hb1 hb2
     generalize wr.heap.size = b10 at *
     rcases hfr with ⟨rfl,hno⟩ | ⟨j,y,rfl,hy,hyi,-⟩
     ·have hgl := gonL_le W N k
      have HG : Hid (gonL W N (k + 1) = gonL W N k ++ [xi]) := gonL_yes HX.out (FindR.none hno)
      have t0 := (Own.l4 hA2).cell 0
      have t1 := hA2.cell 0
      simp [DlE.vs] at t0 t1
      have n5 := (Own.l4 hA2).lt
      have n6 := hA2.lt
      have n1 : w2.heap.size ≠ b8 := by omega
      have n2 : w2.heap.size ≠ b10 := by omega
      have HN : Hid (Own w0 w2 _) := hA2.two
      clear hA2 hno
      go_wp2_with (at_builtin; refine append1_own rfl _ _ 103 rfl 57 iI _ 1 4 Tryz.underlying103 hiI hI0 hI1 hI2 rfl (by decide) _ _ _ rfl HN.out _ #[.int .u32 (xi : Int)] (by simp) rfl rfl (by intro u hu; simp at hu; rcases hu with rfl; rfl) (by unfold maxLen; omega) (by omega) ?_)
      intro g6 c6 w6 hO6 hsz6
      have k2 := (Own.l4 hO6).cell 0
      have k3 := (Own.l4 hO6).froz 0
      simp [DlE.vs] at k2
      have h9 := (Own.l4 hO6).setC 0 (.slice (some ⟨g6,0,none⟩) ((gonL W N k).length + 1) c6)
      simp [DlE.vs] at h9
      have H9 : Hid (Own w0 (w6.setCell ⟨b8,0,none⟩ (.slice (some ⟨g6,0,none⟩) ((gonL W N k).length + 1) c6)) (BTh ⟨gonL W N (k + 1),some ⟨g6,0,none⟩,c6,[],none,0,[],none,0⟩ b8 b4 l)) := by
       show Own _ _ _
       have e1 : (gonL W N (k + 1)).length = (gonL W N k).length + 1 := by rw [HG.out]; simp
       have e2 : irow .u32 (gonL W N (k + 1)) = irow .u32 (gonL W N k) ++ [.int .u32 (xi : Int)] := by rw [HG.out]; exact irow_snoc _ _
       unfold BTh grow1 DlE.vs
       simp only [e1,e2]
       exact h9.three.tail.back4
      clear hO6 hsz6 h9 HN t0 t1
      go_wp2
      go_roundw
      case rel => exact ⟨k + 1,some ⟨g6,0,none⟩,c6,by omega,by go_num,H9.out⟩
      case measure => simp [intOf]; omega
     ·have hj0 : ¬ ((j : Int) < 0) := by omega
      have hfe : fstE (evs N) xi = some (y.id,y.C) := by rw [← hyi]; exact fstE_mem HSN.out.up (List.mem_of_getElem? (evs_at hy))
      have H9 : Hid (Own w0 w2 (BTh ⟨gonL W N (k + 1),ga,gc,[],none,0,[],none,0⟩ b8 b4 l)) := by
       show Own _ _ _
       rw [gonL_no HX.out hfe]; exact hA2.tail
      clear hA2 hfe hy hyi
      go_wp2
      go_roundw
      case rel => exact ⟨k + 1,ga,gc,by omega,by go_num,H9.out⟩
      case measure => simp [intOf]; omega
    ·have hk2 : k = nw := by omega
     subst hk2
     have hlt' : ¬ (k : Int) < (k : Int) := by omega
     have HO1 : Hid (Own w0 wr (BTh ⟨gonL W N k,ga,gc,[],none,0,[],none,0⟩ b8 b4 l)) := hO
     clear hO
     go_wp2
     go_loopw [51] (fun cc wr => ∃ (q : Nat) (d : DlE),q ≤ nn ∧ cc = .int .i64 (q : Int) ∧ ComeR W N q d ∧ Own w0 wr (BTh d b8 b4 (d.M.map erow ++ l))) (fun cc _ => nn - (intOf cc).toNat)
     case atStart => exact ⟨0,⟨gonL W N k,ga,gc,[],none,0,[],none,0⟩,Nat.zero_le _,rfl,⟨by show gonL W N k = _; rw [HWN.out.1],rfl,rfl,Nat.le_refl _,Nat.le_refl _⟩,HO1.out⟩
     case round =>
      obtain ⟨q,d,hq,rfl,hcr,hO⟩ := hrel
      clear HO1
      have hgl : d.G.length ≤ 1000000 := by rw [hcr.1]; have := gonL_le W N W.length; have := HWN.out.1; omega
      have hml : d.M.length ≤ 1000000 := by have := hcr.2.2.2.1; omega
      have hhl : d.H.length ≤ 1000000 := by have := hcr.2.2.2.2; omega
      have HCR : Hid (ComeR W N q d) := hcr
      clear hcr
      by_cases hlt : q < nn
      ·obtain ⟨y,hy⟩ : ∃ y,N[q]? = some y := ⟨_,List.getElem?_eq_getElem (by rw [HWN.out.2]; exact hlt)⟩
       obtain ⟨g,o,hga,hc0,hc1,-⟩ := ((HQ.out wr hO.bth.dropA).2).at hy
       have hlt' : (q : Int) < (nn : Int) := by omega
       have hb1 : g < wr.heap.size := World.block_lt_of_cell? wr _ hc0
       have hb2 : wr.heap.size ≠ g := by omega
       have hA := hO.allocC #[.int .u32 (y.id : Int),.slice y.ao y.C.length y.cap] 60
       have HFI : Hid (Calls _ _ _ _ _) := rfindE_any (wr.alloc (.cells #[.int .u32 (y.id : Int),.slice y.ao y.C.length y.cap] 60)) aw k cw W ((HQ.out _ hA.tail.bth.dropA).1) HWN.out.1 (by omega) y.id
       have HA : Hid (Own w0 _ _) := hA
       have HY : Hid (N[q]? = some y) := hy
       have hyc := HIN.out.2.2.2 y (List.mem_of_getElem? hy)
       have HYK : Hid (∀ c ∈ y.C,c.k < 256) := (HIN.out.2.1 y (List.mem_of_getElem? hy)).2
       clear hO hA hy
       have HGA : Hid (an = some ⟨g,o,none⟩) := hga
       rw [hga]
       clear hga
       obtain ⟨yi,ya,yc,yC⟩ := y
       simp only at hc0 hc1 HFI HA HY hyc HYK
       obtain ⟨yl,hyl⟩ : ∃ yl,yl = yC.length := ⟨_,rfl⟩
       rw [← hyl] at hc1 HFI HA hyc
       have HYL : Hid (yC.length = yl) := hyl.symm
       clear hyl
       go_wp2_with fail
       refine HFI.out.mono ?_
       rintro e w2 ⟨r,rfl,hfr,hf⟩
       have hA2 := HA.out.quiet hf
       clear HFI hf HA hc0 hc1 hb1 hb2
       generalize wr.heap.size = b12 at *
       rcases hfr with ⟨rfl,hno⟩ | ⟨j,x,rfl,hx,hxi,-⟩
       ·have HFN : Hid (fstE (evs W) yi = none) := FindR.none hno
        have HTW : Hid (Calls _ _ _ _ _) := twin_any w0 _ _ hA2.drew ya yl yc yC HYL.out (((HQ.out w2 hA2.tail.bth.dropA).2.2 _ (List.mem_of_getElem? HY.out)).quiet ((Fr.refl _ _).drew)) hyc
        have HB : Hid (Own w0 w2 _) := hA2
        clear hno hA2
        go_wp2
        go_cut [] (fun wc => ∃ (a5 : Option Addr) (c5 : Nat) (m6 : Option Addr) (c6 : Nat),Own w0 wc (BTh ⟨d.G,d.ga,d.gc,d.M ++ [EnE.mk yi a5 c5 yC],m6,c6,d.H,d.ha,d.hc⟩ b8 b4 ((d.M ++ [EnE.mk yi a5 c5 yC]).map erow ++ l)))
        case first =>
         have p0 := HB.out.cell 0
         have p1 := HB.out.cell 1
         have p8 := (Own.l4 HB.out).cell 1
         simp [DlE.vs] at p0 p1 p8
         go_region_law
          (first
            | (refine step_allW rfl _ _ 23 rfl 60 iE (.agg #[.int .u32 0,.slice none 0 0]) 2 32 Tryz.underlying23 hiE hE0 hE1 hE2 rfl (by decide) _ _ _ rfl _ _ _ _ rfl H5.out H5C.out (by intro u hu; simp at hu; rcases hu with rfl | rfl <;> rfl) (by unfold maxLen; omega) (by omega) ?_
               intro g6 c6 w6 hO6
               have t0 := (Own.three hO6).cell 0
               have t1 := (Own.three hO6).cell 1
               have t8 := (Own.l5 hO6).cell 1
               have t9 := (Own.l5 hO6).froz 1
               simp [DlE.vs] at t0 t1 t8
               have H6 : Hid (Own w0 w6 _) := hO6
               clear hO6)
            | (go_simp; go_at_call 36; refine HTW.out.mono ?_; rintro e w5 ⟨a5,c5,rfl,h5⟩; dsimp only
               have u0 := h5.two.cell 0
               have u1 := h5.two.cell 1
               have u8 := (Own.l5 h5).cell 1
               simp [DlE.vs] at u0 u1 u8
               have h5b := (Own.four h5).alloc (.cells #[.int .u32 (yi : Int),.slice a5 yl c5] 60)
               have h5c := (h5.litRow #[.int .u32 (yi : Int),.slice a5 yl c5] 60 2 1 (by decide) rfl).row
               have v0 := (Own.three h5b).cell 0
               have v1 := (Own.three h5b).cell 1
               have v8 := (Own.l5 h5b).cell 1
               simp [DlE.vs] at v0 v1 v8
               have H5 : Hid (Own w0 _ _) := h5b
               have H5C : Hid (World.ownsRow _ _ _ _ _ _ _) := h5c
               clear h5 h5b h5c))
         all_goals
          go_wp2
          go_meet
          case rel =>
           have h7 := (Own.l5 H6.out).setC 1 (.slice g6 (d.M.length + 1) c6)
           refine ⟨a5,c5,g6,c6,?_⟩
           have e1 : (d.M ++ [EnE.mk yi a5 c5 yC]).length = d.M.length + 1 := by simp
           have e2 : cat EnE.cs (d.M ++ [EnE.mk yi a5 c5 yC]) = cat EnE.cs d.M ++ [.int .u32 (yi : Int),.slice a5 yl c5] := by
            rw [cat_append]
            congr 1
            simp [cat,EnE.cs,HYL.out]
           have e3 : (d.M ++ [EnE.mk yi a5 c5 yC]).map erow ++ l = d.M.map erow ++ (Row 63 4 (.slice a5 yl c5) yl (ccat yC) :: l) := by simp [erow,HYL.out]
           unfold BTh DlE.vs
           simp only [e1,e2,e3]
           simp [DlE.vs] at h7
           exact (h7.perm (perm_m _ _ _ _ _ _ _ _ _ _)).tail
        case rest =>
         obtain ⟨a5,c5,m6,c6,hO6⟩ := hcut
         have HO6 : Hid (Own w0 wc _) := hO6
         clear hO6 HB HTW
         go_wp2
         go_roundw
         case rel => exact ⟨q + 1,_,by omega,by go_num,HCR.out.come HY.out HFN.out a5 c5 m6 c6,HO6.out⟩
         case measure => simp [intOf]; omega
       ·have hj0 : ¬ ((j : Int) < 0) := by omega
        have hjn : (j : Int) < (k : Int) := by have h1 := (List.getElem?_eq_some_iff.1 hx).1; have h2 := HWN.out.1; omega
        have HFE : Hid (fstE (evs W) yi = some (yi,x.C)) := by
         show _ = _
         have e := fstE_mem HSW.out.up (List.mem_of_getElem? (evs_at hx))
         simp only at e
         rw [hxi] at e
         exact e
        have HGA2 : Hid (Good x.C) := HSW.out.good _ (List.mem_of_getElem? (evs_at hx))
        have HGB : Hid (Good yC) := HSN.out.good _ (List.mem_of_getElem? (evs_at HY.out))
        obtain ⟨gw,ow,hgw,hw0,-,-⟩ := ((HQ.out w2 hA2.tail.bth.dropA).1).at hx
        have HCS : Hid (∀ w',Own w0 w' (BTh d b8 b4 (d.M.map erow ++ l)) → w'.cell? ⟨gw,ow + j * 2 + 1,none⟩ = some (.slice x.ao x.C.length x.cap) ∧ Cs w' x.ao x.C ∧ Cs w' ya yC) := fun w' hw => by
         obtain ⟨g2,o2,hg2,_,h1,h2⟩ := ((HQ.out w' hw.bth.dropA).1).at hx
         rw [hgw] at hg2
         cases hg2
         exact ⟨h1,h2,(HQ.out w' hw.bth.dropA).2.2 _ (List.mem_of_getElem? HY.out)⟩
        have hxc := HIN.out.2.2.1 x (List.mem_of_getElem? hx)
        have HXK : Hid (∀ c ∈ x.C,c.k < 256) := (HIN.out.1 x (List.mem_of_getElem? hx)).2
        subst hgw
        clear hx hxi
        obtain ⟨xi,xa,xc,xC⟩ := x
        simp only at HFE HGA2 HCS hxc HXK
        obtain ⟨xl,hxl⟩ : ∃ xl,xl = xC.length := ⟨_,rfl⟩
        rw [← hxl] at HCS hxc
        have HXL : Hid (xC.length = xl) := hxl.symm
        clear hxl
        have t0 := hA2.cell 0
        simp at t0
        have HA3 : Hid (Own w0 _ _) := ((hA2.allocC #[.int .u32 (yi : Int),.int .u8 0,.slice none 0 0,.slice none 0 0] 112).nilRow 63 4).nilRow 63 4
        obtain ⟨LB,hLB⟩ : ∃ LB,LB = BTh d b8 b4 (d.M.map erow ++ l) := ⟨_,rfl⟩
        rw [← hLB] at HCS HA3
        have HLB : Hid (LB = BTh d b8 b4 (d.M.map erow ++ l)) := hLB
        clear hA2 hLB hw0
        go_wp2
        generalize hWg : w2.alloc (.cells #[.int .u32 (yi : Int),.int .u8 0,.slice none 0 0,.slice none 0 0] 112) = W3 at *
        generalize w2.heap.size = b14 at *
        clear hWg t0
        go_loopw [75] (fun cc wr => ∃ (kk : Nat) (na sa : Option Addr) (nc sc : Nat),kk ≤ 6 ∧ cc = .int .u8 (kk : Int) ∧ Own w0 wr (INN xC yC yi ya yl yc b14 b12 LB kk na nc sa sc)) (fun cc _ => 6 - (intOf cc).toNat)
        case atStart => exact ⟨0,none,none,0,0,Nat.zero_le _,rfl,by unfold INN; rw [newK_zero,setK_zero]; exact HA3.out⟩
        case round =>
         obtain ⟨kk,na,sa,nc,sc,hkk,rfl,hO⟩ := hrel
         clear HA3
         have hln := newK_le xC yC kk
         have hls := setK_le xC yC kk
         rw [HYL.out] at hln hls
         by_cases hk6 : kk < 6
         ·have hk6' : (kk : Int) < 6 := by omega
          obtain ⟨ra,hra,HRA⟩ := rplace_fix xa xl xc xC HXL.out HGA2.out.1 HXK.out hxc kk (by omega)
          obtain ⟨rb,hrb,HRB⟩ := rplace_fix ya yl yc yC HYL.out HGB.out.1 HYK.out hyc kk (by omega)
          have CA : Hid (∀ f : FrOf wr,Calls Tryz.prog 53 #[.slice xa xl xc,.int .u8 (kk : Int)] f.val fun e w' => e = .returned (.int .i64 ra) ∧ Fr Nobody f.val w') := fun f => HRA f.val (HCS.out f.val (hO.quiet f.fr).tail.tail.tail.tail).2.1
          have CB : Hid (∀ f : FrOf wr,Calls Tryz.prog 53 #[.slice ya yl yc,.int .u8 (kk : Int)] f.val fun e w' => e = .returned (.int .i64 rb) ∧ Fr Nobody f.val w') := fun f => HRB f.val (HCS.out f.val (hO.quiet f.fr).tail.tail.tail.tail).2.2
          have r12 : ∀ f : FrOf wr,f.val.cell? ⟨b12,1,none⟩ = some (.slice ya yl yc) := fun f => by
           have := (Own.four (hO.quiet f.fr)).cell 1
           simpa using this
          have rw1 : ∀ f : FrOf wr,f.val.cell? ⟨gw,ow + j * 2 + 1,none⟩ = some (.slice xa xl xc) := fun f => (HCS.out f.val (hO.quiet f.fr).tail.tail.tail.tail).1
          have HO : Hid (Own w0 wr (INN xC yC yi ya yl yc b14 b12 LB kk na nc sa sc)) := hO
          have HRR : Hid (PlR xC kk ra ∧ PlR yC kk rb) := ⟨hra,hrb⟩
          clear hO HRA HRB hra hrb
          go_wp2
          refine wp_region_fr (by kernel_rfl) (by kernel_rfl) ?_
          repeat (with_reducible refine wpQuiet_step (fun K hK => ?_)
                  go_simp
                  first
                   | (refine hK _ ?_; clear hK K)
                   | (apply Exists.intro
                      refine ⟨fun _ => ?_,hK _ ?_⟩
                      (first
                        | (go_at_call 53; with_reducible refine Calls.fr_of (CA.out _))
                        | (go_at_call 53; with_reducible refine Calls.fr_of (CB.out _)))
                      clear hK K))
          refine wpQuiet_nil ?_
          rintro w' ⟨f,rfl⟩
          have hO2 := HO.out.quiet f.fr
          clear r12 rw1 CA CB HO
          generalize f.val = W4 at *
          rcases HRR.out.1 with ⟨rfl,ha⟩ | ⟨ja,pa,rfl,hja,ha⟩
          ·rcases HRR.out.2 with ⟨rfl,hb⟩ | ⟨jb,pb,rfl,hjb,hb⟩
           ·have H8 : Hid (Own w0 W4 (INN xC yC yi ya yl yc b14 b12 LB (kk + 1) na nc sa sc)) := by
             show Own _ _ _
             unfold INN
             rw [(k_none HGB.out.1 hb).1,(k_none HGB.out.1 hb).2,lost_no (.inl ha)]
             exact hO2
            clear hO2 ha hb HRR
            go_wp2
            refine wp_region_fr (by kernel_rfl) (by kernel_rfl) ?_
            repeat (with_reducible refine wpQuiet_step (fun K hK => ?_)
                    go_simp
                    (refine hK _ ?_; clear hK K))
            refine wpQuiet_nil ?_
            rintro w' ⟨f,rfl⟩
            have H9 : Hid (Own w0 f.val _) := H8.out.quiet f.fr
            clear H8
            go_wp2
            go_roundw
            case rel => exact ⟨kk + 1,na,sa,nc,sc,by omega,by go_num,H9.out⟩
            case measure => simp [intOf]; omega
           ·have hjb0 : ¬ ((jb : Int) < 0) := by omega
            have hjb1 : (0 : Int) ≤ (jb : Int) := by omega
            have hjbn : (jb : Int) < (yl : Int) := by have h1 := (List.getElem?_eq_some_iff.1 hjb).1; have h2 := HYL.out; omega
            obtain ⟨gy,oy,hgy,-,c0,c1,c2,c3⟩ := (HCS.out W4 hO2.tail.tail.tail.tail).2.2.at jb pb hjb
            have HKN : Hid (newK xC yC (kk + 1) = newK xC yC kk ++ [pb] ∧ setK xC yC (kk + 1) = setK xC yC kk ∧ lostN xC yC (kk + 1) = lostN xC yC kk) := ⟨(k_new HGB.out.1 hb ha).1,(k_new HGB.out.1 hb ha).2,lost_no (.inl ha)⟩
            have HO2 : Hid (Own w0 W4 (INN xC yC yi ya yl yc b14 b12 LB kk na nc sa sc)) := hO2
            subst hgy
            clear hO2 ha hb HRR hjb
            obtain ⟨pk,p1,p2,p3⟩ := pb
            simp only at c0 c1 c2 c3 HKN
            go_wp2
            have q0 := (Own.three HO2.out).cell 2
            have q1 := (Own.four HO2.out).cell 1
            simp at q0 q1
            have m1 := (Own.three HO2.out).lt
            have m2 := (Own.four HO2.out).lt
            have m3 : gy < W4.heap.size := World.block_lt_of_cell? W4 _ c0
            have n1 : W4.heap.size ≠ b14 := by omega
            have n2 : W4.heap.size ≠ b12 := by omega
            have n3 : W4.heap.size ≠ gy := by omega
            have hO3 := HO2.out
            unfold INN at hO3
            have H5 : Hid (Own w0 _ _) := (hO3.alloc (.cells #[.int .u8 (pk : Int),.int .i32 p1,.int .i32 p2,.int .i32 p3] 63)).drew
            have H5C : Hid (World.ownsRow _ _ _ _ _ _ _) := ((hO3.litRow #[.int .u8 (pk : Int),.int .i32 p1,.int .i32 p2,.int .i32 p3] 63 4 1 (by decide) rfl).drew).row
            clear hO3
            go_region_law
             (first
               | (refine step_allW rfl _ _ 58 rfl 63 iC _ 4 16 Tryz.underlying58 hiC hC0 hC1 hC2 rfl (by decide) _ _ _ rfl _ _ _ _ rfl H5.out H5C.out (by intro u hu; simp at hu; rcases hu with rfl | rfl | rfl | rfl <;> rfl) (by unfold maxLen; omega) (by omega) ?_
                  intro g6 c6 w6 hO6
                  have s0 := (Own.three hO6).cell 2
                  have s1 := (Own.three hO6).froz 2
                  simp at s0)
               | fail)
            all_goals
             have H8 : Hid (Own w0 (w6.setCell ⟨b14,2,none⟩ (.slice g6 ((newK xC yC kk).length + 1) c6)) (INN xC yC yi (some ⟨gy,oy,none⟩) yl yc b14 b12 LB (kk + 1) g6 c6 sa sc)) := by
              show Own _ _ _
              have h7 := (Own.three hO6).setC 2 (.slice g6 ((newK xC yC kk).length + 1) c6)
              have e1 : (newK xC yC (kk + 1)).length = (newK xC yC kk).length + 1 := by rw [HKN.out.1]; simp
              have e2 : ccat (newK xC yC (kk + 1)) = ccat (newK xC yC kk) ++ [.int .u8 (pk : Int),.int .i32 p1,.int .i32 p2,.int .i32 p3] := by rw [HKN.out.1]; simp [ccat,cat,Cp.cs]
              unfold INN
              rw [e1,e2,HKN.out.2.1,HKN.out.2.2]
              simp at h7
              exact h7.back3
             clear hO6 HO2 c0 c1 c2 c3 H5 H5C q0 q1 s0 s1
             go_wp2
             go_roundw
             case rel => exact ⟨kk + 1,g6,sa,c6,sc,by omega,by go_num,H8.out⟩
             case measure => simp [intOf]; omega
          ·have hja0 : ¬ ((ja : Int) < 0) := by omega
           have hja1 : (0 : Int) ≤ (ja : Int) := by omega
           have hjan : (ja : Int) < (xl : Int) := by have h1 := (List.getElem?_eq_some_iff.1 hja).1; have h2 := HXL.out; omega
           rcases HRR.out.2 with ⟨rfl,hb⟩ | ⟨jb,pb,rfl,hjb,hb⟩
           ·have hlo := lostN_lt xC yC kk
            have hp2 : 2 ^ kk ≤ 32 := Nat.pow_le_pow_right (n := 2) (by decide) (show kk ≤ 5 by omega)
            have HL1 : Hid (lostN xC yC (kk + 1) = lostN xC yC kk + 2 ^ kk) := lost_yes ha hb
            have HKN : Hid (newK xC yC (kk + 1) = newK xC yC kk ∧ setK xC yC (kk + 1) = setK xC yC kk) := k_none HGB.out.1 hb
            have q0 := (Own.three hO2).cell 1
            have q1 := (Own.three hO2).froz 1
            simp at q0
            have hsh : IntKind.u8.wrap (1 * 2 ^ kk) = ((2 ^ kk : Nat) : Int) := shl_u8 kk hk6
            have H8 : Hid (Own w0 _ _) := (Own.three hO2).setC 1 (.int .u8 ((lostN xC yC (kk + 1) : Nat) : Int))
            clear hO2 ha hb HRR hja
            go_wp2
            go_roundw
            case rel =>
             have hX : (((lostN xC yC kk : Nat) : Int) + 2 ^ kk) % 256 = ((lostN xC yC (kk + 1) : Nat) : Int) := by
              rw [HL1.out]
              have e : ((2 : Int) ^ kk) = ((2 ^ kk : Nat) : Int) := by simp
              rw [e]; omega
             rw [hX]
             refine ⟨kk + 1,na,sa,nc,sc,by omega,by go_num,?_⟩
             unfold INN
             rw [HKN.out.1,HKN.out.2]
             have h := H8.out
             simp at h
             exact h.back3
            case measure => simp [intOf]; omega
           ·have hjb0 : ¬ ((jb : Int) < 0) := by omega
            have hjb1 : (0 : Int) ≤ (jb : Int) := by omega
            have hjbn : (jb : Int) < (yl : Int) := by have h1 := (List.getElem?_eq_some_iff.1 hjb).1; have h2 := HYL.out; omega
            obtain ⟨gy,oy,hgy,-,c0,-,-,-⟩ := (HCS.out W4 hO2.tail.tail.tail.tail).2.2.at jb pb hjb
            obtain ⟨gx,ox,hgx,-,d0,-,-,-⟩ := (HCS.out W4 hO2.tail.tail.tail.tail).2.1.at ja pa hja
            subst hgy hgx
            have HCY : Hid (∀ w',Own w0 w' LB → At4 w' gy (oy + jb * 4) pb ∧ At4 w' gx (ox + ja * 4) pa ∧ w'.cell? ⟨gw,ow + j * 2 + 1,none⟩ = some (.slice (some ⟨gx,ox,none⟩) xl xc)) := fun w' hw => by
             obtain ⟨g2,o2,hg2,-,h2⟩ := (HCS.out w' hw).2.2.at jb pb hjb
             obtain ⟨g3,o3,hg3,-,h3⟩ := (HCS.out w' hw).2.1.at ja pa hja
             cases hg2
             cases hg3
             exact ⟨h2,h3,(HCS.out w' hw).1⟩
            obtain ⟨r0,e0⟩ : ∃ r,((pa.k : Int) == (pb.k : Int)) = r := ⟨_,rfl⟩
            obtain ⟨r1,e1⟩ : ∃ r,((pa.a == pb.a) && (pa.b == pb.b) && (pa.c == pb.c)) = r := ⟨_,rfl⟩
            have HKS : Hid (newK xC yC (kk + 1) = newK xC yC kk ∧ setK xC yC (kk + 1) = setK xC yC kk ++ (if (r0 && r1) = true then [] else [pb]) ∧ lostN xC yC (kk + 1) = lostN xC yC kk) := by
             have hd : decide (pa = pb) = (r0 && r1) := by rw [← e0,← e1]; exact (cp_eq pa pb).symm
             have := k_set HGB.out.1 hb ha
             rw [hd] at this
             exact ⟨this.1,this.2,lost_no (.inr ⟨_,hb⟩)⟩
            have HO2 : Hid (Own w0 W4 (INN xC yC yi (some ⟨gy,oy,none⟩) yl yc b14 b12 LB kk na nc sa sc)) := hO2
            clear hO2 ha hb HRR hjb hja c0 d0
            have eqa : ∀ d w,(Op.equalIn (d + 1 + 1) 61 (.agg #[.int .i32 pa.a,.int .i32 pa.b,.int .i32 pa.c]) (.agg #[.int .i32 pb.a,.int .i32 pb.b,.int .i32 pb.c])).run Tryz.prog w = .ok r1 w := fun d w => by rw [eq_a3,e1]
            have a0 : ∀ f : FrOf W4,f.val.cell? ⟨gx,ox + ja * 4,none⟩ = some (.int .u8 (pa.k : Int)) := fun f => (HCY.out f.val (HO2.out.quiet f.fr).tail.tail.tail.tail).2.1.1
            have a1 : ∀ f : FrOf W4,f.val.cell? ⟨gx,ox + ja * 4 + 1,none⟩ = some (.int .i32 pa.a) := fun f => (HCY.out f.val (HO2.out.quiet f.fr).tail.tail.tail.tail).2.1.2.1
            have a2 : ∀ f : FrOf W4,f.val.cell? ⟨gx,ox + ja * 4 + 2,none⟩ = some (.int .i32 pa.b) := fun f => (HCY.out f.val (HO2.out.quiet f.fr).tail.tail.tail.tail).2.1.2.2.1
            have a3 : ∀ f : FrOf W4,f.val.cell? ⟨gx,ox + ja * 4 + 3,none⟩ = some (.int .i32 pa.c) := fun f => (HCY.out f.val (HO2.out.quiet f.fr).tail.tail.tail.tail).2.1.2.2.2
            have b0 : ∀ f : FrOf W4,f.val.cell? ⟨gy,oy + jb * 4,none⟩ = some (.int .u8 (pb.k : Int)) := fun f => (HCY.out f.val (HO2.out.quiet f.fr).tail.tail.tail.tail).1.1
            have b1 : ∀ f : FrOf W4,f.val.cell? ⟨gy,oy + jb * 4 + 1,none⟩ = some (.int .i32 pb.a) := fun f => (HCY.out f.val (HO2.out.quiet f.fr).tail.tail.tail.tail).1.2.1
            have b2 : ∀ f : FrOf W4,f.val.cell? ⟨gy,oy + jb * 4 + 2,none⟩ = some (.int .i32 pb.b) := fun f => (HCY.out f.val (HO2.out.quiet f.fr).tail.tail.tail.tail).1.2.2.1
            have b3 : ∀ f : FrOf W4,f.val.cell? ⟨gy,oy + jb * 4 + 3,none⟩ = some (.int .i32 pb.c) := fun f => (HCY.out f.val (HO2.out.quiet f.fr).tail.tail.tail.tail).1.2.2.2
            have gw1 : ∀ f : FrOf W4,f.val.cell? ⟨gw,ow + j * 2 + 1,none⟩ = some (.slice (some ⟨gx,ox,none⟩) xl xc) := fun f => (HCY.out f.val (HO2.out.quiet f.fr).tail.tail.tail.tail).2.2
            have g12 : ∀ f : FrOf W4,f.val.cell? ⟨b12,1,none⟩ = some (.slice (some ⟨gy,oy,none⟩) yl yc) := fun f => by
             have := (Own.four (HO2.out.quiet f.fr)).cell 1
             simpa using this
            clear e1
            obtain ⟨pk,p1,p2,p3⟩ := pb
            obtain ⟨ok,o1,o2,o3⟩ := pa
            simp only at a0 a1 a2 a3 b0 b1 b2 b3 eqa e0 HKS HCY
            by_cases hbb : (r0 && r1) = true
            ·obtain ⟨rfl,rfl⟩ : r0 = true ∧ r1 = true := by simpa using hbb
             have HKN : Hid (newK xC yC (kk + 1) = newK xC yC kk ∧ setK xC yC (kk + 1) = setK xC yC kk ∧ lostN xC yC (kk + 1) = lostN xC yC kk) := ⟨HKS.out.1,by rw [HKS.out.2.1]; simp,HKS.out.2.2⟩
             clear hbb HKS
             go_wp2
             refine wp_region_fr (by kernel_rfl) (by kernel_rfl) ?_
             repeat (with_reducible refine wpQuiet_step (fun K hK => ?_)
                     go_simp
                     (refine hK _ ?_; clear hK K))
             refine wpQuiet_nil ?_
             rintro w' ⟨f,rfl⟩
             have H8 : Hid (Own w0 f.val (INN xC yC yi (some ⟨gy,oy,none⟩) yl yc b14 b12 LB (kk + 1) na nc sa sc)) := by
              show Own _ _ _
              unfold INN
              rw [HKN.out.1,HKN.out.2.1,HKN.out.2.2]
              exact HO2.out.quiet f.fr
             clear HO2 a0 a1 a2 a3 b0 b1 b2 b3 gw1 g12
             go_wp2
             go_roundw
             case rel => exact ⟨kk + 1,na,sa,nc,sc,by omega,by go_num,H8.out⟩
             case measure => simp [intOf]; omega
            ·have hb2 : (r0 && r1) = false := by simpa using hbb
             have HKN : Hid (newK xC yC (kk + 1) = newK xC yC kk ∧ setK xC yC (kk + 1) = setK xC yC kk ++ [⟨pk,p1,p2,p3⟩] ∧ lostN xC yC (kk + 1) = lostN xC yC kk) := ⟨HKS.out.1,by rw [HKS.out.2.1,hb2]; simp,HKS.out.2.2⟩
             have hcs : r0 = false ∨ (r0 = true ∧ r1 = false) := by cases r0 <;> cases r1 <;> simp at hb2 ⊢
             clear hbb hb2 HKS
             rcases hcs with rfl | ⟨rfl,rfl⟩
             all_goals
              go_wp2
              refine wp_region_fr (by kernel_rfl) (by kernel_rfl) ?_
              repeat (with_reducible refine wpQuiet_step (fun K hK => ?_)
                      go_simp
                      (refine hK _ ?_; clear hK K))
              refine wpQuiet_nil ?_
              rintro w' ⟨f,rfl⟩
              have HO3 : Hid (Own w0 f.val (INN xC yC yi (some ⟨gy,oy,none⟩) yl yc b14 b12 LB kk na nc sa sc)) := HO2.out.quiet f.fr
              clear HO2 a0 a1 a2 a3 b0 b1 b2 b3 gw1 g12
              generalize f.val = W5 at *
              have HO2 : Hid (Own w0 W5 (INN xC yC yi (some ⟨gy,oy,none⟩) yl yc b14 b12 LB kk na nc sa sc)) := HO3.out
              clear HO3
              have q0 := (Own.three HO2.out).cell 3
              have q1 := (Own.four HO2.out).cell 1
              simp at q0 q1
              obtain ⟨y0,y1,y2,y3⟩ := (HCY.out W5 HO2.out.tail.tail.tail.tail).1
              have m1 := (Own.three HO2.out).lt
              have m2 := (Own.four HO2.out).lt
              have m3 : gy < W5.heap.size := World.block_lt_of_cell? W5 _ y0
              have n1 : W5.heap.size ≠ b14 := by omega
              have n2 : W5.heap.size ≠ b12 := by omega
              have n3 : W5.heap.size ≠ gy := by omega
              have hO3 := HO2.out
              unfold INN at hO3
              have hO3 := hO3.two
              have H5 : Hid (Own w0 _ _) := (hO3.alloc (.cells #[.int .u8 (pk : Int),.int .i32 p1,.int .i32 p2,.int .i32 p3] 63)).drew
              have H5C : Hid (World.ownsRow _ _ _ _ _ _ _) := ((hO3.litRow #[.int .u8 (pk : Int),.int .i32 p1,.int .i32 p2,.int .i32 p3] 63 4 1 (by decide) rfl).drew).row
              clear hO3
              go_wp2
              go_region_law
               (first
                 | (refine step_allW rfl _ _ 58 rfl 63 iC _ 4 16 Tryz.underlying58 hiC hC0 hC1 hC2 rfl (by decide) _ _ _ rfl _ _ _ _ rfl H5.out H5C.out (by intro u hu; simp at hu; rcases hu with rfl | rfl | rfl | rfl <;> rfl) (by unfold maxLen; omega) (by omega) ?_
                    intro g6 c6 w6 hO6
                    have s0 := (Own.three hO6).cell 3
                    have s1 := (Own.three hO6).froz 3
                    simp at s0)
                 | fail)
              all_goals
               have H8 : Hid (Own w0 (w6.setCell ⟨b14,3,none⟩ (.slice g6 ((setK xC yC kk).length + 1) c6)) (INN xC yC yi (some ⟨gy,oy,none⟩) yl yc b14 b12 LB (kk + 1) na nc g6 c6)) := by
                show Own _ _ _
                have h7 := (Own.three hO6).setC 3 (.slice g6 ((setK xC yC kk).length + 1) c6)
                have e1 : (setK xC yC (kk + 1)).length = (setK xC yC kk).length + 1 := by rw [HKN.out.2.1]; simp
                have e2 : ccat (setK xC yC (kk + 1)) = ccat (setK xC yC kk) ++ [.int .u8 (pk : Int),.int .i32 p1,.int .i32 p2,.int .i32 p3] := by rw [HKN.out.2.1]; simp [ccat,cat,Cp.cs]
                unfold INN
                rw [e1,e2,HKN.out.1,HKN.out.2.2]
                simp at h7
                exact h7.perm (perm_d _ _ _ _)
               clear hO6 HO2 y0 y1 y2 y3 H5 H5C q0 q1 s0 s1
               go_wp2
               go_roundw
               case rel => exact ⟨kk + 1,na,g6,nc,c6,by omega,by go_num,H8.out⟩
               case measure => simp [intOf]; omega
         ·have hk2 : kk = 6 := by omega
          subst hk2
          have HZV : Hid (ChE.v ⟨yi,lostN xC yC 6,newK xC yC 6,na,nc,setK xC yC 6,sa,sc⟩ = chg1 (yi,xC) (yi,yC)) := by show _ = _; rw [chg1_k HGB.out.2]; rfl
          have hnl := nil_len ⟨yi,lostN xC yC 6,newK xC yC 6,na,nc,setK xC yC 6,sa,sc⟩
          simp only at hnl
          have HNL : Hid (_ = _) := hnl
          clear hnl
          have hlo := lostN_lt xC yC 6
          rw [HLB.out] at hO
          have v0 := (Own.three hO).cell 0
          have v1 := (Own.three hO).cell 1
          have v2 := (Own.three hO).cell 2
          have v3 := (Own.three hO).cell 3
          have v4 := (Own.l7 hO).cell 2
          simp [DlE.vs] at v0 v1 v2 v3 v4
          have hk6' : ¬ ((6 : Int) < 6) := by omega
          obtain ⟨lo,hlo2⟩ : ∃ lo,lo = lostN xC yC 6 := ⟨_,rfl⟩
          rw [← hlo2] at v1 hlo HNL HZV
          have HLO : Hid (lo = lostN xC yC 6) := hlo2
          clear hlo2
          obtain ⟨nl,hnl2⟩ : ∃ nl,nl = (newK xC yC 6).length := ⟨_,rfl⟩
          rw [← hnl2] at v2 hln HNL
          have HNN : Hid (nl = (newK xC yC 6).length) := hnl2
          clear hnl2
          obtain ⟨sl,hsl2⟩ : ∃ sl,sl = (setK xC yC 6).length := ⟨_,rfl⟩
          rw [← hsl2] at v3 hls HNL
          have HSS : Hid (sl = (setK xC yC 6).length) := hsl2
          clear hsl2
          by_cases hz : lo = 0 ∧ nl + sl = 0
          ·obtain ⟨rfl,hz2⟩ := hz
           have hz3 : nl = 0 := by omega
           have hz4 : sl = 0 := by omega
           subst hz3 hz4
           have HNI : Hid ((chg1 (yi,xC) (yi,yC)).nil = true) := by show _ = _; rw [← HZV.out,HNL.out]; rfl
           have H9 : Hid (Own w0 wr (BTh d b8 b4 (d.M.map erow ++ l))) := hO.tail.tail.tail.tail
           clear hO hz2 HNL HZV
           go_wp2
           go_roundw
           case rel => exact ⟨q + 1,d,by omega,by go_num,HCR.out.same HY.out HFE.out HNI.out,H9.out⟩
           case measure => simp [intOf]; omega
          ·have HNI : Hid ((ChE.v ⟨yi,lo,newK xC yC 6,na,nc,setK xC yC 6,sa,sc⟩).nil = false) := by
            show _ = _
            rw [HNL.out]
            cases h1 : decide (lo = 0) <;> cases h2 : decide (nl = 0) <;> cases h3 : decide (sl = 0) <;> simp at h1 h2 h3 ⊢
            omega
           have HN : Hid (Own w0 wr _) := Own.l6 hO
           have hcs : ((0 : Int) < (lo : Int)) ∨ (¬ ((0 : Int) < (lo : Int)) ∧ (0 : Int) < (nl : Int) + (sl : Int)) := by omega
           clear hO HNL hz
           rcases hcs with ht | ⟨hn,ht⟩
           ·go_wp2_with (at_builtin; refine append1_own rfl _ _ 104 rfl 112 iH _ 4 56 Tryz.underlying104 hiH hH0 hH1 hH2 rfl (by decide) _ _ _ rfl HN.out _ #[.int .u32 (yi : Int),.int .u8 (lo : Int),.slice na nl nc,.slice sa sl sc] (by simp) rfl rfl (by intro u hu; simp at hu; rcases hu with rfl | rfl | rfl | rfl <;> rfl) (by unfold maxLen; omega) (by omega) ?_)
            intro g8 c8 w8 hO8 hsz8
            have k2 := (Own.l7 hO8).cell 2
            have k3 := (Own.l7 hO8).froz 2
            simp [DlE.vs] at k2
            have h9 := (Own.l7 hO8).setC 2 (.slice (some ⟨g8,0,none⟩) (d.H.length + 1) c8)
            simp [DlE.vs] at h9
            have H9 : Hid (Own w0 (w8.setCell ⟨b8,2,none⟩ (.slice (some ⟨g8,0,none⟩) (d.H.length + 1) c8)) (BTh ⟨d.G,d.ga,d.gc,d.M,d.ma,d.mc,d.H ++ [⟨yi,lo,newK xC yC 6,na,nc,setK xC yC 6,sa,sc⟩],some ⟨g8,0,none⟩,c8⟩ b8 b4 (d.M.map erow ++ l))) := by
             show Own _ _ _
             have e1 : (d.H ++ [(⟨yi,lo,newK xC yC 6,na,nc,setK xC yC 6,sa,sc⟩ : ChE)]).length = d.H.length + 1 := by simp
             have e2 : cat ChE.cs (d.H ++ [⟨yi,lo,newK xC yC 6,na,nc,setK xC yC 6,sa,sc⟩]) = cat ChE.cs d.H ++ [.int .u32 (yi : Int),.int .u8 (lo : Int),.slice na nl nc,.slice sa sl sc] := by
              rw [cat_append]
              congr 1
              simp [cat,ChE.cs,HNN.out,HSS.out]
             have e3 : hrows (d.H ++ [⟨yi,lo,newK xC yC 6,na,nc,setK xC yC 6,sa,sc⟩]) = hrows d.H ++ [ChE.nrow ⟨yi,lo,newK xC yC 6,na,nc,setK xC yC 6,sa,sc⟩,ChE.srow ⟨yi,lo,newK xC yC 6,na,nc,setK xC yC 6,sa,sc⟩] := by simp [hrows,ChE.rows]
             unfold BTh hrow1 DlE.vs
             simp only [e1,e2,e3]
             exact (h9.perm (perm_q _ _ _ _ _ _ _ _ _ _ _)).tail.tail
            clear hO8 hsz8 h9 HN v0 v1 v2 v3 v4
            go_wp2
            go_roundw
            case rel => exact ⟨q + 1,_,by omega,by go_num,HCR.out.chg HY.out HFE.out _ HZV.out HNI.out (some ⟨g8,0,none⟩) c8,H9.out⟩
            case measure => simp [intOf]; omega
           ·obtain rfl : lo = 0 := by omega
            have v1 : wr.cell? ⟨b14,1,none⟩ = some (.int .u8 0) := v1
            clear hn
            go_wp2_with (at_builtin; refine append1_own rfl _ _ 104 rfl 112 iH _ 4 56 Tryz.underlying104 hiH hH0 hH1 hH2 rfl (by decide) _ _ _ rfl HN.out _ #[.int .u32 (yi : Int),.int .u8 0,.slice na nl nc,.slice sa sl sc] (by simp) rfl rfl (by intro u hu; simp at hu; rcases hu with rfl | rfl | rfl | rfl <;> rfl) (by unfold maxLen; omega) (by omega) ?_)
            intro g8 c8 w8 hO8 hsz8
            have k2 := (Own.l7 hO8).cell 2
            have k3 := (Own.l7 hO8).froz 2
            simp [DlE.vs] at k2
            have h9 := (Own.l7 hO8).setC 2 (.slice (some ⟨g8,0,none⟩) (d.H.length + 1) c8)
            simp [DlE.vs] at h9
            have H9 : Hid (Own w0 (w8.setCell ⟨b8,2,none⟩ (.slice (some ⟨g8,0,none⟩) (d.H.length + 1) c8)) (BTh ⟨d.G,d.ga,d.gc,d.M,d.ma,d.mc,d.H ++ [⟨yi,0,newK xC yC 6,na,nc,setK xC yC 6,sa,sc⟩],some ⟨g8,0,none⟩,c8⟩ b8 b4 (d.M.map erow ++ l))) := by
             show Own _ _ _
             have e1 : (d.H ++ [(⟨yi,0,newK xC yC 6,na,nc,setK xC yC 6,sa,sc⟩ : ChE)]).length = d.H.length + 1 := by simp
             have e2 : cat ChE.cs (d.H ++ [⟨yi,0,newK xC yC 6,na,nc,setK xC yC 6,sa,sc⟩]) = cat ChE.cs d.H ++ [.int .u32 (yi : Int),.int .u8 0,.slice na nl nc,.slice sa sl sc] := by
              rw [cat_append]
              congr 1
              simp [cat,ChE.cs,HNN.out,HSS.out]
             have e3 : hrows (d.H ++ [⟨yi,0,newK xC yC 6,na,nc,setK xC yC 6,sa,sc⟩]) = hrows d.H ++ [ChE.nrow ⟨yi,0,newK xC yC 6,na,nc,setK xC yC 6,sa,sc⟩,ChE.srow ⟨yi,0,newK xC yC 6,na,nc,setK xC yC 6,sa,sc⟩] := by simp [hrows,ChE.rows]
             unfold BTh hrow1 DlE.vs
             simp only [e1,e2,e3]
             exact (h9.perm (perm_q _ _ _ _ _ _ _ _ _ _ _)).tail.tail
            clear hO8 hsz8 h9 HN v0 v1 v2 v3 v4
            go_wp2
            go_roundw
            case rel => exact ⟨q + 1,_,by omega,by go_num,HCR.out.chg HY.out HFE.out _ HZV.out HNI.out (some ⟨g8,0,none⟩) c8,H9.out⟩
            case measure => simp [intOf]; omega
      ·have hq2 : q = nn := by omega
       subst hq2
       have hlt' : ¬ (q : Int) < (q : Int) := by omega
       have HV : Hid (d.v = dlv (evs W) (evs N)) := by
        show _ = _
        unfold dlv
        rw [if_pos HC.out]
        have h := HCR.out
        rw [← HWN.out.2] at h
        exact h.fin HSW.out HSN.out
       have z0 := (Own.l4 hO).cell 0
       have z1 := (Own.l4 hO).cell 1
       have z2 := (Own.l4 hO).cell 2
       have y0 := (Own.l4 hO).froz 0
       have y1 := (Own.l4 hO).froz 1
       have y2 := (Own.l4 hO).froz 2
       have k0 := (Own.four hO).cell 0
       have k1 := (Own.four hO).cell 1
       have k2 := (Own.four hO).cell 2
       simp [DlE.vs] at z0 z1 z2 k0 k1 k2
       have h9 := (((Own.l4 hO).setC 0 (.slice d.ga d.G.length d.gc)).setC 1 (.slice d.ma d.M.length d.mc)).setC 2 (.slice d.ha d.H.length d.hc)
       simp at h9
       have HF : Hid (Own w0 _ _) := h9
       clear hO h9
       go_wp2
       (try simp only [Exit.inBlock,Exit.then])
       refine bodyPost_ret (v := .tuple #[.agg #[.slice d.ga d.G.length d.gc,.slice d.ma d.M.length d.mc,.slice d.ha d.H.length d.hc],.int .i64 0]) ?_ rfl ⟨d,by rw [HC.out]; rfl,HV.out,?_⟩
       ·rw [results_cell_tmp rfl]
        have r0 := HF.out.cell 0
        have r1 := HF.out.cell 1
        have r2 := HF.out.cell 2
        simp at r0 r1 r2
        go_simp
       ·have h1 := (HF.out.perm (perm_n _ _ _ _ _ _ _ _)).tail.tail
        exact (Own.ents h1).two
  ·have hy1 : ((y : Int) != 0) = true := by simpa using hy0
   have HC : Hid (dcode (evs W) (evs N) = y) := by show _ = _; rw [HDC2.out]; rfl
   have HV : Hid (nilD.v = dlv (evs W) (evs N)) := by show _ = _; unfold dlv; rw [HC.out,if_neg hy0]; rfl
   have z0 := h2.cell 0
   have z1 := h2.cell 1
   have z2 := h2.cell 2
   have y0 := h2.froz 0
   have y1 := h2.froz 1
   have y2 := h2.froz 2
   simp at z0 z1 z2
   have HF : Hid (Own w0 _ _) := ((h2.setC 0 (.slice none 0 0)).setC 1 (.slice none 0 0)).setC 2 (.slice none 0 0)
   clear h2 HDC2 hy0
   go_wp2
   (try simp only [Exit.inBlock,Exit.then])
   refine bodyPost_ret (v := .tuple #[.agg #[.slice none 0 0,.slice none 0 0,.slice none 0 0],.int .i64 (y : Int)]) ?_ rfl ⟨nilD,by rw [HC.out]; rfl,HV.out,HF.out.tail.nilDl⟩
   rw [results_cell_tmp rfl]
   have r0 := HF.out.cell 0
   have r1 := HF.out.cell 1
   have r2 := HF.out.cell 2
   simp at r0 r1 r2
   go_simp
 ·have hx1 : ((x : Int) != 0) = true := by simpa using hx0
  have HC : Hid (dcode (evs W) (evs N) = x) := by show _ = _; rw [HDC2.out,if_pos hx0]
  have HV : Hid (nilD.v = dlv (evs W) (evs N)) := by show _ = _; unfold dlv; rw [HC.out,if_neg hx0]; rfl
  have z0 := h1.cell 0
  have z1 := h1.cell 1
  have z2 := h1.cell 2
  have y0 := h1.froz 0
  have y1 := h1.froz 1
  have y2 := h1.froz 2
  simp at z0 z1 z2
  have HF : Hid (Own w0 _ _) := ((h1.setC 0 (.slice none 0 0)).setC 1 (.slice none 0 0)).setC 2 (.slice none 0 0)
  clear h1 HDC2 HF2 hx0
  go_wp2
  (try simp only [Exit.inBlock,Exit.then])
  refine bodyPost_ret (v := .tuple #[.agg #[.slice none 0 0,.slice none 0 0,.slice none 0 0],.int .i64 (x : Int)]) ?_ rfl ⟨nilD,by rw [HC.out]; rfl,HV.out,HF.out.tail.nilDl⟩
  rw [results_cell_tmp rfl]
  have r0 := HF.out.cell 0
  have r1 := HF.out.cell 1
  have r2 := HF.out.cell 2
  simp at r0 r1 r2
  go_simp
end Go.Proofs.YtgifeckbflkkpaaGreatDoor
