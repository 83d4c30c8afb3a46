/- Both snapshots gone through side by side: the program's between. -/
import Derived.Test.YtgifeckbflkkpaaGreatDoorQr17
import Derived.Deep.RegionLaw
namespace Go.Proofs.YtgifeckbflkkpaaGreatDoor
open Go.RowKit
set_option linter.unusedVariables false
set_option maxHeartbeats 32000000
set_option maxRecDepth 100000
def nilD : DlE := ⟨[],none,0,[],none,0,[],none,0⟩
def BTh (d : DlE) (b5 b4 : Nat) (l : List Thing) : List Thing := grow1 d.G d.ga d.gc :: Row 60 2 (.slice d.ma d.M.length d.mc) d.M.length (cat EnE.cs d.M) :: hrow1 d.H d.ha d.hc :: Cells b5 d.vs 106 :: Cells b4 #[.slice none 0 0,.slice none 0 0,.slice none 0 0] 106 :: (hrows d.H ++ l)
def BtR (w0 : World) (l : List Thing) (W N : List EnE) (b5 b4 : Nat) (v0 v1 : Value) (wr : World) : Prop := ∃ (a0 a1 : Option Addr) (c0 c1 : Nat) (W1 N1 : List EnE) (d : DlE),v0 = .slice a0 W1.length c0 ∧ v1 = .slice a1 N1.length c1 ∧ (W1.length ≤ c0 ∧ N1.length ≤ c1 ∧ c0 ≤ 9223372036854775807 ∧ c1 ≤ 9223372036854775807) ∧ (∀ w',Own w0 w' l → EntsAt w' a0 W1 ∧ EntsAt w' a1 N1) ∧ (W1 <:+ W ∧ N1 <:+ N) ∧ d.v.app (btw (evs W1) (evs N1)) = btw (evs W) (evs N) ∧ ((∀ x ∈ d.M,x ∈ N) ∧ d.G.length + W1.length ≤ W.length ∧ d.M.length + N1.length ≤ N.length ∧ d.H.length + N1.length ≤ N.length) ∧ Own w0 wr (BTh d b5 b4 l)
theorem Own.bth {w0 w : World} {d : DlE} {b5 b4 : Nat} {l : List Thing} (h : Own w0 w (BTh d b5 b4 l)) : Own w0 w l := h.tail.tail.tail.tail.tail.dropA
theorem Own.bt5 {w0 w : World} {d : DlE} {b5 b4 : Nat} {l : List Thing} (h : Own w0 w (BTh d b5 b4 l)) : Own w0 w (Cells b5 d.vs 106 :: grow1 d.G d.ga d.gc :: Row 60 2 (.slice d.ma d.M.length d.mc) d.M.length (cat EnE.cs d.M) :: hrow1 d.H d.ha d.hc :: Cells b4 #[.slice none 0 0,.slice none 0 0,.slice none 0 0] 106 :: (hrows d.H ++ l)) := Own.four h
def ix8 (a b c d e f g h : Thing) : Nat → Thing
 | 0 => a
 | 1 => b
 | 2 => c
 | 3 => d
 | 4 => e
 | 5 => f
 | 6 => g
 | _ => h
theorem perm_h (B5 R B6 n s g m B4 : Thing) (X l : List Thing) : (B5 :: R :: B6 :: n :: s :: g :: m :: B4 :: (X ++ l)).Perm (B6 :: g :: m :: R :: B5 :: B4 :: ((X ++ [n,s]) ++ l)) := by
 have h1 : ([0,1,2,3,4,5,6,7] : List Nat).Perm [2,5,6,1,0,7,3,4] := by decide
 have h2 := (h1.map (ix8 B5 R B6 n s g m B4)).append_right (X ++ l)
 have h3 := List.perm_append_comm_assoc [n,s] X l
 have h4 := h3.append_left [B6,g,m,R,B5,B4]
 have e : (X ++ [n,s]) ++ l = X ++ ([n,s] ++ l) := by simp
 rw [e]
 exact h2.trans h4
theorem perm_e (B4 B5 E g m h : Thing) (X : List Thing) : (B4 :: B5 :: E :: g :: m :: h :: X).Perm (B4 :: B5 :: m :: g :: E :: h :: X) := by
 have h1 : ([0,1,2,3,4,5] : List Nat).Perm [0,1,4,3,2,5] := by decide
 exact (h1.map (ix8 B4 B5 E g m h B4 B4)).append_right X
def cszV : List En → Nat
 | [] => 0
 | x :: t => x.2.length + cszV t
theorem cszV_evs (L : List EnE) : cszV (evs L) = csz L := by
 induction L with
 | nil => rfl
 | cons x t ih => show x.C.length + cszV (evs t) = _; rw [ih]; rfl
theorem come_sz (W N : List En) : cszV (btw W N).come ≤ cszV N := by
 fun_induction btw W N with
 | case1 => exact Nat.le_refl _
 | case2 w ws ih => exact ih
 | case3 n ns ih => simp only [addE,cszV]; omega
 | case4 w ws n ns h ih => exact ih
 | case5 w ws n ns h h2 ih => simp only [addE,cszV]; omega
 | case6 w ws n ns h h2 ih => simp only [addC,cszV]; omega
theorem irow_snoc (G : List Nat) (g : Nat) : irow .u32 (G ++ [g]) = irow .u32 G ++ [.int .u32 (g : Int)] := by simp [irow]
theorem between_any (w0 w : World) (l : List Thing) (h : Own w0 w l) (aw an : Option Addr) (nw nn cw cn : Nat) (W N : List EnE) (hQ : ∀ w',Own w0 w' l → EntsAt w' aw W ∧ EntsAt w' an N) (hW : W.length = nw) (hN : N.length = nn) (hcw : nw ≤ cw) (hcn : nn ≤ cn) (hmw : cw ≤ 9223372036854775807) (hmn : cn ≤ 9223372036854775807) (hIW : EIn W) (hIN : EIn N) (hzW : esz W ≤ 1000000) (hzN : esz N ≤ 1000000) :
  Calls Tryz.prog 160 #[.slice aw nw cw,.slice an nn cn] w fun e w' => ∃ d : DlE,e = .returned (.agg d.vs) ∧ d.v = btw (evs W) (evs N) ∧ Own w0 w' (d.things ++ l) := by
 obtain ⟨iI,hiI,hI0,hI1,hI2⟩ := info3w Tryz.infoIDk
 obtain ⟨iE,hiE,hE0,hE1,hE2⟩ := info3w Tryz.infoEnt
 obtain ⟨iC,hiC,hC0,hC1,hC2⟩ := info3w Tryz.infoChg
 have hB5 := ((h.allocC #[.slice none 0 0,.slice none 0 0,.slice none 0 0] 106).allocC #[.slice none 0 0,.slice none 0 0,.slice none 0 0] 106)
 have e5 : (w.alloc (.cells #[.slice none 0 0,.slice none 0 0,.slice none 0 0] 106)).heap.size = w.heap.size + 1 := by simp
 rw [e5] at hB5
 have HST : Hid (BtR w0 l W N (w.heap.size + 1) w.heap.size (.slice aw nw cw) (.slice an nn cn) ((w.alloc (.cells #[.slice none 0 0,.slice none 0 0,.slice none 0 0] 106)).alloc (.cells #[.slice none 0 0,.slice none 0 0,.slice none 0 0] 106))) := ⟨aw,an,cw,cn,W,N,nilD,by rw [hW],by rw [hN],⟨by omega,by omega,hmw,hmn⟩,hQ,⟨List.suffix_refl _,List.suffix_refl _⟩,app_nil _,⟨(fun x hx => by cases hx),by simp [nilD],by simp [nilD],by simp [nilD]⟩,((hB5.nilRow _ _).nilRow _ _).nilRow _ _⟩
 have HIN : Hid (EIn W ∧ EIn N ∧ (∀ x ∈ W,x.C.length ≤ 1000000) ∧ ∀ x ∈ N,x.C.length ≤ 1000000) := ⟨hIW,hIN,fun x hx => by have := csz_mem hx; unfold esz at hzW; omega,fun x hx => by have := csz_mem hx; unfold esz at hzN; omega⟩
 have HZN : Hid (esz N ≤ 1000000 ∧ N.length = nn) := ⟨hzN,hN⟩
 have H0 : Hid (Own w0 w l) := h
 have hnw : nw ≤ 1000000 := by unfold esz at hzW; omega
 have hnn : nn ≤ 1000000 := by unfold esz at hzN; omega
 have HWN : Hid (W.length = nw ∧ N.length = nn) := ⟨hW,hN⟩
 have HQ : Hid (∀ w',Own w0 w' l → EntsAt w' aw W ∧ EntsAt w' an N) := hQ
 clear h hQ hW hN hcw hcn hmw hmn hIW hIN hzW hzN hB5 e5
 obtain ⟨b5,hb5⟩ : ∃ b,b = w.heap.size + 1 := ⟨_,rfl⟩
 have hbb : w.heap.size < b5 := by omega
 have HB5 : Hid (b5 = w.heap.size + 1) := hb5
 rw [← hb5] at HST
 clear hb5
 go_enter Tryz.func160,Tryz.ntmps160
 go_wp2
 rw [← HB5.out]
 go_loopw [0,1] (fun v0 v1 wr => BtR w0 l W N b5 w.heap.size v0 v1 wr) (fun v0 v1 _ => lenV v0 + lenV v1)
 case atStart => exact HST.out
 case round =>
  obtain ⟨a0,a1,c0,c1,W1,N1,d,rfl,rfl,⟨hc0,hc1,hm0,hm1⟩,hE,⟨hsW,hsN⟩,hbt,⟨hM,hlG,hlM,hlH⟩,hO⟩ := hrel
  clear HST
  have HE : Hid (∀ w',Own w0 w' l → EntsAt w' a0 W1 ∧ EntsAt w' a1 N1) := hE
  have HBT : Hid (d.v.app (btw (evs W1) (evs N1)) = btw (evs W) (evs N)) := hbt
  have HM : Hid (∀ x ∈ d.M,x ∈ N) := hM
  have HSF : Hid (W1 <:+ W ∧ N1 <:+ N) := ⟨hsW,hsN⟩
  have hlG2 : d.G.length ≤ 1000000 := by have := HWN.out; omega
  have hlM2 : d.M.length ≤ 1000000 := by have := HWN.out; omega
  have hlH2 : d.H.length ≤ 1000000 := by have := HWN.out; omega
  have HLN : Hid (d.G.length + W1.length ≤ W.length ∧ d.M.length + N1.length ≤ N.length ∧ d.H.length + N1.length ≤ N.length) := ⟨hlG,hlM,hlH⟩
  have HO : Hid (Own w0 wr (BTh d b5 w.heap.size l)) := hO
  clear hE hbt hM hsW hsN hlG hlM hlH hO
  rcases W1 with _ | ⟨x,t⟩
  ·rcases N1 with _ | ⟨y,s⟩
   ·have HB2 : Hid (d.v = btw (evs W) (evs N)) := by
     have e := HBT.out
     have e0 : btw (evs []) (evs []) = btw [] [] := rfl
     rw [e0,app_end] at e
     exact e
    have hsz : esz d.M ≤ 1000000 := by
     have h1 := come_sz (evs W) (evs N)
     have h2 : (btw (evs W) (evs N)).come = evs d.M := by rw [← HB2.out]; rfl
     rw [h2,cszV_evs,cszV_evs] at h1
     have := HZN.out.1
     have := HLN.out.2.1
     unfold esz at *
     simp at *
     omega
    have HCP : Hid (Calls _ _ _ _ _) := copy_any w0 wr (BTh d b5 w.heap.size l) HO.out d.ma d.M.length d.mc d.M (fun w' hw => by
     refine ⟨?_,fun x hx => (HQ.out w' hw.bth).2.2 x (HM.out x hx)⟩
     have hr := (Own.two hw).row
     rcases Nat.eq_zero_or_pos d.M.length with h0 | h0
     ·exact .inl (List.eq_nil_of_length_eq_zero h0)
     ·obtain ⟨g,cp,hv,_⟩ := row_shape hr h0
      refine .inr ⟨g,0,(Value.slice.inj hv).1,fun j x hx => ?_⟩
      have hva := (Value.slice.inj hv).1
      rw [hva] at hr
      have hj := (List.getElem?_eq_some_iff.1 hx).1
      rw [Nat.zero_add,hr.cellAt _ (by omega),hr.cellAt _ (by omega)]
      exact ⟨cat_at EnE.cs 2 (fun _ => rfl) d.M j 0 x hx (by decide),cat_at EnE.cs 2 (fun _ => rfl) d.M j 1 x hx (by decide)⟩) rfl hsz
    have q0 := (Own.bt5 HO.out).cell 1
    simp [DlE.vs] at q0
    clear HO hsz
    go_wp2_with fail
    refine HCP.out.mono ?_
    rintro e w5 ⟨ma,mc,rfl,M,hMl,hMv,hO5⟩
    have k0 := (Own.l4 hO5).cell 0
    have k1 := (Own.l4 hO5).cell 1
    have k2 := (Own.l4 hO5).cell 2
    have k3 := (Own.l4 hO5).froz 1
    have j0 := (Own.l5 hO5).cell 0
    have j1 := (Own.l5 hO5).cell 1
    have j2 := (Own.l5 hO5).cell 2
    have j3 := (Own.l5 hO5).froz 0
    have j4 := (Own.l5 hO5).froz 1
    have j5 := (Own.l5 hO5).froz 2
    simp [DlE.vs] at k0 k1 k2 j0 j1 j2
    have hne : b5 ≠ w.heap.size := by omega
    have hne2 : w.heap.size ≠ b5 := by omega
    have h6 := (Own.l4 hO5).setC 1 (.slice ma d.M.length mc)
    have h7 := (((Own.l5 h6).setC 0 (.slice d.ga d.G.length d.gc)).setC 1 (.slice ma d.M.length mc)).setC 2 (.slice d.ha d.H.length d.hc)
    simp [DlE.vs] at h7
    have H7 : Hid (Own w0 _ _) := h7
    have HV : Hid (DlE.v ⟨d.G,d.ga,d.gc,M,ma,mc,d.H,d.ha,d.hc⟩ = btw (evs W) (evs N)) := by
     show _ = _
     rw [← HB2.out]
     unfold DlE.v
     rw [hMv]
    have HML : Hid (M.length = d.M.length) := hMl
    clear hO5 h6 h7 hMl hMv HCP q0
    go_wp2
    (try simp only [Exit.inBlock,Exit.then])
    refine bodyPost_ret (results_cell_row rfl _ _ w.heap.size 106 #[.slice d.ga d.G.length d.gc,.slice ma d.M.length mc,.slice d.ha d.H.length d.hc] _ _ rfl H7.out.obj Tryz.underlying106 rfl (by kernel_rfl)) rfl ?_
    refine ⟨⟨d.G,d.ga,d.gc,M,ma,mc,d.H,d.ha,d.hc⟩,by unfold DlE.vs; simp only [HML.out],HV.out,?_⟩
    exact (H7.out.perm (perm_e _ _ _ _ _ _ _)).tail.tail.tail
   ·have hHy : ∀ w',Own w0 w' l → ∃ g o,a1 = some ⟨g,o,none⟩ ∧ w'.cell? ⟨g,o,none⟩ = some (.int .u32 (y.id : Int)) ∧ w'.cell? ⟨g,o + 1,none⟩ = some (.slice y.ao y.C.length y.cap) ∧ Cs w' y.ao y.C := fun w' hw => ((HE.out w' hw).2).head
    obtain ⟨gy,oy,hay,hy0,_,_⟩ := hHy w H0.out
    have hgy : gy < w.heap.size := World.block_lt_of_cell? w _ hy0
    subst hay
    have HY : Hid (∀ w',Own w0 w' l → w'.cell? ⟨gy,oy,none⟩ = some (.int .u32 (y.id : Int)) ∧ w'.cell? ⟨gy,oy + 1,none⟩ = some (.slice y.ao y.C.length y.cap) ∧ Cs w' y.ao y.C) := fun w' hw => by
     obtain ⟨g,o,hg,h0,h1,h2⟩ := hHy w' hw
     cases hg; exact ⟨h0,h1,h2⟩
    have hym : y ∈ N := HSF.out.2.subset (by simp)
    have hyi := (HIN.out.2.1 y hym).1
    have hyc := HIN.out.2.2.2 y hym
    clear hHy hy0
    have HB2 : Hid ((⟨d.G,evs d.M ++ [(y.id,y.C)],d.H.map ChE.v⟩ : Dl).app (btw (evs []) (evs s)) = btw (evs W) (evs N)) := by
     have e := HBT.out
     rw [btw_e (.inl rfl),app_e] at e
     exact e
    have HB2 : Hid ((⟨d.G,evs (d.M ++ [y]),d.H.map ChE.v⟩ : Dl).app (btw (evs []) (evs s)) = btw (evs W) (evs N)) := by
     have e := HB2.out
     have e2 : evs (d.M ++ [y]) = evs d.M ++ [(y.id,y.C)] := by simp [evs]
     show _ = _
     rw [e2]; exact e
    have HM2 : Hid (∀ z ∈ d.M ++ [y],z ∈ N) := fun z hz => by
     rcases List.mem_append.1 hz with hz | hz
     ·exact HM.out z hz
     ·simp at hz; rw [hz]; exact hym
    obtain ⟨yi,ya,yc,yC⟩ := y
    simp only at HY hyi HB2 HM2 hyc
    generalize hyl : yC.length = yl at *
    have HYL : Hid (yC.length = yl) := hyl
    clear hyl
    simp only [List.length_cons,List.length_nil] at hc0 hc1 HLN ⊢
    generalize hs0 : s.length = sl at *
    have HSL : Hid (s.length = sl) := hs0
    have hsp : (((sl : Int) + 1) == 0) = false := by rw [beq_eq_false_iff_ne]; omega
    clear hs0
    go_wp2
    refine wp_region_fr (by kernel_rfl) (by kernel_rfl) ?_
    repeat (with_reducible refine wpQuiet_step (fun K hK => ?_)
            go_simp
            (refine hK _ ?_; clear hK K))
    refine wpQuiet_nil ?_
    rintro w' ⟨f,rfl⟩
    have HO2 : Hid (Own w0 f.val (BTh d b5 w.heap.size l)) := HO.out.quiet f.fr
    clear HO
    generalize f.val = W2 at *
    go_wp2
    refine wp_region_fr (by kernel_rfl) (by kernel_rfl) ?_
    repeat (with_reducible refine wpQuiet_step (fun K hK => ?_)
            go_simp
            (refine hK _ ?_; clear hK K))
    refine wpQuiet_nil ?_
    rintro w' ⟨f,rfl⟩
    have HO3 : Hid (Own w0 f.val (BTh d b5 w.heap.size l)) := HO2.out.quiet f.fr
    clear HO2
    generalize f.val = W3 at *
    have HO2 : Hid (Own w0 W3 (BTh d b5 w.heap.size l)) := HO3.out
    have r2 := (HY.out W3 HO3.out.bth).1
    have r3 := (HY.out W3 HO3.out.bth).2.1
    clear HO3
    generalize W3 = W2 at *
    go_wp2
    go_cut [] (fun wc => ∃ (g6 : Option Addr) (c6 : Nat),Own w0 wc (BTh ⟨d.G,d.ga,d.gc,d.M ++ [(⟨yi,ya,yc,yC⟩ : EnE)],g6,c6,d.H,d.ha,d.hc⟩ b5 w.heap.size l))
    case first =>
     have q0 := (Own.bt5 HO2.out).cell 1
     simp [DlE.vs] at q0
     have n5 := (Own.bt5 HO2.out).lt
     have n6 : gy < W2.heap.size := by omega
     have n1 : W2.heap.size ≠ b5 := by omega
     have n2 : W2.heap.size ≠ gy := by omega
     have n3 : b5 ≠ gy := by omega
     have n4 : gy ≠ b5 := by omega
     have H5 : Hid (Own w0 _ _) := ((HO2.out.alloc (.cells #[.int .u32 (yi : Int),.slice ya yl yc] 60)).drew).two
     have H5C : Hid (World.ownsRow _ _ _ _ _ _ _) := ((HO2.out.litRow #[.int .u32 (yi : Int),.slice ya yl yc] 60 2 1 (by decide) rfl).drew).row
     go_region_law
      (first
        | (refine step_allW rfl _ _ 23 rfl 60 iE (.agg #[.int .u32 0,.slice none 0 0]) 2 32 Tryz.underlying23 hiE hE0 hE1 hE2 rfl (by decide) _ _ _ rfl _ _ _ _ rfl H5.out H5C.out (by intro u hu; simp at hu; rcases hu with rfl | rfl <;> rfl) (by unfold maxLen; omega) (by omega) ?_
           intro g6 c6 w6 hO6
           have t0 := (Own.four hO6).cell 1
           have t1 := (Own.four hO6).froz 1
           have t2 := (HY.out w6 (hO6.tail.tail.tail.tail.tail.dropA)).1
           have t3 := (HY.out w6 (hO6.tail.tail.tail.tail.tail.dropA)).2.1
           simp [DlE.vs] at t0)
        | fail)
     all_goals
      go_wp2
      go_meet
      case rel =>
       have h7 := (Own.four hO6).setC 1 (.slice g6 (d.M.length + 1) c6)
       refine ⟨g6,c6,?_⟩
       have e1 : (d.M ++ [(⟨yi,ya,yc,yC⟩ : EnE)]).length = d.M.length + 1 := by simp
       have e2 : cat EnE.cs (d.M ++ [(⟨yi,ya,yc,yC⟩ : EnE)]) = cat EnE.cs d.M ++ [.int .u32 (yi : Int),.slice ya yl yc] := by
        rw [cat_append]
        congr 1
        simp [cat,EnE.cs,HYL.out]
       unfold BTh DlE.vs
       simp only [e1,e2]
       simp [DlE.vs] at h7
       exact h7.back4.two
    case rest =>
     obtain ⟨g6,c6,hO6⟩ := hcut
     have HO6 : Hid (Own w0 wc _) := hO6
     clear hO6 HO2 r2 r3
     by_cases hc1' : c1 = 1
     ·subst hc1'
      have htl : sl = 0 := by omega
      subst htl
      have HT : Hid (s = []) := List.eq_nil_of_length_eq_zero HSL.out
      have HB3 : Hid ((⟨d.G,evs (d.M ++ [(⟨yi,ya,yc,yC⟩ : EnE)]),d.H.map ChE.v⟩ : Dl).app (btw (evs []) (evs [])) = btw (evs W) (evs N)) := by
       have e := HB2.out
       rw [HT.out] at e
       exact e
      go_wp2
      go_roundw
      case rel => exact ⟨a0,some ⟨gy,oy,none⟩,c0,0,[],[],⟨d.G,d.ga,d.gc,d.M ++ [(⟨yi,ya,yc,yC⟩ : EnE)],g6,c6,d.H,d.ha,d.hc⟩,rfl,rfl,⟨hc0,Nat.le_refl _,hm0,by omega⟩,fun w' hw => ⟨(HE.out w' hw).1,EntsAt.nil _ _⟩,⟨HSF.out.1,List.nil_suffix⟩,HB3.out,⟨HM2.out,HLN.out.1,by have := HLN.out.2.1; have := HSL.out; simp; omega,by have := HLN.out.2.2; have := HSL.out; simp; omega⟩,HO6.out⟩
      case measure => simp [lenV]
     ·have hcc : 1 ≤ c1 := by omega
      go_wp2
      go_roundw
      case rel => exact ⟨a0,some ⟨gy,oy + 2,none⟩,c0,c1 - 1,[],s,⟨d.G,d.ga,d.gc,d.M ++ [(⟨yi,ya,yc,yC⟩ : EnE)],g6,c6,d.H,d.ha,d.hc⟩,rfl,by rw [HSL.out],⟨hc0,by rw [HSL.out]; omega,hm0,by omega⟩,fun w' hw => ⟨(HE.out w' hw).1,((HE.out w' hw).2).tail⟩,⟨HSF.out.1,(List.suffix_cons _ _).trans HSF.out.2⟩,HB2.out,⟨HM2.out,HLN.out.1,by have := HLN.out.2.1; have := HSL.out; simp; omega,by have := HLN.out.2.2; have := HSL.out; simp; omega⟩,HO6.out⟩
      case measure => simp [lenV]
  ·have hHx : ∀ w',Own w0 w' l → ∃ g o,a0 = some ⟨g,o,none⟩ ∧ w'.cell? ⟨g,o,none⟩ = some (.int .u32 (x.id : Int)) ∧ w'.cell? ⟨g,o + 1,none⟩ = some (.slice x.ao x.C.length x.cap) ∧ Cs w' x.ao x.C := fun w' hw => ((HE.out w' hw).1).head
   obtain ⟨gx,ox,hax,hx0,_,_⟩ := hHx w H0.out
   have hgx : gx < w.heap.size := World.block_lt_of_cell? w _ hx0
   subst hax
   have HX : Hid (∀ w',Own w0 w' l → w'.cell? ⟨gx,ox,none⟩ = some (.int .u32 (x.id : Int)) ∧ w'.cell? ⟨gx,ox + 1,none⟩ = some (.slice x.ao x.C.length x.cap) ∧ Cs w' x.ao x.C) := fun w' hw => by
    obtain ⟨g,o,hg,h0,h1,h2⟩ := hHx w' hw
    cases hg; exact ⟨h0,h1,h2⟩
   have hxm : x ∈ W := HSF.out.1.subset (by simp)
   have hxi := (HIN.out.1 x hxm).1
   have hxc := HIN.out.2.2.1 x hxm
   clear hHx hx0
   rcases N1 with _ | ⟨y,s⟩
   ·have HB2 : Hid ((⟨d.G ++ [x.id],evs d.M,d.H.map ChE.v⟩ : Dl).app (btw (evs t) (evs [])) = btw (evs W) (evs N)) := by
     have e := HBT.out
     rw [btw_g (.inl rfl),app_g] at e
     exact e
    have r0 : ∀ f : FrOf wr,f.val.cell? ⟨gx,ox,none⟩ = some (.int .u32 (x.id : Int)) := fun f => (HX.out f.val (HO.out.quiet f.fr).bth).1
    obtain ⟨xi,xa,xc,xC⟩ := x
    simp only at r0 HX hxi HB2
    simp only [List.length_cons,List.length_nil] at hc0 hc1 HLN ⊢
    generalize ht0 : t.length = tl at *
    have HTL : Hid (t.length = tl) := ht0
    clear ht0
    go_wp2
    refine wp_region_fr (by kernel_rfl) (by kernel_rfl) ?_
    repeat (with_reducible refine wpQuiet_step (fun K hK => ?_)
            go_simp
            (refine hK _ ?_; clear hK K))
    refine wpQuiet_nil ?_
    rintro w' ⟨f,rfl⟩
    have HO2 : Hid (Own w0 f.val (BTh d b5 w.heap.size l)) := HO.out.quiet f.fr
    have r2 := r0 f
    clear r0 HO
    generalize f.val = W2 at *
    go_wp2
    go_cut [] (fun wc => ∃ (g6 : Option Addr) (c6 : Nat),Own w0 wc (BTh ⟨d.G ++ [xi],g6,c6,d.M,d.ma,d.mc,d.H,d.ha,d.hc⟩ b5 w.heap.size l))
    case first =>
     have q0 := (Own.bt5 HO2.out).cell 0
     simp [DlE.vs] at q0
     have n5 := (Own.bt5 HO2.out).lt
     have n6 : gx < W2.heap.size := by omega
     have n1 : W2.heap.size ≠ b5 := by omega
     have n2 : W2.heap.size ≠ gx := by omega
     have n3 : b5 ≠ gx := by omega
     have n4 : gx ≠ b5 := by omega
     have H5 : Hid (Own w0 _ _) := (HO2.out.alloc (.cells #[.int .u32 (xi : Int)] 57)).drew
     have H5C : Hid (World.ownsRow _ _ _ _ _ _ _) := ((HO2.out.litRow #[.int .u32 (xi : Int)] 57 1 1 (by decide) rfl).drew).row
     go_region_law
      (first
        | (refine step_allW rfl _ _ 103 rfl 57 iI (.int .u32 0) 1 4 Tryz.underlying103 hiI hI0 hI1 hI2 rfl (by decide) _ _ _ rfl _ _ _ _ rfl H5.out H5C.out (by intro u hu; simp at hu; rcases hu with rfl; rfl) (by unfold maxLen; omega) (by omega) ?_
           intro g6 c6 w6 hO6
           have t0 := (Own.four hO6).cell 0
           have t1 := (Own.four hO6).froz 0
           have t2 := (HX.out w6 (hO6.tail.tail.tail.tail.tail.dropA)).1
           simp [DlE.vs] at t0)
        | fail)
     all_goals
      go_wp2
      go_meet
      case rel =>
       have h7 := (Own.four hO6).setC 0 (.slice g6 (d.G.length + 1) c6)
       refine ⟨g6,c6,?_⟩
       have e1 : (d.G ++ [xi]).length = d.G.length + 1 := by simp
       unfold BTh grow1 DlE.vs
       simp only [e1,irow_snoc]
       simp [DlE.vs] at h7
       exact h7.back4
    case rest =>
     obtain ⟨g6,c6,hO6⟩ := hcut
     have HO6 : Hid (Own w0 wc _) := hO6
     clear hO6 HO2 r2
     by_cases hc1' : c0 = 1
     ·subst hc1'
      have htl : tl = 0 := by omega
      subst htl
      have HT : Hid (t = []) := List.eq_nil_of_length_eq_zero HTL.out
      have HB3 : Hid ((⟨d.G ++ [xi],evs d.M,d.H.map ChE.v⟩ : Dl).app (btw (evs []) (evs [])) = btw (evs W) (evs N)) := by
       have e := HB2.out
       rw [HT.out] at e
       exact e
      go_wp2
      go_roundw
      case rel => exact ⟨some ⟨gx,ox,none⟩,a1,0,c1,[],[],⟨d.G ++ [xi],g6,c6,d.M,d.ma,d.mc,d.H,d.ha,d.hc⟩,rfl,rfl,⟨Nat.le_refl _,hc1,by omega,hm1⟩,fun w' hw => ⟨EntsAt.nil _ _,(HE.out w' hw).2⟩,⟨List.nil_suffix,HSF.out.2⟩,HB3.out,⟨HM.out,by have := HLN.out.1; have := HTL.out; simp; omega,HLN.out.2.1,HLN.out.2.2⟩,HO6.out⟩
      case measure => simp [lenV]
     ·have hcc : 1 ≤ c0 := by omega
      go_wp2
      go_roundw
      case rel => exact ⟨some ⟨gx,ox + 2,none⟩,a1,c0 - 1,c1,t,[],⟨d.G ++ [xi],g6,c6,d.M,d.ma,d.mc,d.H,d.ha,d.hc⟩,by rw [HTL.out],rfl,⟨by rw [HTL.out]; omega,hc1,by omega,hm1⟩,fun w' hw => ⟨((HE.out w' hw).1).tail,(HE.out w' hw).2⟩,⟨(List.suffix_cons _ _).trans HSF.out.1,HSF.out.2⟩,HB2.out,⟨HM.out,by have := HLN.out.1; have := HTL.out; simp; omega,HLN.out.2.1,HLN.out.2.2⟩,HO6.out⟩
      case measure => simp [lenV]
   ·have hHy : ∀ w',Own w0 w' l → ∃ g o,a1 = some ⟨g,o,none⟩ ∧ w'.cell? ⟨g,o,none⟩ = some (.int .u32 (y.id : Int)) ∧ w'.cell? ⟨g,o + 1,none⟩ = some (.slice y.ao y.C.length y.cap) ∧ Cs w' y.ao y.C := fun w' hw => ((HE.out w' hw).2).head
    obtain ⟨gy,oy,hay,hy0,_,_⟩ := hHy w H0.out
    have hgy : gy < w.heap.size := World.block_lt_of_cell? w _ hy0
    subst hay
    have HY : Hid (∀ w',Own w0 w' l → w'.cell? ⟨gy,oy,none⟩ = some (.int .u32 (y.id : Int)) ∧ w'.cell? ⟨gy,oy + 1,none⟩ = some (.slice y.ao y.C.length y.cap) ∧ Cs w' y.ao y.C) := fun w' hw => by
     obtain ⟨g,o,hg,h0,h1,h2⟩ := hHy w' hw
     cases hg; exact ⟨h0,h1,h2⟩
    have hym : y ∈ N := HSF.out.2.subset (by simp)
    have hyi := (HIN.out.2.1 y hym).1
    have hyc := HIN.out.2.2.2 y hym
    clear hHy hy0
    rcases Nat.lt_trichotomy x.id y.id with hxy | hxy | hxy
    ·have HB2 : Hid ((⟨d.G ++ [x.id],evs d.M,d.H.map ChE.v⟩ : Dl).app (btw (evs t) (evs (y :: s))) = btw (evs W) (evs N)) := by
      have e := HBT.out
      rw [btw_g (.inr ⟨y,s,rfl,hxy⟩),app_g] at e
      exact e
     have hxy' : (x.id : Int) < (y.id : Int) := by omega
     have r0 : ∀ f : FrOf wr,f.val.cell? ⟨gx,ox,none⟩ = some (.int .u32 (x.id : Int)) := fun f => (HX.out f.val (HO.out.quiet f.fr).bth).1
     have s0 : ∀ f : FrOf wr,f.val.cell? ⟨gy,oy,none⟩ = some (.int .u32 (y.id : Int)) := fun f => (HY.out f.val (HO.out.quiet f.fr).bth).1
     have HYS : Hid (y :: s = y :: s) := rfl
     obtain ⟨nl,hnl⟩ : ∃ nl,(y :: s).length = nl := ⟨_,rfl⟩
     have hnp : 0 < nl := by rw [← hnl]; simp
     have HNL : Hid ((y :: s).length = nl) := hnl
     have hnp' : ((nl : Int) == 0) = false := by rw [beq_eq_false_iff_ne]; omega
     rw [hnl] at hc1 HLN ⊢
     clear hnl hxy
     obtain ⟨xi,xa,xc,xC⟩ := x
     simp only at r0 HX hxi HB2 hxy'
     simp only [List.length_cons] at hc0 HLN ⊢
     generalize ht0 : t.length = tl at *
     have HTL : Hid (t.length = tl) := ht0
     clear ht0
     go_wp2
     refine wp_region_fr (by kernel_rfl) (by kernel_rfl) ?_
     repeat (with_reducible refine wpQuiet_step (fun K hK => ?_)
             go_simp
             (refine hK _ ?_; clear hK K))
     refine wpQuiet_nil ?_
     rintro w' ⟨f,rfl⟩
     have HO2 : Hid (Own w0 f.val (BTh d b5 w.heap.size l)) := HO.out.quiet f.fr
     have r2 := r0 f
     clear r0 s0 HO
     generalize f.val = W2 at *
     go_wp2
     go_cut [] (fun wc => ∃ (g6 : Option Addr) (c6 : Nat),Own w0 wc (BTh ⟨d.G ++ [xi],g6,c6,d.M,d.ma,d.mc,d.H,d.ha,d.hc⟩ b5 w.heap.size l))
     case first =>
      have q0 := (Own.bt5 HO2.out).cell 0
      simp [DlE.vs] at q0
      have n5 := (Own.bt5 HO2.out).lt
      have n6 : gx < W2.heap.size := by omega
      have n1 : W2.heap.size ≠ b5 := by omega
      have n2 : W2.heap.size ≠ gx := by omega
      have n3 : b5 ≠ gx := by omega
      have n4 : gx ≠ b5 := by omega
      have H5 : Hid (Own w0 _ _) := (HO2.out.alloc (.cells #[.int .u32 (xi : Int)] 57)).drew
      have H5C : Hid (World.ownsRow _ _ _ _ _ _ _) := ((HO2.out.litRow #[.int .u32 (xi : Int)] 57 1 1 (by decide) rfl).drew).row
      go_region_law
       (first
         | (refine step_allW rfl _ _ 103 rfl 57 iI (.int .u32 0) 1 4 Tryz.underlying103 hiI hI0 hI1 hI2 rfl (by decide) _ _ _ rfl _ _ _ _ rfl H5.out H5C.out (by intro u hu; simp at hu; rcases hu with rfl; rfl) (by unfold maxLen; omega) (by omega) ?_
            intro g6 c6 w6 hO6
            have t0 := (Own.four hO6).cell 0
            have t1 := (Own.four hO6).froz 0
            have t2 := (HX.out w6 (hO6.tail.tail.tail.tail.tail.dropA)).1
            simp [DlE.vs] at t0)
         | fail)
      all_goals
       go_wp2
       go_meet
       case rel =>
        have h7 := (Own.four hO6).setC 0 (.slice g6 (d.G.length + 1) c6)
        refine ⟨g6,c6,?_⟩
        have e1 : (d.G ++ [xi]).length = d.G.length + 1 := by simp
        unfold BTh grow1 DlE.vs
        simp only [e1,irow_snoc]
        simp [DlE.vs] at h7
        exact h7.back4
     case rest =>
      obtain ⟨g6,c6,hO6⟩ := hcut
      have HO6 : Hid (Own w0 wc _) := hO6
      clear hO6 HO2 r2
      by_cases hc1' : c0 = 1
      ·subst hc1'
       have htl : tl = 0 := by omega
       subst htl
       have HT : Hid (t = []) := List.eq_nil_of_length_eq_zero HTL.out
       have HB3 : Hid ((⟨d.G ++ [xi],evs d.M,d.H.map ChE.v⟩ : Dl).app (btw (evs []) (evs (y :: s))) = btw (evs W) (evs N)) := by
        have e := HB2.out
        rw [HT.out] at e
        exact e
       go_wp2
       go_roundw
       case rel => exact ⟨some ⟨gx,ox,none⟩,(some ⟨gy,oy,none⟩),0,c1,[],(y :: s),⟨d.G ++ [xi],g6,c6,d.M,d.ma,d.mc,d.H,d.ha,d.hc⟩,rfl,by rw [HNL.out],⟨Nat.le_refl _,by rw [HNL.out]; exact hc1,by omega,hm1⟩,fun w' hw => ⟨EntsAt.nil _ _,(HE.out w' hw).2⟩,⟨List.nil_suffix,HSF.out.2⟩,HB3.out,⟨HM.out,by have := HLN.out.1; have := HTL.out; simp; omega,by rw [HNL.out]; exact HLN.out.2.1,by rw [HNL.out]; exact HLN.out.2.2⟩,HO6.out⟩
       case measure => simp [lenV]
      ·have hcc : 1 ≤ c0 := by omega
       go_wp2
       go_roundw
       case rel => exact ⟨some ⟨gx,ox + 2,none⟩,(some ⟨gy,oy,none⟩),c0 - 1,c1,t,(y :: s),⟨d.G ++ [xi],g6,c6,d.M,d.ma,d.mc,d.H,d.ha,d.hc⟩,by rw [HTL.out],by rw [HNL.out],⟨by rw [HTL.out]; omega,by rw [HNL.out]; exact hc1,by omega,hm1⟩,fun w' hw => ⟨((HE.out w' hw).1).tail,(HE.out w' hw).2⟩,⟨(List.suffix_cons _ _).trans HSF.out.1,HSF.out.2⟩,HB2.out,⟨HM.out,by have := HLN.out.1; have := HTL.out; simp; omega,by rw [HNL.out]; exact HLN.out.2.1,by rw [HNL.out]; exact HLN.out.2.2⟩,HO6.out⟩
       case measure => simp [lenV]
    ·have hxy' : (x.id : Int) = (y.id : Int) := by omega
     have hx1 : ¬ (x.id : Int) < (y.id : Int) := by omega
     have hx2 : ¬ (y.id : Int) < (x.id : Int) := by omega
     have HB2 : Hid (d.v.app (addC (chg1 (x.id,x.C) (y.id,y.C)) (btw (evs t) (evs s))) = btw (evs W) (evs N)) := by
      have e := HBT.out
      rw [btw_c hxy] at e
      exact e
     have HCH : Hid (∀ W X,Own w0 W (X ++ l) → Calls Tryz.prog 183 #[.agg #[.int .u32 (x.id : Int),.slice x.ao x.C.length x.cap],.agg #[.int .u32 (y.id : Int),.slice y.ao y.C.length y.cap]] W fun e w' => ∃ z : ChE,e = .returned (.agg #[.int .u32 (y.id : Int),.int .u8 (z.lost : Int),.slice z.na z.N.length z.nc,.slice z.sa z.S.length z.sc]) ∧ z.v = chg1 (x.id,x.C) (y.id,y.C) ∧ Own w0 w' (z.nrow :: z.srow :: (X ++ l))) := fun W2 X hX =>
      change_any w0 W2 (X ++ l) hX x.id y.id x.ao y.ao x.C.length y.C.length x.cap y.cap x.C y.C (fun w' hw => ⟨(HX.out w' hw.dropA).2.2,(HY.out w' hw.dropA).2.2⟩) rfl rfl (HIN.out.1 x hxm).2 (HIN.out.2.1 y hym).2 hxc hyc
     have r0 : ∀ f : FrOf wr,f.val.cell? ⟨gx,ox,none⟩ = some (.int .u32 (x.id : Int)) := fun f => (HX.out f.val (HO.out.quiet f.fr).bth).1
     have s0 : ∀ f : FrOf wr,f.val.cell? ⟨gy,oy,none⟩ = some (.int .u32 (y.id : Int)) := fun f => (HY.out f.val (HO.out.quiet f.fr).bth).1
     obtain ⟨xi,xa,xc,xC⟩ := x
     obtain ⟨yi,ya,yc,yC⟩ := y
     simp only at HX HY hxi hyi hxc hyc r0 s0 hxy' hx1 hx2 HB2 HCH
     generalize hxl : xC.length = xl at *
     generalize hyl : yC.length = yl at *
     have HXYL : Hid (xC.length = xl ∧ yC.length = yl) := ⟨hxl,hyl⟩
     clear hxl hyl hxy hxy'
     simp only [List.length_cons] at hc0 hc1 HLN ⊢
     generalize ht0 : t.length = tl at *
     have HTL : Hid (t.length = tl) := ht0
     generalize hs0 : s.length = sl at *
     have HSL : Hid (s.length = sl) := hs0
     have hsp : (((sl : Int) + 1) == 0) = false := by rw [beq_eq_false_iff_ne]; omega
     have htp : (((tl : Int) + 1) == 0) = false := by rw [beq_eq_false_iff_ne]; omega
     clear hs0 ht0
     go_wp2
     refine wp_region_fr (by kernel_rfl) (by kernel_rfl) ?_
     repeat (with_reducible refine wpQuiet_step (fun K hK => ?_)
             go_simp
             (refine hK _ ?_; clear hK K))
     refine wpQuiet_nil ?_
     rintro w' ⟨f,rfl⟩
     have HO2 : Hid (Own w0 f.val (BTh d b5 w.heap.size l)) := HO.out.quiet f.fr
     clear HO r0 s0
     generalize f.val = W2 at *
     have r0 : ∀ f : FrOf W2,f.val.cell? ⟨gx,ox,none⟩ = some (.int .u32 (xi : Int)) := fun f => (HX.out f.val (HO2.out.quiet f.fr).bth).1
     have s0 : ∀ f : FrOf W2,f.val.cell? ⟨gy,oy,none⟩ = some (.int .u32 (yi : Int)) := fun f => (HY.out f.val (HO2.out.quiet f.fr).bth).1
     go_wp2
     refine wp_region_fr (by kernel_rfl) (by kernel_rfl) ?_
     repeat (with_reducible refine wpQuiet_step (fun K hK => ?_)
             go_simp
             (refine hK _ ?_; clear hK K))
     refine wpQuiet_nil ?_
     rintro w' ⟨f,rfl⟩
     have HO3 : Hid (Own w0 f.val (BTh d b5 w.heap.size l)) := HO2.out.quiet f.fr
     clear HO2 r0 s0
     generalize f.val = W3 at *
     go_wp2
     go_cut [6,35,66] (fun s6 s35 s66 wc => ∃ (b6 : Nat) (z : ChE),s6 = .pointer (some ⟨b6,0,none⟩) ∧ z.id = yi ∧ z.v = chg1 (xi,xC) (yi,yC) ∧ Own w0 wc (Cells b6 #[.int .u32 (yi : Int),.int .u8 (z.lost : Int),.slice z.na z.N.length z.nc,.slice z.sa z.S.length z.sc] 112 :: z.nrow :: z.srow :: BTh d b5 w.heap.size l))
     case first =>
      have p0 := (HX.out W3 HO3.out.bth).1
      have p1 := (HX.out W3 HO3.out.bth).2.1
      have p2 := (HY.out W3 HO3.out.bth).1
      have p3 := (HY.out W3 HO3.out.bth).2.1
      have n5 := (Own.bt5 HO3.out).lt
      have n1 : W3.heap.size ≠ gx := by omega
      have n2 : W3.heap.size ≠ gy := by omega
      have HC1 : Hid (∀ W,Own w0 W (BTh d b5 w.heap.size l) → Calls Tryz.prog 183 #[.agg #[.int .u32 (xi : Int),.slice xa xl xc],.agg #[.int .u32 (yi : Int),.slice ya yl yc]] W fun e w' => ∃ z : ChE,e = .returned (.agg #[.int .u32 (yi : Int),.int .u8 (z.lost : Int),.slice z.na z.N.length z.nc,.slice z.sa z.S.length z.sc]) ∧ z.v = chg1 (xi,xC) (yi,yC) ∧ Own w0 w' (z.nrow :: z.srow :: BTh d b5 w.heap.size l)) := fun W hW => by
       have e : BTh d b5 w.heap.size l = (grow1 d.G d.ga d.gc :: Row 60 2 (.slice d.ma d.M.length d.mc) d.M.length (cat EnE.cs d.M) :: hrow1 d.H d.ha d.hc :: Cells b5 d.vs 106 :: Cells w.heap.size #[.slice none 0 0,.slice none 0 0,.slice none 0 0] 106 :: hrows d.H) ++ l := rfl
       rw [e] at hW ⊢
       exact HCH.out W _ hW
      have HC2 : Hid (∀ W X,Own w0 W (X :: BTh d b5 w.heap.size l) → Calls Tryz.prog 183 #[.agg #[.int .u32 (xi : Int),.slice xa xl xc],.agg #[.int .u32 (yi : Int),.slice ya yl yc]] W fun e w' => ∃ z : ChE,e = .returned (.agg #[.int .u32 (yi : Int),.int .u8 (z.lost : Int),.slice z.na z.N.length z.nc,.slice z.sa z.S.length z.sc]) ∧ z.v = chg1 (xi,xC) (yi,yC) ∧ Own w0 w' (z.nrow :: z.srow :: X :: BTh d b5 w.heap.size l)) := fun W X hW => by
       have e : X :: BTh d b5 w.heap.size l = (X :: grow1 d.G d.ga d.gc :: Row 60 2 (.slice d.ma d.M.length d.mc) d.M.length (cat EnE.cs d.M) :: hrow1 d.H d.ha d.hc :: Cells b5 d.vs 106 :: Cells w.heap.size #[.slice none 0 0,.slice none 0 0,.slice none 0 0] 106 :: hrows d.H) ++ l := rfl
       rw [e] at hW ⊢
       exact HCH.out W _ hW
      have O1 := HO3.out.drew
      have O2 := (HO3.out.allocC #[.int .u32 0,.int .u8 0,.slice none 0 0,.slice none 0 0] 112).drew
      clear HCH
      go_region_held3 (fun w' => w'.cell? ⟨gx,ox,none⟩ = some (.int .u32 (xi : Int)) ∧ w'.cell? ⟨gx,ox + 1,none⟩ = some (.slice xa xl xc) ∧ w'.cell? ⟨gy,oy,none⟩ = some (.int .u32 (yi : Int)) ∧ w'.cell? ⟨gy,oy + 1,none⟩ = some (.slice ya yl yc)) (go_keep)
       (first
         | (go_at_call 183; with_reducible refine (HC1.out _ O1).mono ?_; rintro e w5 ⟨z,rfl,hz,O5⟩
            have u0 := (HX.out w5 (Own.bth O5.tail.tail)).1
            have u1 := (HX.out w5 (Own.bth O5.tail.tail)).2.1
            have u2 := (HY.out w5 (Own.bth O5.tail.tail)).1
            have u3 := (HY.out w5 (Own.bth O5.tail.tail)).2.1
            have z1 : w5.heap.size ≠ gx := by have := (Own.bt5 (O5.tail.tail)).lt; omega
            have z2 : w5.heap.size ≠ gy := by have := (Own.bt5 (O5.tail.tail)).lt; omega)
         | (go_at_call 183; with_reducible refine (HC2.out _ _ O2).mono ?_; rintro e w7 ⟨z,rfl,hz,O7⟩
            have u0 := (HX.out w7 (Own.bth O7.tail.tail.tail)).1
            have u1 := (HX.out w7 (Own.bth O7.tail.tail.tail)).2.1
            have u2 := (HY.out w7 (Own.bth O7.tail.tail.tail)).1
            have u3 := (HY.out w7 (Own.bth O7.tail.tail.tail)).2.1
            have x0 := (Own.three O7).cell 0
            have x1 := (Own.three O7).cell 1
            have x2 := (Own.three O7).cell 2
            have x3 := (Own.three O7).cell 3
            have y0 := (Own.three O7).froz 0
            have y1 := (Own.three O7).froz 1
            have y2 := (Own.three O7).froz 2
            have y3 := (Own.three O7).froz 3
            simp at x0 x1 x2 x3)
         | fail)
      all_goals
       go_wp2
       go_meet
       case rel =>
        have hzi : z.id = yi := by have := congrArg Chg.id hz; simpa [ChE.v,chg1] using this
        first
         | exact ⟨_,z,rfl,hzi,hz,O5.allocC _ _⟩
         | exact ⟨_,z,rfl,hzi,hz,by simpa using ((((Own.three O7).setC 0 _).setC 1 _).setC 2 _).setC 3 _⟩
     case rest =>
      obtain ⟨b6,z,rfl,hzi,hz,hO6⟩ := hcut
      clear HCH HO3
      have hzl : z.lost < 64 := by have := congrArg Chg.lost hz; simp [ChE.v,chg1] at this; rw [this]; exact lost_lt _ _
      have hzn : z.N.length ≤ 1000000 := by
       have := congrArg Chg.new hz; simp [ChE.v,chg1] at this; rw [this]
       have h2 := List.length_filter_le (isNew xC) yC
       have := HXYL.out.2
       omega
      have hzs : z.S.length ≤ 1000000 := by
       have := congrArg Chg.set hz; simp [ChE.v,chg1] at this; rw [this]
       have h2 := List.length_filter_le (isSet xC) yC
       have := HXYL.out.2
       omega
      have v0 := hO6.cell 0
      have v1 := hO6.cell 1
      have v2 := hO6.cell 2
      have v3 := hO6.cell 3
      simp at v0 v1 v2 v3
      obtain ⟨nn0,hnn0⟩ : ∃ r,z.v.nil = r := ⟨_,rfl⟩
      have HIS : Hid (∀ W,Calls Tryz.prog 184 #[.agg #[.int .u32 (yi : Int),.int .u8 (z.lost : Int),.slice z.na z.N.length z.nc,.slice z.sa z.S.length z.sc]] W fun e w' => e = .returned (.bool nn0) ∧ Fr Nobody W w') := fun W => by
       rw [← hnn0,← hzi]
       exact isNone_any W z (by omega) (by omega) (by omega)
      have HZ : Hid (z.v = chg1 (xi,xC) (yi,yC) ∧ z.id = yi ∧ z.v.nil = nn0) := ⟨hz,hzi,hnn0⟩
      have HO6 : Hid (Own w0 wc _) := hO6
      clear hz hzi hnn0 hO6
      go_wp2_with fail
      refine (HIS.out _).mono ?_
      rintro e w7 ⟨rfl,hf7⟩
      have hO7 := HO6.out.quiet hf7
      clear hf7 HO6 HIS v0 v1 v2 v3
      go_upto_if 24 with (fail)
      go_cut [24] (fun s24 wc => ∃ (h6 : Option Addr) (c6 : Nat) (H6 : List ChE),(⟨d.G,evs d.M,H6.map ChE.v⟩ : Dl).app (btw (evs t) (evs s)) = btw (evs W) (evs N) ∧ H6.length ≤ d.H.length + 1 ∧ Own w0 wc (BTh ⟨d.G,d.ga,d.gc,d.M,d.ma,d.mc,H6,h6,c6⟩ b5 w.heap.size l))
      case first =>
       cases nn0
       ·have HB3 : Hid ((⟨d.G,evs d.M,(d.H ++ [z]).map ChE.v⟩ : Dl).app (btw (evs t) (evs s)) = btw (evs W) (evs N)) := by
         have e := HB2.out
         rw [← HZ.out.1,app_c1 _ _ _ HZ.out.2.2] at e
         have e2 : (d.H ++ [z]).map ChE.v = d.H.map ChE.v ++ [z.v] := by simp
         show _ = _
         rw [e2]; exact e
        have v0 := hO7.cell 0
        have v1 := hO7.cell 1
        have v2 := hO7.cell 2
        have v3 := hO7.cell 3
        have v4 := (Own.l6 hO7).cell 2
        simp [DlE.vs] at v0 v1 v2 v3 v4
        have n5 := (Own.l6 hO7).lt
        have n1 : w7.heap.size ≠ b5 := by omega
        have n6 := hO7.lt
        have n7 : w7.heap.size ≠ b6 := by omega
        have HN : Hid (Own w0 w7 _) := Own.l5 hO7
        clear hO7
        go_wp2_with (at_builtin; refine append1_own rfl _ _ 104 rfl 112 iC _ 4 56 Tryz.underlying104 hiC hC0 hC1 hC2 rfl (by decide) _ _ _ rfl HN.out _ #[.int .u32 (yi : Int),.int .u8 (z.lost : Int),.slice z.na z.N.length z.nc,.slice z.sa z.S.length z.sc] (by simp) rfl rfl (by intro u hu; simp at hu; rcases hu with rfl | rfl | rfl | rfl <;> rfl) (by unfold maxLen; omega) (by omega) ?_)
        intro g8 c8 w8 hO8 hsz8
        have k2 := (Own.l6 hO8).cell 2
        have k3 := (Own.l6 hO8).froz 2
        simp [DlE.vs] at k2
        have h9 := (Own.l6 hO8).setC 2 (.slice (some ⟨g8,0,none⟩) (d.H.length + 1) c8)
        simp [DlE.vs] at h9
        have H9 : Hid (Own w0 (w8.setCell ⟨b5,2,none⟩ (.slice (some ⟨g8,0,none⟩) (d.H.length + 1) c8)) (BTh ⟨d.G,d.ga,d.gc,d.M,d.ma,d.mc,d.H ++ [z],some ⟨g8,0,none⟩,c8⟩ b5 w.heap.size l)) := by
         show Own _ _ _
         have e1 : (d.H ++ [z]).length = d.H.length + 1 := by simp
         have e2 : cat ChE.cs (d.H ++ [z]) = cat ChE.cs d.H ++ [.int .u32 (yi : Int),.int .u8 (z.lost : Int),.slice z.na z.N.length z.nc,.slice z.sa z.S.length z.sc] := by
          rw [cat_append]
          congr 1
          simp [cat,ChE.cs,HZ.out.2.1]
         have e3 : hrows (d.H ++ [z]) = hrows d.H ++ [z.nrow,z.srow] := by simp [hrows,ChE.rows]
         unfold BTh hrow1 DlE.vs
         simp only [e1,e2,e3]
         exact (h9.perm (perm_h _ _ _ _ _ _ _ _ _ _)).tail
        clear hO8 hsz8 h9 HN v0 v1 v2 v3 v4
        go_wp2
        go_meet
        case rel => exact ⟨_,_,d.H ++ [z],HB3.out,by simp,H9.out⟩
       ·have HB3 : Hid ((⟨d.G,evs d.M,d.H.map ChE.v⟩ : Dl).app (btw (evs t) (evs s)) = btw (evs W) (evs N)) := by
         have e := HB2.out
         rw [← HZ.out.1,app_c0 _ _ _ HZ.out.2.2] at e
         exact e
        have HN : Hid (Own w0 w7 _) := hO7.tail.tail.tail
        clear hO7
        go_wp2
        go_meet
        case rel => exact ⟨d.ha,d.hc,d.H,HB3.out,by omega,HN.out⟩
      case rest =>
       obtain ⟨h6,c6,H6,hB3,hl6,hO8⟩ := hcut
       have HO8 : Hid (Own w0 wc _) := hO8
       have HB3 : Hid ((⟨d.G,evs d.M,H6.map ChE.v⟩ : Dl).app (btw (evs t) (evs s)) = btw (evs W) (evs N)) := hB3
       clear hO8 hB3 HB2 HZ hO7
       by_cases hk0 : c0 = 1
       ·subst hk0
        have htl : tl = 0 := by omega
        subst htl
        by_cases hk1 : c1 = 1
        ·subst hk1
         have hsl : sl = 0 := by omega
         subst hsl
         have HT : Hid (t = [] ∧ s = []) := ⟨List.eq_nil_of_length_eq_zero HTL.out,List.eq_nil_of_length_eq_zero HSL.out⟩
         have HB4 : Hid ((⟨d.G,evs d.M,H6.map ChE.v⟩ : Dl).app (btw (evs []) (evs [])) = btw (evs W) (evs N)) := by
          have e := HB3.out
          rw [HT.out.1,HT.out.2] at e
          exact e
         go_wp2
         go_quiet (fail)
         go_wp2
         go_roundw
         case rel => exact ⟨some ⟨gx,ox,none⟩,some ⟨gy,oy,none⟩,0,0,[],[],⟨d.G,d.ga,d.gc,d.M,d.ma,d.mc,H6,h6,c6⟩,rfl,rfl,⟨Nat.le_refl _,Nat.le_refl _,by omega,by omega⟩,fun w' hw => ⟨EntsAt.nil _ _,EntsAt.nil _ _⟩,⟨List.nil_suffix,List.nil_suffix⟩,HB4.out,⟨HM.out,by have := HLN.out.1; simp; omega,by have := HLN.out.2.1; simp; omega,by have := HLN.out.2.2; simp; omega⟩,HO8.out.drewN _⟩
         case measure => simp [lenV]
        ·have hcc : 1 ≤ c1 := by omega
         have HT : Hid (t = []) := List.eq_nil_of_length_eq_zero HTL.out
         have HB4 : Hid ((⟨d.G,evs d.M,H6.map ChE.v⟩ : Dl).app (btw (evs []) (evs s)) = btw (evs W) (evs N)) := by
          have e := HB3.out
          rw [HT.out] at e
          exact e
         go_wp2
         go_quiet (fail)
         go_wp2
         go_roundw
         case rel => exact ⟨some ⟨gx,ox,none⟩,some ⟨gy,oy + 2,none⟩,0,c1 - 1,[],s,⟨d.G,d.ga,d.gc,d.M,d.ma,d.mc,H6,h6,c6⟩,rfl,by rw [HSL.out],⟨Nat.le_refl _,by rw [HSL.out]; omega,by omega,by omega⟩,fun w' hw => ⟨EntsAt.nil _ _,((HE.out w' hw).2).tail⟩,⟨List.nil_suffix,(List.suffix_cons _ _).trans HSF.out.2⟩,HB4.out,⟨HM.out,by have := HLN.out.1; simp; omega,by have := HLN.out.2.1; have := HSL.out; simp; omega,by have := HLN.out.2.2; have := HSL.out; simp; omega⟩,HO8.out.drewN _⟩
         case measure => simp [lenV]; omega
       ·have hcb : 1 ≤ c0 := by omega
        by_cases hk1 : c1 = 1
        ·subst hk1
         have hsl : sl = 0 := by omega
         subst hsl
         have HT : Hid (s = []) := List.eq_nil_of_length_eq_zero HSL.out
         have HB4 : Hid ((⟨d.G,evs d.M,H6.map ChE.v⟩ : Dl).app (btw (evs t) (evs [])) = btw (evs W) (evs N)) := by
          have e := HB3.out
          rw [HT.out] at e
          exact e
         go_wp2
         go_quiet (fail)
         go_wp2
         go_roundw
         case rel => exact ⟨some ⟨gx,ox + 2,none⟩,some ⟨gy,oy,none⟩,c0 - 1,0,t,[],⟨d.G,d.ga,d.gc,d.M,d.ma,d.mc,H6,h6,c6⟩,by rw [HTL.out],rfl,⟨by rw [HTL.out]; omega,Nat.le_refl _,by omega,by omega⟩,fun w' hw => ⟨((HE.out w' hw).1).tail,EntsAt.nil _ _⟩,⟨(List.suffix_cons _ _).trans HSF.out.1,List.nil_suffix⟩,HB4.out,⟨HM.out,by have := HLN.out.1; have := HTL.out; simp; omega,by have := HLN.out.2.1; simp; omega,by have := HLN.out.2.2; simp; omega⟩,HO8.out.drewN _⟩
         case measure => simp [lenV]; omega
        ·have hcc : 1 ≤ c1 := by omega
         go_wp2
         go_quiet (fail)
         go_wp2
         go_roundw
         case rel => exact ⟨some ⟨gx,ox + 2,none⟩,some ⟨gy,oy + 2,none⟩,c0 - 1,c1 - 1,t,s,⟨d.G,d.ga,d.gc,d.M,d.ma,d.mc,H6,h6,c6⟩,by rw [HTL.out],by rw [HSL.out],⟨by rw [HTL.out]; omega,by rw [HSL.out]; omega,by omega,by omega⟩,fun w' hw => ⟨((HE.out w' hw).1).tail,((HE.out w' hw).2).tail⟩,⟨(List.suffix_cons _ _).trans HSF.out.1,(List.suffix_cons _ _).trans HSF.out.2⟩,HB3.out,⟨HM.out,by have := HLN.out.1; have := HTL.out; simp; omega,by have := HLN.out.2.1; have := HSL.out; simp; omega,by have := HLN.out.2.2; have := HSL.out; simp; omega⟩,HO8.out.drewN _⟩
         case measure => simp [lenV]; omega
    ·have HB2 : Hid ((⟨d.G,evs d.M ++ [(y.id,y.C)],d.H.map ChE.v⟩ : Dl).app (btw (evs (x :: t)) (evs s)) = btw (evs W) (evs N)) := by
      have e := HBT.out
      rw [btw_e (.inr ⟨x,t,rfl,hxy⟩),app_e] at e
      exact e
     have HB2 : Hid ((⟨d.G,evs (d.M ++ [y]),d.H.map ChE.v⟩ : Dl).app (btw (evs (x :: t)) (evs s)) = btw (evs W) (evs N)) := by
      have e := HB2.out
      have e2 : evs (d.M ++ [y]) = evs d.M ++ [(y.id,y.C)] := by simp [evs]
      show _ = _
      rw [e2]; exact e
     have hxy' : (y.id : Int) < (x.id : Int) := by omega
     have hxy2 : ¬ (x.id : Int) < (y.id : Int) := by omega
     have HM2 : Hid (∀ z ∈ d.M ++ [y],z ∈ N) := fun z hz => by
      rcases List.mem_append.1 hz with hz | hz
      ·exact HM.out z hz
      ·simp at hz; rw [hz]; exact hym
     have r0 : ∀ f : FrOf wr,f.val.cell? ⟨gx,ox,none⟩ = some (.int .u32 (x.id : Int)) := fun f => (HX.out f.val (HO.out.quiet f.fr).bth).1
     have s0 : ∀ f : FrOf wr,f.val.cell? ⟨gy,oy,none⟩ = some (.int .u32 (y.id : Int)) := fun f => (HY.out f.val (HO.out.quiet f.fr).bth).1
     obtain ⟨nl,hnl⟩ : ∃ nl,(x :: t).length = nl := ⟨_,rfl⟩
     have hnp : 0 < nl := by rw [← hnl]; simp
     have HNL : Hid ((x :: t).length = nl) := hnl
     have hnp' : ((nl : Int) == 0) = false := by rw [beq_eq_false_iff_ne]; omega
     rw [hnl] at hc0 HLN ⊢
     clear hnl hxy
     obtain ⟨yi,ya,yc,yC⟩ := y
     simp only at HY hyi HB2 HM2 hyc s0 hxy' hxy2
     generalize hyl : yC.length = yl at *
     have HYL : Hid (yC.length = yl) := hyl
     clear hyl
     simp only [List.length_cons] at hc1 HLN ⊢
     generalize hs0 : s.length = sl at *
     have HSL : Hid (s.length = sl) := hs0
     have hsp : (((sl : Int) + 1) == 0) = false := by rw [beq_eq_false_iff_ne]; omega
     clear hs0
     go_wp2
     refine wp_region_fr (by kernel_rfl) (by kernel_rfl) ?_
     repeat (with_reducible refine wpQuiet_step (fun K hK => ?_)
             go_simp
             (refine hK _ ?_; clear hK K))
     refine wpQuiet_nil ?_
     rintro w' ⟨f,rfl⟩
     have HO2 : Hid (Own w0 f.val (BTh d b5 w.heap.size l)) := HO.out.quiet f.fr
     clear HO r0 s0
     generalize f.val = W2 at *
     have r0 : ∀ f : FrOf W2,f.val.cell? ⟨gx,ox,none⟩ = some (.int .u32 (x.id : Int)) := fun f => (HX.out f.val (HO2.out.quiet f.fr).bth).1
     have s0 : ∀ f : FrOf W2,f.val.cell? ⟨gy,oy,none⟩ = some (.int .u32 (yi : Int)) := fun f => (HY.out f.val (HO2.out.quiet f.fr).bth).1
     go_wp2
     refine wp_region_fr (by kernel_rfl) (by kernel_rfl) ?_
     repeat (with_reducible refine wpQuiet_step (fun K hK => ?_)
             go_simp
             (refine hK _ ?_; clear hK K))
     refine wpQuiet_nil ?_
     rintro w' ⟨f,rfl⟩
     have HO3 : Hid (Own w0 f.val (BTh d b5 w.heap.size l)) := HO2.out.quiet f.fr
     clear HO2 r0 s0
     generalize f.val = W3 at *
     have HO2 : Hid (Own w0 W3 (BTh d b5 w.heap.size l)) := HO3.out
     have r2 := (HY.out W3 HO3.out.bth).1
     have r3 := (HY.out W3 HO3.out.bth).2.1
     clear HO3
     generalize W3 = W2 at *
     go_wp2
     go_cut [] (fun wc => ∃ (g6 : Option Addr) (c6 : Nat),Own w0 wc (BTh ⟨d.G,d.ga,d.gc,d.M ++ [(⟨yi,ya,yc,yC⟩ : EnE)],g6,c6,d.H,d.ha,d.hc⟩ b5 w.heap.size l))
     case first =>
      have q0 := (Own.bt5 HO2.out).cell 1
      simp [DlE.vs] at q0
      have n5 := (Own.bt5 HO2.out).lt
      have n6 : gy < W2.heap.size := by omega
      have n1 : W2.heap.size ≠ b5 := by omega
      have n2 : W2.heap.size ≠ gy := by omega
      have n3 : b5 ≠ gy := by omega
      have n4 : gy ≠ b5 := by omega
      have H5 : Hid (Own w0 _ _) := ((HO2.out.alloc (.cells #[.int .u32 (yi : Int),.slice ya yl yc] 60)).drew).two
      have H5C : Hid (World.ownsRow _ _ _ _ _ _ _) := ((HO2.out.litRow #[.int .u32 (yi : Int),.slice ya yl yc] 60 2 1 (by decide) rfl).drew).row
      go_region_law
       (first
         | (refine step_allW rfl _ _ 23 rfl 60 iE (.agg #[.int .u32 0,.slice none 0 0]) 2 32 Tryz.underlying23 hiE hE0 hE1 hE2 rfl (by decide) _ _ _ rfl _ _ _ _ rfl H5.out H5C.out (by intro u hu; simp at hu; rcases hu with rfl | rfl <;> rfl) (by unfold maxLen; omega) (by omega) ?_
            intro g6 c6 w6 hO6
            have t0 := (Own.four hO6).cell 1
            have t1 := (Own.four hO6).froz 1
            have t2 := (HY.out w6 (hO6.tail.tail.tail.tail.tail.dropA)).1
            have t3 := (HY.out w6 (hO6.tail.tail.tail.tail.tail.dropA)).2.1
            simp [DlE.vs] at t0)
         | fail)
      all_goals
       go_wp2
       go_meet
       case rel =>
        have h7 := (Own.four hO6).setC 1 (.slice g6 (d.M.length + 1) c6)
        refine ⟨g6,c6,?_⟩
        have e1 : (d.M ++ [(⟨yi,ya,yc,yC⟩ : EnE)]).length = d.M.length + 1 := by simp
        have e2 : cat EnE.cs (d.M ++ [(⟨yi,ya,yc,yC⟩ : EnE)]) = cat EnE.cs d.M ++ [.int .u32 (yi : Int),.slice ya yl yc] := by
         rw [cat_append]
         congr 1
         simp [cat,EnE.cs,HYL.out]
        unfold BTh DlE.vs
        simp only [e1,e2]
        simp [DlE.vs] at h7
        exact h7.back4.two
     case rest =>
      obtain ⟨g6,c6,hO6⟩ := hcut
      have HO6 : Hid (Own w0 wc _) := hO6
      clear hO6 HO2 r2 r3
      by_cases hc1' : c1 = 1
      ·subst hc1'
       have htl : sl = 0 := by omega
       subst htl
       have HT : Hid (s = []) := List.eq_nil_of_length_eq_zero HSL.out
       have HB3 : Hid ((⟨d.G,evs (d.M ++ [(⟨yi,ya,yc,yC⟩ : EnE)]),d.H.map ChE.v⟩ : Dl).app (btw (evs (x :: t)) (evs [])) = btw (evs W) (evs N)) := by
        have e := HB2.out
        rw [HT.out] at e
        exact e
       go_wp2
       go_roundw
       case rel => exact ⟨(some ⟨gx,ox,none⟩),some ⟨gy,oy,none⟩,c0,0,(x :: t),[],⟨d.G,d.ga,d.gc,d.M ++ [(⟨yi,ya,yc,yC⟩ : EnE)],g6,c6,d.H,d.ha,d.hc⟩,by rw [HNL.out],rfl,⟨by rw [HNL.out]; exact hc0,Nat.le_refl _,hm0,by omega⟩,fun w' hw => ⟨(HE.out w' hw).1,EntsAt.nil _ _⟩,⟨HSF.out.1,List.nil_suffix⟩,HB3.out,⟨HM2.out,by rw [HNL.out]; exact HLN.out.1,by have := HLN.out.2.1; have := HSL.out; simp; omega,by have := HLN.out.2.2; have := HSL.out; simp; omega⟩,HO6.out⟩
       case measure => simp [lenV]
      ·have hcc : 1 ≤ c1 := by omega
       go_wp2
       go_roundw
       case rel => exact ⟨(some ⟨gx,ox,none⟩),some ⟨gy,oy + 2,none⟩,c0,c1 - 1,(x :: t),s,⟨d.G,d.ga,d.gc,d.M ++ [(⟨yi,ya,yc,yC⟩ : EnE)],g6,c6,d.H,d.ha,d.hc⟩,by rw [HNL.out],by rw [HSL.out],⟨by rw [HNL.out]; exact hc0,by rw [HSL.out]; omega,hm0,by omega⟩,fun w' hw => ⟨(HE.out w' hw).1,((HE.out w' hw).2).tail⟩,⟨HSF.out.1,(List.suffix_cons _ _).trans HSF.out.2⟩,HB2.out,⟨HM2.out,by rw [HNL.out]; exact HLN.out.1,by have := HLN.out.2.1; have := HSL.out; simp; omega,by have := HLN.out.2.2; have := HSL.out; simp; omega⟩,HO6.out⟩
       case measure => simp [lenV]
end Go.Proofs.YtgifeckbflkkpaaGreatDoor
