/- The pen writes changes. -/
import Derived.Test.YtgifeckbflkkpaaGreatDoorQr28
import Derived.Test.YtgifeckbflkkpaaGreatDoorQr25
namespace Go.Proofs.YtgifeckbflkkpaaGreatDoor
open Go.RowKit
set_option linter.unusedVariables false
set_option maxHeartbeats 8000000
set_option maxRecDepth 100000
theorem fstE_at {W : List EnE} {i : Nat} {e : En} (h : fstE (evs W) i = some e) : ∃ (m : Nat) (y : EnE),W[m]? = some y ∧ y.id = i ∧ wasC (evs W) i = y.C := by
 have h1 : e ∈ evs W ∧ e.1 = i := by
  unfold fstE at h
  exact ⟨List.mem_of_find?_eq_some h,by simpa using List.find?_some h⟩
 obtain ⟨y,hy,rfl⟩ := List.mem_map.1 h1.1
 obtain ⟨m,hm⟩ := List.mem_iff_getElem?.1 hy
 exact ⟨m,y,hm,h1.2,by unfold wasC; rw [h]; rfl⟩
theorem pchanges (w0 w : World) (ht : Tab w0) (l : List Thing) (p b : Nat) (L : List Bool) (aw : Option Addr) (nw cw : Nat) (W : List EnE) (ao : Option Addr) (n cap : Nat) (H : List ChE) (h : Own w0 w (penC p b :: WrT b L :: l)) (hW : ∀ w',Own w0 w' l → EntsAt w' aw W) (hH : ∀ w',Own w0 w' l → ChL w' ao H) (hnw : W.length = nw) (hn : H.length = n) (hmw : esz W ≤ 1000000) (hup : (evs W).Pairwise (fun a b => a.1 < b.1)) (hcu : (H.map (·.id)).Pairwise (· < ·)) (hok : ∀ x ∈ H,ChOk (evs W) x.v) (hl : L.length + 100 * (n + chz (H.map ChE.v)) + 600 ≤ 1048576) :
  Calls Tryz.prog 162 #[.pointer (some ⟨p,0,none⟩),.slice aw nw cw,.slice ao n cap] w fun e w' => e = .returned (.tuple #[]) ∧ Own w0 w' (penC p b :: WrT b ((L ++ var n) ++ chgsB (evs W) 0 (H.map ChE.v)) :: l) := by
 have hnn : n ≤ 20000 := by omega
 have hg := (grp_bd n (by omega)).2
 have H1 : Hid (Calls _ _ _ _ _) := pcount w0 w l p b L n h (by omega) (by omega)
 have HG : Hid (H.length = n ∧ (H.map (·.id)).Pairwise (· < ·) ∧ (∀ x ∈ H,ChOk (evs W) x.v) ∧ (∀ w',Own w0 w' l → ChL w' ao H)) := ⟨hn,hcu,hok,hH⟩
 have HWW : Hid (W.length = nw ∧ (evs W).Pairwise (fun a b => a.1 < b.1) ∧ (∀ w',Own w0 w' l → EntsAt w' aw W) ∧ esz W ≤ 1000000) := ⟨hnw,hup,hW,hmw⟩
 have HL : Hid (L.length + 100 * (n + chz (H.map ChE.v)) + 600 ≤ 1048576 ∧ (var n).length ≤ 80) := ⟨hl,by rw [length_var]; omega⟩
 have HT : Hid (Tab w0) := ht
 clear h hW hH hnw hn hmw hup hcu hok hl hg ht
 go_enter Tryz.func162,Tryz.ntmps162
 go_wp2_with fail
 refine H1.out.mono ?_
 rintro e w1 ⟨rfl,h2⟩
 have H3 : Hid (Own w0 w1 _) := h2
 clear h2 H1
 go_wp2
 go_loopw [6,15] (fun v6 cc wr => ∃ k : Nat,k ≤ n ∧ cc = .int .i64 (k : Int) ∧ v6 = .int .u32 ((lastI 0 (((H.map ChE.v).take k).map (·.id)) : Nat) : Int) ∧ Own w0 wr (penC p b :: WrT b ((L ++ var n) ++ chgsB (evs W) 0 ((H.map ChE.v).take k)) :: l)) (fun _ cc _ => n - (intOf cc).toNat)
 case atStart => exact ⟨0,Nat.zero_le _,rfl,rfl,by simpa [chgsB] using H3.out⟩
 case round =>
  obtain ⟨k,hk,rfl,rfl,hO⟩ := hrel
  clear H3
  by_cases hlt : k < n
  ·obtain ⟨x,hx⟩ : ∃ x,H[k]? = some x := ⟨_,List.getElem?_eq_getElem (by rw [HG.out.1]; exact hlt)⟩
   obtain ⟨g,o,hga,⟨c0,c1,c2,c3⟩,-,-⟩ := HG.out.2.2.2 wr hO.tail.tail k x hx
   subst hga
   have hlt' : (k : Int) < (n : Int) := by omega
   have hxe : (H.map ChE.v)[k]? = some x.v := by rw [List.getElem?_map,hx]; rfl
   have htk : (H.map ChE.v).take (k + 1) = (H.map ChE.v).take k ++ [x.v] := by rw [List.take_add_one,hxe]; rfl
   have hco := HG.out.2.2.1 x (List.mem_of_getElem? hx)
   have hmm : (H.map ChE.v).map (·.id) = H.map (·.id) := by rw [List.map_map]; rfl
   have hla : lastI 0 (((H.map ChE.v).take k).map (·.id)) < x.id := by
    have hP : (((H.map ChE.v).take (k + 1)).map (·.id)).Pairwise (· < ·) := by rw [List.map_take,hmm]; exact HG.out.2.1.sublist (List.take_sublist _ _)
    rw [htk,List.map_append] at hP
    refine lastI_lt hP (fun y hy => ?_)
    have hy2 : y ∈ ((H.map ChE.v).take (k + 1)).map (·.id) := by rw [htk,List.map_append]; exact hy
    obtain ⟨z,hz,rfl⟩ := List.mem_map.1 hy2
    obtain ⟨z',hz',rfl⟩ := List.mem_map.1 (List.mem_of_mem_take hz)
    exact (HG.out.2.2.1 z' hz').id0
   have hsz := chgsB_le (evs W) 0 ((H.map ChE.v).take k) (fun z hz => by
    obtain ⟨y,hy,rfl⟩ := List.mem_map.1 (List.mem_of_mem_take hz)
    exact (HG.out.2.2.1 y hy).id32)
   rw [List.length_take] at hsz
   have hcz := chz_take (H.map ChE.v) hxe
   have hLN := HL.out
   have hib := idB_le (lastI 0 (((H.map ChE.v).take k).map (·.id))) x.id hco.id32
   obtain ⟨e0,he0⟩ := hco.there
   obtain ⟨m,y,hym,hyi,hyc⟩ := fstE_at he0
   have hb1 : g < wr.heap.size := World.block_lt_of_cell? wr _ c0
   have hb2 : wr.heap.size ≠ g := by omega
   have hB := (hO.allocC #[.int .u32 (x.id : Int),.int .u8 (x.lost : Int),.slice x.na x.N.length x.nc,.slice x.sa x.S.length x.sc] 112).two.in23
   have hb0 : ((L ++ var n) ++ chgsB (evs W) 0 ((H.map ChE.v).take k)).length + 100 + 66 * (x.N.length + x.S.length) + 400 ≤ 1048576 := by
    have : (x.v.new.length + x.v.set.length) = x.N.length + x.S.length := rfl
    rw [List.length_append,List.length_append]; omega
   have HP : Hid (Calls _ _ _ _ _) := pid w0 _ _ p b _ (lastI 0 (((H.map ChE.v).take k).map (·.id))) x.id hB hla hco.id32 (by omega)
   have HT2 : Hid (lastI 0 (((H.map ChE.v).take (k + 1)).map (·.id)) = x.id ∧ chgsB (evs W) 0 ((H.map ChE.v).take (k + 1)) = chgsB (evs W) 0 ((H.map ChE.v).take k) ++ chgB (evs W) (lastI 0 (((H.map ChE.v).take k).map (·.id))) x.v) := by
    rw [htk]
    exact ⟨by rw [List.map_append]; exact lastI_snoc _ _ _,chgsB_snoc _ _ _ _⟩
   have HCB : Hid (∀ a,chgB (evs W) a x.v = idB a x.id ++ (bitsN 5 x.lost ++ (bitsN 5 (msk x.N) ++ (bitsN 5 (msk x.S) ++ (cpsB x.N ++ stpsB y.C x.S))))) := fun a => by unfold chgB; rw [hyc.symm]; rfl
   have HMN : Hid (∀ Z X,Own w0 Z (X ++ l) → Calls Tryz.prog 158 #[.slice x.na x.N.length x.nc] Z fun e w' => e = .returned (.int .u8 ((msk x.N : Nat) : Int)) ∧ Own w0 w' (X ++ l)) := fun Z X hX => by
    obtain ⟨_,_,_,_,hn1,_⟩ := HG.out.2.2.2 Z hX.dropA k x hx
    refine (mask_any Z x.na x.N.length x.nc x.N rfl hn1 (fun q hq => (hco.kn q hq).1) (by omega)).mono ?_
    rintro e w' ⟨rfl,hf⟩
    exact ⟨rfl,hX.quiet hf⟩
   have HMS : Hid (∀ Z X,Own w0 Z (X ++ l) → Calls Tryz.prog 158 #[.slice x.sa x.S.length x.sc] Z fun e w' => e = .returned (.int .u8 ((msk x.S : Nat) : Int)) ∧ Own w0 w' (X ++ l)) := fun Z X hX => by
    obtain ⟨_,_,_,_,_,hs1⟩ := HG.out.2.2.2 Z hX.dropA k x hx
    refine (mask_any Z x.sa x.S.length x.sc x.S rfl hs1 hco.ks (by omega)).mono ?_
    rintro e w' ⟨rfl,hf⟩
    exact ⟨rfl,hX.quiet hf⟩
   have HMP : Hid (∀ Z M X (q : Nat),Own w0 Z (penC p b :: WrT b M :: X :: l) → q < 32 → M.length + 5 ≤ 1048576 → Calls Tryz.prog 157 #[.pointer (some ⟨p,0,none⟩),.int .u8 (q : Int)] Z fun e w' => e = .returned (.tuple #[]) ∧ Own w0 w' (penC p b :: WrT b (M ++ bitsN 5 q) :: X :: l)) := fun Z M X q hZ hq hM => pmask w0 Z _ p b M q hZ hq hM
   have HCP : Hid (∀ Z M X,Own w0 Z (penC p b :: WrT b M :: X :: l) → M.length + 60 * x.N.length + 200 ≤ 1048576 → Calls Tryz.prog 159 #[.pointer (some ⟨p,0,none⟩),.slice x.na x.N.length x.nc] Z fun e w' => e = .returned (.tuple #[]) ∧ Own w0 w' (penC p b :: WrT b (M ++ cpsB x.N) :: X :: l)) := fun Z M X hZ hM => pcomps w0 Z HT.out _ p b M x.na x.N.length x.nc x.N hZ (fun w' hw' => by obtain ⟨_,_,_,_,hn1,_⟩ := HG.out.2.2.2 w' hw'.tail k x hx; exact hn1) rfl (fun q hq => (hco.kn q hq).1) (fun q hq => (hco.kn q hq).2) hM
   have HBF : Hid (∀ Z X,Own w0 Z (X ++ l) → Calls Tryz.prog 172 #[.slice aw nw cw,.int .u32 (x.id : Int)] Z fun e w' => e = .returned (.slice y.ao y.C.length y.cap) ∧ Own w0 w' (X ++ l)) := fun Z X hX => by
    have hyi2 : y.id = x.id := hyi
    have h1 := before_ok Z aw nw cw W (HWW.out.2.2.1 Z hX.dropA) HWW.out.1 (by have h1 := HWW.out.2.2.2; have h2 := HWW.out.1; unfold esz at h1; omega) HWW.out.2.1 m y hym
    rw [hyi2] at h1
    refine h1.mono ?_
    rintro e w' ⟨rfl,hf⟩
    exact ⟨rfl,hX.quiet hf⟩
   have HST : Hid (∀ Z M X,Own w0 Z (penC p b :: WrT b M :: X :: l) → M.length + 66 * x.S.length + 200 ≤ 1048576 → Calls Tryz.prog 185 #[.pointer (some ⟨p,0,none⟩),.slice y.ao y.C.length y.cap,.slice x.sa x.S.length x.sc] Z fun e w' => e = .returned (.tuple #[]) ∧ Own w0 w' (penC p b :: WrT b (M ++ stpsB y.C x.S) :: X :: l)) := fun Z M X hZ hM => psteps w0 Z HT.out _ p b M y.ao y.C.length y.cap y.C x.sa x.S.length x.sc x.S hZ (fun w' hw' => by obtain ⟨_,_,_,_,_,hs1⟩ := HG.out.2.2.2 w' hw'.tail k x hx; exact ⟨(HWW.out.2.2.1 w' hw'.tail).2 y (List.mem_of_getElem? hym),hs1⟩) rfl rfl (by have h1 := HWW.out.2.2.2; have h2 := csz_mem (List.mem_of_getElem? hym); unfold esz at h1; omega) hco.ks (fun q hq => by have := hco.st q hq; rw [hyc] at this; exact this) hM
   have HCO : Hid (x.lost < 32 ∧ msk x.N < 32 ∧ msk x.S < 32) := ⟨hco.lost,hco.mn,hco.ms⟩
   have HLL : Hid (((L ++ var n) ++ chgsB (evs W) 0 ((H.map ChE.v).take k)).length + 100 + 66 * (x.N.length + x.S.length) + 400 ≤ 1048576 ∧ (idB (lastI 0 (((H.map ChE.v).take k).map (·.id))) x.id).length ≤ 80 ∧ (cpsB x.N).length ≤ 60 * x.N.length) := ⟨hb0,hib,cpsB_le x.N⟩
   have hid32 : x.id < 4294967296 := hco.id32
   obtain ⟨la,hlaE⟩ : ∃ la,la = lastI 0 (((H.map ChE.v).take k).map (·.id)) := ⟨_,rfl⟩
   rw [← hlaE] at HP HT2 HLL
   rw [← hlaE]
   have q0 := hB.three.cell 0
   have q1 := hB.three.cell 1
   have q2 := hB.three.cell 2
   have q3 := hB.three.cell 3
   simp at q0 q1 q2 q3
   clear hO hla hlaE htk hco hsz hcz hib hLN hxe hmm hB hx hb0 he0 hym hyi hyc
   obtain ⟨xi,xl,xN,xna,xnc,xS,xsa,xsc⟩ := x
   obtain ⟨yi,ya,yc,yC⟩ := y
   simp only at c0 c1 c2 c3 HP HT2 HCB HMN HMS HMP HCP HBF HST HCO HLL hid32 q0 q1 q2 q3
   generalize xN.length = nl at *
   generalize xS.length = sl at *
   generalize yC.length = yl at *
   go_wp2_with fail
   refine HP.out.mono ?_
   rintro e w2 ⟨rfl,h2⟩
   generalize wr.heap.size = bx at *
   have r1 := h2.three.cell 1
   simp at r1
   have HM1 : Hid (Calls _ _ _ _ _) := HMP.out w2 _ _ xl h2 HCO.out.1 (by have := HLL.out; rw [List.length_append]; omega)
   clear h2 HP q0 q1 q2 q3 c0 c1 c2 c3 hb1 hb2
   go_wp2_with fail
   refine HM1.out.mono ?_
   rintro e w3 ⟨rfl,h3⟩
   have r2 := h3.three.cell 2
   simp at r2
   have HM2 : Hid (Calls _ _ _ _ _) := HMN.out w3 [_,_,_] h3
   clear h3 HM1 r1
   go_wp2_with fail
   refine HM2.out.mono ?_
   rintro e w4 ⟨rfl,h4⟩
   have HM3 : Hid (Calls _ _ _ _ _) := HMP.out w4 _ _ (msk xN) h4 HCO.out.2.1 (by have := HLL.out; simp only [List.length_append,length_bitsN] at this ⊢; omega)
   clear h4 HM2 r2
   go_wp2_with fail
   refine HM3.out.mono ?_
   rintro e w5 ⟨rfl,h5⟩
   have r3 := h5.three.cell 3
   simp at r3
   have HM4 : Hid (Calls _ _ _ _ _) := HMS.out w5 [_,_,_] h5
   clear h5 HM3
   go_wp2_with fail
   refine HM4.out.mono ?_
   rintro e w6 ⟨rfl,h6⟩
   have HM5 : Hid (Calls _ _ _ _ _) := HMP.out w6 _ _ (msk xS) h6 HCO.out.2.2 (by have := HLL.out; simp only [List.length_append,length_bitsN] at this ⊢; omega)
   clear h6 HM4 r3
   go_wp2_with fail
   refine HM5.out.mono ?_
   rintro e w7 ⟨rfl,h7⟩
   have r4 := h7.three.cell 2
   simp at r4
   have HM6 : Hid (Calls _ _ _ _ _) := HCP.out w7 _ _ h7 (by have := HLL.out; simp only [List.length_append,length_bitsN] at this ⊢; omega)
   clear h7 HM5
   go_wp2_with fail
   refine HM6.out.mono ?_
   rintro e w8 ⟨rfl,h8⟩
   have r0 := h8.three.cell 0
   have r3 := h8.three.cell 3
   simp at r0 r3
   clear HM6 r4
   obtain ⟨M8,hM8⟩ : ∃ M,M = (L ++ var n) ++ chgsB (evs W) 0 ((H.map ChE.v).take k) ++ idB la xi ++ bitsN 5 xl ++ bitsN 5 (msk xN) ++ bitsN 5 (msk xS) ++ cpsB xN := ⟨_,rfl⟩
   rw [← hM8] at h8
   have HM8 : Hid (M8 = (L ++ var n) ++ chgsB (evs W) 0 ((H.map ChE.v).take k) ++ idB la xi ++ bitsN 5 xl ++ bitsN 5 (msk xN) ++ bitsN 5 (msk xS) ++ cpsB xN) := hM8
   have HL8 : Hid (M8.length + 66 * sl + 200 ≤ 1048576) := by
    show _ ≤ _
    have := HLL.out
    rw [hM8]
    simp only [List.length_append,length_bitsN] at this ⊢
    omega
   have HBF2 : Hid (∀ Z,Own w0 Z (penC p b :: WrT b M8 :: Cells bx #[.int .u32 (xi : Int),.int .u8 (xl : Int),.slice xna nl xnc,.slice xsa sl xsc] 112 :: l) → Calls Tryz.prog 172 #[.slice aw nw cw,.int .u32 (xi : Int)] Z fun e w' => e = .returned (.slice ya yl yc) ∧ Own w0 w' (penC p b :: WrT b M8 :: Cells bx #[.int .u32 (xi : Int),.int .u8 (xl : Int),.slice xna nl xnc,.slice xsa sl xsc] 112 :: l)) := fun Z hZ => HBF.out Z [_,_,_] hZ
   have O1 := Own.drew h8
   clear hM8 h8 HBF HMN HMS HMP HCP
   go_wp2
   go_region_held3 (fun w' => w'.cell? ⟨bx,0,none⟩ = some (.int .u32 (xi : Int)) ∧ w'.cell? ⟨bx,3,none⟩ = some (.slice xsa sl xsc)) (go_keep)
    (first
      | (go_at_call 172; with_reducible refine (HBF2.out _ O1).mono ?_; rintro e w9 ⟨rfl,O9⟩
         have t0 := (Own.three O9).cell 0
         have t3 := (Own.three O9).cell 3
         simp at t0 t3)
      | (go_at_call 185; with_reducible refine (HST.out _ _ _ O9 HL8.out).mono ?_; rintro e w10 ⟨rfl,O10⟩
         have t0 := (Own.three O10).cell 0
         have t3 := (Own.three O10).cell 3
         simp at t0 t3))
   have s0 := (Own.three O10).cell 0
   simp at s0
   have H4 : Hid (Own w0 w10 (penC p b :: WrT b ((L ++ var n) ++ chgsB (evs W) 0 ((H.map ChE.v).take (k + 1))) :: l)) := by
    show Own _ _ _
    rw [HT2.out.2,HCB.out]
    have h11 := O10.three.tail
    rw [HM8.out] at h11
    simp only [List.append_assoc] at h11 ⊢
    exact h11
   clear O10 O9 O1 HBF2 HST r0 r3 t0 t3
   go_wp2
   go_roundw
   case rel => exact ⟨k + 1,by omega,by go_num,by rw [HT2.out.1],H4.out⟩
   case measure => simp [intOf]; omega
  ·have hk2 : k = n := by omega
   subst hk2
   have hlt' : ¬ (k : Int) < (k : Int) := by omega
   have H4 : Hid (Own w0 wr (penC p b :: WrT b ((L ++ var k) ++ chgsB (evs W) 0 (H.map ChE.v)) :: l)) := by
    have := hO
    rw [List.take_of_length_le (by rw [List.length_map,HG.out.1]; exact Nat.le_refl _)] at this
    exact this
   clear hO
   go_wp2
   go_end0
   exact ⟨rfl,by first | exact H4.out | (rw [← List.append_assoc]; exact H4.out)⟩
theorem chgsB_app (W : List En) (a : Nat) (X Y : List Chg) : chgsB W a (X ++ Y) = chgsB W a X ++ chgsB W (lastI a (X.map (·.id))) Y := by
 induction X generalizing a with
 | nil => rfl
 | cons x t ih => simp [chgsB,lastI,ih x.id]
theorem chgsB_at {W : List En} {N : List Chg} {j : Nat} {x : Chg} (h : N[j]? = some x) : chgsB W 0 N = chgsB W 0 (N.take j) ++ (chgB W (lastI 0 ((N.take j).map (·.id))) x ++ chgsB W x.id (N.drop (j + 1))) := by
 have hj := (List.getElem?_eq_some_iff.1 h)
 have e : N = N.take j ++ (x :: N.drop (j + 1)) := by
  have h1 := List.drop_eq_getElem_cons hj.1
  rw [hj.2] at h1
  rw [← h1,List.take_append_drop]
 have e2 : chgsB W 0 N = chgsB W 0 (N.take j ++ (x :: N.drop (j + 1))) := by rw [← e]
 rw [e2,chgsB_app]
 rfl
structure ChRd (W : List En) (c : Chg) : Prop where
 ok : ChOk W c
 ln : lst (-1) c.new = 0
 un : un c.new = false
 gs : Good c.set
 us : Go.Proofs.YtgifeckbflkkpaaGreatDoor.un c.set = false
end Go.Proofs.YtgifeckbflkkpaaGreatDoor
