/- Put and PutStep of package comp, on a writer that lies beside other things. -/
import Derived.Test.YtgifeckbflkkpaaGreatDoorQr10
import Derived.Test.YtgifeckbflkkpaaGreatDoorQr03
import Derived.Test.YtgifeckbflkkpaaGreatDoorQr01
import Derived.Test.YtgifeckbflkkpaaGreatDoorQr05
import Derived.Lib.SlBytesConst
namespace Go.Proofs.YtgifeckbflkkpaaGreatDoor
open Go.RowKit
set_option linter.unusedVariables false
set_option maxHeartbeats 2000000
set_option maxRecDepth 100000
theorem put_wfW (w0 w : World) (l : List Thing) (b : Nat) (L : List Bool) (v n : Nat) (x y : Int) (hx : x = (v : Int)) (hy : y = (n : Int)) (h : Own w0 w (WrT b L :: l)) (hn : n ≤ 64) (hv : v < 2 ^ n) (hv2 : v < 18446744073709551616) (hl : L.length + n ≤ 1048576) :
  Calls Tryz.prog 154 #[.pointer (some ⟨b,0,none⟩),.int .u64 x,.int .i64 y] w fun e w' => e = .returned (.int .i64 0) ∧ Own w0 w' (WrT b (L ++ bitsN n v) :: l) ∧ Wf w w' := by
 subst hx; subst hy
 obtain ⟨g,hW,hK⟩ := h.wr
 refine (put_ok _ w b g L v n hW hn hv hv2 hl).mono ?_
 rintro e w' ⟨rfl,g',hW',hs⟩
 exact ⟨rfl,hK w' g' _ hW' hs,hs.fr.mono (fun k _ hk => hW.wt k hk)⟩
theorem room_anyW (w0 w : World) (l : List Thing) (b : Nat) (L : List Bool) (h : Own w0 w (WrT b L :: l)) (hl : L.length ≤ 1048576) :
  Calls Tryz.prog 205 #[.pointer (some ⟨b,0,none⟩)] w fun e w' => e = .returned (.int .i64 ((1048576 - L.length : Nat) : Int)) ∧ Fr Nobody w w' := by
 have H : Hid (∀ _ : Unit,Calls Tryz.prog 180 #[.pointer (some ⟨b,0,none⟩)] w fun e w' => e = .returned (.int .i64 (L.length : Int)) ∧ Fr Nobody w w') := fun _ => by
  obtain ⟨g,hW,_⟩ := h.wr
  refine (len_any 0 w b g L hW).mono ?_
  rintro e w' ⟨rfl,rfl⟩
  exact ⟨rfl,Fr.refl _ _⟩
 clear h
 go_enter Tryz.func205,Tryz.ntmps205
 go_wp2_with fail
 refine (H.out ()).mono ?_
 rintro e w1 ⟨rfl,hf⟩
 have HF : Hid _ := hf
 clear hf H
 go_wp2
 go_ret
 exact ⟨ret_int (by omega),HF.out⟩
theorem putIn_wfW (w0 w : World) (l : List Thing) (b : Nat) (L : List Bool) (n lo hi : Int) (d : Nat) (hd : n = lo + (d : Int)) (h : Own w0 w (WrT b L :: l)) (h0 : -9223372036854775808 ≤ lo) (h1 : hi ≤ 9223372036854775807) (ha : lo ≤ n) (hb : n ≤ hi) (hl : L.length + 64 ≤ 1048576) :
  Calls Tryz.prog 152 #[.pointer (some ⟨b,0,none⟩),.int .i64 n,.int .i64 lo,.int .i64 hi] w fun e w' => e = .returned (.int .i64 0) ∧ Own w0 w' (WrT b (L ++ bitsN (wid lo hi) d) :: l) ∧ Wf w w' := by
 have hle : lo ≤ hi := by omega
 have H : Hid (Own w0 w (WrT b L :: l)) := h
 have ed : (n - lo).toNat = d := by omega
 have HI : Hid (d < 2 ^ wid lo hi) := ed ▸ in_lt n lo hi h0 h1 ha hb
 have HW : Hid (wid lo hi ≤ 64) := wid_le lo hi h0 h1
 have G1 : Hid (∀ w,_) := fun w => span_any lo n d w h0 (by omega) hd
 have G2 : Hid (∀ w,_) := fun w => width_any lo hi w h0 h1 (by omega) (by omega)
 have hdl : d < 18446744073709551616 := by omega
 clear h hd ed
 generalize wid lo hi = m at *
 go_enter Tryz.func152,Tryz.ntmps152
 go_wp2_with fail
 refine (G1.out _).mono ?_
 rintro e w' ⟨rfl,rfl⟩
 go_wp2_with fail
 refine (G2.out _).mono ?_
 rintro e w' ⟨rfl,rfl⟩
 go_wp2_with fail
 refine (put_wfW w0 _ l b L d m _ _ rfl rfl H.out HW.out HI.out hdl (by have := HW.out; omega)).mono ?_
 rintro e w1 ⟨rfl,hW,hf⟩
 go_wp2
 go_ret
 exact ⟨rfl,hW,hf⟩
theorem putField_anyW (w0 w : World) (l : List Thing) (ht : Tab w0) (b : Nat) (L : List Bool) (k j : Nat) (hk : k < 256) (hj : j < cnt k) (F : Nat → Int) (h : Own w0 w (WrT b L :: l)) (hr : lo k j ≤ F j ∧ F j ≤ hi k j) (hl : L.length + 64 ≤ 1048576) :
  Calls Tryz.prog 206 #[.pointer (some ⟨b,0,none⟩),.agg (cmp k F),.int .i64 (j : Int)] w fun e w' => e = .returned (.int .i64 0) ∧ Own w0 w' (WrT b (L ++ fb k F j) :: l) ∧ Wf w w' := by
 have hc := cnt_le k
 have hj3 : j < 3 := by omega
 have HB : Hid (Box (w.alloc (.cells (cmp k F) 63)) w.heap.size k F) := Box.new w k F
 have HF : Hid (Fr Nobody w (w.alloc (.cells (cmp k F) 63))) := (Fr.refl _ _).alloc _
 have H : Hid (Own w0 w (WrT b L :: l)) := h
 have HT : Hid (Tab w0) := ht
 have R : Hid (∀ w,Tab w → _) := fun w h => range_ok w h k hk j hj
 obtain ⟨l0,l1,l2,l3⟩ := rng_ok k j hj
 have P : Hid (∀ w,Own w0 w (WrT b L :: l) → Calls Tryz.prog 152 #[.pointer (some ⟨b,0,none⟩),.int .i64 (F j),.int .i64 (lo k j),.int .i64 (hi k j)] w fun e w' => e = .returned (.int .i64 0) ∧ Own w0 w' (WrT b (L ++ fb k F j) :: l) ∧ Wf w w') := fun w hw => putIn_wfW w0 w l b L (F j) (lo k j) (hi k j) (F j - lo k j).toNat (by omega) hw (by omega) (by omega) hr.1 hr.2 hl
 obtain ⟨r0,r1⟩ := hr
 clear h ht hc hj
 generalize fb k F j = M at *
 generalize lo k j = x at *
 generalize hi k j = y at *
 unfold cmp at *
 go_enter Tryz.func206,Tryz.ntmps206
 go_wp2_with fail
 refine (R.out _ (HT.out.quiet (H.out.quiet HF.out).fr)).mono ?_
 rintro e w1 ⟨rfl,hf1⟩
 have x1 := (Box.quiet HB.out hf1).at j hj3
 have HF1 : Hid (Fr Nobody w w1) := HF.out.trans hf1
 clear hf1
 generalize F j = f at *
 go_wp2_with fail
 refine (P.out _ (H.out.quiet HF1.out)).mono ?_
 rintro e w2 ⟨rfl,hW,hf2⟩
 have HW : Hid (Own w0 w2 (WrT b (L ++ M) :: l)) := hW
 have HF2 : Hid (Wf w w2) := (Wf.of_quiet HF1.out).trans hf2
 clear hW hf2
 go_wp2
 go_ret
 exact ⟨rfl,HW.out,HF2.out⟩
theorem putC_okW (w0 w : World) (l : List Thing) (ht : Tab w0) (b : Nat) (L : List Bool) (k : Nat) (hk : k < 256) (F : Nat → Int) (h : Own w0 w (WrT b L :: l)) (h0 : chk k F = 0) (hl : L.length + 200 ≤ 1048576) :
  Calls Tryz.prog 182 #[.pointer (some ⟨b,0,none⟩),.agg (cmp k F)] w fun e w' => e = .returned (.int .i64 0) ∧ Own w0 w' (WrT b (L ++ cb k F (cnt k)) :: l) ∧ Wf w w' := by
 obtain ⟨h6,hr,_⟩ := chk_ok k F h0
 have HT : Hid (Tab w0) := ht
 have H : Hid (Own w0 w (WrT b L :: l)) := h
 have hc := cnt_le k
 have HB : Hid (Box (w.alloc (.cells (cmp k F) 63)) w.heap.size k F) := Box.new w k F
 have HF : Hid (Fr Nobody w (w.alloc (.cells (cmp k F) 63))) := (Fr.refl _ _).alloc _
 have C1 : Hid (∀ w,Tab w → Calls Tryz.prog 147 #[.agg (cmp k F)] w fun e w' => e = .returned (.int .i64 0) ∧ Fr Nobody w w') := fun w h => by have := check_any w h k hk F; rw [h0] at this; exact this
 have B : Hid (∀ w,Tab w → _) := fun w h => bits_any w h k hk
 have hbk := bits_le k
 obtain ⟨c,ec⟩ : ∃ c,cnt k = c := ⟨_,rfl⟩
 have C : Hid (∀ w,Tab w → Calls Tryz.prog 203 #[.int .u8 (k : Int)] w fun e w' => e = .returned (.int .i64 (c : Int)) ∧ w' = w) := fun w h => by have := count_any w h k hk; rw [ec] at this; exact this
 have P : Hid (∀ w j M,Own w0 w (WrT b M :: l) → j < c → M.length + 64 ≤ 1048576 → _) := fun w j M hM hj hl => putField_anyW w0 w l ht b M k j hk (by rw [ec]; exact hj) F hM (hr j (by rw [ec]; exact hj)) hl
 have HL : Hid (∀ j,j ≤ c → (cb k F j).length ≤ 60) := fun j hj => by rw [length_cb]; have := bsum_le k j (by rw [ec]; exact hj); omega
 rw [ec] at hc
 rw [ec]
 have R : Hid (∀ w,Own w0 w (WrT b L :: l) → _) := fun w hw => room_anyW w0 w l b L hw (by omega)
 generalize hbq : bitsK k = bq at *
 obtain ⟨rm,erm⟩ : ∃ rm,1048576 - L.length = rm := ⟨_,rfl⟩
 rw [erm] at R
 have hrm : bq ≤ rm := by omega
 clear ht h h0 hr ec hbq
 have HN : Hid (L.length + 200 ≤ 1048576) := hl
 clear erm hl
 unfold cmp at *
 go_enter Tryz.func182,Tryz.ntmps182
 go_wp2_with fail
 refine (C1.out _ (HT.out.quiet (H.out.quiet HF.out).fr)).mono ?_
 rintro e w1 ⟨rfl,hf1⟩
 have HF1 : Hid (Fr Nobody w w1) := HF.out.trans hf1
 have B1 : Hid (Box w1 w.heap.size k F) := Box.quiet HB.out hf1
 have c0 := B1.out.kind
 clear hf1
 go_wp2_with fail
 refine (B.out _ (HT.out.quiet (H.out.quiet HF1.out).fr)).mono ?_
 rintro e w2 ⟨rfl,hf2⟩
 have HF2 : Hid (Fr Nobody w w2) := HF1.out.trans hf2
 have B2 : Hid (Box w2 w.heap.size k F) := B1.out.quiet hf2
 clear hf2 c0
 go_wp2_with fail
 refine (R.out _ (H.out.quiet HF2.out)).mono ?_
 rintro e w3 ⟨rfl,hf3⟩
 have HF3 : Hid (Fr Nobody w w3) := HF2.out.trans hf3
 have B3 : Hid (Box w3 w.heap.size k F) := B2.out.quiet hf3
 have c0 := B3.out.kind
 clear hf3
 go_wp2_with fail
 refine (C.out _ (HT.out.quiet (H.out.quiet HF3.out).fr)).mono ?_
 rintro e w4 ⟨rfl,rfl⟩
 have HO : Hid (Own w0 w4 (WrT b L :: l)) := H.out.quiet HF3.out
 have HW : Hid (Wf w w4) := Wf.of_quiet HF3.out
 clear HF HF1 HF2 B1 B2 HB
 go_wp2
 go_loopw [24] (fun a wr => ∃ j : Nat,j ≤ c ∧ a = .int .i64 j ∧ Own w0 wr (WrT b (L ++ cb k F j) :: l) ∧ Box wr w.heap.size k F ∧ Wf w wr) (fun a _ => c - (intOf a).toNat)
 case atStart => exact ⟨0,by omega,rfl,by simpa [cb] using HO.out,B3.out,HW.out⟩
 case round =>
  obtain ⟨j,hj,rfl,ho,hb,hw⟩ := hrel
  have HO2 : Hid (Own w0 wr (WrT b (L ++ cb k F j) :: l)) := ho
  have HB2 : Hid (Box wr w.heap.size k F) := hb
  have HW2 : Hid (Wf w wr) := hw
  clear ho hb hw
  by_cases hlt : j < c
  ·obtain ⟨p0,p1,p2,p3⟩ := HB2.out.cells
   have PJ : Hid (∀ _ : Unit,_) := fun _ => P.out wr j (L ++ cb k F j) HO2.out hlt (by have := HL.out j (by omega); have := HN.out; rw [List.length_append]; omega)
   go_wp2_with fail
   refine (PJ.out ()).mono ?_
   rintro e w5 ⟨rfl,hw5,hf5⟩
   have HO3 : Hid (Own w0 w5 (WrT b (L ++ cb k F (j + 1)) :: l)) := by
    show Own _ _ _
    rw [cb,← List.append_assoc]; exact hw5
   have HB3 : Hid (Box w5 w.heap.size k F) := HB2.out.wf hf5
   have HW3 : Hid (Wf w w5) := HW2.out.trans hf5
   clear hw5 hf5 PJ
   go_wp2
   go_roundw
   case rel => exact ⟨j + 1,by omega,by go_num,HO3.out,HB3.out,HW3.out⟩
   case measure => simp [intOf]; omega
  ·have e : j = c := by omega
   subst e
   go_wp2
   go_ret
   exact ⟨rfl,HO2.out,HW2.out⟩
theorem putFieldStep_anyW (w0 w : World) (l : List Thing) (ht : Tab w0) (b : Nat) (L : List Bool) (k k0 j : Nat) (hk : k < 256) (hj : j < cnt k) (F G : Nat → Int) (hF : I32 F) (hG : I32 G) (h : Own w0 w (WrT b L :: l)) (hr : lo k j ≤ G j ∧ G j ≤ hi k j) (hl : L.length + 80 ≤ 1048576) :
  Calls Tryz.prog 231 #[.pointer (some ⟨b,0,none⟩),.agg (cmp k0 F),.agg (cmp k G),.int .i64 (j : Int)] w fun e w' => e = .returned (.int .i64 0) ∧ Own w0 w' (WrT b (L ++ sb k F G j) :: l) ∧ Wf w w' := by
 obtain ⟨b1,b2,hf⟩ := boxes w k0 k F G
 have hc := cnt_le k
 have hj3 : j < 3 := by omega
 have H : Hid (Own w0 w (WrT b L :: l)) := h
 have HT : Hid (Tab w0) := ht
 have x1 := b1.at j hj3
 have x2 := b2.at j hj3
 have HB2 : Hid _ := b2
 have HF : Hid _ := hf
 have M : Hid (∀ w,Calls Tryz.prog 247 #[.int .i32 (F j),.int .i32 (G j)] w fun e w' => e = .returned (.int .u64 ((mz F G j : Nat) : Int)) ∧ w' = w) := fun w => more_any w (F j) (G j) (hF j hj3) (hG j hj3)
 have P : Hid (∀ w M,Own w0 w (WrT b M :: l) → M.length + 64 ≤ 1048576 → _) := fun w M hM hl => putField_anyW w0 w l ht b M k j hk hj G hM hr hl
 have Q : Hid (∀ w M v n,Own w0 w (WrT b M :: l) → n ≤ 64 → v < 2 ^ n → v < 100 → M.length + n ≤ 1048576 → _) := fun w M v n hM h1 h2 h3 h4 => put_wfW w0 w l b M v n _ _ rfl rfl hM h1 h2 (by omega) h4
 have hsb : sb k F G j = (if mz F G j = 0 then bitsN 1 0 else if mz F G j ≤ 16 then bitsN 2 3 ++ bitsN 4 (mz F G j - 1) else bitsN 2 1 ++ fb k G j) := rfl
 rw [hsb]
 have HN : Hid (L.length + 80 ≤ 1048576) := hl
 clear hsb hF hG b1 b2 ht hf hj hc h hr hl
 generalize mz F G j = z at *
 by_cases h0 : z = 0
 ·rw [if_pos h0]
  subst h0
  have Q1 : Hid (∀ w,Own w0 w (WrT b L :: l) → _) := fun w hw => Q.out w L 0 1 hw (by decide) (by decide) (by decide) (by have := HN.out; omega)
  unfold cmp at *
  generalize F j = f at *
  generalize G j = g at *
  clear P Q
  go_enter Tryz.func231,Tryz.ntmps231
  go_wp2_with fail
  go_quiet (refine Calls.quiet_of_same (M.out _))
  have HG : Hid _ := HF.out.drewN nq
  go_wp2_with fail
  refine (Q1.out _ (H.out.quiet HG.out)).mono ?_
  rintro e w2 ⟨rfl,hW,hf2⟩
  have HW : Hid (Own w0 w2 (WrT b (L ++ bitsN 1 0) :: l)) := hW
  have HF2 : Hid (Wf w w2) := (Wf.of_quiet HG.out).trans hf2
  clear hW hf2
  go_wp2
  go_ret
  exact ⟨rfl,HW.out,HF2.out⟩
 ·rw [if_neg h0]
  have n0 : ((z : Int) == 0) = false := by rw [beq_eq_false_iff_ne]; omega
  by_cases h1 : z ≤ 16
  ·rw [if_pos h1]
   have Q1 : Hid (∀ w,Own w0 w (WrT b L :: l) → _) := fun w hw => Q.out w L 3 2 hw (by decide) (by decide) (by decide) (by have := HN.out; omega)
   have Q2 : Hid (∀ w,Own w0 w (WrT b (L ++ bitsN 2 3) :: l) → _) := fun w hw => put_wfW w0 w l b (L ++ bitsN 2 3) (z - 1) 4 ((z : Int) - 1) 4 (by omega) rfl hw (by decide) (by omega) (by omega) (by have := HN.out; rw [List.length_append,length_bitsN]; omega)
   have hz1 : 1 ≤ z := by omega
   unfold cmp at *
   generalize F j = f at *
   generalize G j = g at *
   clear P Q h0
   go_enter Tryz.func231,Tryz.ntmps231
   go_wp2_with fail
   go_quiet (refine Calls.quiet_of_same (M.out _))
   have HG : Hid _ := HF.out.drewN nq
   go_wp2_with fail
   refine (Q1.out _ (H.out.quiet HG.out)).mono ?_
   rintro e w2 ⟨rfl,hW,hf2⟩
   have HW : Hid (Own w0 w2 (WrT b (L ++ bitsN 2 3) :: l)) := hW
   have HF2 : Hid (Wf w w2) := (Wf.of_quiet HG.out).trans hf2
   clear hW hf2
   go_wp2_with fail
   refine (Q2.out _ HW.out).mono ?_
   rintro e w3 ⟨rfl,hW,hf3⟩
   have HW3 : Hid (Own w0 w3 (WrT b (L ++ (bitsN 2 3 ++ bitsN 4 (z - 1))) :: l)) := by
    show Own _ _ _
    rw [← List.append_assoc]; exact hW
   have HF3 : Hid (Wf w w3) := HF2.out.trans hf3
   clear hW hf3
   go_wp2
   go_ret
   exact ⟨rfl,HW3.out,HF3.out⟩
  ·rw [if_neg h1]
   have Q1 : Hid (∀ w,Own w0 w (WrT b L :: l) → _) := fun w hw => Q.out w L 1 2 hw (by decide) (by decide) (by decide) (by have := HN.out; omega)
   have Q2 : Hid (∀ w,Own w0 w (WrT b (L ++ bitsN 2 1) :: l) → _) := fun w hw => P.out w (L ++ bitsN 2 1) hw (by have := HN.out; rw [List.length_append,length_bitsN]; omega)
   generalize fb k G j = FB at *
   clear P Q h0
   have HB3 : Hid (Box _ (w.heap.size + 1) k G) := HB2.out
   unfold cmp at *
   go_enter Tryz.func231,Tryz.ntmps231
   go_wp2_with fail
   go_quiet (refine Calls.quiet_of_same (M.out _))
   have HG : Hid _ := HF.out.drewN nq
   have HB4 : Hid (Box _ (w.heap.size + 1) k G) := Box.quiet HB3.out ((Fr.refl _ _).drewN nq)
   go_wp2_with fail
   refine (Q1.out _ (H.out.quiet HG.out)).mono ?_
   rintro e w2 ⟨rfl,hW,hf2⟩
   have HW : Hid (Own w0 w2 (WrT b (L ++ bitsN 2 1) :: l)) := hW
   have HF2 : Hid (Wf w w2) := (Wf.of_quiet HG.out).trans hf2
   obtain ⟨q0,q1,q2,q3⟩ := (Box.wf HB4.out hf2).cells
   clear hW hf2 x1 x2
   go_wp2_with fail
   refine (Q2.out _ HW.out).mono ?_
   rintro e w3 ⟨rfl,hW,hf3⟩
   have HW3 : Hid (Own w0 w3 (WrT b (L ++ (bitsN 2 1 ++ FB)) :: l)) := by
    show Own _ _ _
    rw [← List.append_assoc]; exact hW
   have HF3 : Hid (Wf w w3) := HF2.out.trans hf3
   clear hW hf3
   go_wp2
   go_ret
   exact ⟨rfl,HW3.out,HF3.out⟩
theorem putStep_okW (w0 w : World) (l : List Thing) (ht : Tab w0) (b : Nat) (L : List Bool) (k : Nat) (hk : k < 256) (F G : Nat → Int) (hF : I32 F) (hG : I32 G) (h : Own w0 w (WrT b L :: l)) (h0 : ckS k k F G = 0) (hl : L.length + 200 ≤ 1048576) :
  Calls Tryz.prog 208 #[.pointer (some ⟨b,0,none⟩),.agg (cmp k F),.agg (cmp k G)] w fun e w' => e = .returned (.int .i64 0) ∧ Own w0 w' (WrT b (L ++ sbs k F G (cnt k)) :: l) ∧ Wf w w' := by
 obtain ⟨_,hq,_⟩ := ckS_ok k k F G h0
 obtain ⟨h6,hr,_⟩ := chk_ok k G hq
 obtain ⟨b1,b2,hf⟩ := boxes w k k F G
 have HT : Hid (Tab w0) := ht
 have H : Hid (Own w0 w (WrT b L :: l)) := h
 have hc := cnt_le k
 have HB1 : Hid (Box _ w.heap.size k F) := b1
 have HB2 : Hid (Box _ (w.heap.size + 1) k G) := b2
 have HF : Hid (Fr Nobody w _) := hf
 have C1 : Hid (∀ w,Tab w → Calls Tryz.prog 229 #[.agg (cmp k F),.agg (cmp k G)] w fun e w' => e = .returned (.int .i64 0) ∧ Fr Nobody w w') := fun w h => by have := checkStep_any w h k k hk hk F G; rw [h0] at this; exact this
 have B : Hid (∀ w,Tab w → _) := fun w h => stepSize_any w h k k hk F G hF hG
 have hbk := ssum_le k (cnt k) F G (Nat.le_refl _)
 obtain ⟨c,ec⟩ : ∃ c,cnt k = c := ⟨_,rfl⟩
 have C : Hid (∀ w,Tab w → Calls Tryz.prog 203 #[.int .u8 (k : Int)] w fun e w' => e = .returned (.int .i64 (c : Int)) ∧ w' = w) := fun w h => by have := count_any w h k hk; rw [ec] at this; exact this
 have P : Hid (∀ w j M,Own w0 w (WrT b M :: l) → j < c → M.length + 80 ≤ 1048576 → _) := fun w j M hM hj hl => putFieldStep_anyW w0 w l ht b M k k j hk (by rw [ec]; exact hj) F G hF hG hM (hr j (by rw [ec]; exact hj)) hl
 have HL : Hid (∀ j,j ≤ c → (sbs k F G j).length ≤ 66) := fun j hj => by rw [length_sbs]; have := ssum_le k j F G (by rw [ec]; exact hj); omega
 rw [ec] at hc hbk B
 rw [ec]
 have R : Hid (∀ w,Own w0 w (WrT b L :: l) → _) := fun w hw => room_anyW w0 w l b L hw (by omega)
 generalize hbq : ssum k F G c = bq at *
 obtain ⟨rm,erm⟩ : ∃ rm,1048576 - L.length = rm := ⟨_,rfl⟩
 rw [erm] at R
 have hrm : bq ≤ rm := by omega
 clear ht h h0 hr ec hbq hF hG b1 b2 hf hq hbk
 have HN : Hid (L.length + 200 ≤ 1048576) := hl
 clear erm hl
 unfold cmp at *
 go_enter Tryz.func208,Tryz.ntmps208
 go_wp2_with fail
 refine (C1.out _ (HT.out.quiet (H.out.quiet HF.out).fr)).mono ?_
 rintro e w1 ⟨rfl,hf1⟩
 have HF1 : Hid (Fr Nobody w w1) := HF.out.trans hf1
 have B1 : Hid (Box w1 w.heap.size k F) := Box.quiet HB1.out hf1
 have B2 : Hid (Box w1 (w.heap.size + 1) k G) := Box.quiet HB2.out hf1
 obtain ⟨p0,p1,p2,p3⟩ := B1.out.cells
 obtain ⟨q0,q1,q2,q3⟩ := B2.out.cells
 clear hf1
 go_wp2_with fail
 refine (B.out _ (HT.out.quiet (H.out.quiet HF1.out).fr)).mono ?_
 rintro e w2 ⟨rfl,hf2⟩
 have HF2 : Hid (Fr Nobody w w2) := HF1.out.trans hf2
 have B12 : Hid (Box w2 w.heap.size k F) := B1.out.quiet hf2
 have B22 : Hid (Box w2 (w.heap.size + 1) k G) := B2.out.quiet hf2
 clear hf2 p0 p1 p2 p3 q0 q1 q2 q3
 go_wp2_with fail
 refine (R.out _ (H.out.quiet HF2.out)).mono ?_
 rintro e w3 ⟨rfl,hf3⟩
 have HF3 : Hid (Fr Nobody w w3) := HF2.out.trans hf3
 have B13 : Hid (Box w3 w.heap.size k F) := B12.out.quiet hf3
 have B23 : Hid (Box w3 (w.heap.size + 1) k G) := B22.out.quiet hf3
 have c0 := B23.out.kind
 clear hf3
 go_wp2_with fail
 refine (C.out _ (HT.out.quiet (H.out.quiet HF3.out).fr)).mono ?_
 rintro e w4 ⟨rfl,rfl⟩
 have HO : Hid (Own w0 w4 (WrT b L :: l)) := H.out.quiet HF3.out
 have HW : Hid (Wf w w4) := Wf.of_quiet HF3.out
 clear HF HF1 HF2 B1 B2 HB1 HB2 B12 B22
 go_wp2
 go_loopw [27] (fun a wr => ∃ j : Nat,j ≤ c ∧ a = .int .i64 j ∧ Own w0 wr (WrT b (L ++ sbs k F G j) :: l) ∧ Box wr w.heap.size k F ∧ Box wr (w.heap.size + 1) k G ∧ Wf w wr) (fun a _ => c - (intOf a).toNat)
 case atStart => exact ⟨0,by omega,rfl,by simpa [sbs] using HO.out,B13.out,B23.out,HW.out⟩
 case round =>
  obtain ⟨j,hj,rfl,ho,hb,hb',hw⟩ := hrel
  have HO2 : Hid (Own w0 wr (WrT b (L ++ sbs k F G j) :: l)) := ho
  have HB1 : Hid (Box wr w.heap.size k F) := hb
  have HB2 : Hid (Box wr (w.heap.size + 1) k G) := hb'
  have HW2 : Hid (Wf w wr) := hw
  clear ho hb hb' hw
  by_cases hlt : j < c
  ·obtain ⟨p0,p1,p2,p3⟩ := HB1.out.cells
   obtain ⟨q0,q1,q2,q3⟩ := HB2.out.cells
   have PJ : Hid (∀ _ : Unit,_) := fun _ => P.out wr j (L ++ sbs k F G j) HO2.out hlt (by have := HL.out j (by omega); have := HN.out; rw [List.length_append]; omega)
   go_wp2_with fail
   refine (PJ.out ()).mono ?_
   rintro e w5 ⟨rfl,hw5,hf5⟩
   have HO3 : Hid (Own w0 w5 (WrT b (L ++ sbs k F G (j + 1)) :: l)) := by
    show Own _ _ _
    rw [sbs,← List.append_assoc]; exact hw5
   have HB13 : Hid (Box w5 w.heap.size k F) := HB1.out.wf hf5
   have HB23 : Hid (Box w5 (w.heap.size + 1) k G) := HB2.out.wf hf5
   have HW3 : Hid (Wf w w5) := HW2.out.trans hf5
   clear hw5 hf5 PJ
   go_wp2
   go_roundw
   case rel => exact ⟨j + 1,by omega,by go_num,HO3.out,HB13.out,HB23.out,HW3.out⟩
   case measure => simp [intOf]; omega
  ·have e : j = c := by omega
   subst e
   go_wp2
   go_ret
   exact ⟨rfl,HO2.out,HW2.out⟩
def stp (s : Nat) : Nat := (s / 2) ^^^ (if s % 2 = 1 then 3988292384 else 0)
def stps : Nat → Nat → Nat
 | 0,s => s
 | n + 1,s => stps n (stp s)
theorem half_xor (a b : Nat) : (a ^^^ b) / 2 = (a / 2) ^^^ (b / 2) := by
 have h : (a ^^^ b) >>> 1 = a >>> 1 ^^^ b >>> 1 := Nat.shiftRight_xor_distrib
 simpa [Nat.shiftRight_eq_div_pow] using h
theorem stp_xor (a b : Nat) : stp (a ^^^ b) = stp a ^^^ stp b := by
 unfold stp
 rw [half_xor]
 have h := @Nat.xor_mod_two_eq_one a b
 by_cases ha : a % 2 = 1 <;> by_cases hb : b % 2 = 1
 ·rw [if_neg (by rw [h]; simp [ha,hb]),if_pos ha,if_pos hb]
  generalize a / 2 = x; generalize b / 2 = y; generalize (3988292384 : Nat) = p
  rw [Nat.xor_zero,Nat.xor_assoc x p,← Nat.xor_assoc p y,Nat.xor_comm p y,Nat.xor_assoc y p,Nat.xor_self,Nat.xor_zero]
 ·rw [if_pos (by rw [h]; simp [ha,hb]),if_pos ha,if_neg hb]
  generalize a / 2 = x; generalize b / 2 = y; generalize (3988292384 : Nat) = p
  rw [Nat.xor_zero,Nat.xor_assoc,Nat.xor_assoc,Nat.xor_comm p y]
 ·rw [if_pos (by rw [h]; simp [ha,hb]),if_neg ha,if_pos hb]
  generalize a / 2 = x; generalize b / 2 = y; generalize (3988292384 : Nat) = p
  rw [Nat.xor_zero,Nat.xor_assoc]
 ·rw [if_neg (by rw [h]; simp [ha,hb]),if_neg ha,if_neg hb]
  simp
theorem stps_xor (n a b : Nat) : stps n (a ^^^ b) = stps n a ^^^ stps n b := by
 induction n generalizing a b with
 | zero => rfl
 | succ n ih => rw [stps,stps,stps,stp_xor,ih]
theorem stp_dbl (a : Nat) : stp (2 * a) = a := by
 unfold stp
 rw [if_neg (by omega),Nat.xor_zero]; omega
theorem stps_add (m n s : Nat) : stps (m + n) s = stps n (stps m s) := by
 induction m generalizing s with
 | zero => rw [Nat.zero_add]; rfl
 | succ m ih => rw [Nat.succ_add,stps,stps,ih]
theorem stps_pow (n a : Nat) : stps n (2 ^ n * a) = a := by
 induction n generalizing a with
 | zero => simp [stps]
 | succ n ih => rw [stps,Nat.pow_succ',Nat.mul_assoc,stp_dbl,ih]
theorem xor_lt32 (a b : Nat) (ha : a < 4294967296) (hb : b < 4294967296) : a ^^^ b < 4294967296 := Nat.xor_lt_two_pow (n := 32) ha hb
theorem stp_lt (s : Nat) (h : s < 4294967296) : stp s < 4294967296 := by
 unfold stp
 apply xor_lt32
 ·omega
 ·split <;> omega
theorem stps_lt (n s : Nat) (h : s < 4294967296) : stps n s < 4294967296 := by
 induction n generalizing s with
 | zero => exact h
 | succ n ih => exact ih _ (stp_lt s h)
theorem xor_add (n a b : Nat) (h : a < 2 ^ n) : a + 2 ^ n * b = a ^^^ (2 ^ n * b) := by
 rw [Nat.add_comm]
 apply Nat.eq_of_testBit_eq
 intro i
 rw [Nat.testBit_two_pow_mul_add _ h,Nat.testBit_xor,Nat.testBit_two_pow_mul]
 by_cases c : i < n
 ·rw [if_pos c]; simp [show ¬ n ≤ i by omega]
 ·rw [if_neg c,Nat.testBit_lt_two_pow (Nat.lt_of_lt_of_le h (Nat.pow_le_pow_right (by decide) (by omega)))]; simp; omega
def tbl (r : Nat) : Nat := stps 4 r
theorem four (s : Nat) : (s / 16) ^^^ tbl (s % 16) = stps 4 s := by
 have e : s = (s % 16) ^^^ (2 ^ 4 * (s / 16)) := by
  rw [← xor_add 4 (s % 16) (s / 16) (by omega)]; omega
 have e2 : stps 4 s = stps 4 ((s % 16) ^^^ (2 ^ 4 * (s / 16))) := congrArg _ e
 rw [e2,stps_xor,stps_pow,Nat.xor_comm]; rfl
theorem tbl_lt (r : Nat) (h : r < 16) : tbl r < 4294967296 := stps_lt 4 r (by omega)
def bnum : List Nat → Nat
 | [] => 0
 | b :: l => b + 256 * bnum l
def feed : Nat → List Nat → Nat
 | c,[] => c
 | c,b :: l => feed (stps 8 (c ^^^ b)) l
theorem feed_eq (c : Nat) (l : List Nat) (hl : ∀ b ∈ l,b < 256) : feed c l = stps (8 * l.length) (c ^^^ bnum l) := by
 induction l generalizing c with
 | nil => simp [feed,bnum,stps]
 | cons b l ih =>
  have hb := hl b (by simp)
  rw [feed,ih _ (fun x hx => hl x (by simp [hx])),bnum,List.length_cons,show 8 * (l.length + 1) = 8 + 8 * l.length by omega,stps_add]
  congr 1
  have e : b + 256 * bnum l = b ^^^ (2 ^ 8 * bnum l) := xor_add 8 b (bnum l) (by omega)
  rw [e,← Nat.xor_assoc,stps_xor 8 (c ^^^ b),stps_pow]
theorem feed_snoc (c : Nat) (l : List Nat) (b : Nat) : feed c (l ++ [b]) = stps 8 (feed c l ^^^ b) := by
 induction l generalizing c with
 | nil => rfl
 | cons x l ih => exact ih _
theorem feed_lt (c : Nat) (l : List Nat) (hc : c < 4294967296) (hl : ∀ b ∈ l,b < 256) : feed c l < 4294967296 := by
 induction l generalizing c with
 | nil => exact hc
 | cons b l ih =>
  have := hl b (by simp)
  exact ih _ (stps_lt 8 _ (xor_lt32 c b hc (by omega))) (fun x hx => hl x (by simp [hx]))
def crc (l : List Nat) : Nat := 4294967295 - feed 4294967295 l
theorem crc_lt (l : List Nat) : crc l < 4294967296 := by unfold crc; omega
theorem ones_sub (a : Nat) (ha : a < 4294967296) : 4294967295 - a = a ^^^ 4294967295 := by
 have h := BitVec.toNat_xor (BitVec.ofNat 32 a) (BitVec.allOnes 32)
 rw [BitVec.xor_allOnes,BitVec.toNat_not,BitVec.toNat_allOnes,BitVec.toNat_ofNat,Nat.mod_eq_of_lt ha] at h
 exact h
def Tabf (w : World) : Prop := ∀ i : Nat,i < 16 → w.cell? ⟨0,i,none⟩ = some (.int .u32 ((tbl i : Nat) : Int))
theorem Tabf.keep {S : Nat → Prop} {w w' : World} (h : Tabf w) (hf : Fr S w w') (hs : ¬ S 0) : Tabf w' := fun i hi =>
 (hf.cell (p := ⟨0,i,none⟩) (World.block_lt_of_cell? w _ (h i hi)) hs).trans (h i hi)
theorem Tabf.quiet {w w' : World} (h : Tabf w) (hf : Fr Nobody w w') : Tabf w' := h.keep hf id
theorem xor32 (a b : Nat) (ha : a < 4294967296) (hb : b < 4294967296) : bits .xor .u32 (a : Int) (b : Int) = ((a ^^^ b : Nat) : Int) := u32_xor_nat a b ha hb
theorem step_val (y : Nat) (hy : y < 4294967296) : bits .xor .u32 ((y : Int) / 16) ((tbl (y % 16) : Nat) : Int) = ((stps 4 y : Nat) : Int) := by
 have e : (y : Int) / 16 = ((y / 16 : Nat) : Int) := by omega
 rw [e,xor32 _ _ (by omega) (tbl_lt _ (by omega)),four]
theorem sum_any (w : World) (ao : Option Addr) (cap len : Nat) (P : List Nat) (h : BytesAt w ao P) (hlen : P.length = len) (hb : ∀ x ∈ P,x < 256) (hL : len ≤ 1000000000) (ht : Tabf w) :
  Calls Tryz.prog 90 #[.slice ao len cap] w fun e w' => e = .returned (.int .u32 ((crc P : Nat) : Int)) ∧ w' = w := by
 have H : Hid (BytesAt w ao P) := h
 have HT : Hid (Tabf w) := ht
 have HB : Hid (∀ x ∈ P,x < 256) := hb
 have HL : Hid (P.length = len) := hlen
 clear h ht hb hlen
 go_enter Tryz.func90,Tryz.ntmps90
 go_wp2
 go_loopw [3,8] (fun u c wr => ∃ k : Nat,k ≤ len ∧ c = .int .i64 k ∧ u = .int .u32 ((feed 4294967295 (P.take k) : Nat) : Int) ∧ wr = w) (fun _ c _ => len - (intOf c).toNat)
 case atStart => exact ⟨0,Nat.zero_le _,rfl,rfl,rfl⟩
 case round =>
  obtain ⟨k,hk,rfl,rfl,rfl⟩ := hrel
  by_cases hlt : k < len
  ·have hP : k < P.length := by rw [HL.out]; exact hlt
   have hx : P[k]? = some P[k] := List.getElem?_eq_getElem hP
   have hx2 := HB.out P[k] (List.getElem_mem _)
   obtain ⟨g,o,rfl,hcs⟩ : ∃ g o,ao = some ⟨g,o,none⟩ ∧ ∀ (j x : Nat),P[j]? = some x → wr.cell? ⟨g,o + j,none⟩ = some (.int .u8 (x : Int)) := by
    rcases H.out with hn | hn
    ·rw [hn] at hP; cases hP
    ·exact hn
   have cx := hcs k _ hx
   have hc := feed_lt 4294967295 (P.take k) (by decide) (fun x hx => HB.out x (List.mem_of_mem_take hx))
   have HS : Hid (feed 4294967295 (P.take (k + 1)) = stps 8 (feed 4294967295 (P.take k) ^^^ P[k])) := by
    show _ = _
    rw [List.take_add_one,hx]; exact feed_snoc _ _ _
   generalize feed 4294967295 (P.take k) = c at *
   generalize P[k] = x at *
   have hy := xor_lt32 c x hc (by omega)
   have e1 := xor32 c x hc (by omega)
   generalize c ^^^ x = y at *
   have hz := stps_lt 4 y hy
   have e2 := step_val y hy
   have t2 := HT.out (y % 16) (by omega)
   have HZ : Hid (stps 8 y = stps 4 (stps 4 y)) := stps_add 4 4 y
   generalize stps 4 y = z at *
   have e3 := step_val z hz
   have t3 := HT.out (z % 16) (by omega)
   have hw := stps_lt 4 z hz
   generalize tbl (y % 16) = q at *
   generalize tbl (z % 16) = r at *
   generalize stps 4 z = v at *
   clear hcs hx
   go_wp2
   refine ⟨⟨k + 1,by omega,by go_num,?_,trivial⟩,by simp [intOf]; omega⟩
   rw [HS.out,HZ.out]
  ·go_wp2
   go_ret
   have e : k = len := by omega
   subst e
   refine ⟨ret_int ?_,rfl⟩
   have eP : P.take k = P := List.take_of_length_le (by rw [HL.out]; exact Nat.le_refl _)
   have hc := feed_lt 4294967295 P (by decide) HB.out
   rw [eP]
   have h1 := xor32 4294967295 (feed 4294967295 P) (by decide) hc
   have h2 : IntKind.u32.max = ((4294967295 : Nat) : Int) := by decide
   rw [h2,h1,crc,ones_sub _ hc,Nat.xor_comm]
theorem mul_xor (n a b : Nat) : 2 ^ n * (a ^^^ b) = (2 ^ n * a) ^^^ (2 ^ n * b) := by
 have h : (a ^^^ b) <<< n = a <<< n ^^^ b <<< n := Nat.shiftLeft_xor_distrib
 simpa [Nat.shiftLeft_eq,Nat.mul_comm] using h
def flip (l : List Nat) (k : Nat) : List Nat := l.set (k / 8) ((l[k / 8]?.getD 0) ^^^ 2 ^ (k % 8))
theorem copy_bytes {w : World} {ops : Array Oper} {rest : List Oper} {o : Oper} {a : Act} {Q : Exit → Act → World → Prop} (hgd : o.guard = none) (s x : Operand)
  (ho : o.op = .call { callee := .builtin .append,args := #[s,x],argTypes := #[22,22] }) (ao : Option Addr) (m cap : Nat) (P : List Nat) (h : Src w (.slice ao m cap) P.length (vrow P)) (hm : P.length = m) (hL : m ≤ 1000000)
  (hs : a.eval s = .slice (some ⟨w.heap.size,0,none⟩) 0 0) (hx : a.eval x = .slice ao m cap)
  (hK : ∀ v' w',w'.ownsRow w.heap.size 5 1 v' m (vrow P) → Fr Nobody w w' → wpList Tryz.prog ops Q rest (a.put o.dst v') w') :
  wpList Tryz.prog ops Q (o :: rest) a (w.alloc (.cells #[] 5)) := by
 obtain ⟨i0,hi,hz0,hz1,hz2⟩ := info_parts Tryz.infoB
 have hown := World.ownsRow_made (e := 5) (size := 1) (base := w.heap.size) w #[] 0 (Nat.le_refl _) (Nat.zero_le _) rfl
 have hfr : Fr Nobody w (w.alloc (.cells #[] 5)) := (Fr.refl _ w).alloc _
 rcases h with ⟨hv,h0,h00⟩ | ⟨a',cap',hv,hl,hc⟩
 ·have hP0 : P = [] := List.eq_nil_of_length_eq_zero h0
  subst hP0
  subst hm
  rw [hv] at hx
  refine wpList_plain hgd fun K hK' => ?_
  have hr := run_append_owned_none (P := Tryz.prog) (w.alloc (.cells #[] 5)) w.heap.size 22 o.type 5 i0 1 Tryz.underlying22 hi _ 0 [] hown
  unfold Oper.wp
  simp [execOp,ho,resolve,invoke,builtin,hs,hx,hr,Result.andThen]
  exact hK' _ _ (hK _ _ hown hfr)
 ·simp only [Value.slice.injEq] at hv
  obtain ⟨rfl,_,rfl⟩ := hv
  refine wpList_append_own (w.alloc (.cells #[] 5)) hgd s x 22 ho w.heap.size 5 i0 (.int .u8 0) 1 1 Tryz.underlying22 hi hz0 hz1 hz2 rfl (by decide) _ 0 [] hs hown a' m cap (vrow P) hx (by rw [length_vrow]; omega) (fun j u hu => Lib.cell?_alloc_some _ (hc j u hu)) (one_vrow P) (by unfold maxLen; omega) (by omega) (by simp) ?_
  intro v' w' ho' hg' _
  exact hK v' w' (by simpa using ho') (hfr.grown hg' (by intro k hk; simp [Value.ownBlock] at hk; omega))
structure In (w : World) (ao : Option Addr) (len cap : Nat) (P : List Nat) : Prop where
 at' : BytesAt w ao P
 eqn : P.length = len
 byt : ∀ x ∈ P,x < 256
 nil : ao = none → cap = 0
 le : len ≤ cap
theorem In.quiet {w w' : World} {ao : Option Addr} {len cap : Nat} {P : List Nat} (h : In w ao len cap P) (hf : Fr Nobody w w') : In w' ao len cap P := ⟨h.at'.quiet hf,h.eqn,h.byt,h.nil,h.le⟩
theorem In.cut {w : World} {ao : Option Addr} {len cap : Nat} {P : List Nat} (h : In w ao len cap P) (m : Nat) (hm : m ≤ len) : In w ao m cap (P.take m) := by
 refine ⟨?_,by rw [List.length_take,h.eqn]; omega,fun x hx => h.byt x (List.mem_of_mem_take hx),h.nil,Nat.le_trans hm h.le⟩
 rcases h.at' with h1 | ⟨g,o,h1,h2⟩
 ·left; rw [h1]; simp
 ·right
  refine ⟨g,o,h1,fun j x hx => h2 j x ?_⟩
  rw [List.getElem?_take] at hx
  split at hx
  ·exact hx
  ·cases hx
theorem In.src {w : World} {ao : Option Addr} {len cap : Nat} {P : List Nat} (h : In w ao len cap P) : Src w (.slice ao len cap) P.length (vrow P) := by
 have := h.at'.src cap h.nil
 rw [h.eqn] at this ⊢
 exact this
theorem In.some' {w : World} {ao : Option Addr} {len cap : Nat} {P : List Nat} (h : In w ao len cap P) (h0 : 0 < len) : ∃ g o,ao = some ⟨g,o,none⟩ := by
 rcases h.at' with h1 | ⟨g,o,h1,h2⟩
 ·rw [← h.eqn,h1] at h0; cases h0
 ·exact ⟨g,o,h1⟩
theorem In.of_row {w : World} {B g n cap : Nat} {P : List Nat} (h : w.ownsRow B 5 1 (.slice (some ⟨g,0,none⟩) n cap) n (vrow P)) (hl : P.length = n) (hb : ∀ x ∈ P,x < 256) : In w (some ⟨g,0,none⟩) n cap P := by
 refine ⟨.inr ⟨g,0,rfl,fun j x hx => ?_⟩,hl,hb,(fun e => by cases e),(row_cap h).2.1⟩
 have hj : j < P.length := (List.getElem?_eq_some_iff.1 hx).1
 rw [Nat.zero_add,h.cellAt j (by omega),getElem?_vrow,hx]; rfl
theorem sum_in (w : World) (ao : Option Addr) (cap len : Nat) (P : List Nat) (h : In w ao len cap P) (hL : len ≤ 1000000000) (ht : Tabf w) :
  Calls Tryz.prog 90 #[.slice ao len cap] w fun e w' => e = .returned (.int .u32 ((crc P : Nat) : Int)) ∧ w' = w := sum_any w ao cap len P h.at' h.eqn h.byt hL ht
end Go.Proofs.YtgifeckbflkkpaaGreatDoor
