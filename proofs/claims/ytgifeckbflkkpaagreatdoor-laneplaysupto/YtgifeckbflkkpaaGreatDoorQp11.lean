/- Writers as things: New, Put, Len, Bytes; PutVar and PutIn of package nums. -/
import Derived.Test.YtgifeckbflkkpaaGreatDoorQp06
import Derived.Test.YtgifeckbflkkpaaGreatDoorQp10
namespace Go.Proofs.YtgifeckbflkkpaaGreatDoor
open Go.RowKit
set_option linter.unusedVariables false
set_option maxHeartbeats 2000000
set_option maxRecDepth 100000
def WrT (b : Nat) (L : List Bool) : Thing where
 is := fun w A => ∃ g,Wr 0 w b g L ∧ ∀ j,A j ↔ At b g j
 lt := by
  rintro w A j ⟨g,h,hA⟩ a
  rcases (hA j).1 a with rfl | e
  ·exact h.lt
  ·exact h.glt j e.symm
 keep := by
  rintro w w' A B ⟨g,h,hA⟩ hf hn
  exact ⟨g,h.keep hf (hn b ((hA b).2 (.inl rfl))) (fun k hk => hn k ((hA k).2 (.inr hk.symm))),hA⟩
theorem Own.wr {w0 w : World} {l : List Thing} {b : Nat} {L : List Bool} (h : Own w0 w (WrT b L :: l)) : ∃ g,Wr 0 w b g L ∧ ∀ (w' : World) (g' : Option Nat) (L' : List Bool),Wr 0 w' b g' L' → Step w b g w' g' → Own w0 w' (WrT b L' :: l) := by
 obtain ⟨A,⟨g,hw,hA⟩,hlo,act⟩ := h.act
 refine ⟨g,hw,fun w' g' L' hw' hs => act w' (WrT b L') (At b g') ⟨g',hw',fun _ => Iff.rfl⟩ (hs.fr.mono (fun k _ hk => (hA k).2 hk)) (fun k hk => ?_)⟩
 rcases hk with rfl | hk
 ·exact .inl ((hA _).2 (.inl rfl))
 ·rcases hs.row with e | ⟨j,e,hj⟩
  ·exact .inl ((hA k).2 (.inr (hk.trans e)))
  ·rw [e] at hk; cases hk; exact .inr hj
theorem new_own (w0 w : World) (l : List Thing) (h : Own w0 w l) : Calls Tryz.prog 84 #[] w fun e w' => ∃ b,e = .returned (.pointer (some ⟨b,0,none⟩)) ∧ Own w0 w' (WrT b [] :: l) := by
 refine (new_ow w w (Fr.refl _ _)).mono ?_
 rintro e w' ⟨b,rfl,hb,g,hw,hf⟩
 refine ⟨b,rfl,h.new (WrT b []) (At b g) ⟨g,hw.mono (Nat.zero_le _),fun _ => Iff.rfl⟩ hf (fun k hk => ?_)⟩
 exact hw.lowAt k hk
theorem len_own (w0 w : World) (l : List Thing) (b : Nat) (L : List Bool) (h : Own w0 w (WrT b L :: l)) : Calls Tryz.prog 180 #[.pointer (some ⟨b,0,none⟩)] w fun e w' => e = .returned (.int .i64 (L.length : Int)) ∧ Own w0 w' (WrT b L :: l) := by
 obtain ⟨g,hw,k⟩ := h.wr
 refine (len_any 0 w b g L hw).mono ?_
 rintro e w' ⟨rfl,rfl⟩
 exact ⟨rfl,h⟩
theorem putW_own (w0 w : World) (l : List Thing) (b : Nat) (L : List Bool) (v n : Nat) (x y : Int) (hx : x = (v : Int)) (hy : y = (n : Int)) (h : Own w0 w (WrT b L :: l)) (hn : n ≤ 64) (hv : v < 2 ^ n) (hv2 : v < 18446744073709551616) (hl : L.length + n ≤ 1048576) :
  Calls Tryz.prog 154 #[.pointer (some ⟨b,0,none⟩),.int .u64 x,.int .i64 y] w fun e w' => e = .returned (.int .i64 0) ∧ Own w0 w' (WrT b (L ++ bitsN n v) :: l) := by
 subst hx hy
 obtain ⟨g,hw,k⟩ := h.wr
 refine (put_ok 0 w b g L v n hw hn hv hv2 hl).mono ?_
 rintro e w' ⟨rfl,g',hw',hs⟩
 exact ⟨rfl,k w' g' _ hw' hs⟩
theorem putVarW (w0 w : World) (l : List Thing) (b : Nat) (L : List Bool) (v : Nat) (h : Own w0 w (WrT b L :: l)) (hv : v < 18446744073709551616) (hl : L.length + 5 * grp v ≤ 1048576) :
  Calls Tryz.prog 153 #[.pointer (some ⟨b,0,none⟩),.int .u64 v] w fun e w' => e = .returned (.int .i64 0) ∧ Own w0 w' (WrT b (L ++ var v) :: l) := by
 have hg := grp_bd v hv
 have H : Hid (Own w0 w (WrT b L :: l)) := h
 have HV : Hid (var v = varTo v (grp v) (grp v)) := rfl
 clear h
 have hgr := groups_any v w hv
 generalize var v = vv at *
 generalize grp v = n at *
 go_enter Tryz.func153,Tryz.ntmps153
 go_wp2_with fail
 refine hgr.mono ?_
 clear hgr
 rintro e w' ⟨rfl,rfl⟩
 go_wp2_with fail
 refine (len_own w0 _ l b L H.out).mono ?_
 rintro e w1 ⟨rfl,hW⟩
 have H1 : Hid (Own w0 w1 (WrT b L :: l)) := hW
 clear hW H
 have hlong : ¬ (1048576 : Int) - (L.length : Int) < (n : Int) * 5 := by omega
 go_wp2
 clear hlong
 go_loopw [22] (fun c wr => ∃ k : Nat,k ≤ n ∧ c = .int .i64 k ∧ Own w0 wr (WrT b (L ++ varTo v n k) :: l)) (fun c _ => n - (intOf c).toNat)
 case atStart => exact ⟨0,Nat.zero_le _,rfl,by simpa [varTo] using H1.out⟩
 case round =>
  obtain ⟨k,hk,rfl,hW⟩ := hrel
  by_cases hlt : k < n
  ·by_cases hlast : k + 1 < n
   ·have hla : (k : Int) < (n : Int) - 1 := by omega
    go_wp2_with fail
    refine (putW_own w0 wr l b _ (grpAt v n k) 5 _ 5 (by rw [grpAt,if_pos hlast]; exact more_val v k) rfl hW (by decide) (grpAt_lt v n k) (Nat.lt_trans (grpAt_lt v n k) (by decide)) (by rw [List.length_append,length_varTo]; omega)).mono ?_
    rintro e w2 ⟨rfl,hW2⟩
    have H2 : Hid (Own w0 w2 (WrT b (L ++ varTo v n (k + 1)) :: l)) := by rw [varTo,← List.append_assoc]; exact hW2
    clear hW hW2 H1
    go_wp2
    go_roundw
    case rel => exact ⟨k + 1,by omega,by go_num,H2.out⟩
    case measure => simp [intOf]; omega
   ·have hla : ¬ (k : Int) < (n : Int) - 1 := by omega
    go_wp2_with fail
    refine (putW_own w0 wr l b _ (grpAt v n k) 5 _ 5 (by rw [grpAt,if_neg hlast]; exact part_val v k) rfl hW (by decide) (grpAt_lt v n k) (Nat.lt_trans (grpAt_lt v n k) (by decide)) (by rw [List.length_append,length_varTo]; omega)).mono ?_
    rintro e w2 ⟨rfl,hW2⟩
    have H2 : Hid (Own w0 w2 (WrT b (L ++ varTo v n (k + 1)) :: l)) := by rw [varTo,← List.append_assoc]; exact hW2
    clear hW hW2 H1
    go_wp2
    go_roundw
    case rel => exact ⟨k + 1,by omega,by go_num,H2.out⟩
    case measure => simp [intOf]; omega
  ·go_wp2
   go_ret
   have e : k = n := by omega
   subst e
   exact ⟨rfl,by rw [HV.out]; exact hW⟩
theorem putInW (w0 w : World) (l : List Thing) (b : Nat) (L : List Bool) (n lo hi : Int) (d : Nat) (hd : n = lo + (d : Int)) (h : Own w0 w (WrT b L :: l)) (h0 : -9223372036854775808 ≤ lo) (h1 : hi ≤ 9223372036854775807) (ha : lo ≤ n) (hb : n ≤ hi) (hl : L.length + 64 ≤ 1048576) :
  Calls Tryz.prog 152 #[.pointer (some ⟨b,0,none⟩),.int .i64 n,.int .i64 lo,.int .i64 hi] w fun e w' => e = .returned (.int .i64 0) ∧ Own w0 w' (WrT b (L ++ bitsN (wid lo hi) d) :: l) := by
 have hle : lo ≤ hi := by omega
 have H : Hid (Own w0 w (WrT b L :: l)) := h
 have ed : (n - lo).toNat = d := by omega
 have HI : Hid (d < 2 ^ wid lo hi) := ed ▸ in_lt n lo hi h0 h1 ha hb
 have HW : Hid (wid lo hi ≤ 64) := wid_le lo hi h0 h1
 have G1 : Hid _ := fun w => span_any lo n d w h0 (by omega) hd
 have G2 : Hid _ := fun w => width_any lo hi w h0 h1 (by omega) (by omega)
 have hdl : d < 18446744073709551616 := by omega
 clear h hd ed
 generalize wid lo hi = m at *
 go_enter Tryz.func152,Tryz.ntmps152
 go_wp2_with fail
 refine (G1.out _).mono ?_
 rintro e w' ⟨rfl,rfl⟩
 go_wp2_with fail
 refine (G2.out _).mono ?_
 rintro e w' ⟨rfl,rfl⟩
 go_wp2_with fail
 refine (putW_own w0 _ l b L d m _ _ rfl rfl H.out HW.out HI.out hdl (by have := HW.out; omega)).mono ?_
 rintro e w1 ⟨rfl,hW⟩
 go_wp2
 go_ret
 exact ⟨rfl,hW⟩
theorem bytesW (w0 w : World) (l : List Thing) (b : Nat) (L : List Bool) (h : Own w0 w (WrT b L :: l)) (hl : L.length ≤ 1048576) :
  Calls Tryz.prog 88 #[.pointer (some ⟨b,0,none⟩)] w fun e w' => ∃ v',e = .returned v' ∧ Own w0 w' (Row 5 1 v' (nb L.length) (vrow (pack L)) :: WrT b L :: l) := by
 obtain ⟨g,hw,k⟩ := h.wr
 refine (bytes_any 0 w b g L hw hl).mono ?_
 rintro e w' ⟨v',rfl,hr,hf,hk⟩
 exact ⟨v',rfl,h.new (Row 5 1 v' (nb L.length) (vrow (pack L))) (fun k => v'.ownBlock = some k) ⟨hr,fun _ => Iff.rfl⟩ hf hk⟩
theorem put_wfW (w0 w : World) (l : List Thing) (b : Nat) (L : List Bool) (v n : Nat) (x y : Int) (hx : x = (v : Int)) (hy : y = (n : Int)) (h : Own w0 w (WrT b L :: l)) (hn : n ≤ 64) (hv : v < 2 ^ n) (hv2 : v < 18446744073709551616) (hl : L.length + n ≤ 1048576) :
  Calls Tryz.prog 154 #[.pointer (some ⟨b,0,none⟩),.int .u64 x,.int .i64 y] w fun e w' => e = .returned (.int .i64 0) ∧ Own w0 w' (WrT b (L ++ bitsN n v) :: l) ∧ Wf w w' := by
 subst hx; subst hy
 obtain ⟨g,hW,hK⟩ := h.wr
 refine (put_ok _ w b g L v n hW hn hv hv2 hl).mono ?_
 rintro e w' ⟨rfl,g',hW',hs⟩
 exact ⟨rfl,hK w' g' _ hW' hs,hs.fr.mono (fun k _ hk => hW.wt k hk)⟩
theorem room_anyW (w0 w : World) (l : List Thing) (b : Nat) (L : List Bool) (h : Own w0 w (WrT b L :: l)) (hl : L.length ≤ 1048576) :
  Calls Tryz.prog 205 #[.pointer (some ⟨b,0,none⟩)] w fun e w' => e = .returned (.int .i64 ((1048576 - L.length : Nat) : Int)) ∧ Fr Nobody w w' := by
 have H : Hid (∀ _ : Unit,Calls Tryz.prog 180 #[.pointer (some ⟨b,0,none⟩)] w fun e w' => e = .returned (.int .i64 (L.length : Int)) ∧ Fr Nobody w w') := fun _ => by
  obtain ⟨g,hW,_⟩ := h.wr
  refine (len_any 0 w b g L hW).mono ?_
  rintro e w' ⟨rfl,rfl⟩
  exact ⟨rfl,Fr.refl _ _⟩
 clear h
 go_enter Tryz.func205,Tryz.ntmps205
 go_wp2_with fail
 refine (H.out ()).mono ?_
 rintro e w1 ⟨rfl,hf⟩
 have HF : Hid _ := hf
 clear hf H
 go_wp2
 go_ret
 exact ⟨ret_int (by omega),HF.out⟩
theorem putIn_wfW (w0 w : World) (l : List Thing) (b : Nat) (L : List Bool) (n lo hi : Int) (d : Nat) (hd : n = lo + (d : Int)) (h : Own w0 w (WrT b L :: l)) (h0 : -9223372036854775808 ≤ lo) (h1 : hi ≤ 9223372036854775807) (ha : lo ≤ n) (hb : n ≤ hi) (hl : L.length + 64 ≤ 1048576) :
  Calls Tryz.prog 152 #[.pointer (some ⟨b,0,none⟩),.int .i64 n,.int .i64 lo,.int .i64 hi] w fun e w' => e = .returned (.int .i64 0) ∧ Own w0 w' (WrT b (L ++ bitsN (wid lo hi) d) :: l) ∧ Wf w w' := by
 have hle : lo ≤ hi := by omega
 have H : Hid (Own w0 w (WrT b L :: l)) := h
 have ed : (n - lo).toNat = d := by omega
 have HI : Hid (d < 2 ^ wid lo hi) := ed ▸ in_lt n lo hi h0 h1 ha hb
 have HW : Hid (wid lo hi ≤ 64) := wid_le lo hi h0 h1
 have G1 : Hid (∀ w,_) := fun w => span_any lo n d w h0 (by omega) hd
 have G2 : Hid (∀ w,_) := fun w => width_any lo hi w h0 h1 (by omega) (by omega)
 have hdl : d < 18446744073709551616 := by omega
 clear h hd ed
 generalize wid lo hi = m at *
 go_enter Tryz.func152,Tryz.ntmps152
 go_wp2_with fail
 refine (G1.out _).mono ?_
 rintro e w' ⟨rfl,rfl⟩
 go_wp2_with fail
 refine (G2.out _).mono ?_
 rintro e w' ⟨rfl,rfl⟩
 go_wp2_with fail
 refine (put_wfW w0 _ l b L d m _ _ rfl rfl H.out HW.out HI.out hdl (by have := HW.out; omega)).mono ?_
 rintro e w1 ⟨rfl,hW,hf⟩
 go_wp2
 go_ret
 exact ⟨rfl,hW,hf⟩
theorem putField_anyW (w0 w : World) (l : List Thing) (ht : Tab w0) (b : Nat) (L : List Bool) (k j : Nat) (hk : k < 256) (hj : j < cnt k) (F : Nat → Int) (h : Own w0 w (WrT b L :: l)) (hr : lo k j ≤ F j ∧ F j ≤ hi k j) (hl : L.length + 64 ≤ 1048576) :
  Calls Tryz.prog 206 #[.pointer (some ⟨b,0,none⟩),.agg (cmp k F),.int .i64 (j : Int)] w fun e w' => e = .returned (.int .i64 0) ∧ Own w0 w' (WrT b (L ++ fb k F j) :: l) ∧ Wf w w' := by
 have hc := cnt_le k
 have hj3 : j < 3 := by omega
 have HB : Hid (Box (w.alloc (.cells (cmp k F) 63)) w.heap.size k F) := Box.new w k F
 have HF : Hid (Fr Nobody w (w.alloc (.cells (cmp k F) 63))) := (Fr.refl _ _).alloc _
 have H : Hid (Own w0 w (WrT b L :: l)) := h
 have HT : Hid (Tab w0) := ht
 have R : Hid (∀ w,Tab w → _) := fun w h => range_ok w h k hk j hj
 obtain ⟨l0,l1,l2,l3⟩ := rng_ok k j hj
 have P : Hid (∀ w,Own w0 w (WrT b L :: l) → Calls Tryz.prog 152 #[.pointer (some ⟨b,0,none⟩),.int .i64 (F j),.int .i64 (lo k j),.int .i64 (hi k j)] w fun e w' => e = .returned (.int .i64 0) ∧ Own w0 w' (WrT b (L ++ fb k F j) :: l) ∧ Wf w w') := fun w hw => putIn_wfW w0 w l b L (F j) (lo k j) (hi k j) (F j - lo k j).toNat (by omega) hw (by omega) (by omega) hr.1 hr.2 hl
 obtain ⟨r0,r1⟩ := hr
 clear h ht hc hj
 generalize fb k F j = M at *
 generalize lo k j = x at *
 generalize hi k j = y at *
 unfold cmp at *
 go_enter Tryz.func206,Tryz.ntmps206
 go_wp2_with fail
 refine (R.out _ (HT.out.quiet (H.out.quiet HF.out).fr)).mono ?_
 rintro e w1 ⟨rfl,hf1⟩
 have x1 := (Box.quiet HB.out hf1).at j hj3
 have HF1 : Hid (Fr Nobody w w1) := HF.out.trans hf1
 clear hf1
 generalize F j = f at *
 go_wp2_with fail
 refine (P.out _ (H.out.quiet HF1.out)).mono ?_
 rintro e w2 ⟨rfl,hW,hf2⟩
 have HW : Hid (Own w0 w2 (WrT b (L ++ M) :: l)) := hW
 have HF2 : Hid (Wf w w2) := (Wf.of_quiet HF1.out).trans hf2
 clear hW hf2
 go_wp2
 go_ret
 exact ⟨rfl,HW.out,HF2.out⟩
theorem putC_okW (w0 w : World) (l : List Thing) (ht : Tab w0) (b : Nat) (L : List Bool) (k : Nat) (hk : k < 256) (F : Nat → Int) (h : Own w0 w (WrT b L :: l)) (h0 : chk k F = 0) (hl : L.length + 200 ≤ 1048576) :
  Calls Tryz.prog 182 #[.pointer (some ⟨b,0,none⟩),.agg (cmp k F)] w fun e w' => e = .returned (.int .i64 0) ∧ Own w0 w' (WrT b (L ++ cb k F (cnt k)) :: l) ∧ Wf w w' := by
 obtain ⟨h6,hr,_⟩ := chk_ok k F h0
 have HT : Hid (Tab w0) := ht
 have H : Hid (Own w0 w (WrT b L :: l)) := h
 have hc := cnt_le k
 have HB : Hid (Box (w.alloc (.cells (cmp k F) 63)) w.heap.size k F) := Box.new w k F
 have HF : Hid (Fr Nobody w (w.alloc (.cells (cmp k F) 63))) := (Fr.refl _ _).alloc _
 have C1 : Hid (∀ w,Tab w → Calls Tryz.prog 147 #[.agg (cmp k F)] w fun e w' => e = .returned (.int .i64 0) ∧ Fr Nobody w w') := fun w h => by have := check_any w h k hk F; rw [h0] at this; exact this
 have B : Hid (∀ w,Tab w → _) := fun w h => bits_any w h k hk
 have hbk := bits_le k
 obtain ⟨c,ec⟩ : ∃ c,cnt k = c := ⟨_,rfl⟩
 have C : Hid (∀ w,Tab w → Calls Tryz.prog 203 #[.int .u8 (k : Int)] w fun e w' => e = .returned (.int .i64 (c : Int)) ∧ w' = w) := fun w h => by have := count_any w h k hk; rw [ec] at this; exact this
 have P : Hid (∀ w j M,Own w0 w (WrT b M :: l) → j < c → M.length + 64 ≤ 1048576 → _) := fun w j M hM hj hl => putField_anyW w0 w l ht b M k j hk (by rw [ec]; exact hj) F hM (hr j (by rw [ec]; exact hj)) hl
 have HL : Hid (∀ j,j ≤ c → (cb k F j).length ≤ 60) := fun j hj => by rw [length_cb]; have := bsum_le k j (by rw [ec]; exact hj); omega
 rw [ec] at hc
 rw [ec]
 have R : Hid (∀ w,Own w0 w (WrT b L :: l) → _) := fun w hw => room_anyW w0 w l b L hw (by omega)
 generalize hbq : bitsK k = bq at *
 obtain ⟨rm,erm⟩ : ∃ rm,1048576 - L.length = rm := ⟨_,rfl⟩
 rw [erm] at R
 have hrm : bq ≤ rm := by omega
 clear ht h h0 hr ec hbq
 have HN : Hid (L.length + 200 ≤ 1048576) := hl
 clear erm hl
 unfold cmp at *
 go_enter Tryz.func182,Tryz.ntmps182
 go_wp2_with fail
 refine (C1.out _ (HT.out.quiet (H.out.quiet HF.out).fr)).mono ?_
 rintro e w1 ⟨rfl,hf1⟩
 have HF1 : Hid (Fr Nobody w w1) := HF.out.trans hf1
 have B1 : Hid (Box w1 w.heap.size k F) := Box.quiet HB.out hf1
 have c0 := B1.out.kind
 clear hf1
 go_wp2_with fail
 refine (B.out _ (HT.out.quiet (H.out.quiet HF1.out).fr)).mono ?_
 rintro e w2 ⟨rfl,hf2⟩
 have HF2 : Hid (Fr Nobody w w2) := HF1.out.trans hf2
 have B2 : Hid (Box w2 w.heap.size k F) := B1.out.quiet hf2
 clear hf2 c0
 go_wp2_with fail
 refine (R.out _ (H.out.quiet HF2.out)).mono ?_
 rintro e w3 ⟨rfl,hf3⟩
 have HF3 : Hid (Fr Nobody w w3) := HF2.out.trans hf3
 have B3 : Hid (Box w3 w.heap.size k F) := B2.out.quiet hf3
 have c0 := B3.out.kind
 clear hf3
 go_wp2_with fail
 refine (C.out _ (HT.out.quiet (H.out.quiet HF3.out).fr)).mono ?_
 rintro e w4 ⟨rfl,rfl⟩
 have HO : Hid (Own w0 w4 (WrT b L :: l)) := H.out.quiet HF3.out
 have HW : Hid (Wf w w4) := Wf.of_quiet HF3.out
 clear HF HF1 HF2 B1 B2 HB
 go_wp2
 go_loopw [24] (fun a wr => ∃ j : Nat,j ≤ c ∧ a = .int .i64 j ∧ Own w0 wr (WrT b (L ++ cb k F j) :: l) ∧ Box wr w.heap.size k F ∧ Wf w wr) (fun a _ => c - (intOf a).toNat)
 case atStart => exact ⟨0,by omega,rfl,by simpa [cb] using HO.out,B3.out,HW.out⟩
 case round =>
  obtain ⟨j,hj,rfl,ho,hb,hw⟩ := hrel
  have HO2 : Hid (Own w0 wr (WrT b (L ++ cb k F j) :: l)) := ho
  have HB2 : Hid (Box wr w.heap.size k F) := hb
  have HW2 : Hid (Wf w wr) := hw
  clear ho hb hw
  by_cases hlt : j < c
  ·obtain ⟨p0,p1,p2,p3⟩ := HB2.out.cells
   have PJ : Hid (∀ _ : Unit,_) := fun _ => P.out wr j (L ++ cb k F j) HO2.out hlt (by have := HL.out j (by omega); have := HN.out; rw [List.length_append]; omega)
   go_wp2_with fail
   refine (PJ.out ()).mono ?_
   rintro e w5 ⟨rfl,hw5,hf5⟩
   have HO3 : Hid (Own w0 w5 (WrT b (L ++ cb k F (j + 1)) :: l)) := by
    show Own _ _ _
    rw [cb,← List.append_assoc]; exact hw5
   have HB3 : Hid (Box w5 w.heap.size k F) := HB2.out.wf hf5
   have HW3 : Hid (Wf w w5) := HW2.out.trans hf5
   clear hw5 hf5 PJ
   go_wp2
   go_roundw
   case rel => exact ⟨j + 1,by omega,by go_num,HO3.out,HB3.out,HW3.out⟩
   case measure => simp [intOf]; omega
  ·have e : j = c := by omega
   subst e
   go_wp2
   go_ret
   exact ⟨rfl,HO2.out,HW2.out⟩
theorem putFieldStep_anyW (w0 w : World) (l : List Thing) (ht : Tab w0) (b : Nat) (L : List Bool) (k k0 j : Nat) (hk : k < 256) (hj : j < cnt k) (F G : Nat → Int) (hF : I32 F) (hG : I32 G) (h : Own w0 w (WrT b L :: l)) (hr : lo k j ≤ G j ∧ G j ≤ hi k j) (hl : L.length + 80 ≤ 1048576) :
  Calls Tryz.prog 231 #[.pointer (some ⟨b,0,none⟩),.agg (cmp k0 F),.agg (cmp k G),.int .i64 (j : Int)] w fun e w' => e = .returned (.int .i64 0) ∧ Own w0 w' (WrT b (L ++ sb k F G j) :: l) ∧ Wf w w' := by
 obtain ⟨b1,b2,hf⟩ := boxes w k0 k F G
 have hc := cnt_le k
 have hj3 : j < 3 := by omega
 have H : Hid (Own w0 w (WrT b L :: l)) := h
 have HT : Hid (Tab w0) := ht
 have x1 := b1.at j hj3
 have x2 := b2.at j hj3
 have HB2 : Hid _ := b2
 have HF : Hid _ := hf
 have M : Hid (∀ w,Calls Tryz.prog 247 #[.int .i32 (F j),.int .i32 (G j)] w fun e w' => e = .returned (.int .u64 ((mz F G j : Nat) : Int)) ∧ w' = w) := fun w => more_any w (F j) (G j) (hF j hj3) (hG j hj3)
 have P : Hid (∀ w M,Own w0 w (WrT b M :: l) → M.length + 64 ≤ 1048576 → _) := fun w M hM hl => putField_anyW w0 w l ht b M k j hk hj G hM hr hl
 have Q : Hid (∀ w M v n,Own w0 w (WrT b M :: l) → n ≤ 64 → v < 2 ^ n → v < 100 → M.length + n ≤ 1048576 → _) := fun w M v n hM h1 h2 h3 h4 => put_wfW w0 w l b M v n _ _ rfl rfl hM h1 h2 (by omega) h4
 have hsb : sb k F G j = (if mz F G j = 0 then bitsN 1 0 else if mz F G j ≤ 16 then bitsN 2 3 ++ bitsN 4 (mz F G j - 1) else bitsN 2 1 ++ fb k G j) := rfl
 rw [hsb]
 have HN : Hid (L.length + 80 ≤ 1048576) := hl
 clear hsb hF hG b1 b2 ht hf hj hc h hr hl
 generalize mz F G j = z at *
 by_cases h0 : z = 0
 ·rw [if_pos h0]
  subst h0
  have Q1 : Hid (∀ w,Own w0 w (WrT b L :: l) → _) := fun w hw => Q.out w L 0 1 hw (by decide) (by decide) (by decide) (by have := HN.out; omega)
  unfold cmp at *
  generalize F j = f at *
  generalize G j = g at *
  clear P Q
  go_enter Tryz.func231,Tryz.ntmps231
  go_wp2_with fail
  go_quiet (refine Calls.quiet_of_same (M.out _))
  have HG : Hid _ := HF.out.drewN nq
  go_wp2_with fail
  refine (Q1.out _ (H.out.quiet HG.out)).mono ?_
  rintro e w2 ⟨rfl,hW,hf2⟩
  have HW : Hid (Own w0 w2 (WrT b (L ++ bitsN 1 0) :: l)) := hW
  have HF2 : Hid (Wf w w2) := (Wf.of_quiet HG.out).trans hf2
  clear hW hf2
  go_wp2
  go_ret
  exact ⟨rfl,HW.out,HF2.out⟩
 ·rw [if_neg h0]
  have n0 : ((z : Int) == 0) = false := by rw [beq_eq_false_iff_ne]; omega
  by_cases h1 : z ≤ 16
  ·rw [if_pos h1]
   have Q1 : Hid (∀ w,Own w0 w (WrT b L :: l) → _) := fun w hw => Q.out w L 3 2 hw (by decide) (by decide) (by decide) (by have := HN.out; omega)
   have Q2 : Hid (∀ w,Own w0 w (WrT b (L ++ bitsN 2 3) :: l) → _) := fun w hw => put_wfW w0 w l b (L ++ bitsN 2 3) (z - 1) 4 ((z : Int) - 1) 4 (by omega) rfl hw (by decide) (by omega) (by omega) (by have := HN.out; rw [List.length_append,length_bitsN]; omega)
   have hz1 : 1 ≤ z := by omega
   unfold cmp at *
   generalize F j = f at *
   generalize G j = g at *
   clear P Q h0
   go_enter Tryz.func231,Tryz.ntmps231
   go_wp2_with fail
   go_quiet (refine Calls.quiet_of_same (M.out _))
   have HG : Hid _ := HF.out.drewN nq
   go_wp2_with fail
   refine (Q1.out _ (H.out.quiet HG.out)).mono ?_
   rintro e w2 ⟨rfl,hW,hf2⟩
   have HW : Hid (Own w0 w2 (WrT b (L ++ bitsN 2 3) :: l)) := hW
   have HF2 : Hid (Wf w w2) := (Wf.of_quiet HG.out).trans hf2
   clear hW hf2
   go_wp2_with fail
   refine (Q2.out _ HW.out).mono ?_
   rintro e w3 ⟨rfl,hW,hf3⟩
   have HW3 : Hid (Own w0 w3 (WrT b (L ++ (bitsN 2 3 ++ bitsN 4 (z - 1))) :: l)) := by
    show Own _ _ _
    rw [← List.append_assoc]; exact hW
   have HF3 : Hid (Wf w w3) := HF2.out.trans hf3
   clear hW hf3
   go_wp2
   go_ret
   exact ⟨rfl,HW3.out,HF3.out⟩
  ·rw [if_neg h1]
   have Q1 : Hid (∀ w,Own w0 w (WrT b L :: l) → _) := fun w hw => Q.out w L 1 2 hw (by decide) (by decide) (by decide) (by have := HN.out; omega)
   have Q2 : Hid (∀ w,Own w0 w (WrT b (L ++ bitsN 2 1) :: l) → _) := fun w hw => P.out w (L ++ bitsN 2 1) hw (by have := HN.out; rw [List.length_append,length_bitsN]; omega)
   generalize fb k G j = FB at *
   clear P Q h0
   have HB3 : Hid (Box _ (w.heap.size + 1) k G) := HB2.out
   unfold cmp at *
   go_enter Tryz.func231,Tryz.ntmps231
   go_wp2_with fail
   go_quiet (refine Calls.quiet_of_same (M.out _))
   have HG : Hid _ := HF.out.drewN nq
   have HB4 : Hid (Box _ (w.heap.size + 1) k G) := Box.quiet HB3.out ((Fr.refl _ _).drewN nq)
   go_wp2_with fail
   refine (Q1.out _ (H.out.quiet HG.out)).mono ?_
   rintro e w2 ⟨rfl,hW,hf2⟩
   have HW : Hid (Own w0 w2 (WrT b (L ++ bitsN 2 1) :: l)) := hW
   have HF2 : Hid (Wf w w2) := (Wf.of_quiet HG.out).trans hf2
   obtain ⟨q0,q1,q2,q3⟩ := (Box.wf HB4.out hf2).cells
   clear hW hf2 x1 x2
   go_wp2_with fail
   refine (Q2.out _ HW.out).mono ?_
   rintro e w3 ⟨rfl,hW,hf3⟩
   have HW3 : Hid (Own w0 w3 (WrT b (L ++ (bitsN 2 1 ++ FB)) :: l)) := by
    show Own _ _ _
    rw [← List.append_assoc]; exact hW
   have HF3 : Hid (Wf w w3) := HF2.out.trans hf3
   clear hW hf3
   go_wp2
   go_ret
   exact ⟨rfl,HW3.out,HF3.out⟩
theorem putStep_okW (w0 w : World) (l : List Thing) (ht : Tab w0) (b : Nat) (L : List Bool) (k : Nat) (hk : k < 256) (F G : Nat → Int) (hF : I32 F) (hG : I32 G) (h : Own w0 w (WrT b L :: l)) (h0 : ckS k k F G = 0) (hl : L.length + 200 ≤ 1048576) :
  Calls Tryz.prog 208 #[.pointer (some ⟨b,0,none⟩),.agg (cmp k F),.agg (cmp k G)] w fun e w' => e = .returned (.int .i64 0) ∧ Own w0 w' (WrT b (L ++ sbs k F G (cnt k)) :: l) ∧ Wf w w' := by
 obtain ⟨_,hq,_⟩ := ckS_ok k k F G h0
 obtain ⟨h6,hr,_⟩ := chk_ok k G hq
 obtain ⟨b1,b2,hf⟩ := boxes w k k F G
 have HT : Hid (Tab w0) := ht
 have H : Hid (Own w0 w (WrT b L :: l)) := h
 have hc := cnt_le k
 have HB1 : Hid (Box _ w.heap.size k F) := b1
 have HB2 : Hid (Box _ (w.heap.size + 1) k G) := b2
 have HF : Hid (Fr Nobody w _) := hf
 have C1 : Hid (∀ w,Tab w → Calls Tryz.prog 229 #[.agg (cmp k F),.agg (cmp k G)] w fun e w' => e = .returned (.int .i64 0) ∧ Fr Nobody w w') := fun w h => by have := checkStep_any w h k k hk hk F G; rw [h0] at this; exact this
 have B : Hid (∀ w,Tab w → _) := fun w h => stepSize_any w h k k hk F G hF hG
 have hbk := ssum_le k (cnt k) F G (Nat.le_refl _)
 obtain ⟨c,ec⟩ : ∃ c,cnt k = c := ⟨_,rfl⟩
 have C : Hid (∀ w,Tab w → Calls Tryz.prog 203 #[.int .u8 (k : Int)] w fun e w' => e = .returned (.int .i64 (c : Int)) ∧ w' = w) := fun w h => by have := count_any w h k hk; rw [ec] at this; exact this
 have P : Hid (∀ w j M,Own w0 w (WrT b M :: l) → j < c → M.length + 80 ≤ 1048576 → _) := fun w j M hM hj hl => putFieldStep_anyW w0 w l ht b M k k j hk (by rw [ec]; exact hj) F G hF hG hM (hr j (by rw [ec]; exact hj)) hl
 have HL : Hid (∀ j,j ≤ c → (sbs k F G j).length ≤ 66) := fun j hj => by rw [length_sbs]; have := ssum_le k j F G (by rw [ec]; exact hj); omega
 rw [ec] at hc hbk B
 rw [ec]
 have R : Hid (∀ w,Own w0 w (WrT b L :: l) → _) := fun w hw => room_anyW w0 w l b L hw (by omega)
 generalize hbq : ssum k F G c = bq at *
 obtain ⟨rm,erm⟩ : ∃ rm,1048576 - L.length = rm := ⟨_,rfl⟩
 rw [erm] at R
 have hrm : bq ≤ rm := by omega
 clear ht h h0 hr ec hbq hF hG b1 b2 hf hq hbk
 have HN : Hid (L.length + 200 ≤ 1048576) := hl
 clear erm hl
 unfold cmp at *
 go_enter Tryz.func208,Tryz.ntmps208
 go_wp2_with fail
 refine (C1.out _ (HT.out.quiet (H.out.quiet HF.out).fr)).mono ?_
 rintro e w1 ⟨rfl,hf1⟩
 have HF1 : Hid (Fr Nobody w w1) := HF.out.trans hf1
 have B1 : Hid (Box w1 w.heap.size k F) := Box.quiet HB1.out hf1
 have B2 : Hid (Box w1 (w.heap.size + 1) k G) := Box.quiet HB2.out hf1
 obtain ⟨p0,p1,p2,p3⟩ := B1.out.cells
 obtain ⟨q0,q1,q2,q3⟩ := B2.out.cells
 clear hf1
 go_wp2_with fail
 refine (B.out _ (HT.out.quiet (H.out.quiet HF1.out).fr)).mono ?_
 rintro e w2 ⟨rfl,hf2⟩
 have HF2 : Hid (Fr Nobody w w2) := HF1.out.trans hf2
 have B12 : Hid (Box w2 w.heap.size k F) := B1.out.quiet hf2
 have B22 : Hid (Box w2 (w.heap.size + 1) k G) := B2.out.quiet hf2
 clear hf2 p0 p1 p2 p3 q0 q1 q2 q3
 go_wp2_with fail
 refine (R.out _ (H.out.quiet HF2.out)).mono ?_
 rintro e w3 ⟨rfl,hf3⟩
 have HF3 : Hid (Fr Nobody w w3) := HF2.out.trans hf3
 have B13 : Hid (Box w3 w.heap.size k F) := B12.out.quiet hf3
 have B23 : Hid (Box w3 (w.heap.size + 1) k G) := B22.out.quiet hf3
 have c0 := B23.out.kind
 clear hf3
 go_wp2_with fail
 refine (C.out _ (HT.out.quiet (H.out.quiet HF3.out).fr)).mono ?_
 rintro e w4 ⟨rfl,rfl⟩
 have HO : Hid (Own w0 w4 (WrT b L :: l)) := H.out.quiet HF3.out
 have HW : Hid (Wf w w4) := Wf.of_quiet HF3.out
 clear HF HF1 HF2 B1 B2 HB1 HB2 B12 B22
 go_wp2
 go_loopw [27] (fun a wr => ∃ j : Nat,j ≤ c ∧ a = .int .i64 j ∧ Own w0 wr (WrT b (L ++ sbs k F G j) :: l) ∧ Box wr w.heap.size k F ∧ Box wr (w.heap.size + 1) k G ∧ Wf w wr) (fun a _ => c - (intOf a).toNat)
 case atStart => exact ⟨0,by omega,rfl,by simpa [sbs] using HO.out,B13.out,B23.out,HW.out⟩
 case round =>
  obtain ⟨j,hj,rfl,ho,hb,hb',hw⟩ := hrel
  have HO2 : Hid (Own w0 wr (WrT b (L ++ sbs k F G j) :: l)) := ho
  have HB1 : Hid (Box wr w.heap.size k F) := hb
  have HB2 : Hid (Box wr (w.heap.size + 1) k G) := hb'
  have HW2 : Hid (Wf w wr) := hw
  clear ho hb hb' hw
  by_cases hlt : j < c
  ·obtain ⟨p0,p1,p2,p3⟩ := HB1.out.cells
   obtain ⟨q0,q1,q2,q3⟩ := HB2.out.cells
   have PJ : Hid (∀ _ : Unit,_) := fun _ => P.out wr j (L ++ sbs k F G j) HO2.out hlt (by have := HL.out j (by omega); have := HN.out; rw [List.length_append]; omega)
   go_wp2_with fail
   refine (PJ.out ()).mono ?_
   rintro e w5 ⟨rfl,hw5,hf5⟩
   have HO3 : Hid (Own w0 w5 (WrT b (L ++ sbs k F G (j + 1)) :: l)) := by
    show Own _ _ _
    rw [sbs,← List.append_assoc]; exact hw5
   have HB13 : Hid (Box w5 w.heap.size k F) := HB1.out.wf hf5
   have HB23 : Hid (Box w5 (w.heap.size + 1) k G) := HB2.out.wf hf5
   have HW3 : Hid (Wf w w5) := HW2.out.trans hf5
   clear hw5 hf5 PJ
   go_wp2
   go_roundw
   case rel => exact ⟨j + 1,by omega,by go_num,HO3.out,HB13.out,HB23.out,HW3.out⟩
   case measure => simp [intOf]; omega
  ·have e : j = c := by omega
   subst e
   go_wp2
   go_ret
   exact ⟨rfl,HO2.out,HW2.out⟩
end Go.Proofs.YtgifeckbflkkpaaGreatDoor
