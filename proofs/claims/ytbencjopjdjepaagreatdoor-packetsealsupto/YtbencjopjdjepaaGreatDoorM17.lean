/-
  Put and PutStep of package comp, on a writer that lies beside other things.
-/
import Derived.Test.YtbencjopjdjepaaGreatDoorM13
import Derived.Test.YtbencjopjdjepaaGreatDoorM16
namespace Go.Proofs.YtbencjopjdjepaaGreatDoor
open Go.RowKit
set_option linter.unusedVariables false
set_option maxRecDepth 100000

theorem put_wfW (w0 w : World) (l : List Thing) (b : Nat) (L : List Bool) (v n : Nat) (x y : Int) (hx : x = (v : Int)) (hy : y = (n : Int)) (h : Own w0 w (WrT b L :: l)) (hn : n ≤ 64) (hv : v < 2 ^ n) (hv2 : v < 18446744073709551616) (hl : L.length + n ≤ 1048576) :
    Calls Tryz.prog 138 #[.pointer (some ⟨b, 0, none⟩), .int .u64 x, .int .i64 y] w fun e w' => e = .returned (.int .i64 0) ∧ Own w0 w' (WrT b (L ++ bitsN n v) :: l) ∧ Wf w w' := by
  subst hx; subst hy
  obtain ⟨g, hW, hK⟩ := h.wr
  refine (put_ok _ w b g L v n hW hn hv hv2 hl).mono ?_
  rintro e w' ⟨rfl, g', hW', hs⟩
  exact ⟨rfl, hK w' g' _ hW' hs, hs.fr.mono (fun k _ hk => hW.wt k hk)⟩

set_option maxHeartbeats 400000 in
theorem room_anyW (w0 w : World) (l : List Thing) (b : Nat) (L : List Bool) (h : Own w0 w (WrT b L :: l)) (hl : L.length ≤ 1048576) :
    Calls Tryz.prog 190 #[.pointer (some ⟨b, 0, none⟩)] w fun e w' => e = .returned (.int .i64 ((1048576 - L.length : Nat) : Int)) ∧ Fr Nobody w w' := by
  have H : Hid (∀ _ : Unit, Calls Tryz.prog 168 #[.pointer (some ⟨b, 0, none⟩)] w fun e w' => e = .returned (.int .i64 (L.length : Int)) ∧ Fr Nobody w w') := fun _ => by
    obtain ⟨g, hW, _⟩ := h.wr
    refine (len_any 0 w b g L hW).mono ?_
    rintro e w' ⟨rfl, rfl⟩
    exact ⟨rfl, Fr.refl _ _⟩
  clear h
  go_enter Tryz.func190, Tryz.ntmps190
  go_wp2_with fail
  refine (H.out ()).mono ?_
  rintro e w1 ⟨rfl, hf⟩
  have HF : Hid _ := hf
  clear hf H
  go_wp2
  go_ret
  exact ⟨ret_int (by omega), HF.out⟩


set_option maxHeartbeats 1000000 in
theorem putIn_wfW (w0 w : World) (l : List Thing) (b : Nat) (L : List Bool) (n lo hi : Int) (d : Nat) (hd : n = lo + (d : Int)) (h : Own w0 w (WrT b L :: l)) (h0 : -9223372036854775808 ≤ lo) (h1 : hi ≤ 9223372036854775807) (ha : lo ≤ n) (hb : n ≤ hi) (hl : L.length + 64 ≤ 1048576) :
    Calls Tryz.prog 136 #[.pointer (some ⟨b, 0, none⟩), .int .i64 n, .int .i64 lo, .int .i64 hi] w fun e w' => e = .returned (.int .i64 0) ∧ Own w0 w' (WrT b (L ++ bitsN (wid lo hi) d) :: l) ∧ Wf w w' := by
  have hle : lo ≤ hi := by omega
  have H : Hid (Own w0 w (WrT b L :: l)) := h
  have ed : (n - lo).toNat = d := by omega
  have HI : Hid (d < 2 ^ wid lo hi) := ed ▸ in_lt n lo hi h0 h1 ha hb
  have HW : Hid (wid lo hi ≤ 64) := wid_le lo hi h0 h1
  have G1 : Hid (∀ w, _) := fun w => span_any lo n d w h0 (by omega) hd
  have G2 : Hid (∀ w, _) := fun w => width_any lo hi w h0 h1 (by omega) (by omega)
  have hdl : d < 18446744073709551616 := by omega
  clear h hd ed
  generalize wid lo hi = m at *
  go_enter Tryz.func136, Tryz.ntmps136
  go_wp2_with fail
  refine (G1.out _).mono ?_
  rintro e w' ⟨rfl, rfl⟩
  go_wp2_with fail
  refine (G2.out _).mono ?_
  rintro e w' ⟨rfl, rfl⟩
  go_wp2_with fail
  refine (put_wfW w0 _ l b L d m _ _ rfl rfl H.out HW.out HI.out hdl (by have := HW.out; omega)).mono ?_
  rintro e w1 ⟨rfl, hW, hf⟩
  go_wp2
  go_ret
  exact ⟨rfl, hW, hf⟩


set_option maxHeartbeats 1000000 in
theorem putField_anyW (w0 w : World) (l : List Thing) (ht : Tab w0) (b : Nat) (L : List Bool) (k j : Nat) (hk : k < 256) (hj : j < cnt k) (F : Nat → Int) (h : Own w0 w (WrT b L :: l)) (hr : lo k j ≤ F j ∧ F j ≤ hi k j) (hl : L.length + 64 ≤ 1048576) :
    Calls Tryz.prog 192 #[.pointer (some ⟨b, 0, none⟩), .agg (cmp k F), .int .i64 (j : Int)] w fun e w' => e = .returned (.int .i64 0) ∧ Own w0 w' (WrT b (L ++ fb k F j) :: l) ∧ Wf w w' := by
  have hc := cnt_le k
  have hj3 : j < 3 := by omega
  have HB : Hid (Box (w.alloc (.cells (cmp k F) 68)) w.heap.size k F) := Box.new w k F
  have HF : Hid (Fr Nobody w (w.alloc (.cells (cmp k F) 68))) := (Fr.refl _ _).alloc _
  have H : Hid (Own w0 w (WrT b L :: l)) := h
  have HT : Hid (Tab w0) := ht
  have R : Hid (∀ w, Tab w → _) := fun w h => range_ok w h k hk j hj
  obtain ⟨l0, l1, l2, l3⟩ := rng_ok k j hj
  have P : Hid (∀ w, Own w0 w (WrT b L :: l) → Calls Tryz.prog 136 #[.pointer (some ⟨b, 0, none⟩), .int .i64 (F j), .int .i64 (lo k j), .int .i64 (hi k j)] w fun e w' => e = .returned (.int .i64 0) ∧ Own w0 w' (WrT b (L ++ fb k F j) :: l) ∧ Wf w w') := fun w hw => putIn_wfW w0 w l b L (F j) (lo k j) (hi k j) (F j - lo k j).toNat (by omega) hw (by omega) (by omega) hr.1 hr.2 hl
  obtain ⟨r0, r1⟩ := hr
  clear h ht hc hj
  generalize fb k F j = M at *
  generalize lo k j = x at *
  generalize hi k j = y at *
  unfold cmp at *
  go_enter Tryz.func192, Tryz.ntmps192
  go_wp2_with fail
  refine (R.out _ (HT.out.quiet (H.out.quiet HF.out).fr)).mono ?_
  rintro e w1 ⟨rfl, hf1⟩
  have x1 := (Box.quiet HB.out hf1).at j hj3
  have HF1 : Hid (Fr Nobody w w1) := HF.out.trans hf1
  clear hf1
  generalize F j = f at *
  go_wp2_with fail
  refine (P.out _ (H.out.quiet HF1.out)).mono ?_
  rintro e w2 ⟨rfl, hW, hf2⟩
  have HW : Hid (Own w0 w2 (WrT b (L ++ M) :: l)) := hW
  have HF2 : Hid (Wf w w2) := (Wf.of_quiet HF1.out).trans hf2
  clear hW hf2
  go_wp2
  go_ret
  exact ⟨rfl, HW.out, HF2.out⟩

set_option maxHeartbeats 2000000 in
theorem putC_okW (w0 w : World) (l : List Thing) (ht : Tab w0) (b : Nat) (L : List Bool) (k : Nat) (hk : k < 256) (F : Nat → Int) (h : Own w0 w (WrT b L :: l)) (h0 : chk k F = 0) (hl : L.length + 200 ≤ 1048576) :
    Calls Tryz.prog 170 #[.pointer (some ⟨b, 0, none⟩), .agg (cmp k F)] w fun e w' => e = .returned (.int .i64 0) ∧ Own w0 w' (WrT b (L ++ cb k F (cnt k)) :: l) ∧ Wf w w' := by
  obtain ⟨h6, hr, _⟩ := chk_ok k F h0
  have HT : Hid (Tab w0) := ht
  have H : Hid (Own w0 w (WrT b L :: l)) := h
  have hc := cnt_le k
  have HB : Hid (Box (w.alloc (.cells (cmp k F) 68)) w.heap.size k F) := Box.new w k F
  have HF : Hid (Fr Nobody w (w.alloc (.cells (cmp k F) 68))) := (Fr.refl _ _).alloc _
  have C1 : Hid (∀ w, Tab w → Calls Tryz.prog 161 #[.agg (cmp k F)] w fun e w' => e = .returned (.int .i64 0) ∧ Fr Nobody w w') := fun w h => by have := check_any w h k hk F; rw [h0] at this; exact this
  have B : Hid (∀ w, Tab w → _) := fun w h => bits_any w h k hk
  have hbk := bits_le k
  obtain ⟨c, ec⟩ : ∃ c, cnt k = c := ⟨_, rfl⟩
  have C : Hid (∀ w, Tab w → Calls Tryz.prog 191 #[.int .u8 (k : Int)] w fun e w' => e = .returned (.int .i64 (c : Int)) ∧ w' = w) := fun w h => by have := count_any w h k hk; rw [ec] at this; exact this
  have P : Hid (∀ w j M, Own w0 w (WrT b M :: l) → j < c → M.length + 64 ≤ 1048576 → _) := fun w j M hM hj hl => putField_anyW w0 w l ht b M k j hk (by rw [ec]; exact hj) F hM (hr j (by rw [ec]; exact hj)) hl
  have HL : Hid (∀ j, j ≤ c → (cb k F j).length ≤ 60) := fun j hj => by rw [length_cb]; have := bsum_le k j (by rw [ec]; exact hj); omega
  rw [ec] at hc
  rw [ec]
  have R : Hid (∀ w, Own w0 w (WrT b L :: l) → _) := fun w hw => room_anyW w0 w l b L hw (by omega)
  generalize hbq : bitsK k = bq at *
  obtain ⟨rm, erm⟩ : ∃ rm, 1048576 - L.length = rm := ⟨_, rfl⟩
  rw [erm] at R
  have hrm : bq ≤ rm := by omega
  clear ht h h0 hr ec hbq
  have HN : Hid (L.length + 200 ≤ 1048576) := hl
  clear erm hl
  unfold cmp at *
  go_enter Tryz.func170, Tryz.ntmps170
  go_wp2_with fail
  refine (C1.out _ (HT.out.quiet (H.out.quiet HF.out).fr)).mono ?_
  rintro e w1 ⟨rfl, hf1⟩
  have HF1 : Hid (Fr Nobody w w1) := HF.out.trans hf1
  have B1 : Hid (Box w1 w.heap.size k F) := Box.quiet HB.out hf1
  have c0 := B1.out.kind
  clear hf1
  go_wp2_with fail
  refine (B.out _ (HT.out.quiet (H.out.quiet HF1.out).fr)).mono ?_
  rintro e w2 ⟨rfl, hf2⟩
  have HF2 : Hid (Fr Nobody w w2) := HF1.out.trans hf2
  have B2 : Hid (Box w2 w.heap.size k F) := B1.out.quiet hf2
  clear hf2 c0
  go_wp2_with fail
  refine (R.out _ (H.out.quiet HF2.out)).mono ?_
  rintro e w3 ⟨rfl, hf3⟩
  have HF3 : Hid (Fr Nobody w w3) := HF2.out.trans hf3
  have B3 : Hid (Box w3 w.heap.size k F) := B2.out.quiet hf3
  have c0 := B3.out.kind
  clear hf3
  go_wp2_with fail
  refine (C.out _ (HT.out.quiet (H.out.quiet HF3.out).fr)).mono ?_
  rintro e w4 ⟨rfl, rfl⟩
  have HO : Hid (Own w0 w4 (WrT b L :: l)) := H.out.quiet HF3.out
  have HW : Hid (Wf w w4) := Wf.of_quiet HF3.out
  clear HF HF1 HF2 B1 B2 HB
  go_wp2
  go_loopw [24] (fun a wr => ∃ j : Nat, j ≤ c ∧ a = .int .i64 j ∧ Own w0 wr (WrT b (L ++ cb k F j) :: l) ∧ Box wr w.heap.size k F ∧ Wf w wr) (fun a _ => c - (intOf a).toNat)
  case atStart => exact ⟨0, by omega, rfl, by simpa [cb] using HO.out, B3.out, HW.out⟩
  case round =>
    obtain ⟨j, hj, rfl, ho, hb, hw⟩ := hrel
    have HO2 : Hid (Own w0 wr (WrT b (L ++ cb k F j) :: l)) := ho
    have HB2 : Hid (Box wr w.heap.size k F) := hb
    have HW2 : Hid (Wf w wr) := hw
    clear ho hb hw
    by_cases hlt : j < c
    · obtain ⟨p0, p1, p2, p3⟩ := HB2.out.cells
      have PJ : Hid (∀ _ : Unit, _) := fun _ => P.out wr j (L ++ cb k F j) HO2.out hlt (by have := HL.out j (by omega); have := HN.out; rw [List.length_append]; omega)
      go_wp2_with fail
      refine (PJ.out ()).mono ?_
      rintro e w5 ⟨rfl, hw5, hf5⟩
      have HO3 : Hid (Own w0 w5 (WrT b (L ++ cb k F (j + 1)) :: l)) := by
        show Own _ _ _
        rw [cb, ← List.append_assoc]; exact hw5
      have HB3 : Hid (Box w5 w.heap.size k F) := HB2.out.wf hf5
      have HW3 : Hid (Wf w w5) := HW2.out.trans hf5
      clear hw5 hf5 PJ
      go_wp2
      go_roundw
      case rel => exact ⟨j + 1, by omega, by go_num, HO3.out, HB3.out, HW3.out⟩
      case measure => simp [intOf]; omega
    · have e : j = c := by omega
      subst e
      go_wp2
      go_ret
      exact ⟨rfl, HO2.out, HW2.out⟩

set_option maxHeartbeats 2000000 in
theorem putFieldStep_anyW (w0 w : World) (l : List Thing) (ht : Tab w0) (b : Nat) (L : List Bool) (k k0 j : Nat) (hk : k < 256) (hj : j < cnt k) (F G : Nat → Int) (hF : I32 F) (hG : I32 G) (h : Own w0 w (WrT b L :: l)) (hr : lo k j ≤ G j ∧ G j ≤ hi k j) (hl : L.length + 80 ≤ 1048576) :
    Calls Tryz.prog 215 #[.pointer (some ⟨b, 0, none⟩), .agg (cmp k0 F), .agg (cmp k G), .int .i64 (j : Int)] w fun e w' => e = .returned (.int .i64 0) ∧ Own w0 w' (WrT b (L ++ sb k F G j) :: l) ∧ Wf w w' := by
  obtain ⟨b1, b2, hf⟩ := boxes w k0 k F G
  have hc := cnt_le k
  have hj3 : j < 3 := by omega
  have H : Hid (Own w0 w (WrT b L :: l)) := h
  have HT : Hid (Tab w0) := ht
  have x1 := b1.at j hj3
  have x2 := b2.at j hj3
  have HB2 : Hid _ := b2
  have HF : Hid _ := hf
  have M : Hid (∀ w, Calls Tryz.prog 236 #[.int .i32 (F j), .int .i32 (G j)] w fun e w' => e = .returned (.int .u64 ((mz F G j : Nat) : Int)) ∧ w' = w) := fun w => more_any w (F j) (G j) (hF j hj3) (hG j hj3)
  have P : Hid (∀ w M, Own w0 w (WrT b M :: l) → M.length + 64 ≤ 1048576 → _) := fun w M hM hl => putField_anyW w0 w l ht b M k j hk hj G hM hr hl
  have Q : Hid (∀ w M v n, Own w0 w (WrT b M :: l) → n ≤ 64 → v < 2 ^ n → v < 100 → M.length + n ≤ 1048576 → _) := fun w M v n hM h1 h2 h3 h4 => put_wfW w0 w l b M v n _ _ rfl rfl hM h1 h2 (by omega) h4
  have hsb : sb k F G j = (if mz F G j = 0 then bitsN 1 0 else if mz F G j ≤ 16 then bitsN 2 3 ++ bitsN 4 (mz F G j - 1) else bitsN 2 1 ++ fb k G j) := rfl
  rw [hsb]
  have HN : Hid (L.length + 80 ≤ 1048576) := hl
  clear hsb hF hG b1 b2 ht hf hj hc h hr hl
  generalize mz F G j = z at *
  by_cases h0 : z = 0
  · rw [if_pos h0]
    subst h0
    have Q1 : Hid (∀ w, Own w0 w (WrT b L :: l) → _) := fun w hw => Q.out w L 0 1 hw (by decide) (by decide) (by decide) (by have := HN.out; omega)
    unfold cmp at *
    generalize F j = f at *
    generalize G j = g at *
    clear P Q
    go_enter Tryz.func215, Tryz.ntmps215
    go_wp2_with fail
    go_quiet (refine Calls.quiet_of_same (M.out _))
    have HG : Hid _ := HF.out.drewN nq
    go_wp2_with fail
    refine (Q1.out _ (H.out.quiet HG.out)).mono ?_
    rintro e w2 ⟨rfl, hW, hf2⟩
    have HW : Hid (Own w0 w2 (WrT b (L ++ bitsN 1 0) :: l)) := hW
    have HF2 : Hid (Wf w w2) := (Wf.of_quiet HG.out).trans hf2
    clear hW hf2
    go_wp2
    go_ret
    exact ⟨rfl, HW.out, HF2.out⟩
  · rw [if_neg h0]
    have n0 : ((z : Int) == 0) = false := by rw [beq_eq_false_iff_ne]; omega
    by_cases h1 : z ≤ 16
    · rw [if_pos h1]
      have Q1 : Hid (∀ w, Own w0 w (WrT b L :: l) → _) := fun w hw => Q.out w L 3 2 hw (by decide) (by decide) (by decide) (by have := HN.out; omega)
      have Q2 : Hid (∀ w, Own w0 w (WrT b (L ++ bitsN 2 3) :: l) → _) := fun w hw => put_wfW w0 w l b (L ++ bitsN 2 3) (z - 1) 4 ((z : Int) - 1) 4 (by omega) rfl hw (by decide) (by omega) (by omega) (by have := HN.out; rw [List.length_append, length_bitsN]; omega)
      have hz1 : 1 ≤ z := by omega
      unfold cmp at *
      generalize F j = f at *
      generalize G j = g at *
      clear P Q h0
      go_enter Tryz.func215, Tryz.ntmps215
      go_wp2_with fail
      go_quiet (refine Calls.quiet_of_same (M.out _))
      have HG : Hid _ := HF.out.drewN nq
      go_wp2_with fail
      refine (Q1.out _ (H.out.quiet HG.out)).mono ?_
      rintro e w2 ⟨rfl, hW, hf2⟩
      have HW : Hid (Own w0 w2 (WrT b (L ++ bitsN 2 3) :: l)) := hW
      have HF2 : Hid (Wf w w2) := (Wf.of_quiet HG.out).trans hf2
      clear hW hf2
      go_wp2_with fail
      refine (Q2.out _ HW.out).mono ?_
      rintro e w3 ⟨rfl, hW, hf3⟩
      have HW3 : Hid (Own w0 w3 (WrT b (L ++ (bitsN 2 3 ++ bitsN 4 (z - 1))) :: l)) := by
        show Own _ _ _
        rw [← List.append_assoc]; exact hW
      have HF3 : Hid (Wf w w3) := HF2.out.trans hf3
      clear hW hf3
      go_wp2
      go_ret
      exact ⟨rfl, HW3.out, HF3.out⟩
    · rw [if_neg h1]
      have Q1 : Hid (∀ w, Own w0 w (WrT b L :: l) → _) := fun w hw => Q.out w L 1 2 hw (by decide) (by decide) (by decide) (by have := HN.out; omega)
      have Q2 : Hid (∀ w, Own w0 w (WrT b (L ++ bitsN 2 1) :: l) → _) := fun w hw => P.out w (L ++ bitsN 2 1) hw (by have := HN.out; rw [List.length_append, length_bitsN]; omega)
      generalize fb k G j = FB at *
      clear P Q h0
      have HB3 : Hid (Box _ (w.heap.size + 1) k G) := HB2.out
      unfold cmp at *
      go_enter Tryz.func215, Tryz.ntmps215
      go_wp2_with fail
      go_quiet (refine Calls.quiet_of_same (M.out _))
      have HG : Hid _ := HF.out.drewN nq
      have HB4 : Hid (Box _ (w.heap.size + 1) k G) := Box.quiet HB3.out ((Fr.refl _ _).drewN nq)
      go_wp2_with fail
      refine (Q1.out _ (H.out.quiet HG.out)).mono ?_
      rintro e w2 ⟨rfl, hW, hf2⟩
      have HW : Hid (Own w0 w2 (WrT b (L ++ bitsN 2 1) :: l)) := hW
      have HF2 : Hid (Wf w w2) := (Wf.of_quiet HG.out).trans hf2
      obtain ⟨q0, q1, q2, q3⟩ := (Box.wf HB4.out hf2).cells
      clear hW hf2 x1 x2
      go_wp2_with fail
      refine (Q2.out _ HW.out).mono ?_
      rintro e w3 ⟨rfl, hW, hf3⟩
      have HW3 : Hid (Own w0 w3 (WrT b (L ++ (bitsN 2 1 ++ FB)) :: l)) := by
        show Own _ _ _
        rw [← List.append_assoc]; exact hW
      have HF3 : Hid (Wf w w3) := HF2.out.trans hf3
      clear hW hf3
      go_wp2
      go_ret
      exact ⟨rfl, HW3.out, HF3.out⟩


set_option maxHeartbeats 2000000 in
theorem putStep_okW (w0 w : World) (l : List Thing) (ht : Tab w0) (b : Nat) (L : List Bool) (k : Nat) (hk : k < 256) (F G : Nat → Int) (hF : I32 F) (hG : I32 G) (h : Own w0 w (WrT b L :: l)) (h0 : ckS k k F G = 0) (hl : L.length + 200 ≤ 1048576) :
    Calls Tryz.prog 194 #[.pointer (some ⟨b, 0, none⟩), .agg (cmp k F), .agg (cmp k G)] w fun e w' => e = .returned (.int .i64 0) ∧ Own w0 w' (WrT b (L ++ sbs k F G (cnt k)) :: l) ∧ Wf w w' := by
  obtain ⟨_, hq, _⟩ := ckS_ok k k F G h0
  obtain ⟨h6, hr, _⟩ := chk_ok k G hq
  obtain ⟨b1, b2, hf⟩ := boxes w k k F G
  have HT : Hid (Tab w0) := ht
  have H : Hid (Own w0 w (WrT b L :: l)) := h
  have hc := cnt_le k
  have HB1 : Hid (Box _ w.heap.size k F) := b1
  have HB2 : Hid (Box _ (w.heap.size + 1) k G) := b2
  have HF : Hid (Fr Nobody w _) := hf
  have C1 : Hid (∀ w, Tab w → Calls Tryz.prog 213 #[.agg (cmp k F), .agg (cmp k G)] w fun e w' => e = .returned (.int .i64 0) ∧ Fr Nobody w w') := fun w h => by have := checkStep_any w h k k hk hk F G; rw [h0] at this; exact this
  have B : Hid (∀ w, Tab w → _) := fun w h => stepSize_any w h k k hk F G hF hG
  have hbk := ssum_le k (cnt k) F G (Nat.le_refl _)
  obtain ⟨c, ec⟩ : ∃ c, cnt k = c := ⟨_, rfl⟩
  have C : Hid (∀ w, Tab w → Calls Tryz.prog 191 #[.int .u8 (k : Int)] w fun e w' => e = .returned (.int .i64 (c : Int)) ∧ w' = w) := fun w h => by have := count_any w h k hk; rw [ec] at this; exact this
  have P : Hid (∀ w j M, Own w0 w (WrT b M :: l) → j < c → M.length + 80 ≤ 1048576 → _) := fun w j M hM hj hl => putFieldStep_anyW w0 w l ht b M k k j hk (by rw [ec]; exact hj) F G hF hG hM (hr j (by rw [ec]; exact hj)) hl
  have HL : Hid (∀ j, j ≤ c → (sbs k F G j).length ≤ 66) := fun j hj => by rw [length_sbs]; have := ssum_le k j F G (by rw [ec]; exact hj); omega
  rw [ec] at hc hbk B
  rw [ec]
  have R : Hid (∀ w, Own w0 w (WrT b L :: l) → _) := fun w hw => room_anyW w0 w l b L hw (by omega)
  generalize hbq : ssum k F G c = bq at *
  obtain ⟨rm, erm⟩ : ∃ rm, 1048576 - L.length = rm := ⟨_, rfl⟩
  rw [erm] at R
  have hrm : bq ≤ rm := by omega
  clear ht h h0 hr ec hbq hF hG b1 b2 hf hq hbk
  have HN : Hid (L.length + 200 ≤ 1048576) := hl
  clear erm hl
  unfold cmp at *
  go_enter Tryz.func194, Tryz.ntmps194
  go_wp2_with fail
  refine (C1.out _ (HT.out.quiet (H.out.quiet HF.out).fr)).mono ?_
  rintro e w1 ⟨rfl, hf1⟩
  have HF1 : Hid (Fr Nobody w w1) := HF.out.trans hf1
  have B1 : Hid (Box w1 w.heap.size k F) := Box.quiet HB1.out hf1
  have B2 : Hid (Box w1 (w.heap.size + 1) k G) := Box.quiet HB2.out hf1
  obtain ⟨p0, p1, p2, p3⟩ := B1.out.cells
  obtain ⟨q0, q1, q2, q3⟩ := B2.out.cells
  clear hf1
  go_wp2_with fail
  refine (B.out _ (HT.out.quiet (H.out.quiet HF1.out).fr)).mono ?_
  rintro e w2 ⟨rfl, hf2⟩
  have HF2 : Hid (Fr Nobody w w2) := HF1.out.trans hf2
  have B12 : Hid (Box w2 w.heap.size k F) := B1.out.quiet hf2
  have B22 : Hid (Box w2 (w.heap.size + 1) k G) := B2.out.quiet hf2
  clear hf2 p0 p1 p2 p3 q0 q1 q2 q3
  go_wp2_with fail
  refine (R.out _ (H.out.quiet HF2.out)).mono ?_
  rintro e w3 ⟨rfl, hf3⟩
  have HF3 : Hid (Fr Nobody w w3) := HF2.out.trans hf3
  have B13 : Hid (Box w3 w.heap.size k F) := B12.out.quiet hf3
  have B23 : Hid (Box w3 (w.heap.size + 1) k G) := B22.out.quiet hf3
  have c0 := B23.out.kind
  clear hf3
  go_wp2_with fail
  refine (C.out _ (HT.out.quiet (H.out.quiet HF3.out).fr)).mono ?_
  rintro e w4 ⟨rfl, rfl⟩
  have HO : Hid (Own w0 w4 (WrT b L :: l)) := H.out.quiet HF3.out
  have HW : Hid (Wf w w4) := Wf.of_quiet HF3.out
  clear HF HF1 HF2 B1 B2 HB1 HB2 B12 B22
  go_wp2
  go_loopw [27] (fun a wr => ∃ j : Nat, j ≤ c ∧ a = .int .i64 j ∧ Own w0 wr (WrT b (L ++ sbs k F G j) :: l) ∧ Box wr w.heap.size k F ∧ Box wr (w.heap.size + 1) k G ∧ Wf w wr) (fun a _ => c - (intOf a).toNat)
  case atStart => exact ⟨0, by omega, rfl, by simpa [sbs] using HO.out, B13.out, B23.out, HW.out⟩
  case round =>
    obtain ⟨j, hj, rfl, ho, hb, hb', hw⟩ := hrel
    have HO2 : Hid (Own w0 wr (WrT b (L ++ sbs k F G j) :: l)) := ho
    have HB1 : Hid (Box wr w.heap.size k F) := hb
    have HB2 : Hid (Box wr (w.heap.size + 1) k G) := hb'
    have HW2 : Hid (Wf w wr) := hw
    clear ho hb hb' hw
    by_cases hlt : j < c
    · obtain ⟨p0, p1, p2, p3⟩ := HB1.out.cells
      obtain ⟨q0, q1, q2, q3⟩ := HB2.out.cells
      have PJ : Hid (∀ _ : Unit, _) := fun _ => P.out wr j (L ++ sbs k F G j) HO2.out hlt (by have := HL.out j (by omega); have := HN.out; rw [List.length_append]; omega)
      go_wp2_with fail
      refine (PJ.out ()).mono ?_
      rintro e w5 ⟨rfl, hw5, hf5⟩
      have HO3 : Hid (Own w0 w5 (WrT b (L ++ sbs k F G (j + 1)) :: l)) := by
        show Own _ _ _
        rw [sbs, ← List.append_assoc]; exact hw5
      have HB13 : Hid (Box w5 w.heap.size k F) := HB1.out.wf hf5
      have HB23 : Hid (Box w5 (w.heap.size + 1) k G) := HB2.out.wf hf5
      have HW3 : Hid (Wf w w5) := HW2.out.trans hf5
      clear hw5 hf5 PJ
      go_wp2
      go_roundw
      case rel => exact ⟨j + 1, by omega, by go_num, HO3.out, HB13.out, HB23.out, HW3.out⟩
      case measure => simp [intOf]; omega
    · have e : j = c := by omega
      subst e
      go_wp2
      go_ret
      exact ⟨rfl, HO2.out, HW2.out⟩

end Go.Proofs.YtbencjopjdjepaaGreatDoor

/-
  The pen of a packet: as long as there is room.
-/
namespace Go.Proofs.YtbencjopjdjepaaGreatDoor
open Go.RowKit
set_option linter.unusedVariables false
set_option maxRecDepth 100000

/-- a pen at block p whose writer is at block b; no error has been noted -/
def penC (p b : Nat) : Thing := Cells p #[.pointer (some ⟨b, 0, none⟩), .int .i64 0] 92
set_option maxHeartbeats 400000 in
theorem note0 (w0 w : World) (l : List Thing) (p b : Nat) (h : Own w0 w (penC p b :: l)) :
    Calls Tryz.prog 135 #[.pointer (some ⟨p, 0, none⟩), .int .i64 0] w fun e w' => e = .returned (.tuple #[]) ∧ Own w0 w' (penC p b :: l) := by
  unfold penC at h
  have q0 := Own.cell h 0
  have q1 := Own.cell h 1
  have q2 := Own.froz h 1
  simp at q0 q1
  have H : Hid (Own w0 _ _) := Own.setC h 1 (.int .i64 0)
  clear h
  go_enter Tryz.func135, Tryz.ntmps135
  go_wp2
  go_end0
  exact ⟨rfl, by unfold penC; simpa using H.out⟩
set_option maxHeartbeats 400000 in
theorem pput (w0 w : World) (l : List Thing) (p b : Nat) (L : List Bool) (v n : Nat) (h : Own w0 w (penC p b :: WrT b L :: l)) (hn : n ≤ 64) (hv : v < 2 ^ n) (hv2 : v < 18446744073709551616) (hl : L.length + n ≤ 1048576) :
    Calls Tryz.prog 96 #[.pointer (some ⟨p, 0, none⟩), .int .u64 v, .int .i64 n] w fun e w' => e = .returned (.tuple #[]) ∧ Own w0 w' (penC p b :: WrT b (L ++ bitsN n v) :: l) := by
  have H1 : Hid (Calls _ _ _ _ _) := putW_own w0 w _ b L v n _ _ rfl rfl h.two hn hv hv2 hl
  unfold penC at h
  have q0 := Own.cell h 0
  simp at q0
  clear h hv hv2 hl
  go_enter Tryz.func96, Tryz.ntmps96
  go_wp2_with fail
  refine H1.out.mono ?_
  rintro e w1 ⟨rfl, h1⟩
  have H2 : Hid (Calls _ _ _ _ _) := note0 w0 w1 _ p b h1.two
  clear h1 H1 q0
  go_wp2_with fail
  refine H2.out.mono ?_
  rintro e w2 ⟨rfl, h2⟩
  have H3 : Hid (Own w0 w2 _) := h2
  clear h2 H2
  go_wp2
  go_end0
  exact ⟨rfl, H3.out⟩
set_option maxHeartbeats 400000 in
theorem pputVar (w0 w : World) (l : List Thing) (p b : Nat) (L : List Bool) (v : Nat) (h : Own w0 w (penC p b :: WrT b L :: l)) (hv : v < 18446744073709551616) (hl : L.length + 5 * grp v ≤ 1048576) :
    Calls Tryz.prog 94 #[.pointer (some ⟨p, 0, none⟩), .int .u64 v] w fun e w' => e = .returned (.tuple #[]) ∧ Own w0 w' (penC p b :: WrT b (L ++ var v) :: l) := by
  have H1 : Hid (Calls _ _ _ _ _) := putVarW w0 w _ b L v h.two hv hl
  unfold penC at h
  have q0 := Own.cell h 0
  simp at q0
  clear h hv hl
  go_enter Tryz.func94, Tryz.ntmps94
  go_wp2_with fail
  refine H1.out.mono ?_
  rintro e w1 ⟨rfl, h1⟩
  have H2 : Hid (Calls _ _ _ _ _) := note0 w0 w1 _ p b h1.two
  clear h1 H1 q0
  go_wp2_with fail
  refine H2.out.mono ?_
  rintro e w2 ⟨rfl, h2⟩
  have H3 : Hid (Own w0 w2 _) := h2
  clear h2 H2
  go_wp2
  go_end0
  exact ⟨rfl, H3.out⟩
set_option maxHeartbeats 400000 in
theorem pputIn (w0 w : World) (l : List Thing) (p b : Nat) (L : List Bool) (n lo hi : Int) (d : Nat) (hd : n = lo + (d : Int)) (h : Own w0 w (penC p b :: WrT b L :: l)) (h0 : -9223372036854775808 ≤ lo) (h1 : hi ≤ 9223372036854775807) (ha : lo ≤ n) (hb : n ≤ hi) (hl : L.length + 64 ≤ 1048576) :
    Calls Tryz.prog 93 #[.pointer (some ⟨p, 0, none⟩), .int .i64 n, .int .i64 lo, .int .i64 hi] w fun e w' => e = .returned (.tuple #[]) ∧ Own w0 w' (penC p b :: WrT b (L ++ bitsN (wid lo hi) d) :: l) := by
  have H1 : Hid (Calls _ _ _ _ _) := putInW w0 w _ b L n lo hi d hd h.two h0 h1 ha hb hl
  unfold penC at h
  have q0 := Own.cell h 0
  simp at q0
  clear h hd hl h0 h1 ha hb
  go_enter Tryz.func93, Tryz.ntmps93
  go_wp2_with fail
  refine H1.out.mono ?_
  rintro e w1 ⟨rfl, h1⟩
  have H2 : Hid (Calls _ _ _ _ _) := note0 w0 w1 _ p b h1.two
  clear h1 H1 q0
  go_wp2_with fail
  refine H2.out.mono ?_
  rintro e w2 ⟨rfl, h2⟩
  have H3 : Hid (Own w0 w2 _) := h2
  clear h2 H2
  go_wp2
  go_end0
  exact ⟨rfl, H3.out⟩
set_option maxHeartbeats 400000 in
theorem pcount (w0 w : World) (l : List Thing) (p b : Nat) (L : List Bool) (n : Nat) (h : Own w0 w (penC p b :: WrT b L :: l)) (hv : n < 9223372036854775808) (hl : L.length + 5 * grp n ≤ 1048576) :
    Calls Tryz.prog 139 #[.pointer (some ⟨p, 0, none⟩), .int .i64 n] w fun e w' => e = .returned (.tuple #[]) ∧ Own w0 w' (penC p b :: WrT b (L ++ var n) :: l) := by
  have H1 : Hid (Calls _ _ _ _ _) := pputVar w0 w l p b L n h (by omega) hl
  clear h hl
  go_enter Tryz.func139, Tryz.ntmps139
  go_wp2_with fail
  refine H1.out.mono ?_
  rintro e w1 ⟨rfl, h1⟩
  have H3 : Hid (Own w0 w1 _) := h1
  clear h1 H1
  go_wp2
  go_end0
  exact ⟨rfl, H3.out⟩

end Go.Proofs.YtbencjopjdjepaaGreatDoor

/-
  The head of a packet: is it right, and its bits.
-/
namespace Go.Proofs.YtbencjopjdjepaaGreatDoor
open Go.RowKit
set_option linter.unusedVariables false
set_option maxRecDepth 100000

def hvs (k c e t s : Nat) : Array Value := #[.int .u8 (k : Int), .int .u8 (c : Int), .int .u32 (e : Int), .int .u32 (t : Int), .int .u32 (s : Int)]
/-- what a head's fields may be -/
structure HIn (k c e t s : Nat) : Prop where
  k : k < 256
  c : c < 256
  e : e < 4294967296
  t : t < 4294967296
  s : s < 4294967296
def hasT (k : Nat) : Bool := decide (k = 1) || decide (k = 2) || decide (k = 3)
set_option maxHeartbeats 400000 in
theorem hasTick_any (w : World) (k : Nat) (hk : k < 256) : Calls Tryz.prog 95 #[.int .u8 (k : Int)] w fun e w' => e = .returned (.bool (hasT k)) ∧ w' = w := by
  by_cases h1 : k = 1
  · subst h1
    go_enter Tryz.func95, Tryz.ntmps95
    go_wp2
    go_ret
    exact ⟨rfl, rfl⟩
  · have e1 : ((k : Int) == 1) = false := by rw [beq_eq_false_iff_ne]; omega
    by_cases h2 : k = 2
    · subst h2
      go_enter Tryz.func95, Tryz.ntmps95
      go_wp2
      go_ret
      exact ⟨rfl, rfl⟩
    · have e2 : ((k : Int) == 2) = false := by rw [beq_eq_false_iff_ne]; omega
      by_cases h3 : k = 3
      · subst h3
        go_enter Tryz.func95, Tryz.ntmps95
        go_wp2
        go_ret
        exact ⟨rfl, rfl⟩
      · have e3 : ((k : Int) == 3) = false := by rw [beq_eq_false_iff_ne]; omega
        have hT : hasT k = false := by unfold hasT; simp [h1, h2, h3]
        rw [hT]
        clear h1 h2 h3 hT
        go_enter Tryz.func95, Tryz.ntmps95
        go_wp2
        go_ret
        exact ⟨rfl, rfl⟩
def tfit (k t : Nat) : Bool := hasT k || decide (t = 0)
set_option maxHeartbeats 400000 in
theorem tickFits_any (w : World) (k c e t s : Nat) (hI : HIn k c e t s) : Calls Tryz.prog 58 #[.agg (hvs k c e t s)] w fun x w' => x = .returned (.bool (tfit k t)) ∧ Fr Nobody w w' := by
  have HH : Hid (∀ W, Calls Tryz.prog 95 #[.int .u8 (k : Int)] W fun e w' => e = .returned (.bool (hasT k)) ∧ w' = W) := fun W => hasTick_any W k hI.k
  have HF : Hid (∀ o, Fr Nobody w (w.alloc o)) := fun o => (Fr.refl _ _).alloc o
  unfold tfit hvs
  clear hI
  generalize hasT k = r at *
  cases r
  · by_cases ht : t = 0
    · subst ht
      go_enter Tryz.func58, Tryz.ntmps58
      go_wp2_with fail
      refine (HH.out _).mono ?_
      rintro e w' ⟨rfl, rfl⟩
      go_wp2
      go_ret
      exact ⟨rfl, HF.out _⟩
    · have e1 : ((t : Int) == 0) = false := by rw [beq_eq_false_iff_ne]; omega
      rw [decide_eq_false ht]
      clear ht
      go_enter Tryz.func58, Tryz.ntmps58
      go_wp2_with fail
      refine (HH.out _).mono ?_
      rintro e w' ⟨rfl, rfl⟩
      go_wp2
      go_ret
      exact ⟨rfl, HF.out _⟩
  · go_enter Tryz.func58, Tryz.ntmps58
    go_wp2_with fail
    refine (HH.out _).mono ?_
    rintro e w' ⟨rfl, rfl⟩
    go_wp2
    go_ret
    exact ⟨rfl, HF.out _⟩
def bfit (k t s : Nat) : Bool := if k = 2 then decide (s < t) else decide (s = 0)
set_option maxHeartbeats 400000 in
theorem baseFits_any (w : World) (k c e t s : Nat) (hI : HIn k c e t s) : Calls Tryz.prog 59 #[.agg (hvs k c e t s)] w fun x w' => x = .returned (.bool (bfit k t s)) ∧ Fr Nobody w w' := by
  have HF : Hid (∀ o, Fr Nobody w (w.alloc o)) := fun o => (Fr.refl _ _).alloc o
  unfold bfit hvs
  clear hI
  by_cases hk : k = 2
  · subst hk
    rw [if_pos rfl]
    by_cases h : s < t
    · have h' : (s : Int) < (t : Int) := by omega
      rw [decide_eq_true h]
      go_enter Tryz.func59, Tryz.ntmps59
      go_wp2
      go_ret
      exact ⟨by simp, HF.out _⟩
    · have h' : ¬ (s : Int) < (t : Int) := by omega
      rw [decide_eq_false h]
      go_enter Tryz.func59, Tryz.ntmps59
      go_wp2
      go_ret
      exact ⟨by simp, HF.out _⟩
  · have e1 : ((k : Int) == 2) = false := by rw [beq_eq_false_iff_ne]; omega
    rw [if_neg hk]
    by_cases h : s = 0
    · subst h
      go_enter Tryz.func59, Tryz.ntmps59
      go_wp2
      go_ret
      exact ⟨rfl, HF.out _⟩
    · have e2 : ((s : Int) == 0) = false := by rw [beq_eq_false_iff_ne]; omega
      rw [decide_eq_false h]
      clear h hk
      go_enter Tryz.func59, Tryz.ntmps59
      go_wp2
      go_ret
      exact ⟨by simp, HF.out _⟩
/-- is a head right? -/
def hchk (k c e t s : Nat) : Nat := if k < 1 ∨ 5 < k ∨ 16 ≤ c then 1 else if e = 0 ∨ tfit k t = false ∨ bfit k t s = false then 4 else 0
structure Right (k c e t s : Nat) : Prop where
  k1 : 1 ≤ k
  k5 : k ≤ 5
  c15 : c ≤ 15
  e1 : 1 ≤ e
  e32 : e < 4294967296
  t32 : t < 4294967296
  s32 : s < 4294967296
  tf : tfit k t = true
  bf : bfit k t s = true
theorem Right.hIn {k c e t s : Nat} (h : Right k c e t s) : HIn k c e t s := ⟨by have := h.k5; omega, by have := h.c15; omega, h.e32, h.t32, h.s32⟩
set_option maxHeartbeats 800000 in
theorem check_ok (w : World) (k c e t s : Nat) (h : Right k c e t s) : Calls Tryz.prog 16 #[.agg (hvs k c e t s)] w fun x w' => x = .returned (.int .i64 0) ∧ Fr Nobody w w' := by
  have HT : Hid (∀ W, Calls Tryz.prog 58 #[.agg (hvs k c e t s)] W fun x w' => x = .returned (.bool true) ∧ Fr Nobody W w') := fun W => by rw [← h.tf]; exact tickFits_any W k c e t s h.hIn
  have HB : Hid (∀ W, Calls Tryz.prog 59 #[.agg (hvs k c e t s)] W fun x w' => x = .returned (.bool true) ∧ Fr Nobody W w') := fun W => by rw [← h.bf]; exact baseFits_any W k c e t s h.hIn
  have hA := (Own.start w).allocC (hvs k c e t s) 24
  have HA : Hid (Own w _ _) := hA
  have g1 : ¬ (k : Int) < 1 := by have := h.k1; omega
  have g2 : ¬ (5 : Int) < (k : Int) := by have := h.k5; omega
  have g3 : ¬ (16 : Int) ≤ (c : Int) := by have := h.c15; omega
  have g4 : ((e : Int) == 0) = false := by rw [beq_eq_false_iff_ne]; have := h.e1; omega
  clear h hA
  unfold hvs at *
  go_enter Tryz.func16, Tryz.ntmps16
  go_wp2_with fail
  refine (HT.out _).mono ?_
  rintro x w1 ⟨rfl, hf1⟩
  have hA1 := HA.out.quiet hf1
  have r0 := hA1.cell 0
  have r1 := hA1.cell 1
  have r2 := hA1.cell 2
  have r3 := hA1.cell 3
  have r4 := hA1.cell 4
  simp at r0 r1 r2 r3 r4
  have HA1 : Hid (Own w w1 _) := hA1
  clear hf1 hA1 HA HT
  go_wp2_with fail
  refine (HB.out _).mono ?_
  rintro x w2 ⟨rfl, hf2⟩
  have HF : Hid (Fr Nobody w w2) := HA1.out.fr.trans hf2
  clear hf2 HA1 HB r0 r1 r2 r3 r4
  go_wp2
  go_ret
  exact ⟨rfl, HF.out⟩
/-- a head's bits -/
def headB (k c e t s : Nat) : List Bool := bitsN (wid 1 5) (k - 1) ++ bitsN (wid 0 15) c ++ var e ++ (if hasT k = true then bitsN 32 t else []) ++ (if k = 2 then var (t - s - 1) else [])
theorem wid15 : wid 1 5 = 3 := by decide +kernel
theorem wid015 : wid 0 15 = 4 := by decide +kernel
theorem grp32 (v : Nat) (h : v < 4294967296) : grp v ≤ 16 := (grp_bd v (by omega)).2
theorem headB_le (k c e t s : Nat) (he : e < 4294967296) (ht : t < 4294967296) : (headB k c e t s).length ≤ 300 := by
  unfold headB
  have h1 := grp32 e he
  have h2 := grp32 (t - s - 1) (by omega)
  simp only [List.length_append, length_bitsN, length_var, wid15, wid015]
  split <;> split <;> simp [length_bitsN, length_var] <;> omega
set_option maxHeartbeats 4000000 in
theorem phead (w0 w : World) (l : List Thing) (p b : Nat) (h : Own w0 w (penC p b :: WrT b [] :: l)) (k c e t s : Nat) (hR : Right k c e t s) :
    Calls Tryz.prog 42 #[.pointer (some ⟨p, 0, none⟩), .agg (hvs k c e t s)] w fun x w' => x = .returned (.tuple #[]) ∧ Own w0 w' (penC p b :: WrT b (headB k c e t s) :: l) := by
  have hB := (h.allocC (hvs k c e t s) 24).two.in23
  have q0 := hB.three.cell 0
  simp [hvs] at q0
  have ge := grp32 e hR.e32
  have gt := grp32 (t - s - 1) (by have := hR.t32; omega)
  have H1 : Hid (Calls _ _ _ _ _) := pputIn w0 _ _ p b [] (k : Int) 1 5 (k - 1) (by have := hR.k1; omega) hB (by omega) (by omega) (by have := hR.k1; omega) (by have := hR.k5; omega) (by simp)
  have HR : Hid (Right k c e t s) := hR
  have hk8 : k < 256 := hR.hIn.k
  have hc8 : c < 256 := hR.hIn.c
  have he8 : e < 4294967296 := hR.e32
  have ht8 : t < 4294967296 := hR.t32
  have hs8 : s < 4294967296 := hR.s32
  clear h hB hR
  unfold hvs
  go_enter Tryz.func42, Tryz.ntmps42
  go_wp2_with fail
  refine H1.out.mono ?_
  rintro x w1 ⟨rfl, h1⟩
  have q1 := h1.three.cell 1
  simp [hvs] at q1
  have H2 : Hid (Calls _ _ _ _ _) := pputIn w0 _ _ p b _ (c : Int) 0 15 c (by omega) h1 (by omega) (by omega) (by omega) (by have := HR.out.c15; omega) (by simp [length_bitsN, wid15])
  clear h1 H1 q0
  go_wp2_with fail
  refine H2.out.mono ?_
  rintro x w2 ⟨rfl, h2⟩
  have q2 := h2.three.cell 2
  simp [hvs] at q2
  have H3 : Hid (Calls _ _ _ _ _) := pputVar w0 _ _ p b _ e h2 (by omega) (by simp [length_bitsN, wid15, wid015]; omega)
  clear h2 H2 q1
  go_wp2_with fail
  refine H3.out.mono ?_
  rintro x w3 ⟨rfl, h3⟩
  have q3 := h3.three.cell 0
  simp [hvs] at q3
  have HT : Hid (∀ W, Calls Tryz.prog 95 #[.int .u8 (k : Int)] W fun e w' => e = .returned (.bool (hasT k)) ∧ w' = W) := fun W => hasTick_any W k hk8
  have H3 : Hid (Own w0 w3 _) := h3
  clear h3 q2
  go_wp2_with fail
  refine (HT.out _).mono ?_
  rintro x w3' ⟨rfl, rfl⟩
  clear HT q3
  by_cases hT : hasT k = true
  · have q3 := H3.out.three.cell 3
    simp [hvs] at q3
    have H4 : Hid (Calls _ _ _ _ _) := pput w0 _ _ p b _ t 32 H3.out (by decide) (by omega) (by omega) (by simp [length_bitsN, wid15, wid015, length_var]; omega)
    rw [hT]
    have HTT : Hid (hasT k = true) := hT
    clear H3 hT
    go_wp2_with fail
    refine H4.out.mono ?_
    rintro x w4 ⟨rfl, h4⟩
    have q0 := h4.three.cell 0
    simp [hvs] at q0
    clear H4 q3
    by_cases hk : k = 2
    · subst hk
      have q1 := h4.three.cell 3
      have q2 := h4.three.cell 4
      simp [hvs] at q1 q2
      have hst : s < t := by have := HR.out.bf; unfold bfit at this; simpa using this
      have e1 : ((t : Int) - (s : Int)) % 4294967296 = ((t - s : Nat) : Int) := by omega
      have e2 : (((t : Int) - (s : Int) - 1) % 4294967296) = ((t - s - 1 : Nat) : Int) := by omega
      have hP := pputVar w0 _ _ p b _ (t - s - 1) h4 (by omega) (by simp [length_bitsN, wid15, wid015, length_var]; omega)
      have H5 : Hid (∀ v : Int, v = ((t - s - 1 : Nat) : Int) → Calls Tryz.prog 94 #[.pointer (some ⟨p, 0, none⟩), .int .u64 v] w4 _) := fun v hv => by rw [hv]; exact hP
      clear h4 e1 e2 hP
      go_wp2_with fail
      refine (H5.out _ (by omega)).mono ?_
      rintro x w5 ⟨rfl, h5⟩
      have H6 : Hid (Own w0 w5 _) := h5.three.tail
      clear h5 H5 q0 q1 q2
      go_wp2
      go_end0
      exact ⟨rfl, by unfold headB; rw [if_pos HTT.out, if_pos rfl]; simpa using H6.out⟩
    · have e1 : ((k : Int) == 2) = false := by rw [beq_eq_false_iff_ne]; omega
      have H6 : Hid (Own w0 w4 _) := h4.three.tail
      have HK : Hid (k ≠ 2) := hk
      clear h4 hk
      go_wp2
      go_end0
      exact ⟨rfl, by unfold headB; rw [if_pos HTT.out, if_neg HK.out]; simpa using H6.out⟩
  · have hT' : hasT k = false := by simpa using hT
    have hk : k ≠ 2 := by rintro rfl; exact hT rfl
    have e1 : ((k : Int) == 2) = false := by rw [beq_eq_false_iff_ne]; omega
    have q0 := H3.out.three.cell 0
    simp [hvs] at q0
    have H6 : Hid (Own w0 w3' _) := H3.out.three.tail
    have HK : Hid (k ≠ 2 ∧ ¬ hasT k = true) := ⟨hk, hT⟩
    rw [hT']
    clear H3 hT hT' hk
    go_wp2
    go_end0
    exact ⟨rfl, by unfold headB; rw [if_neg HK.out.2, if_neg HK.out.1]; simpa using H6.out⟩
end Go.Proofs.YtbencjopjdjepaaGreatDoor

