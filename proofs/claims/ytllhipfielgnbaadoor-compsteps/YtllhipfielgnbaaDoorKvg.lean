/-
  PutStep of package comp: a component's bits behind another one.
-/
import Derived.Test.YtllhipfielgnbaaDoorKig
namespace Go.Proofs.YtllhipfielgnbaaDoor
open Go.RowKit
set_option linter.unusedVariables false
set_option maxRecDepth 100000

/-- a field's bits behind another one -/
def sb (k : Nat) (F G : Nat → Int) (j : Nat) : List Bool := if mz F G j = 0 then bitsN 1 0 else if mz F G j ≤ 16 then bitsN 2 3 ++ bitsN 4 (mz F G j - 1) else bitsN 2 1 ++ fb k G j
theorem length_sb (k : Nat) (F G : Nat → Int) (j : Nat) : (sb k F G j).length = fsz k F G j := by
  unfold sb fsz
  split
  · rfl
  · split
    · rw [List.length_append, length_bitsN, length_bitsN]
    · rw [List.length_append, length_bitsN, length_fb]
def sbs (k : Nat) (F G : Nat → Int) : Nat → List Bool
  | 0 => []
  | n + 1 => sbs k F G n ++ sb k F G n
theorem length_sbs (k : Nat) (F G : Nat → Int) (n : Nat) : (sbs k F G n).length = ssum k F G n := by
  induction n with
  | zero => rfl
  | succ n ih => rw [sbs, List.length_append, ih, length_sb]; rfl

set_option maxHeartbeats 2000000 in
theorem putFieldStep_any (w0 w : World) (ht : Tab w0) (b : Nat) (L : List Bool) (k k0 j : Nat) (hk : k < 256) (hj : j < cnt k) (F G : Nat → Int) (hF : I32 F) (hG : I32 G) (h : Ow w0 w b L) (hr : lo k j ≤ G j ∧ G j ≤ hi k j) (hl : L.length + 80 ≤ 1048576) :
    Calls Tryd.prog 33 #[.pointer (some ⟨b, 0, none⟩), .agg (cmp k0 F), .agg (cmp k G), .int .i64 (j : Int)] w fun e w' => e = .returned (.int .i64 0) ∧ Ow w0 w' b (L ++ sb k F G j) ∧ Wf w w' := by
  obtain ⟨b1, b2, hf⟩ := boxes w k0 k F G
  have hc := cnt_le k
  have hj3 : j < 3 := by omega
  have H : Hid (Ow w0 w b L) := h
  have HT : Hid (Tab w0) := ht
  have x1 := b1.at j hj3
  have x2 := b2.at j hj3
  have HB2 : Hid _ := b2
  have HF : Hid _ := hf
  have M : Hid (∀ w, Calls Tryd.prog 47 #[.int .i32 (F j), .int .i32 (G j)] w fun e w' => e = .returned (.int .u64 ((mz F G j : Nat) : Int)) ∧ w' = w) := fun w => more_any w (F j) (G j) (hF j hj3) (hG j hj3)
  have P : Hid (∀ w M, Ow w0 w b M → M.length + 64 ≤ 1048576 → _) := fun w M hM hl => putField_any w0 w ht b M k j hk hj G hM hr hl
  have Q : Hid (∀ w M v n, Ow w0 w b M → n ≤ 64 → v < 2 ^ n → v < 100 → M.length + n ≤ 1048576 → _) := fun w M v n hM h1 h2 h3 h4 => put_wf w0 w b M v n _ _ rfl rfl hM h1 h2 (by omega) h4
  have hsb : sb k F G j = (if mz F G j = 0 then bitsN 1 0 else if mz F G j ≤ 16 then bitsN 2 3 ++ bitsN 4 (mz F G j - 1) else bitsN 2 1 ++ fb k G j) := rfl
  rw [hsb]
  have HN : Hid (L.length + 80 ≤ 1048576) := hl
  clear hsb hF hG b1 b2 ht hf hj hc h hr hl
  generalize mz F G j = z at *
  by_cases h0 : z = 0
  · rw [if_pos h0]
    subst h0
    have Q1 : Hid (∀ w, Ow w0 w b L → _) := fun w hw => Q.out w L 0 1 hw (by decide) (by decide) (by decide) (by have := HN.out; omega)
    unfold cmp at *
    generalize F j = f at *
    generalize G j = g at *
    clear P Q
    go_enter Tryd.func33, Tryd.ntmps33
    go_wp2_with fail
    go_quiet (refine Calls.quiet_of_same (M.out _))
    have HG : Hid _ := HF.out.drewN nq
    go_wp2_with fail
    refine (Q1.out _ (H.out.quiet HG.out)).mono ?_
    rintro e w2 ⟨rfl, hW, hf2⟩
    have HW : Hid (Ow w0 w2 b (L ++ bitsN 1 0)) := hW
    have HF2 : Hid (Wf w w2) := (Wf.of_quiet HG.out).trans hf2
    clear hW hf2
    go_wp2
    go_ret
    exact ⟨rfl, HW.out, HF2.out⟩
  · rw [if_neg h0]
    have n0 : ((z : Int) == 0) = false := by rw [beq_eq_false_iff_ne]; omega
    by_cases h1 : z ≤ 16
    · rw [if_pos h1]
      have Q1 : Hid (∀ w, Ow w0 w b L → _) := fun w hw => Q.out w L 3 2 hw (by decide) (by decide) (by decide) (by have := HN.out; omega)
      have Q2 : Hid (∀ w, Ow w0 w b (L ++ bitsN 2 3) → _) := fun w hw => put_wf w0 w b (L ++ bitsN 2 3) (z - 1) 4 ((z : Int) - 1) 4 (by omega) rfl hw (by decide) (by omega) (by omega) (by have := HN.out; rw [List.length_append, length_bitsN]; omega)
      have hz1 : 1 ≤ z := by omega
      unfold cmp at *
      generalize F j = f at *
      generalize G j = g at *
      clear P Q h0
      go_enter Tryd.func33, Tryd.ntmps33
      go_wp2_with fail
      go_quiet (refine Calls.quiet_of_same (M.out _))
      have HG : Hid _ := HF.out.drewN nq
      go_wp2_with fail
      refine (Q1.out _ (H.out.quiet HG.out)).mono ?_
      rintro e w2 ⟨rfl, hW, hf2⟩
      have HW : Hid (Ow w0 w2 b (L ++ bitsN 2 3)) := hW
      have HF2 : Hid (Wf w w2) := (Wf.of_quiet HG.out).trans hf2
      clear hW hf2
      go_wp2_with fail
      refine (Q2.out _ HW.out).mono ?_
      rintro e w3 ⟨rfl, hW, hf3⟩
      have HW3 : Hid (Ow w0 w3 b (L ++ (bitsN 2 3 ++ bitsN 4 (z - 1)))) := by
        show Ow _ _ _ _
        rw [← List.append_assoc]; exact hW
      have HF3 : Hid (Wf w w3) := HF2.out.trans hf3
      clear hW hf3
      go_wp2
      go_ret
      exact ⟨rfl, HW3.out, HF3.out⟩
    · rw [if_neg h1]
      have Q1 : Hid (∀ w, Ow w0 w b L → _) := fun w hw => Q.out w L 1 2 hw (by decide) (by decide) (by decide) (by have := HN.out; omega)
      have Q2 : Hid (∀ w, Ow w0 w b (L ++ bitsN 2 1) → _) := fun w hw => P.out w (L ++ bitsN 2 1) hw (by have := HN.out; rw [List.length_append, length_bitsN]; omega)
      generalize fb k G j = FB at *
      clear P Q h0
      have HB3 : Hid (Box _ (w.heap.size + 1) k G) := HB2.out
      unfold cmp at *
      go_enter Tryd.func33, Tryd.ntmps33
      go_wp2_with fail
      go_quiet (refine Calls.quiet_of_same (M.out _))
      have HG : Hid _ := HF.out.drewN nq
      have HB4 : Hid (Box _ (w.heap.size + 1) k G) := Box.quiet HB3.out ((Fr.refl _ _).drewN nq)
      go_wp2_with fail
      refine (Q1.out _ (H.out.quiet HG.out)).mono ?_
      rintro e w2 ⟨rfl, hW, hf2⟩
      have HW : Hid (Ow w0 w2 b (L ++ bitsN 2 1)) := hW
      have HF2 : Hid (Wf w w2) := (Wf.of_quiet HG.out).trans hf2
      obtain ⟨q0, q1, q2, q3⟩ := (Box.wf HB4.out hf2).cells
      clear hW hf2 x1 x2
      go_wp2_with fail
      refine (Q2.out _ HW.out).mono ?_
      rintro e w3 ⟨rfl, hW, hf3⟩
      have HW3 : Hid (Ow w0 w3 b (L ++ (bitsN 2 1 ++ FB))) := by
        show Ow _ _ _ _
        rw [← List.append_assoc]; exact hW
      have HF3 : Hid (Wf w w3) := HF2.out.trans hf3
      clear hW hf3
      go_wp2
      go_ret
      exact ⟨rfl, HW3.out, HF3.out⟩

theorem ckS_ok (k k' : Nat) (F G : Nat → Int) (h : ckS k k' F G = 0) : chk k F = 0 ∧ chk k' G = 0 ∧ k = k' := by
  unfold ckS at h
  by_cases h1 : chk k F = 0
  · rw [if_pos h1] at h
    by_cases h2 : chk k' G = 0
    · rw [if_pos h2] at h
      by_cases h3 : k = k'
      · exact ⟨h1, h2, h3⟩
      · rw [if_neg h3] at h; cases h
    · rw [if_neg h2] at h; exact absurd h h2
  · rw [if_neg h1] at h; exact absurd h h1

set_option maxHeartbeats 1000000 in
theorem putStep_err (w0 w : World) (ht : Tab w0) (b k k' : Nat) (hk : k < 256) (hk' : k' < 256) (F G : Nat → Int) (hf : Fr Nobody w0 w) (h0 : ckS k k' F G ≠ 0) :
    Calls Tryd.prog 8 #[.pointer (some ⟨b, 0, none⟩), .agg (cmp k F), .agg (cmp k' G)] w fun e w' => e = .returned (.int .i64 ((ckS k k' F G : Nat) : Int)) ∧ Fr Nobody w w' := by
  have HT : Hid (Tab w) := ht.quiet hf
  obtain ⟨b1, b2, hf0⟩ := boxes w k k' F G
  have HF : Hid (Fr Nobody w _) := hf0
  have C1 : Hid (∀ w, Tab w → _) := fun w h => checkStep_any w h k k' hk hk' F G
  generalize ckS k k' F G = x at *
  have hne : ((x : Int) != 0) = true := by rw [bne_iff_ne]; omega
  clear ht hf h0 b1 b2 hf0
  unfold cmp at *
  go_enter Tryd.func8, Tryd.ntmps8
  go_wp2_with fail
  refine (C1.out _ (HT.out.quiet HF.out)).mono ?_
  rintro e w1 ⟨rfl, hf1⟩
  have HF1 : Hid (Fr Nobody w w1) := HF.out.trans hf1
  clear hf1
  go_wp2
  go_ret
  exact ⟨rfl, HF1.out⟩

set_option maxHeartbeats 2000000 in
theorem putStep_ok (w0 w : World) (ht : Tab w0) (b : Nat) (L : List Bool) (k : Nat) (hk : k < 256) (F G : Nat → Int) (hF : I32 F) (hG : I32 G) (h : Ow w0 w b L) (h0 : ckS k k F G = 0) (hl : L.length + 200 ≤ 1048576) :
    Calls Tryd.prog 8 #[.pointer (some ⟨b, 0, none⟩), .agg (cmp k F), .agg (cmp k G)] w fun e w' => e = .returned (.int .i64 0) ∧ Ow w0 w' b (L ++ sbs k F G (cnt k)) ∧ Wf w w' := by
  obtain ⟨_, hq, _⟩ := ckS_ok k k F G h0
  obtain ⟨h6, hr, _⟩ := chk_ok k G hq
  obtain ⟨b1, b2, hf⟩ := boxes w k k F G
  have HT : Hid (Tab w0) := ht
  have H : Hid (Ow w0 w b L) := h
  have hc := cnt_le k
  have HB1 : Hid (Box _ w.heap.size k F) := b1
  have HB2 : Hid (Box _ (w.heap.size + 1) k G) := b2
  have HF : Hid (Fr Nobody w _) := hf
  have C1 : Hid (∀ w, Tab w → Calls Tryd.prog 29 #[.agg (cmp k F), .agg (cmp k G)] w fun e w' => e = .returned (.int .i64 0) ∧ Fr Nobody w w') := fun w h => by have := checkStep_any w h k k hk hk F G; rw [h0] at this; exact this
  have B : Hid (∀ w, Tab w → _) := fun w h => stepSize_any w h k k hk F G hF hG
  have hbk := ssum_le k (cnt k) F G (Nat.le_refl _)
  obtain ⟨c, ec⟩ : ∃ c, cnt k = c := ⟨_, rfl⟩
  have C : Hid (∀ w, Tab w → Calls Tryd.prog 32 #[.int .u8 (k : Int)] w fun e w' => e = .returned (.int .i64 (c : Int)) ∧ w' = w) := fun w h => by have := count_any w h k hk; rw [ec] at this; exact this
  have P : Hid (∀ w j M, Ow w0 w b M → j < c → M.length + 80 ≤ 1048576 → _) := fun w j M hM hj hl => putFieldStep_any w0 w ht b M k k j hk (by rw [ec]; exact hj) F G hF hG hM (hr j (by rw [ec]; exact hj)) hl
  have HL : Hid (∀ j, j ≤ c → (sbs k F G j).length ≤ 66) := fun j hj => by rw [length_sbs]; have := ssum_le k j F G (by rw [ec]; exact hj); omega
  rw [ec] at hc hbk B
  rw [ec]
  have R : Hid (∀ w, Ow w0 w b L → _) := fun w hw => room_any w0 w b L hw (by omega)
  generalize hbq : ssum k F G c = bq at *
  obtain ⟨rm, erm⟩ : ∃ rm, 1048576 - L.length = rm := ⟨_, rfl⟩
  rw [erm] at R
  have hrm : bq ≤ rm := by omega
  clear ht h h0 hr ec hbq hF hG b1 b2 hf hq hbk
  have HN : Hid (L.length + 200 ≤ 1048576) := hl
  clear erm hl
  unfold cmp at *
  go_enter Tryd.func8, Tryd.ntmps8
  go_wp2_with fail
  refine (C1.out _ (HT.out.quiet (H.out.quiet HF.out).fr)).mono ?_
  rintro e w1 ⟨rfl, hf1⟩
  have HF1 : Hid (Fr Nobody w w1) := HF.out.trans hf1
  have B1 : Hid (Box w1 w.heap.size k F) := Box.quiet HB1.out hf1
  have B2 : Hid (Box w1 (w.heap.size + 1) k G) := Box.quiet HB2.out hf1
  obtain ⟨p0, p1, p2, p3⟩ := B1.out.cells
  obtain ⟨q0, q1, q2, q3⟩ := B2.out.cells
  clear hf1
  go_wp2_with fail
  refine (B.out _ (HT.out.quiet (H.out.quiet HF1.out).fr)).mono ?_
  rintro e w2 ⟨rfl, hf2⟩
  have HF2 : Hid (Fr Nobody w w2) := HF1.out.trans hf2
  have B12 : Hid (Box w2 w.heap.size k F) := B1.out.quiet hf2
  have B22 : Hid (Box w2 (w.heap.size + 1) k G) := B2.out.quiet hf2
  clear hf2 p0 p1 p2 p3 q0 q1 q2 q3
  go_wp2_with fail
  refine (R.out _ (H.out.quiet HF2.out)).mono ?_
  rintro e w3 ⟨rfl, hf3⟩
  have HF3 : Hid (Fr Nobody w w3) := HF2.out.trans hf3
  have B13 : Hid (Box w3 w.heap.size k F) := B12.out.quiet hf3
  have B23 : Hid (Box w3 (w.heap.size + 1) k G) := B22.out.quiet hf3
  have c0 := B23.out.kind
  clear hf3
  go_wp2_with fail
  refine (C.out _ (HT.out.quiet (H.out.quiet HF3.out).fr)).mono ?_
  rintro e w4 ⟨rfl, rfl⟩
  have HO : Hid (Ow w0 w4 b L) := H.out.quiet HF3.out
  have HW : Hid (Wf w w4) := Wf.of_quiet HF3.out
  clear HF HF1 HF2 B1 B2 HB1 HB2 B12 B22
  go_wp2
  go_loopw [27] (fun a wr => ∃ j : Nat, j ≤ c ∧ a = .int .i64 j ∧ Ow w0 wr b (L ++ sbs k F G j) ∧ Box wr w.heap.size k F ∧ Box wr (w.heap.size + 1) k G ∧ Wf w wr) (fun a _ => c - (intOf a).toNat)
  case atStart => exact ⟨0, by omega, rfl, by simpa [sbs] using HO.out, B13.out, B23.out, HW.out⟩
  case round =>
    obtain ⟨j, hj, rfl, ho, hb, hb', hw⟩ := hrel
    have HO2 : Hid (Ow w0 wr b (L ++ sbs k F G j)) := ho
    have HB1 : Hid (Box wr w.heap.size k F) := hb
    have HB2 : Hid (Box wr (w.heap.size + 1) k G) := hb'
    have HW2 : Hid (Wf w wr) := hw
    clear ho hb hb' hw
    by_cases hlt : j < c
    · obtain ⟨p0, p1, p2, p3⟩ := HB1.out.cells
      obtain ⟨q0, q1, q2, q3⟩ := HB2.out.cells
      have PJ : Hid (∀ _ : Unit, _) := fun _ => P.out wr j (L ++ sbs k F G j) HO2.out hlt (by have := HL.out j (by omega); have := HN.out; rw [List.length_append]; omega)
      go_wp2_with fail
      refine (PJ.out ()).mono ?_
      rintro e w5 ⟨rfl, hw5, hf5⟩
      have HO3 : Hid (Ow w0 w5 b (L ++ sbs k F G (j + 1))) := by
        show Ow _ _ _ _
        rw [sbs, ← List.append_assoc]; exact hw5
      have HB13 : Hid (Box w5 w.heap.size k F) := HB1.out.wf hf5
      have HB23 : Hid (Box w5 (w.heap.size + 1) k G) := HB2.out.wf hf5
      have HW3 : Hid (Wf w w5) := HW2.out.trans hf5
      clear hw5 hf5 PJ
      go_wp2
      go_roundw
      case rel => exact ⟨j + 1, by omega, by go_num, HO3.out, HB13.out, HB23.out, HW3.out⟩
      case measure => simp [intOf]; omega
    · have e : j = c := by omega
      subst e
      go_wp2
      go_ret
      exact ⟨rfl, HO2.out, HW2.out⟩
end Go.Proofs.YtllhipfielgnbaaDoor

/-
  The document's Put of components, on lists of bits.
-/
namespace Go.Proofs.YtllhipfielgnbaaDoor
open Go.RowKit
set_option linter.unusedVariables false
set_option maxRecDepth 100000

theorem Box.grown {B : Nat} {w w' : World} {b k : Nat} {F : Nat → Int} {v : Value} {L : List Bool} (h : Box w b k F) (hv : Bo B w v L) (hg : w.grownBy w' v.ownBlock) : Box w' b k F := by
  refine (hg.block b (Array.getElem?_eq_some_iff.1 h).1 ?_).trans h
  intro e
  rcases hv.2 with ⟨rfl, _⟩ | ⟨g', cap, cur, rfl, _, hgg, _⟩
  · simp [Value.ownBlock] at e
  · simp [Value.ownBlock] at e
    subst e
    unfold Box at h
    rw [hgg] at h
    simp at h

end Go.Proofs.YtllhipfielgnbaaDoor
