/-
  stepSize, Size, SizeStep of package comp; the document's examples of layer 6.
-/
import Derived.Test.YtllhipfielgnbaaDoorKb
namespace Go.Proofs.YtllhipfielgnbaaDoor
open Go.RowKit
set_option linter.unusedVariables false
set_option maxRecDepth 100000

set_option maxHeartbeats 2000000 in
theorem stepSize_any (w : World) (ht : Tab w) (k k0 : Nat) (hk : k < 256) (F G : Nat → Int) (hF : I32 F) (hG : I32 G) :
    Calls Tryd.prog 30 #[.agg (cmp k0 F), .agg (cmp k G)] w fun e w' => e = .returned (.int .i64 ((ssum k F G (cnt k) : Nat) : Int)) ∧ Fr Nobody w w' := by
  obtain ⟨b1, b2, hf⟩ := boxes w k0 k F G
  have H : Hid (Tab w) := ht
  have hc := cnt_le k
  have HF : Hid (Fr Nobody w _) := hf
  have HB1 : Hid (Box _ w.heap.size k0 F) := b1
  have HB2 : Hid (Box _ (w.heap.size + 1) k G) := b2
  obtain ⟨c, ec⟩ : ∃ c, cnt k = c := ⟨_, rfl⟩
  have EC : Hid (cnt k = c) := ec
  have S : Hid (∀ w j, Tab w → j < c → Calls Tryd.prog 46 #[.agg (cmp k0 F), .agg (cmp k G), .int .i64 ((j : Nat) : Int)] w fun e w' => e = .returned (.int .i64 ((fsz k F G j : Nat) : Int)) ∧ Fr Nobody w w') := fun w j h hj => fieldStepSize_any w h k k0 j hk (by rw [ec]; exact hj) F G hF hG
  have C : Hid (∀ w, Tab w → Calls Tryd.prog 32 #[.int .u8 (k : Int)] w fun e w' => e = .returned (.int .i64 (c : Int)) ∧ w' = w) := fun w h => by have := count_any w h k hk; rw [ec] at this; exact this
  have L : Hid (∀ n, n ≤ c → ssum k F G n ≤ 22 * n) := fun n hn => ssum_le k n F G (by rw [ec]; exact hn)
  have L2 : Hid (∀ j, j < c → fsz k F G j ≤ 22) := fun j hj => (fsz_le k F G j (by rw [ec]; exact hj)).2
  rw [ec] at hc
  rw [ec]
  clear ht hf b1 b2 ec hF hG
  unfold cmp at *
  go_enter Tryd.func30, Tryd.ntmps30
  go_wp2_with fail
  refine (C.out _ (H.out.quiet HF.out)).mono ?_
  rintro e w1 ⟨rfl, rfl⟩
  go_wp2
  go_loopw [5, 10] (fun a b wr => ∃ j : Nat, j ≤ c ∧ b = .int .i64 j ∧ a = .int .i64 (ssum k F G j : Nat) ∧ Box wr w.heap.size k0 F ∧ Box wr (w.heap.size + 1) k G ∧ Fr Nobody w wr) (fun _ b _ => c - (intOf b).toNat)
  case atStart => exact ⟨0, by omega, rfl, rfl, HB1.out, HB2.out, HF.out⟩
  case round =>
    obtain ⟨j, hj, rfl, rfl, hb1, hb2, hf⟩ := hrel
    have HG : Hid (Fr Nobody w wr) := hf
    have B1 : Hid (Box wr w.heap.size k0 F) := hb1
    have B2 : Hid (Box wr (w.heap.size + 1) k G) := hb2
    clear hf hb1 hb2
    by_cases hlt : j < c
    · obtain ⟨p0, p1, p2, p3⟩ := B1.out.cells
      obtain ⟨q0, q1, q2, q3⟩ := B2.out.cells
      have hb := L.out j (by omega)
      have hw := L2.out j hlt
      have HS : Hid (ssum k F G (j + 1) = ssum k F G j + fsz k F G j) := rfl
      have SJ : Hid (∀ w, Tab w → _) := fun w h => S.out w j h hlt
      generalize fsz k F G j = z at *
      generalize ssum k F G j = s at *
      go_wp2_with fail
      refine (SJ.out _ (H.out.quiet HG.out)).mono ?_
      rintro e w2 ⟨rfl, hf2⟩
      have HG2 : Hid (Fr Nobody w w2) := HG.out.trans hf2
      have B12 : Hid (Box w2 w.heap.size k0 F) := B1.out.quiet hf2
      have B22 : Hid (Box w2 (w.heap.size + 1) k G) := B2.out.quiet hf2
      clear hf2
      go_wp2
      go_roundw
      case rel => exact ⟨j + 1, by omega, by go_num, by rw [HS.out]; go_num, B12.out, B22.out, HG2.out⟩
      case measure => simp [intOf]; omega
    · have e : j = c := by omega
      subst e
      go_wp2
      go_ret
      exact ⟨rfl, HG.out⟩

def sizeK (k : Nat) (F : Nat → Int) : Nat := if chk k F = 0 then bitsK k else 0
def sizeS (k k' : Nat) (F G : Nat → Int) : Nat := if ckS k k' F G = 0 then ssum k' F G (cnt k') else 0

set_option maxHeartbeats 1000000 in
theorem size_any (w : World) (ht : Tab w) (k : Nat) (hk : k < 256) (F : Nat → Int) :
    Calls Tryd.prog 21 #[.agg (cmp k F)] w fun e w' => e = .returned (.int .i64 ((sizeK k F : Nat) : Int)) ∧ Fr Nobody w w' := by
  have H : Hid (Tab w) := ht
  have HB : Hid (Box (w.alloc (.cells (cmp k F) 24)) w.heap.size k F) := Box.new w k F
  have HF : Hid (Fr Nobody w (w.alloc (.cells (cmp k F) 24))) := (Fr.refl _ _).alloc _
  have C1 : Hid (∀ w, Tab w → Calls Tryd.prog 39 #[.agg (cmp k F)] w fun e w' => e = .returned (.int .i64 ((chk k F : Nat) : Int)) ∧ Fr Nobody w w') := fun w h => check_any w h k hk F
  have B : Hid (∀ w, Tab w → _) := fun w h => bits_any w h k hk
  unfold sizeK
  generalize chk k F = x at *
  generalize bitsK k = b at *
  clear ht
  by_cases hx : x = 0
  · rw [if_pos hx]
    subst hx
    unfold cmp at *
    go_enter Tryd.func21, Tryd.ntmps21
    go_wp2_with fail
    refine (C1.out _ (H.out.quiet HF.out)).mono ?_
    rintro e w1 ⟨rfl, hf1⟩
    have HF1 : Hid (Fr Nobody w w1) := HF.out.trans hf1
    have c0 := (Box.quiet HB.out hf1).kind
    clear hf1
    go_wp2_with fail
    refine (B.out _ (H.out.quiet HF1.out)).mono ?_
    rintro e w2 ⟨rfl, hf2⟩
    have HF2 : Hid (Fr Nobody w w2) := HF1.out.trans hf2
    clear hf2
    go_wp2
    go_ret
    exact ⟨rfl, HF2.out⟩
  · rw [if_neg hx]
    have hne : ((x : Int) != 0) = true := by rw [bne_iff_ne]; omega
    unfold cmp at *
    go_enter Tryd.func21, Tryd.ntmps21
    go_wp2_with fail
    refine (C1.out _ (H.out.quiet HF.out)).mono ?_
    rintro e w1 ⟨rfl, hf1⟩
    have HF1 : Hid (Fr Nobody w w1) := HF.out.trans hf1
    clear hf1
    go_wp2
    go_ret
    exact ⟨rfl, HF1.out⟩

set_option maxHeartbeats 1000000 in
theorem sizeStep_any (w : World) (ht : Tab w) (k k' : Nat) (hk : k < 256) (hk' : k' < 256) (F G : Nat → Int) (hF : I32 F) (hG : I32 G) :
    Calls Tryd.prog 13 #[.agg (cmp k F), .agg (cmp k' G)] w fun e w' => e = .returned (.int .i64 ((sizeS k k' F G : Nat) : Int)) ∧ Fr Nobody w w' := by
  obtain ⟨b1, b2, hf⟩ := boxes w k k' F G
  have H : Hid (Tab w) := ht
  have HF : Hid (Fr Nobody w _) := hf
  have HB1 : Hid (Box _ w.heap.size k F) := b1
  have HB2 : Hid (Box _ (w.heap.size + 1) k' G) := b2
  have C1 : Hid (∀ w, Tab w → _) := fun w h => checkStep_any w h k k' hk hk' F G
  have C2 : Hid (∀ w, Tab w → _) := fun w h => stepSize_any w h k' k hk' F G hF hG
  unfold sizeS
  generalize ckS k k' F G = x at *
  generalize ssum k' F G (cnt k') = s at *
  clear ht hf b1 b2 hF hG
  by_cases hx : x = 0
  · rw [if_pos hx]
    subst hx
    unfold cmp at *
    go_enter Tryd.func13, Tryd.ntmps13
    go_wp2_with fail
    refine (C1.out _ (H.out.quiet HF.out)).mono ?_
    rintro e w1 ⟨rfl, hf1⟩
    have HF1 : Hid (Fr Nobody w w1) := HF.out.trans hf1
    obtain ⟨p0, p1, p2, p3⟩ := (Box.quiet HB1.out hf1).cells
    obtain ⟨q0, q1, q2, q3⟩ := (Box.quiet HB2.out hf1).cells
    clear hf1
    go_wp2_with fail
    refine (C2.out _ (H.out.quiet HF1.out)).mono ?_
    rintro e w2 ⟨rfl, hf2⟩
    have HF2 : Hid (Fr Nobody w w2) := HF1.out.trans hf2
    clear hf2
    go_wp2
    go_ret
    exact ⟨rfl, HF2.out⟩
  · rw [if_neg hx]
    have hne : ((x : Int) != 0) = true := by rw [bne_iff_ne]; omega
    unfold cmp at *
    go_enter Tryd.func13, Tryd.ntmps13
    go_wp2_with fail
    refine (C1.out _ (H.out.quiet HF.out)).mono ?_
    rintro e w1 ⟨rfl, hf1⟩
    have HF1 : Hid (Fr Nobody w w1) := HF.out.trans hf1
    clear hf1
    go_wp2
    go_ret
    exact ⟨rfl, HF1.out⟩

theorem sz_a : sizeK 2 (f3 5 0 0) = 12 := by decide +kernel
theorem sz_b : sizeS 2 2 (f3 6 0 0) (f3 5 0 0) = 6 := by decide +kernel
theorem sz_c : sizeS 2 2 (f3 5 0 0) (f3 5 0 0) = 1 := by decide +kernel
theorem sz_d : sizeS 2 2 (f3 500 0 0) (f3 5 0 0) = 14 := by decide +kernel
theorem i32_life (n : Int) (h : 0 ≤ n ∧ n ≤ 4095) : I32 (f3 n 0 0) := by
  intro j hj
  have : j = 0 ∨ j = 1 ∨ j = 2 := by omega
  rcases this with rfl | rfl | rfl <;> simp only [f3] <;> omega

end Go.Proofs.YtllhipfielgnbaaDoor
