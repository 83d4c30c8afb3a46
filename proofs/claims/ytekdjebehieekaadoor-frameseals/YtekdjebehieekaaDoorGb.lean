/-
  awake of the laws on frames, and the document's Turn.
-/
import Derived.Test.YtekdjebehieekaaDoorGa
import Derived.Test.YtekdjebehieekaaDoorCb
import Derived.Lib.SlBytesConst
namespace Go.Proofs.YtekdjebehieekaaDoor
open Go.RowKit
set_option linter.unusedVariables false

theorem crc_nine : crc [49, 50, 51, 52, 53, 54, 55, 56, 57] = 3421780262 := by decide +kernel

set_option maxHeartbeats 1000000 in
theorem awake_any (w : World) (ht : Tab w) : Calls Tryd.prog 9 #[] w fun e w' => e = .returned (.bool true) ∧ Fr Nobody w w' := by
  have HT : Hid (Tab w) := ht
  clear ht
  have HC : Hid (crc [49, 50, 51, 52, 53, 54, 55, 56, 57] = 3421780262) := crc_nine
  have kc := fun (w : World) (C : Array Value) (n c : Nat) => Lib.run_convert_bytes_const (P := Tryd.prog) w 22 5 C n c Tryd.underlying22 Tryd.underlying5
  go_enter Tryd.func9, Tryd.ntmps9
  go_wp2_with fail
  have hfr : Fr Nobody w _ := (Fr.refl _ w).alloc (.cells #[.int .u8 49, .int .u8 50, .int .u8 51, .int .u8 52, .int .u8 53, .int .u8 54, .int .u8 55, .int .u8 56, .int .u8 57] 5 (9, 10))
  refine (sum_any _ _ 9 9 [49, 50, 51, 52, 53, 54, 55, 56, 57] ?_ rfl (by decide) (by decide) (HT.out.quiet hfr)).mono ?_
  · refine .inr ⟨_, _, rfl, fun j x hx => ?_⟩
    rw [cell_of_row _ _ _ _ _ _ (heap_alloc_new w _), Nat.zero_add]
    have e : (#[Value.int .u8 49, .int .u8 50, .int .u8 51, .int .u8 52, .int .u8 53, .int .u8 54, .int .u8 55, .int .u8 56, .int .u8 57] : Array Value) = (vrow [49, 50, 51, 52, 53, 54, 55, 56, 57]).toArray := rfl
    rw [e, List.getElem?_toArray, getElem?_vrow, hx]; rfl
  rintro e w' ⟨rfl, rfl⟩
  rw [HC.out]
  go_wp2
  go_ret
  exact ⟨rfl, hfr⟩

set_option maxHeartbeats 1000000 in
theorem turn_any (w : World) (ao : Option Addr) (cap len : Nat) (P : List Nat) (t pat : Nat) (h : BytesAt w ao P) (hn : ao = none → cap = 0) (hlen : P.length = len) (hb : ∀ x ∈ P, x < 256) (hL : len ≤ 10000) (hat : t < 8 * len) (hpat : pat < 4294967296) :
    Calls Tryd.prog 19 #[.slice ao len cap, .int .i64 (t : Int), .int .u32 (pat : Int)] w fun e w' => ∃ v' Q, e = .returned v' ∧ w'.ownsRow w.heap.size 5 1 v' len (vrow Q) ∧ Q.length = len ∧ (∀ x ∈ Q, x < 256) ∧ bnum Q = bnum P ^^^ (2 ^ t * pats pat t (8 * len) 32) ∧ Fr Nobody w w' := by
  have hs := h.src cap hn
  rw [hlen] at hs
  have HS : Hid (Src w (.slice ao len cap) P.length (vrow P)) := by rw [hlen]; exact hs
  have HP : Hid (P.length = len ∧ ∀ x ∈ P, x < 256) := ⟨hlen, hb⟩
  clear h hs hn hb
  go_enter Tryd.func19, Tryd.ntmps19
  go_wp2_with (at_builtin; refine copy_bytes rfl _ _ rfl ao len cap P HS.out HP.out.1 (by omega) rfl rfl ?_)
  intro v1 w1 ho1 hf1
  obtain ⟨g, cp, hv1, hg⟩ := row_shape ho1 (by omega)
  subst hv1
  have H1 : Hid (w1.ownsRow w.heap.size 5 1 (.slice (some ⟨g, 0, none⟩) len cp) len (vrow P) ∧ Fr Nobody w w1) := ⟨ho1, hf1⟩
  clear ho1 hf1
  go_wp2
  go_loopw [2, 13] (fun u c wr => ∃ (k : Nat) (Q : List Nat), k ≤ 32 ∧ c = .int .i64 k ∧ u = .int .u32 ((pat / 2 ^ k : Nat) : Int) ∧ wr.ownsRow w.heap.size 5 1 (.slice (some ⟨g, 0, none⟩) len cp) len (vrow Q) ∧ Q.length = len ∧ (∀ x ∈ Q, x < 256) ∧ bnum Q = bnum P ^^^ (2 ^ t * pats pat t (8 * len) k) ∧ Fr Nobody w wr) (fun _ c _ => 32 - (intOf c).toNat)
  case atStart => exact ⟨0, P, by omega, rfl, by simp, H1.out.1, HP.out.1, HP.out.2, by rw [pats_zero, Nat.mul_zero, Nat.xor_zero], H1.out.2⟩
  case round =>
    obtain ⟨k, Q, hk, rfl, rfl, ho, hq1, hq2, hq3, hf⟩ := hrel
    by_cases hlt : k < 32
    · have hqp : pat / 2 ^ k < 4294967296 := Nat.lt_of_le_of_lt (Nat.div_le_self _ _) hpat
      have HD : Hid (((pat / 2 ^ (k + 1) : Nat) : Int) = ((pat / 2 ^ k : Nat) : Int) / 2) := by
        show _ = _
        rw [← half_pow]; omega
      have HQ : Hid (wr.ownsRow w.heap.size 5 1 (.slice (some ⟨g, 0, none⟩) len cp) len (vrow Q) ∧ Q.length = len ∧ (∀ x ∈ Q, x < 256) ∧ bnum Q = bnum P ^^^ (2 ^ t * pats pat t (8 * len) k) ∧ Fr Nobody w wr) := ⟨ho, hq1, hq2, hq3, hf⟩
      by_cases hbit : pat / 2 ^ k % 2 = 1
      · by_cases hin : t + k < 8 * len
        · have HB : Hid (2 ^ t * pats pat t (8 * len) (k + 1) = (2 ^ t * pats pat t (8 * len) k) ^^^ 2 ^ (t + k)) := pats_on pat t (8 * len) k hbit hin
          have hx : Q[(t + k) / 8]? = some Q[(t + k) / 8] := List.getElem?_eq_getElem (by omega)
          have hx2 := hq2 Q[(t + k) / 8] (List.getElem_mem _)
          have cx : wr.cell? ⟨g, (t + k) / 8, none⟩ = some (.int .u8 ((Q[(t + k) / 8] : Nat) : Int)) := by
            rw [ho.cellAt _ (by omega), getElem?_vrow, hx]; rfl
          have fx : wr.frozen? ⟨g, (t + k) / 8, none⟩ = false := ho.frozenAt _
          have HX : Hid (flip Q (t + k) = Q.set ((t + k) / 8) (Q[(t + k) / 8] ^^^ 2 ^ ((t + k) % 8))) := by
            show _ = _
            unfold flip; rw [hx]; rfl
          generalize Q[(t + k) / 8] = x at *
          have hb2 : ((pat / 2 ^ k : Nat) : Int) % 2 = 1 := by omega
          have h8 : (t : Int) + k < 8 * len := by omega
          clear ho hq1 hq2 hq3 hf hx hbit
          generalize pat / 2 ^ k = p at *
          have hxl : x ^^^ 2 ^ ((t + k) % 8) < 256 := xor_lt8 x _ hx2 (by omega)
          have HV : Hid (bits .xor .u8 (x : Int) (2 ^ ((t + k) % 8) % 256) = ((x ^^^ 2 ^ ((t + k) % 8) : Nat) : Int)) := by
            show _ = _
            have h1 : 2 ^ ((t + k) % 8) < 2 ^ 8 := Nat.pow_lt_pow_right (by decide) (by omega)
            have h2 : (2 : Int) ^ ((t + k) % 8) % 256 = ((2 ^ ((t + k) % 8) : Nat) : Int) := by
              have : ((2 : Int) ^ ((t + k) % 8)) = ((2 ^ ((t + k) % 8) : Nat) : Int) := by simp
              rw [this]; exact Int.emod_eq_of_lt (Int.natCast_nonneg _) (Int.ofNat_lt.2 h1)
            rw [h2]
            exact u8_xor_nat x _ hx2 h1
          go_wp2
          refine ⟨⟨k + 1, flip Q (t + k), by omega, by go_num, by rw [HD.out], ?_, by rw [length_flip]; exact HQ.out.2.1, flip_byte Q _ HQ.out.2.2.1 (by rw [HQ.out.2.1]; exact hin), ?_, HQ.out.2.2.2.2.setCell (.inr hg) _⟩, by simp [intOf]; omega⟩
          · rw [HX.out, vrow_set, HV.out]
            exact (HQ.out.1.stored ((t + k) / 8) _).1
          · rw [bnum_flip Q _ HQ.out.2.2.1 (by rw [HQ.out.2.1]; exact hin), HQ.out.2.2.2.1, HB.out, Nat.xor_assoc]
        · have HB : Hid (2 ^ t * pats pat t (8 * len) (k + 1) = 2 ^ t * pats pat t (8 * len) k) := by
            show _ = _
            rw [pats_out _ _ _ _ (by omega)]
          have hb2 : ((pat / 2 ^ k : Nat) : Int) % 2 = 1 := by omega
          have h8 : ¬ (t : Int) + k < 8 * len := by omega
          clear ho hq1 hq2 hq3 hf hbit
          generalize pat / 2 ^ k = p at *
          go_wp2
          exact ⟨⟨k + 1, Q, by omega, by go_num, by rw [HD.out], HQ.out.1, HQ.out.2.1, HQ.out.2.2.1, by rw [HB.out]; exact HQ.out.2.2.2.1, HQ.out.2.2.2.2⟩, by simp [intOf]; omega⟩
      · have HB : Hid (2 ^ t * pats pat t (8 * len) (k + 1) = 2 ^ t * pats pat t (8 * len) k) := by
          show _ = _
          rw [pats_off _ _ _ _ (by omega)]
        have hb2 : ((pat / 2 ^ k : Nat) : Int) % 2 = 0 := by omega
        clear ho hq1 hq2 hq3 hf hbit
        generalize pat / 2 ^ k = p at *
        go_wp2
        exact ⟨⟨k + 1, Q, by omega, by go_num, by rw [HD.out], HQ.out.1, HQ.out.2.1, HQ.out.2.2.1, by rw [HB.out]; exact HQ.out.2.2.2.1, HQ.out.2.2.2.2⟩, by simp [intOf]; omega⟩
    · have e : k = 32 := by omega
      subst e
      have HQ : Hid (wr.ownsRow w.heap.size 5 1 (.slice (some ⟨g, 0, none⟩) len cp) len (vrow Q) ∧ Q.length = len ∧ (∀ x ∈ Q, x < 256) ∧ bnum Q = bnum P ^^^ (2 ^ t * pats pat t (8 * len) 32) ∧ Fr Nobody w wr) := ⟨ho, hq1, hq2, hq3, hf⟩
      clear ho hq1 hq2 hq3 hf
      go_wp2
      go_ret
      exact ⟨_, Q, rfl, HQ.out⟩
end Go.Proofs.YtekdjebehieekaaDoor
