/-
  For every list of numbers and widths: Put lays their bits one behind the other, or refuses and changes nothing, as the document says: BitsWrites returns true, whatever its argument, and changes nothing that was there.
-/
import Derived.Test.YtkdodinopehpnaaSa
import Derived.OpenShut
import Derived.ShutString
import Derived.ChangeOld
namespace Go.Proofs.Ytkdodinopehpnaa
open Go.ChangeShapes Go.WideShapes Go.ChangeAt Go.RowKit
set_option linter.unusedVariables false

theorem own : ownKnob Try.prog.godebug = none := by kernel_rfl

set_option maxHeartbeats 2000000 in
theorem bitsWrites_main (w : World) (ao : Option Addr) (len cap : Nat) (Q : List (Nat × Int)) (h : IsNums w ao len cap Q) :
    Calls Try.prog 3 #[.slice ao len cap] w fun e w' => e = .returned (.bool true) ∧ Fr Nobody w w' := by
  have HP : Hid (IsNums w ao len cap Q) := h
  have hm := h.2.1
  unfold maxLen at hm
  clear h
  go_enter Try.func3, Try.ntmps3
  go_wp2_with fail
  refine (awake1 w).mono ?_
  rintro e w1 ⟨rfl, hf⟩
  have F1 : Hid (Fr Nobody w w1) := hf
  clear hf
  go_wp2_with fail
  refine (new_ow w w1 F1.out).mono ?_
  rintro e w2 ⟨b, rfl, _, hW⟩
  have H2 : Hid (Ow w w2 b []) := hW
  clear hW F1
  go_wp2
  go_loopw [4, 14] (fun u c wr => ∃ (k : Nat) (L : List Bool), k ≤ len ∧ k ≤ 60 ∧ c = .int .i64 k ∧ L.length ≤ 64 * k ∧ Ow w wr b L ∧ Bo w.heap.size wr u L) (fun _ c _ => len - (intOf c).toNat)
  case atStart => exact ⟨0, [], Nat.zero_le _, by decide, rfl, by decide, H2.out, Bo.nil _ _⟩
  case round =>
    obtain ⟨k, L, hk, hk60, rfl, hL, hO, hB⟩ := hrel
    obtain ⟨ax, cx, hux⟩ := row_any hB
    subst hux
    have HB : Hid (Ow w wr b L ∧ Bo w.heap.size wr (.slice ax L.length cx) L ∧ L.length ≤ 64 * k) := ⟨hO, hB, hL⟩
    clear hL hB hO H2
    by_cases hlt : k < len
    · obtain ⟨q, hq⟩ : ∃ q, Q[k]? = some q := ⟨_, List.getElem?_eq_getElem (by rw [HP.out.1]; exact hlt)⟩
      have HQ : Hid (NumOk q) := HP.out.2.2.2 q (List.mem_of_getElem? hq)
      obtain ⟨qv, qn⟩ := q
      obtain ⟨g, o, hao, c0, c1⟩ : ∃ g o, ao = some ⟨g, o, none⟩ ∧ wr.cell? ⟨g, o + k * 2, none⟩ = some (.int .u64 (qv : Int)) ∧ wr.cell? ⟨g, o + k * 2 + 1, none⟩ = some (.int .i64 qn) := by
        rcases HP.out.2.2.1.quiet HB.out.1.fr with h | ⟨g, o, ha, hc⟩
        · subst h; simp at hq
        · exact ⟨g, o, ha, hc k _ _ hq⟩
      subst hao
      clear hq
      by_cases h60 : k < 60
      · have tE : ∀ z : Int, (z != z) = false := fun z => by simp
        go_wp2_with fail
        have HA : Hid (Ow w (wr.alloc (.cells #[.int .u64 (qv : Int), .int .i64 qn] 29)) b L ∧ Bo w.heap.size (wr.alloc (.cells #[.int .u64 (qv : Int), .int .i64 qn] 29)) (.slice ax L.length cx) L ∧ L.length ≤ 64 * k) :=
          ⟨HB.out.1.quiet ((Fr.refl _ _).alloc _), HB.out.2.1.quiet ((Fr.refl _ _).alloc _), HB.out.2.2⟩
        refine (rput_spec w.heap.size _ _ L (qv, qn) HA.out.2.1 HA.out.1.fr.size (by have := HA.out.2.2; omega) HQ.out).mono ?_
        rintro e w3 ⟨v3, rfl, hB3, hf3⟩
        have d0 : w3.cell? ⟨wr.heap.size, 0, none⟩ = some (.int .u64 (qv : Int)) := (hf3.cell (p := ⟨wr.heap.size, 0, none⟩) (by simp) id).trans (by simp)
        have d1 : w3.cell? ⟨wr.heap.size, 1, none⟩ = some (.int .i64 qn) := (hf3.cell (p := ⟨wr.heap.size, 1, none⟩) (by simp) id).trans (by simp)
        have H3 : Hid (Ow w w3 b L ∧ Bo w.heap.size w3 v3 (pL L (qv, qn)) ∧ L.length ≤ 64 * k) := ⟨HA.out.1.quiet hf3, hB3, HA.out.2.2⟩
        clear hB3 hf3 HA HB c0 c1
        go_wp2_with fail
        refine (put_spec w w3 b v3 L _ (qv, qn) H3.out.1 H3.out.2.1 (by have := H3.out.2.2; omega) HQ.out).mono ?_
        have HL4 : Hid ((pL L (qv, qn)).length ≤ 64 * (k + 1)) := by have := pL_le L (qv, qn); have := H3.out.2.2; show _ ≤ _; omega
        generalize pL L (qv, qn) = N at *
        generalize pE L (qv, qn) = cN at *
        rintro e w4 ⟨rfl, hO4, hB4⟩
        obtain ⟨a4, c4, hv4⟩ := row_any hB4
        subst hv4
        have H4 : Hid (Ow w w4 b N ∧ Bo w.heap.size w4 (.slice a4 N.length c4) N) := ⟨hO4, hB4⟩
        clear hO4 hB4 H3 d0 d1
        have t1 := tE cN
        have t2 := tE (N.length : Int)
        clear tE
        go_wp2_with fail
        refine (len_fr w w4 b N H4.out.1).mono ?_
        rintro e w5 ⟨rfl, hf⟩
        have H5 : Hid (Ow w w5 b N ∧ Bo w.heap.size w5 (.slice a4 N.length c4) N) := ⟨H4.out.1.quiet hf, H4.out.2.quiet hf⟩
        clear hf H4
        go_wp2_with fail
        refine (bytes_ow w w5 b N H5.out.1 (by have := HL4.out; omega)).mono ?_
        rintro e w6 ⟨va, rfl, ho, hf, _, hO⟩
        have H6 : Hid (w6.ownsRow 0 5 1 va (nb N.length) (vrow (pack N)) ∧ Ow w w6 b N ∧ Bo w.heap.size w6 (.slice a4 N.length c4) N) := ⟨ho, hO, H5.out.2.quiet hf⟩
        clear ho hO hf H5
        go_wp2_with fail
        refine (rbytes_any w6 _ N H6.out.2.2.bs (by have := HL4.out; omega)).mono ?_
        rintro e w7 ⟨vb, rfl, hp⟩
        have H7 : Hid (Src w7 va (pack N).length (vrow (pack N)) ∧ Src w7 vb (pack N).length (vrow (pack N)) ∧ Ow w w7 b N ∧ Bo w.heap.size w7 (.slice a4 N.length c4) N) := by
          refine ⟨?_, packed_src hp, H6.out.2.1.quiet hp.2.1, H6.out.2.2.quiet hp.2.1⟩
          rw [length_pack]; exact Src.of_row (hp.2.1.row H6.out.1 (fun _ _ => id))
        clear hp H6
        go_wp2_with fail
        refine (same_fr w7 va vb _ H7.out.1 H7.out.2.1).mono ?_
        rintro e w8 ⟨rfl, hf⟩
        have H8 : Hid (Ow w w8 b N ∧ Bo w.heap.size w8 (.slice a4 N.length c4) N) := ⟨H7.out.2.2.1.quiet hf, H7.out.2.2.2.quiet hf⟩
        clear hf H7
        go_wp2
        go_roundw
        case rel => exact ⟨k + 1, N, by omega, by omega, by go_num, HL4.out, H8.out.1, H8.out.2⟩
        case measure => simp [intOf]; omega
      · have H9 : Hid (Fr Nobody w wr) := HB.out.1.fr
        go_wp2
        go_ret
        exact ⟨rfl, H9.out.alloc _⟩
    · have H9 : Hid (Fr Nobody w wr) := HB.out.1.fr
      go_wp2
      go_ret
      exact ⟨rfl, H9.out⟩

theorem bitsWrites_walk (w : World) (a0 : Option Addr) (len0 cap0 : Nat) (z0 : List (Nat × Int)) (w0 : IsNums w a0 len0 cap0 z0) :
    Calls Try.prog 3 #[.slice a0 len0 cap0] w fun e w' => e = .returned (.bool true) ∧ Below w.heap.size w w' := by
  refine (bitsWrites_main w a0 len0 cap0 z0 w0).mono ?_
  rintro e w' ⟨rfl, hf⟩
  exact ⟨rfl, hf.below (Nat.le_refl _) (fun _ _ => id)⟩

theorem laidOut : laidOutB Try.prog = true := by kernel_rfl

set_option maxRecDepth 100000 in
theorem bitsWrites_lifted (os : Os) (started : os.Started) (H : Type) (enc : TypeId × Value → H) :
    ReturnsInHanded {} Try.checked os 3 .any (Rows.bitsWritesSpec.pre6 enc Try.prog Try.f3 Rows.bitsWritesRow.domain false) (Rows.bitsWritesSpec.post enc Try.prog Try.f3 false true false false) := by
  refine returnsInHanded_of_change (C := Try.checked) own started (by kernel_rfl) Try.func3
    (ChangeSpec.witness6 (enc := enc) (C := Try.checked) false ⟨#[], #[.slice none 0 0], []⟩ 8 (by kernel_rfl) (by kernel_rfl) (by kernel_rfl) (by kernel_rfl)) ?_
  intro W base args ds gs before hval0 hW hcnd _
  have hval : ∀ (j : Nat) t v, Try.f3.params[j]? = some t → args[j]? = some v → Value.okWide Try.prog W .any base t v := hval0
  have hW' := hW
  obtain ⟨p, q, hA0, hV, rfl, hfz, hnd⟩ := hW
  have hA : DataW.TrodAll enc Try.prog W 0 (fun _ => true) true Try.f3.params.toList args.toList ds p := hA0
  rw [Try.params3] at hA hval
  obtain ⟨v0, vs0, d0, ds0, p0, q0, hargs, rfl, rfl, h0, r0⟩ := trodAll_cons hA
  obtain ⟨rfl, rfl, rfl⟩ := trodAll_nil r0
  obtain rfl : args = #[v0] := by cases args; simp_all
  obtain ⟨rfl, rfl⟩ := trodVars_none hV
  obtain ⟨a0, len0, cap0, rfl⟩ := okWide_slice Try.underlying22 (hval 0 22 v0 rfl rfl)
  have k0 := h0
  have lt0 : ∀ x ∈ p0, x.block < W.heap.size := by obtain ⟨m, hm⟩ := k0; exact DataW.trod_lt m _ _ _ hm
  obtain ⟨z0, w0⟩ := open_nums (hval 0 22 _ rfl rfl) h0
  clear hA0 hval0
  refine (bitsWrites_walk W a0 len0 cap0 z0 w0).mono fun e W' ⟨he, bel⟩ => ?_
  subst he
  exact ⟨_, rfl, _, _, _, [], _, [], hW', trodAll_mk1 (shut_bool Try.underlying4 _), (trodAll_cons_mk (Below.trod laidOut (by kernel_rfl) (of_decide_eq_true (by kernel_rfl)) k0 bel lt0) trodAll_mk0), rfl, bel.frame _, fun h => by cases h⟩

theorem bitsWrites_holds : Rows.BitsWritesSaid :=
  OpenClaim.holds_of_wide 3 Try.f3 rfl rfl rfl rfl rfl rfl rfl ⟨rfl, rfl, rfl, rfl, rfl⟩ rfl rfl rfl rfl rfl (by kernel_rfl) Try.func3 (by kernel_rfl)
    (of_decide_eq_true (by kernel_rfl)) (by unfold Func.isWrapper; first | (rw [if_pos (by decide +kernel)]; kernel_rfl) | (rw [if_neg (by decide +kernel)]; exact ⟨rfl, rfl⟩))
    (fun os started H enc _ => bitsWrites_lifted os started H enc)


end Go.Proofs.Ytkdodinopehpnaa
