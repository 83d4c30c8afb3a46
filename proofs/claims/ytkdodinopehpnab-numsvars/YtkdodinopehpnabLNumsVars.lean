/-
  For every bytes ahead, v and n: PutVar and PutInt write just the document's groups behind them, and GetVar and GetInt read both again, to the end: NumsVars returns true, whatever its arguments, and changes nothing that was there.
-/
import Derived.Test.YtkdodinopehpnabVb
import Derived.ProofKit
import Derived.OpenShut
import Derived.ShutString
import Derived.ChangeOld
namespace Go.Proofs.Ytkdodinopehpnab
open Go.ChangeShapes Go.WideShapes Go.ChangeAt Go.RowKit
set_option linter.unusedVariables false

theorem own : ownKnob Try.prog.godebug = none := by kernel_rfl

theorem packed_src {w w' : World} {v : Value} {L : List Bool} (h : Packed w w' v L) : Src w' v (pack L).length (vrow (pack L)) := by
  rw [length_pack]; exact Src.of_row h.1

/-- what stands behind L -/
theorem back_at (L A B : List Bool) : ∃ R, (bitsB (pack (L ++ A ++ B))).drop L.length = A ++ (B ++ R) ∧ (bitsB (pack (L ++ A ++ B))).drop (L.length + A.length) = B ++ R := by
  refine ⟨List.replicate (8 * nb (L ++ A ++ B).length - (L ++ A ++ B).length) false, ?_, ?_⟩
  · rw [bitsB_pack]
    generalize List.replicate _ false = z
    rw [List.append_assoc, List.append_assoc, List.drop_left]
  · rw [bitsB_pack]
    generalize List.replicate _ false = z
    rw [← List.length_append, List.append_assoc (L ++ A), List.drop_left]

set_option maxHeartbeats 40000000 in
theorem numsVars_fin (w : World) (ao : Option Addr) (len cap : Nat) (P : List Int) (x : Nat) (n : Int) (hx : x < 18446744073709551616) (h0 : -9223372036854775808 ≤ n) (h1 : n ≤ 9223372036854775807)
    (hP : Ints .u8 w ao P) (hl : P.length = len) (hb : ∀ x ∈ P, 0 ≤ x ∧ x ≤ 255) (hm : len ≤ maxLen) :
    Calls Try.prog 3 #[.slice ao len cap, .int .u64 (x : Int), .int .i64 n] w fun e w' => e = .returned (.bool true) ∧ Fr Nobody w w' := by
  have HP : Hid (Ints .u8 w ao P ∧ P.length = len ∧ (∀ x ∈ P, 0 ≤ x ∧ x ≤ 255) ∧ len ≤ maxLen) := ⟨hP, hl, hb, hm⟩
  have hz := zig_lt n h0 h1
  have g1 := grp_bd x hx
  have g2 := grp_bd (zig n) hz
  have l1 : (var x).length ≤ 80 := by rw [length_var]; omega
  have l2 : (var (zig n)).length ≤ 80 := by rw [length_var]; omega
  have G1 : Hid _ := fun w => rvar_any w x hx
  have G2 : Hid _ := fun w => rvar_any w (zig n) hz
  have G3 : Hid _ := fun w => rzig_any n w h0 h1
  have G4 : Hid (∀ w0 w b L u M, Pair w0 w b L u M → L.length ≤ 60 → _) := fun w0 w b L u M h hL => putVar_pair w0 w b L u M x h hx (by omega)
  have G5 : Hid (∀ w0 w b L u M, Pair w0 w b L u M → L.length ≤ 140 → _) := fun w0 w b L u M h hL => putInt_pair w0 w b L u M n h h0 h1 (by omega)
  have G6 : Hid (∀ (w0 w : World) br (L : List Bool), Or w0 w br (pack (L ++ var x ++ var (zig n))) L.length → Calls Try.prog 21 #[.pointer (some ⟨br, 0, none⟩)] w fun e w' => e = .returned (.tuple #[.int .u64 (x : Int), .int .i64 0]) ∧ Or w0 w' br (pack (L ++ var x ++ var (zig n))) (L.length + (var x).length)) := by
    intro w0 w br L h
    obtain ⟨R, e1, e2⟩ := back_at L (var x) (var (zig n))
    have hh := getVar_or w0 w br _ _ h
    rw [e1, gv_var x hx, ← length_var] at hh
    exact hh
  have G7 : Hid (∀ (w0 w : World) br (L : List Bool), Or w0 w br (pack (L ++ var x ++ var (zig n))) (L.length + (var x).length) → Calls Try.prog 22 #[.pointer (some ⟨br, 0, none⟩)] w fun e w' => e = .returned (.tuple #[.int .i64 n, .int .i64 0]) ∧ Or w0 w' br (pack (L ++ var x ++ var (zig n))) (L ++ var x ++ var (zig n)).length) := by
    intro w0 w br L h
    obtain ⟨R, e1, e2⟩ := back_at L (var x) (var (zig n))
    have hh := getInt_or w0 w br _ _ h
    rw [e2, gv_var (zig n) hz] at hh
    simp only [zag_zig] at hh
    rw [List.length_append, List.length_append, length_var (zig n)]
    exact hh
  generalize var x = A at *
  generalize hB : var (zig n) = B at *
  clear hB
  generalize zig n = zn at *
  clear hP hl hb hm g1 g2
  have t1 : ((x : Int) == (x : Int)) = true := by simp
  have t2 : (n == n) = true := by simp
  go_enter Try.func3, Try.ntmps3
  go_wp2_with fail
  refine (awake2 w).mono ?_
  rintro e w1 ⟨rfl, hf⟩
  have F1 : Hid (Fr Nobody w w1) := hf
  clear hf
  go_wp2_with fail
  refine (written_any w w1 ao len cap P F1.out HP.out.1 HP.out.2.1 HP.out.2.2.1 HP.out.2.2.2).mono ?_
  rintro e w2 ⟨b, v, L, rfl, hB, hL, hL3⟩
  have H2 : Hid (Pair w w2 b L v L) := hB
  obtain ⟨av, cv, hv⟩ := row_any hB.2
  subst hv
  obtain ⟨m, HM⟩ : ∃ m, Hid (L.length = 3 * m) := ⟨L.length / 3, by show _ = _; omega⟩
  clear hB F1 HP hL3
  obtain ⟨K, HK⟩ : ∃ K, Hid (L ++ A = K) := ⟨_, rfl⟩
  obtain ⟨N, HN⟩ : ∃ N, Hid (K ++ B = N) := ⟨_, rfl⟩
  have hKl : K.length ≤ 140 := by rw [← HK.out, List.length_append]; omega
  have hNl : N.length ≤ 300 := by rw [← HN.out, List.length_append]; omega
  have G4' : Hid (True → _) := fun _ => G4.out w w2 b L (.slice av L.length cv) L H2.out hL
  rw [HK.out] at G4'
  have G5' : Hid _ := fun w' h => G5.out w w' b K (.slice av L.length cv) L h hKl
  rw [HN.out] at G5'
  have HG6 : Hid _ := fun w0 w br => G6.out w0 w br L
  have HG7 : Hid _ := fun w0 w br => G7.out w0 w br L
  have HLN : L.length ≤ N.length := by rw [← HN.out, ← HK.out, List.length_append, List.length_append]; omega
  rw [HK.out, HN.out] at HG6 HG7
  have HE : Hid (endOf (pack N) N.length = 0) := end_back _
  have HPL : Hid (∀ x ∈ pack N, x < 256) := pack_lt _
  have hPK2 : N.length ≤ 8 * (pack N).length ∧ (pack N).length ≤ 300 := by rw [length_pack]; unfold nb; omega
  generalize L.length + A.length = LA at *
  clear G4 G5 G6 G7
  go_wp2_with fail
  refine (G4'.out trivial).mono ?_
  rintro e w3 ⟨rfl, hO⟩
  have H3 : Hid (Pair w w3 b K (.slice av L.length cv) L) := hO
  clear hO H2 G4'
  go_wp2_with fail
  refine (G5'.out w3 H3.out).mono ?_
  rintro e w4 ⟨rfl, hO⟩
  have H4 : Hid (Pair w w4 b N (.slice av L.length cv) L) := hO
  clear hO H3 G5'
  go_wp2_with fail
  refine (G1.out w4).mono ?_
  rintro e w5 ⟨u, rfl, hU, hf⟩
  have H5 : Hid (Pair w w5 b N (.slice av L.length cv) L ∧ Bs w5 u A) := ⟨H4.out.quiet hf, hU.bs⟩
  clear hU hf H4
  go_wp2_with (at_builtin; refine append_bits rfl _ _ rfl w.heap.size _ u L A H5.out.1.2 H5.out.2 (by omega) (by omega) H5.out.1.1.fr.size rfl rfl ?_)
  intro v6 w6 hB6 hg6
  have H6 : Hid (Pair w w6 b N v6 K) := ⟨H5.out.1.1.grown H5.out.1.2 hg6, by rw [← HK.out]; exact hB6⟩
  clear hB6 hg6 H5 HK
  go_wp2_with fail
  refine (G3.out w6).mono ?_
  rintro e w' ⟨rfl, rfl⟩
  go_wp2_with fail
  refine (G2.out _).mono ?_
  rintro e w7 ⟨u7, rfl, hU, hf⟩
  have H7 : Hid (Pair w w7 b N v6 K ∧ Bs w7 u7 B) := ⟨H6.out.quiet hf, hU.bs⟩
  clear hU hf H6
  go_wp2_with (at_builtin; refine append_bits rfl _ _ rfl w.heap.size _ u7 K B H7.out.1.2 H7.out.2 (by omega) (by omega) H7.out.1.1.fr.size rfl rfl ?_)
  intro v8 w8 hB8 hg8
  have hB9 := hB8
  rw [HN.out] at hB9
  have H8 : Hid (Ow w w8 b N ∧ Bs w8 v8 N) := ⟨H7.out.1.1.grown H7.out.1.2 hg8, hB9.bs⟩
  obtain ⟨a8, c8, hv8⟩ := row_any hB9
  subst hv8
  clear hB8 hB9 hg8 H7 HN G1 G2 G3
  have t3 : ((N.length : Int) != (N.length : Int)) = false := by simp
  go_wp2_with fail
  refine (len_fr w w8 b N H8.out.1).mono ?_
  rintro e w9 ⟨rfl, hf⟩
  have H9 : Hid (Ow w w9 b N ∧ Bs w9 (.slice a8 N.length c8) N) := ⟨H8.out.1.quiet hf, H8.out.2.quiet hf⟩
  clear hf H8
  go_wp2_with fail
  refine (bytes_ow w w9 b N H9.out.1 (by omega)).mono ?_
  rintro e w10 ⟨va, rfl, ho, hf, _, hO⟩
  have H10 : Hid (Ow w w10 b N ∧ Bs w10 (.slice a8 N.length c8) N ∧ w10.ownsRow 0 5 1 va (nb N.length) (vrow (pack N))) := ⟨hO, H9.out.2.quiet hf, ho⟩
  clear ho hf hO H9
  go_wp2_with fail
  refine (rbytes_any w10 _ N H10.out.2.1 (by omega)).mono ?_
  rintro e w11 ⟨vb, rfl, hp⟩
  have H11 : Hid (Src w11 va (pack N).length (vrow (pack N)) ∧ Src w11 vb (pack N).length (vrow (pack N)) ∧ Ow w w11 b N) := by
    refine ⟨?_, packed_src hp, H10.out.1.quiet hp.2.1⟩
    rw [length_pack]; exact Src.of_row (hp.2.1.row H10.out.2.2 (fun _ _ => id))
  clear hp H10
  go_wp2_with fail
  refine (same_fr w11 va vb _ H11.out.1 H11.out.2.1).mono ?_
  rintro e w12 ⟨rfl, hf⟩
  have H12 : Hid (Ow w w12 b N) := H11.out.2.2.quiet hf
  clear hf H11
  go_wp2_with fail
  refine (bytes_ow w w12 b N H12.out (by omega)).mono ?_
  rintro e w13 ⟨vc, rfl, ho, _, _, hO⟩
  have H13 : Hid (Fr Nobody w w13 ∧ Src w13 vc (pack N).length (vrow (pack N))) := ⟨hO.fr, by rw [length_pack]; exact Src.of_row ho⟩
  clear ho hO H12
  go_wp2_with fail
  refine (read_or w w13 vc (pack N) H13.out.1 H13.out.2 HPL.out (by omega)).mono ?_
  rintro e w14 ⟨br, rfl, _, hO, _⟩
  have H14 : Hid (Or w w14 br (pack N) 0) := hO
  clear hO H13
  have hk : ((L.length : Nat) : Int) / 3 = (m : Int) := by have := HM.out; omega
  have hm20 : m ≤ 20 := by have := HM.out; omega
  generalize L.length = ll at *
  go_wp2
  clear hk
  go_loopw [60] (fun c wr => ∃ i : Nat, i ≤ m ∧ c = .int .i64 i ∧ Or w wr br (pack N) (3 * i)) (fun c _ => m - (intOf c).toNat)
  case atStart => exact ⟨0, Nat.zero_le _, rfl, H14.out⟩
  case round =>
    obtain ⟨i, hi, rfl, hO⟩ := hrel
    have HO : Hid (Or w wr br (pack N) (3 * i)) := hO
    clear hO H14
    by_cases hlt : i < m
    · have HI : Hid (i + 1 ≤ m) := hlt
      go_wp2_with fail
      refine (get_or w wr br (pack N) (3 * i) 3 HO.out (by decide) (by have := HM.out; have := HI.out; omega)).mono ?_
      rintro e w15 ⟨rfl, hO⟩
      have H15 : Hid (Or w w15 br (pack N) (3 * (i + 1))) := hO
      clear hO HO
      go_wp2
      go_roundw
      case rel => exact ⟨i + 1, HI.out, by go_num, H15.out⟩
      case measure => have := HI.out; simp [intOf]; omega
    · have HO2 : Hid (Or w wr br (pack N) ll) := by
        have h := HO.out
        rw [show 3 * i = ll from by have := HM.out; omega] at h
        exact h
      clear HO HM
      go_wp2_with fail
      refine (HG6.out w wr br HO2.out).mono ?_
      rintro e w16 ⟨rfl, hO⟩
      have H16 : Hid (Or w w16 br (pack N) LA) := hO
      clear hO HO2
      go_wp2_with fail
      refine (HG7.out w w16 br H16.out).mono ?_
      rintro e w17 ⟨rfl, hO⟩
      have H17 : Hid (Or w w17 br (pack N) N.length) := hO
      clear hO H16
      go_wp2_with fail
      refine (end_or w w17 br (pack N) N.length H17.out).mono ?_
      rw [HE.out]
      rintro e w18 ⟨rfl, hO⟩
      have H18 : Hid (Fr Nobody w w18) := hO.fr
      clear hO H17
      go_wp2
      go_ret
      exact ⟨rfl, H18.out⟩

theorem numsVars_walk (w : World) (a0 : Option Addr) (len0 cap0 : Nat) (z0 : List Int) (w0 : IsRow .u8 w a0 len0 cap0 z0) (a1 : Int) (w1 : (Lit.int .u64 a1).wf = true) (a2 : Int) (w2 : (Lit.int .i64 a2).wf = true) :
    Calls Try.prog 3 #[.slice a0 len0 cap0, .int .u64 a1, .int .i64 a2] w fun e w' => e = .returned (.bool true) ∧ Below w.heap.size w w' := by
  have hx1 : 0 ≤ a1 ∧ a1 ≤ 18446744073709551615 := by simpa [Lit.wf, IntKind.min, IntKind.max, IntKind.signed, IntKind.bits] using w1
  have hx2 : -9223372036854775808 ≤ a2 ∧ a2 ≤ 9223372036854775807 := by simpa [Lit.wf, IntKind.min, IntKind.max, IntKind.signed, IntKind.bits] using w2
  obtain ⟨hl, hm, hI, hw⟩ := w0.ints
  have hb : ∀ x ∈ z0.take len0, 0 ≤ x ∧ x ≤ 255 := fun x hx => by
    have := hw x hx
    simpa [Lit.wf, IntKind.min, IntKind.max, IntKind.signed, IntKind.bits] using this
  obtain ⟨x, rfl⟩ := Int.eq_ofNat_of_zero_le hx1.1
  refine (numsVars_fin w a0 len0 cap0 _ x a2 (by omega) hx2.1 hx2.2 hI hl hb hm).mono ?_
  rintro e w' ⟨rfl, hf⟩
  exact ⟨rfl, hf.below (Nat.le_refl _) (fun _ _ => id)⟩

theorem laidOut : laidOutB Try.prog = true := by kernel_rfl

set_option maxRecDepth 100000 in
theorem numsVars_lifted (os : Os) (started : os.Started) (H : Type) (enc : TypeId × Value → H) :
    ReturnsInHanded {} Try.checked os 3 .any (Rows.numsVarsSpec.pre6 enc Try.prog Try.f3 Rows.numsVarsRow.domain false) (Rows.numsVarsSpec.post enc Try.prog Try.f3 false true false false) := by
  refine returnsInHanded_of_change (C := Try.checked) own started (by kernel_rfl) Try.func3
    (ChangeSpec.witness6 (enc := enc) (C := Try.checked) false ⟨#[], #[.slice none 0 0, .int .u64 0, .int .i64 0], []⟩ 8 (by kernel_rfl) (by kernel_rfl) (by kernel_rfl) (by kernel_rfl)) ?_
  intro W base args ds gs before hval0 hW hcnd _
  have hval : ∀ (j : Nat) t v, Try.f3.params[j]? = some t → args[j]? = some v → Value.okWide Try.prog W .any base t v := hval0
  have hW' := hW
  obtain ⟨p, q, hA0, hV, rfl, hfz, hnd⟩ := hW
  have hA : DataW.TrodAll enc Try.prog W 0 (fun _ => true) true Try.f3.params.toList args.toList ds p := hA0
  rw [Try.params3] at hA hval
  obtain ⟨v0, vs0, d0, ds0, p0, q0, hargs, rfl, rfl, h0, r0⟩ := trodAll_cons hA
  obtain ⟨v1, vs1, d1, ds1, p1, q1, rfl, rfl, rfl, h1, r1⟩ := trodAll_cons r0
  obtain ⟨v2, vs2, d2, ds2, p2, q2, rfl, rfl, rfl, h2, r2⟩ := trodAll_cons r1
  obtain ⟨rfl, rfl, rfl⟩ := trodAll_nil r2
  obtain rfl : args = #[v0, v1, v2] := by cases args; simp_all
  obtain ⟨rfl, rfl⟩ := trodVars_none hV
  obtain ⟨a0, len0, cap0, rfl⟩ := okWide_slice Try.underlying22 (hval 0 22 v0 rfl rfl)
  have k0 := h0
  have lt0 : ∀ x ∈ p0, x.block < W.heap.size := by obtain ⟨m, hm⟩ := k0; exact DataW.trod_lt m _ _ _ hm
  obtain ⟨z0, w0⟩ : ∃ zs, IsRow .u8 W a0 len0 cap0 zs := by
    obtain ⟨fuel, hf⟩ := h0
    rcases open_ints Try.underlying22 Try.underlying5 (by kernel_rfl) hf with ⟨hcs, _⟩ | ⟨x, l, c, zs, hcs, _, hl, hm, hz, _, hcell, hwz⟩
    · simp [Value.cells] at hcs
      obtain ⟨rfl, rfl, rfl⟩ := hcs
      exact ⟨[], .inl ⟨rfl, rfl, rfl, rfl⟩⟩
    · simp [Value.cells] at hcs
      obtain ⟨rfl, rfl, rfl⟩ := hcs
      exact ⟨zs, .inr ⟨_, rfl, hl, hm, by simpa using hz, hcell, hwz⟩⟩
  obtain ⟨a1, rfl, rfl, rfl, w1⟩ := open_int Try.underlying23 (hval 1 23 v1 rfl rfl) h1
  obtain ⟨a2, rfl, rfl, rfl, w2⟩ := open_int Try.underlying2 (hval 2 2 v2 rfl rfl) h2
  clear hA0 hval0
  refine (numsVars_walk W a0 len0 cap0 z0 w0 a1 w1 a2 w2).mono fun e W' ⟨he, bel⟩ => ?_
  subst he
  exact ⟨_, rfl, _, _, _, [], _, [], hW', trodAll_mk1 (shut_bool Try.underlying4 _), (trodAll_cons_mk (Below.trod laidOut (by kernel_rfl) (of_decide_eq_true (by kernel_rfl)) k0 bel lt0) (trodAll_cons_mk (shut_int Try.underlying23 w1) (trodAll_cons_mk (shut_int Try.underlying2 w2) trodAll_mk0))), rfl, bel.frame _, fun h => by cases h⟩

theorem numsVars_holds : Rows.NumsVarsSaid :=
  OpenClaim.holds_of_wide 3 Try.f3 rfl rfl rfl rfl rfl rfl rfl ⟨rfl, rfl, rfl, rfl, rfl⟩ rfl rfl rfl rfl rfl (by kernel_rfl) Try.func3 (by kernel_rfl)
    (of_decide_eq_true (by kernel_rfl)) (by unfold Func.isWrapper; first | (rw [if_pos (by decide +kernel)]; kernel_rfl) | (rw [if_neg (by decide +kernel)]; exact ⟨rfl, rfl⟩))
    (fun os started H enc _ => numsVars_lifted os started H enc)

end Go.Proofs.Ytkdodinopehpnab
