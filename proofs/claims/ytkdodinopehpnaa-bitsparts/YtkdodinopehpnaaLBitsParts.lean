/-
  For every v, n and k: a number put in two parts, the lower one first, stands as it stands whole: BitsParts returns true, whatever its arguments, and changes nothing that was there.
-/
import Derived.Test.YtkdodinopehpnaaAwa
import Derived.ProofKit
import Derived.OpenShut
namespace Go.Proofs.Ytkdodinopehpnaa
open Go.ChangeShapes Go.WideShapes Go.ChangeAt Go.RowKit
set_option linter.unusedVariables false

theorem own : ownKnob Try.prog.godebug = none := by kernel_rfl

theorem bitsN_add (i j v : Nat) : bitsN (i + j) v = bitsN i v ++ bitsN j (v / 2 ^ i) := by
  induction i generalizing v with
  | zero => simp [bitsN]
  | succ i ih => rw [Nat.succ_add, bitsN, ih, bitsN, List.cons_append, Nat.div_div_eq_div_mul, ← Nat.pow_succ']
theorem bitsN_mod (i v : Nat) : bitsN i (v % 2 ^ i) = bitsN i v := by
  have h := bitsN_num (bitsN i v)
  rw [length_bitsN, num_bitsN] at h
  exact h

/-- two writers that share nothing, made behind w0 -/
def Two (w0 w : World) (a b : Nat) (L M : List Bool) : Prop :=
  ∃ ga gb, Wr w0.heap.size w a ga L ∧ Wr w0.heap.size w b gb M ∧ a ≠ b ∧ ga ≠ some b ∧ gb ≠ some a ∧ (∀ k, ga = some k → gb ≠ some k) ∧ Fr Nobody w0 w
theorem Two.symm {w0 w : World} {a b : Nat} {L M : List Bool} (h : Two w0 w a b L M) : Two w0 w b a M L := by
  obtain ⟨ga, gb, h1, h2, h3, h4, h5, h6, h7⟩ := h
  exact ⟨gb, ga, h2, h1, fun e => h3 e.symm, h5, h4, fun k hk hg => h6 k hg hk, h7⟩
theorem Two.left {w0 w : World} {a b : Nat} {L M : List Bool} (h : Two w0 w a b L M) : Ow w0 w a L := by
  obtain ⟨ga, gb, h1, h2, h3, h4, h5, h6, h7⟩ := h
  exact ⟨ga, h1, h7⟩
theorem Two.quiet {w0 w w' : World} {a b : Nat} {L M : List Bool} (h : Two w0 w a b L M) (hf : Fr Nobody w w') : Two w0 w' a b L M := by
  obtain ⟨ga, gb, h1, h2, h3, h4, h5, h6, h7⟩ := h
  exact ⟨ga, gb, h1.quiet hf, h2.quiet hf, h3, h4, h5, h6, h7.trans hf⟩
theorem put_two (w0 w : World) (a b : Nat) (L M : List Bool) (v n : Nat) (h : Two w0 w a b L M) (hn : n ≤ 64) (hv : v < 2 ^ n) (hv2 : v < 18446744073709551616) (hl : L.length + n ≤ 1048576) :
    Calls Try.prog 12 #[.pointer (some ⟨a, 0, none⟩), .int .u64 v, .int .i64 n] w fun e w' => e = .returned (.int .i64 0) ∧ Two w0 w' a b (L ++ bitsN n v) M := by
  obtain ⟨ga, gb, h1, h2, h3, h4, h5, h6, h7⟩ := h
  refine (put_ok _ w a ga L v n h1 hn hv hv2 hl).mono ?_
  rintro e w' ⟨rfl, g', hW', hS⟩
  have hb := h2.lt
  have hgb := h2.glt
  have kb : ¬ At a ga b := by
    rintro (e | e)
    · exact h3 e.symm
    · exact h4 e.symm
  have kg : ∀ k, gb = some k → ¬ At a ga k := by
    rintro k hk (e | e)
    · subst e; exact h5 hk
    · exact h6 k e.symm hk
  refine ⟨rfl, g', gb, hW', h2.keep hS.fr kb kg, h3, ?_, h5, ?_, h7.fresh hS.fr h1.lowAt⟩
  · rcases hS.row with r | ⟨j, r, hj⟩
    · rw [r]; exact h4
    · rw [r]; intro e; cases e; omega
  · intro k hk
    rcases hS.row with r | ⟨j, r, hj⟩
    · exact h6 k (r.symm.trans hk)
    · rw [r] at hk; cases hk
      intro e; have := hgb _ e; omega
theorem put_two' (w0 w : World) (a b : Nat) (L M : List Bool) (v n : Nat) (x k : Int) (hx : x = (v : Int)) (hk : k = (n : Int)) (h : Two w0 w a b L M) (hn : n ≤ 64) (hv : v < 2 ^ n) (hv2 : v < 18446744073709551616) (hl : L.length + n ≤ 1048576) :
    Calls Try.prog 12 #[.pointer (some ⟨a, 0, none⟩), .int .u64 x, .int .i64 k] w fun e w' => e = .returned (.int .i64 0) ∧ Two w0 w' a b (L ++ bitsN n v) M := by
  subst hx; subst hk; exact put_two w0 w a b L M v n h hn hv hv2 hl

theorem new_two (w0 w : World) (a : Nat) (L : List Bool) (h : Ow w0 w a L) : Calls Try.prog 10 #[] w fun e w' => ∃ b, e = .returned (.pointer (some ⟨b, 0, none⟩)) ∧ Two w0 w' a b L [] := by
  obtain ⟨g, hW, hF⟩ := h
  refine (new_any w0.heap.size w hF.size).mono ?_
  rintro e w' ⟨b, rfl, hb, hW', hf⟩
  have h1 := hW.lt
  refine ⟨b, rfl, g, none, hW.quiet hf, hW', by omega, ?_, by simp, by simp, hF.trans hf⟩
  intro e
  have := hW.glt b e
  omega

theorem mask_val (v i : Nat) (hv : v < 18446744073709551616) (hi : i ≤ 64) : bits .and .u64 (v : Int) (IntKind.u64.wrap (IntKind.u64.wrap (2 ^ i) - 1)) = ((v % 2 ^ i : Nat) : Int) := by
  have hp : ((2 : Int) ^ i) = ((2 ^ i : Nat) : Int) := by simp
  have h0 : 0 < 2 ^ i := Nat.two_pow_pos _
  have h1 : 2 ^ i ≤ 18446744073709551616 := by
    have := Nat.pow_le_pow_right (n := 2) (by decide) hi
    simpa using this
  have e : IntKind.u64.wrap (IntKind.u64.wrap (2 ^ i) - 1) = ((2 ^ i - 1 : Nat) : Int) := by
    rw [IntKind.wrap_u64, IntKind.wrap_u64, hp]
    by_cases h : 2 ^ i = 18446744073709551616
    · rw [h]; rfl
    · omega
  rw [e, u64_and_nat v (2 ^ i - 1) hv (by omega), Nat.and_two_pow_sub_one_eq_mod]

theorem len_two (w0 w : World) (a b : Nat) (L M : List Bool) (h : Two w0 w a b L M) : Calls Try.prog 13 #[.pointer (some ⟨a, 0, none⟩)] w fun e w' => e = .returned (.int .i64 (L.length : Int)) ∧ Two w0 w' a b L M := by
  have hh := h
  obtain ⟨ga, gb, h1, _⟩ := h
  refine (len_any _ w a ga L h1).mono ?_
  rintro e w' ⟨rfl, rfl⟩
  exact ⟨rfl, hh⟩
theorem bytes_two (w0 w : World) (a b : Nat) (L M : List Bool) (h : Two w0 w a b L M) (hl : L.length ≤ 1048576) : Calls Try.prog 15 #[.pointer (some ⟨a, 0, none⟩)] w fun e w' => ∃ v', e = .returned v' ∧ w'.ownsRow 0 5 1 v' (nb L.length) (vrow (pack L)) ∧ Two w0 w' a b L M := by
  have hh := h
  obtain ⟨ga, gb, h1, _⟩ := h
  refine (bytes_any _ w a ga L h1 hl).mono ?_
  rintro e w' ⟨v', rfl, ho, hf, _⟩
  exact ⟨v', rfl, ho, hh.quiet hf⟩
theorem part_lt (y m low : Nat) (hl : low ≤ m) (hy : y < 2 ^ m) : y / 2 ^ low < 2 ^ (m - low) := by
  rw [Nat.div_lt_iff_lt_mul (Nat.two_pow_pos _), ← Nat.pow_add]
  have e : m - low + low = m := by omega
  rw [e]; exact hy
theorem parts_eq (y m low : Nat) (hl : low ≤ m) : bitsN low (y % 2 ^ low) ++ bitsN (m - low) (y / 2 ^ low) = bitsN m y := by
  rw [bitsN_mod, ← bitsN_add]
  have e : low + (m - low) = m := by omega
  rw [e]

set_option maxHeartbeats 1000000 in
theorem bitsParts_walk0 (v n k y z h m low : Nat) (hv : v < 18446744073709551616) (hn : n < 256) (hk : k < 256) (cm : (n : Int) % 65 = (m : Int)) (ck : (k : Int) % ((m : Int) + 1) = (low : Int)) (hm : m ≤ 64) (hlow : low ≤ m)
    (Hy : Hid (y < 2 ^ m ∧ y < 18446744073709551616 ∧ z = y % 2 ^ low ∧ h = y / 2 ^ low))
    (hc : (m < 64 ∧ low < 64) ∨ (¬ m < 64 ∧ low < 64 ∧ y = v) ∨ (¬ m < 64 ∧ ¬ low < 64 ∧ y = v ∧ h = 0)) (hy : bits .and .u64 (v : Int) (IntKind.u64.wrap (IntKind.u64.wrap (2 ^ m) - 1)) = (y : Int)) (hz : bits .and .u64 (y : Int) (IntKind.u64.wrap (IntKind.u64.wrap (2 ^ low) - 1)) = (z : Int))
    (hh : (y : Int) / 2 ^ low = (h : Int)) (w : World) :
    Calls Try.prog 8 #[.int .u64 v, .int .u8 n, .int .u8 k] w fun e w' => e = .returned (.bool true) ∧ Below w.heap.size w w' := by
  rcases hc with ⟨hmm, hll⟩ | ⟨hmm, hll, rfl⟩ | ⟨hmm, hll, rfl, rfl⟩
  all_goals
    go_enter Try.func8, Try.ntmps8
    go_wp2_with fail
    refine (awake1 w).mono ?_
    rintro e w1 ⟨rfl, hf⟩
    have H1 : Hid (Fr Nobody w w1) := hf
    clear hf
    go_wp2_with fail
    refine (new_ow w w1 H1.out).mono ?_
    rintro e w2 ⟨a, rfl, ha, hW⟩
    have H2 : Hid (Ow w w2 a []) := hW
    clear hW H1 ha
    go_wp2_with fail
    refine (new_two w w2 a [] H2.out).mono ?_
    rintro e w3 ⟨b, rfl, hW⟩
    have H3 : Hid (Two w w3 a b [] []) := hW
    clear hW H2
    go_wp2_with fail
    refine (put_two w w3 a b [] [] y m H3.out hm Hy.out.1 Hy.out.2.1 (by simp; omega)).mono ?_
    rintro e w4 ⟨rfl, hW⟩
    have H4 : Hid (Two w w4 a b (bitsN m y) []) := hW
    clear hW H3
    go_wp2_with fail
    refine (put_two w w4 b a [] _ z low H4.out.symm (by omega) (by rw [Hy.out.2.2.1]; exact Nat.mod_lt _ (Nat.two_pow_pos _)) (by rw [Hy.out.2.2.1]; exact Nat.lt_of_le_of_lt (Nat.mod_le _ _) Hy.out.2.1) (by simp; omega)).mono ?_
    rintro e w5 ⟨rfl, hW⟩
    have H5 : Hid (Two w w5 b a (bitsN low z) (bitsN m y)) := hW
    clear hW H4
    go_wp2_with fail
    first
      | refine (put_two' w w5 b a _ _ h (m - low) (h : Int) ((m : Int) - (low : Int)) rfl (by omega) H5.out (by omega) (Hy.out.2.2.2 ▸ part_lt y m low hlow Hy.out.1) (Hy.out.2.2.2 ▸ Nat.lt_of_le_of_lt (Nat.div_le_self _ _) Hy.out.2.1) (by rw [length_bitsN]; omega)).mono ?_
      | refine (put_two' w w5 b a _ _ 0 (m - low) 0 ((m : Int) - (low : Int)) rfl (by omega) H5.out (by omega) (Nat.two_pow_pos _) (by decide) (by rw [length_bitsN]; omega)).mono ?_
    rintro e w6 ⟨rfl, hW⟩
    have H6 : Hid (Two w w6 a b (bitsN m y) (bitsN m y)) := by
      have hW2 := hW.symm
      rw [Hy.out.2.2.1] at hW2
      have e1 := parts_eq y m low hlow
      rw [← Hy.out.2.2.2] at e1
      rw [e1] at hW2
      exact hW2
    clear hW H5
    go_wp2_with fail
    refine (len_two w w6 a b _ _ H6.out).mono ?_
    rintro e w7 ⟨rfl, hW⟩
    have H7 : Hid (Two w w7 a b (bitsN m y) (bitsN m y)) := hW
    clear hW H6
    go_wp2_with fail
    refine (len_two w w7 b a _ _ H7.out.symm).mono ?_
    rintro e w8 ⟨rfl, hW⟩
    have H8 : Hid (Two w w8 b a (bitsN m y) (bitsN m y)) := hW
    clear hW H7
    go_wp2_with fail
    refine (bytes_two w w8 a b _ _ H8.out.symm (by rw [length_bitsN]; omega)).mono ?_
    rintro e w9 ⟨va, rfl, ho, hW⟩
    have H9 : Hid (w9.ownsRow 0 5 1 va (nb (bitsN m y).length) (vrow (pack (bitsN m y))) ∧ Two w w9 a b (bitsN m y) (bitsN m y)) := ⟨ho, hW⟩
    clear hW ho H8
    go_wp2_with fail
    refine (bytes_ow w w9 b _ H9.out.2.symm.left (by rw [length_bitsN]; omega)).mono ?_
    rintro e w10 ⟨vb, rfl, ho, hf, hk', hW⟩
    have H10 : Hid (Src w10 va (pack (bitsN m y)).length (vrow (pack (bitsN m y))) ∧ Src w10 vb (pack (bitsN m y)).length (vrow (pack (bitsN m y))) ∧ Fr Nobody w w10) := by
      rw [length_pack]
      exact ⟨Src.of_row (hf.row H9.out.1 (fun _ _ => id)), Src.of_row ho, hW.fr⟩
    clear hW ho hf hk' H9
    go_wp2_with fail
    refine (same_fr w10 va vb _ H10.out.1 H10.out.2.1).mono ?_
    rintro e w11 ⟨rfl, hf⟩
    have H11 : Hid (Fr Nobody w w11) := H10.out.2.2.trans hf
    clear hf H10
    go_wp2
    go_ret
    exact ⟨rfl, H11.out.below (Nat.le_refl _) (fun _ _ => id)⟩

theorem bitsParts_walk (a0 : Int) (w0 : (Lit.int .u64 a0).wf = true) (a1 : Int) (w1 : (Lit.int .u8 a1).wf = true) (a2 : Int) (w2 : (Lit.int .u8 a2).wf = true) (w : World) :
    Calls Try.prog 8 #[.int .u64 a0, .int .u8 a1, .int .u8 a2] w fun e w' => e = .returned (.bool true) ∧ Below w.heap.size w w' := by
  have hx0 : 0 ≤ a0 ∧ a0 ≤ 18446744073709551615 := by simpa [Lit.wf, IntKind.min, IntKind.max, IntKind.signed, IntKind.bits] using w0
  have hx1 : 0 ≤ a1 ∧ a1 ≤ 255 := by simpa [Lit.wf, IntKind.min, IntKind.max, IntKind.signed, IntKind.bits] using w1
  have hx2 : 0 ≤ a2 ∧ a2 ≤ 255 := by simpa [Lit.wf, IntKind.min, IntKind.max, IntKind.signed, IntKind.bits] using w2
  obtain ⟨v, rfl⟩ := Int.eq_ofNat_of_zero_le hx0.1
  obtain ⟨n, rfl⟩ := Int.eq_ofNat_of_zero_le hx1.1
  obtain ⟨k, rfl⟩ := Int.eq_ofNat_of_zero_le hx2.1
  have hm : n % 65 ≤ 64 := by omega
  have hlow : k % (n % 65 + 1) ≤ n % 65 := by have := Nat.mod_lt k (show 0 < n % 65 + 1 by omega); omega
  have hv : v < 18446744073709551616 := by omega
  have hyl : v % 2 ^ (n % 65) < 2 ^ (n % 65) := Nat.mod_lt _ (Nat.two_pow_pos _)
  have hyv : v % 2 ^ (n % 65) ≤ v := Nat.mod_le _ _
  refine bitsParts_walk0 v n k (v % 2 ^ (n % 65)) (v % 2 ^ (n % 65) % 2 ^ (k % (n % 65 + 1))) (v % 2 ^ (n % 65) / 2 ^ (k % (n % 65 + 1))) (n % 65) (k % (n % 65 + 1)) hv (by omega) (by omega) (by omega) ?_ hm hlow ⟨hyl, by omega, rfl, rfl⟩ ?_ (mask_val v (n % 65) hv hm) (mask_val _ _ (by omega) (by omega)) (by simp) w
  · have h := Int.natCast_emod k (n % 65 + 1)
    rw [Int.natCast_add] at h
    exact h.symm
  · by_cases h1 : n % 65 < 64
    · left; omega
    · have e64 : n % 65 = 64 := by omega
      have ey : v % 2 ^ (n % 65) = v := by rw [e64]; exact Nat.mod_eq_of_lt hv
      by_cases h2 : k % (n % 65 + 1) < 64
      · right; left; exact ⟨h1, h2, ey⟩
      · have e2 : k % (n % 65 + 1) = 64 := by omega
        right; right
        refine ⟨h1, h2, ey, ?_⟩
        rw [ey, e2]; exact Nat.div_eq_of_lt hv

theorem bitsParts_lifted (os : Os) (started : os.Started) (H : Type) (enc : TypeId × Value → H) :
    ReturnsInHanded {} Try.checked os 8 .any (Rows.bitsPartsSpec.pre6 enc Try.prog Try.f8 Rows.bitsPartsRow.domain false) (Rows.bitsPartsSpec.post enc Try.prog Try.f8 false true false false) := by
  refine returnsInHanded_of_change (C := Try.checked) own started (by kernel_rfl) Try.func8
    (ChangeSpec.witness6 (enc := enc) (C := Try.checked) false ⟨#[], #[.int .u64 0, .int .u8 0, .int .u8 0], []⟩ 8 (by kernel_rfl) (by kernel_rfl) (by kernel_rfl) (by kernel_rfl)) ?_
  intro W base args ds gs before hval0 hW hcnd _
  have hval : ∀ (j : Nat) t v, Try.f8.params[j]? = some t → args[j]? = some v → Value.okWide Try.prog W .any base t v := hval0
  have hW' := hW
  obtain ⟨p, q, hA0, hV, rfl, hfz, hnd⟩ := hW
  have hA : DataW.TrodAll enc Try.prog W 0 (fun _ => true) true Try.f8.params.toList args.toList ds p := hA0
  rw [Try.params8] at hA hval
  obtain ⟨v0, vs0, d0, ds0, p0, q0, hargs, rfl, rfl, h0, r0⟩ := trodAll_cons hA
  obtain ⟨v1, vs1, d1, ds1, p1, q1, rfl, rfl, rfl, h1, r1⟩ := trodAll_cons r0
  obtain ⟨v2, vs2, d2, ds2, p2, q2, rfl, rfl, rfl, h2, r2⟩ := trodAll_cons r1
  obtain ⟨rfl, rfl, rfl⟩ := trodAll_nil r2
  obtain rfl : args = #[v0, v1, v2] := by cases args; simp_all
  obtain ⟨rfl, rfl⟩ := trodVars_none hV
  obtain ⟨a0, rfl, rfl, rfl, w0⟩ := open_int Try.underlying27 (hval 0 27 v0 rfl rfl) h0
  obtain ⟨a1, rfl, rfl, rfl, w1⟩ := open_int Try.underlying5 (hval 1 5 v1 rfl rfl) h1
  obtain ⟨a2, rfl, rfl, rfl, w2⟩ := open_int Try.underlying5 (hval 2 5 v2 rfl rfl) h2
  clear hA0 hval0
  refine (bitsParts_walk a0 w0 a1 w1 a2 w2 W).mono fun e W' ⟨he, bel⟩ => ?_
  subst he
  exact ⟨_, rfl, _, _, _, [], _, [], hW', trodAll_mk1 (shut_bool Try.underlying4 _), (trodAll_cons_mk (shut_int Try.underlying27 w0) (trodAll_cons_mk (shut_int Try.underlying5 w1) (trodAll_cons_mk (shut_int Try.underlying5 w2) trodAll_mk0))), rfl, bel.frame _, fun h => by cases h⟩

theorem bitsParts_holds : Rows.BitsPartsSaid :=
  OpenClaim.holds_of_wide 8 Try.f8 rfl rfl rfl rfl rfl rfl rfl ⟨rfl, rfl, rfl, rfl, rfl⟩ rfl rfl rfl rfl rfl (by kernel_rfl) Try.func8 (by kernel_rfl)
    (of_decide_eq_true (by kernel_rfl)) (by unfold Func.isWrapper; first | (rw [if_pos (by decide +kernel)]; kernel_rfl) | (rw [if_neg (by decide +kernel)]; exact ⟨rfl, rfl⟩))
    (fun os started H enc _ => bitsParts_lifted os started H enc)


end Go.Proofs.Ytkdodinopehpnaa
