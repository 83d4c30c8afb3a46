/-
  For every bytes ahead, n, lo and hi: PutIn writes just the document's bits, or is refused and writes nothing, and Width is the document's: NumsRanges returns true, whatever its arguments, and changes nothing that was there.
-/
import Derived.Test.YtkdodinopehpnabRd
import Derived.ProofKit
import Derived.OpenShut
import Derived.ShutString
import Derived.ChangeOld
namespace Go.Proofs.Ytkdodinopehpnab
open Go.ChangeShapes Go.WideShapes Go.ChangeAt Go.RowKit
set_option linter.unusedVariables false

theorem own : ownKnob Try.prog.godebug = none := by kernel_rfl

/-- the end of the law's walk: a writer and a list of the same bits -/
def Ready (w0 w : World) (b : Nat) (v : Value) (L : List Bool) : Prop := Ow w0 w b L ∧ Bs w v L ∧ L.length ≤ 200

theorem packed_src {w w' : World} {v : Value} {L : List Bool} (h : Packed w w' v L) : Src w' v (pack L).length (vrow (pack L)) := by
  rw [length_pack]; exact Src.of_row h.1

theorem len_fr (w0 w : World) (b : Nat) (L : List Bool) (h : Ow w0 w b L) : Calls Try.prog 15 #[.pointer (some ⟨b, 0, none⟩)] w fun e w' => e = .returned (.int .i64 (L.length : Int)) ∧ Fr Nobody w w' := by
  obtain ⟨g, hW, hF⟩ := h
  refine (len_any _ w b g L hW).mono ?_
  rintro e w' ⟨rfl, rfl⟩
  exact ⟨rfl, Fr.refl _ _⟩

set_option maxHeartbeats 400000 in
/-- PutIn where a list and a slice of bits lie beside the writer -/
theorem putIn_keep (w0 w : World) (b : Nat) (v N : Value) (L M : List Bool) (n lo hi : Int) (d : Nat) (hd : n = lo + (d : Int)) (h : Ow w0 w b L) (hB : Bo w0.heap.size w v L) (hN : Bs w N M) (h0 : -9223372036854775808 ≤ lo) (h1 : hi ≤ 9223372036854775807) (ha : lo ≤ n) (hb : n ≤ hi) (hl : L.length ≤ 60) :
    Calls Try.prog 29 #[.pointer (some ⟨b, 0, none⟩), .int .i64 n, .int .i64 lo, .int .i64 hi] w fun e w' => e = .returned (.int .i64 0) ∧ Ow w0 w' b (L ++ bitsN (wid lo hi) d) ∧ Bo w0.heap.size w' v L ∧ Bs w' N M := by
  have hle : lo ≤ hi := by omega
  have H : Hid (Ow w0 w b L ∧ Bo w0.heap.size w v L ∧ Bs w N M) := ⟨h, hB, hN⟩
  have ed : (n - lo).toNat = d := by omega
  have HI : Hid (d < 2 ^ wid lo hi) := ed ▸ in_lt n lo hi h0 h1 ha hb
  have HW : Hid (wid lo hi ≤ 64) := wid_le lo hi h0 h1
  have G1 : Hid _ := fun w => span_any lo n d w h0 (by omega) hd
  have G2 : Hid _ := fun w => width_any lo hi w h0 h1 (by omega) (by omega)
  have hdl : d < 18446744073709551616 := by omega
  clear h hd ed hB hN
  generalize wid lo hi = m at *
  go_enter Try.func29, Try.ntmps29
  go_wp2_with fail
  refine (G1.out _).mono ?_
  rintro e w' ⟨rfl, rfl⟩
  go_wp2_with fail
  refine (G2.out _).mono ?_
  rintro e w' ⟨rfl, rfl⟩
  go_wp2_with fail
  obtain ⟨g, hW, hF⟩ := H.out.1
  have HX : Hid (Wr w0.heap.size w' b g L ∧ Fr Nobody w0 w') := ⟨hW, hF⟩
  clear hW hF
  refine (put_ok _ w' b g L d m HX.out.1 HW.out HI.out hdl (by have := HW.out; omega)).mono ?_
  rintro e w1 ⟨rfl, g', hW', hS⟩
  have H9 : Hid (Ow w0 w1 b (L ++ bitsN m d) ∧ Bo w0.heap.size w1 v L ∧ Bs w1 N M) := ⟨⟨g', hW', HX.out.2.fresh hS.fr HX.out.1.lowAt⟩, H.out.2.1.keep hS.fr HX.out.1.apart, H.out.2.2.keep hS.fr HX.out.1.apart⟩
  clear hW' hS HX H
  go_wp2
  go_ret
  exact ⟨rfl, H9.out⟩

set_option maxHeartbeats 2000000 in
theorem numsRanges_main (w : World) (ao : Option Addr) (len cap : Nat) (P : List Int) (n lo hi : Int) (c : Int) (M : List Bool) (h0 : -9223372036854775808 ≤ lo) (h1 : hi ≤ 9223372036854775807) (h2 : lo ≤ 9223372036854775807) (h3 : -9223372036854775808 ≤ hi)
    (hP : Ints .u8 w ao P) (hl : P.length = len) (hb : ∀ x ∈ P, 0 ≤ x ∧ x ≤ 255) (hm : len ≤ maxLen) (hM : M.length ≤ 64)
    (G1 : Hid (∀ w, Calls Try.prog 28 #[.int .i64 n, .int .i64 lo, .int .i64 hi] w fun e w' => ∃ v, e = .returned (.tuple #[v, .int .i64 c]) ∧ Bs w' v M ∧ Fr Nobody w w'))
    (G2 : Hid (∀ w0 w b v L N, Ow w0 w b L → Bo w0.heap.size w v L → Bs w N M → L.length ≤ 60 → Calls Try.prog 29 #[.pointer (some ⟨b, 0, none⟩), .int .i64 n, .int .i64 lo, .int .i64 hi] w fun e w' => e = .returned (.int .i64 c) ∧ Ow w0 w' b (L ++ M) ∧ Bo w0.heap.size w' v L ∧ Bs w' N M)) :
    Calls Try.prog 5 #[.slice ao len cap, .int .i64 n, .int .i64 lo, .int .i64 hi] w fun e w' => e = .returned (.bool true) ∧ Fr Nobody w w' := by
  have HP : Hid (Ints .u8 w ao P ∧ P.length = len ∧ (∀ x ∈ P, 0 ≤ x ∧ x ≤ 255) ∧ len ≤ maxLen) := ⟨hP, hl, hb, hm⟩
  have G3 : Hid (∀ w, Calls Try.prog 30 #[.int .i64 lo, .int .i64 hi] w fun e w' => e = .returned (.int .i64 (wid lo hi : Nat)) ∧ w' = w) := fun w => width_any lo hi w h0 h1 h2 h3
  have G4 : Hid (∀ w, Calls Try.prog 31 #[.int .i64 lo, .int .i64 hi] w fun e w' => e = .returned (.int .i64 (wid lo hi : Nat)) ∧ w' = w) := fun w => rwidth_any lo hi w h0 h1 h2 h3
  generalize wid lo hi = m at *
  clear hP hl hb hm
  have t1 : (c == c) = true := by simp
  have t2 : ((m : Int) == (m : Int)) = true := by simp
  go_enter Try.func5, Try.ntmps5
  go_wp2_with fail
  refine (awake2 w).mono ?_
  rintro e w1 ⟨rfl, hf⟩
  have F1 : Hid (Fr Nobody w w1) := hf
  clear hf
  go_wp2_with fail
  refine (written_any w w1 ao len cap P F1.out HP.out.1 HP.out.2.1 HP.out.2.2.1 HP.out.2.2.2).mono ?_
  rintro e w2 ⟨b, v, L, rfl, hB, hL, _⟩
  have H2 : Hid (Both w w2 b v L ∧ L.length ≤ 60) := ⟨hB, hL⟩
  clear hB hL F1 HP
  go_wp2_with fail
  refine (G1.out w2).mono ?_
  rintro e w3 ⟨u, rfl, hM', hf⟩
  have H3 : Hid (Ow w w3 b L ∧ Bo w.heap.size w3 v L ∧ Bs w3 u M ∧ L.length ≤ 60) := ⟨H2.out.1.1.quiet hf, H2.out.1.2.quiet hf, hM', H2.out.2⟩
  clear hM' hf H2
  go_wp2_with fail
  refine (G2.out w w3 b v L u H3.out.1 H3.out.2.1 H3.out.2.2.1 H3.out.2.2.2).mono ?_
  rintro e w4 ⟨rfl, hO, hB, hM'⟩
  have H4 : Hid (Ow w w4 b (L ++ M) ∧ Bo w.heap.size w4 v L ∧ Bs w4 u M ∧ L.length ≤ 60) := ⟨hO, hB, hM', H3.out.2.2.2⟩
  clear hO hB hM' H3
  go_wp2_with (at_builtin; refine append_bits rfl _ _ rfl w.heap.size v u L M H4.out.2.1 H4.out.2.2.1 (by have := H4.out.2.2.2; omega) (by omega) H4.out.1.fr.size rfl rfl ?_)
  intro v5 w5 hB5 hg5
  have H5 : Hid (Ow w w5 b (L ++ M) ∧ Bs w5 v5 (L ++ M) ∧ (L ++ M).length ≤ 200) := ⟨H4.out.1.grown H4.out.2.1 hg5, hB5.bs, by rw [List.length_append]; have := H4.out.2.2.2; omega⟩
  obtain ⟨a5, c5, hv5⟩ := row_any hB5
  subst hv5
  clear hB5 hg5 H4
  generalize L ++ M = N at *
  have t3 : ((N.length : Int) == (N.length : Int)) = true := by simp
  go_wp2_with fail
  refine (len_fr w w5 b N H5.out.1).mono ?_
  rintro e w6 ⟨rfl, hf⟩
  have H6 : Hid (Ow w w6 b N ∧ Bs w6 (.slice a5 N.length c5) N ∧ N.length ≤ 200) := ⟨H5.out.1.quiet hf, H5.out.2.1.quiet hf, H5.out.2.2⟩
  clear hf H5
  go_wp2_with fail
  refine (bytes_ow w w6 b N H6.out.1 (by have := H6.out.2.2; omega)).mono ?_
  rintro e w7 ⟨va, rfl, ho, hf, _, hO⟩
  have H7 : Hid (Src w7 va (pack N).length (vrow (pack N)) ∧ Bs w7 (.slice a5 N.length c5) N ∧ N.length ≤ 200 ∧ Fr Nobody w w7) := by
    refine ⟨?_, H6.out.2.1.quiet hf, H6.out.2.2, hO.fr⟩
    rw [length_pack]; exact Src.of_row ho
  have H7r : Hid (w7.ownsRow 0 5 1 va (nb N.length) (vrow (pack N))) := ho
  clear ho hf hO H6
  go_wp2_with fail
  refine (rbytes_any w7 _ N H7.out.2.1 (by have := H7.out.2.2.1; omega)).mono ?_
  rintro e w8 ⟨vb, rfl, hp⟩
  have H8 : Hid (Src w8 va (pack N).length (vrow (pack N)) ∧ Src w8 vb (pack N).length (vrow (pack N)) ∧ Fr Nobody w w8) := by
    refine ⟨?_, packed_src hp, H7.out.2.2.2.trans hp.2.1⟩
    rw [length_pack]; exact Src.of_row (hp.2.1.row H7r.out (fun _ _ => id))
  clear hp H7 H7r
  go_wp2_with fail
  refine (same_fr w8 va vb _ H8.out.1 H8.out.2.1).mono ?_
  rintro e w9 ⟨rfl, hf⟩
  have H9 : Hid (Fr Nobody w w9) := H8.out.2.2.trans hf
  clear hf H8
  go_wp2_with fail
  refine (G3.out w9).mono ?_
  rintro e w' ⟨rfl, rfl⟩
  go_wp2_with fail
  refine (G4.out _).mono ?_
  rintro e w' ⟨rfl, rfl⟩
  go_wp2
  go_ret
  exact ⟨rfl, H9.out⟩

theorem numsRanges_walk (w : World) (a0 : Option Addr) (len0 cap0 : Nat) (z0 : List Int) (w0 : IsRow .u8 w a0 len0 cap0 z0) (a1 : Int) (w1 : (Lit.int .i64 a1).wf = true) (a2 : Int) (w2 : (Lit.int .i64 a2).wf = true) (a3 : Int) (w3 : (Lit.int .i64 a3).wf = true) :
    Calls Try.prog 5 #[.slice a0 len0 cap0, .int .i64 a1, .int .i64 a2, .int .i64 a3] w fun e w' => e = .returned (.bool true) ∧ Below w.heap.size w w' := by
  have hx1 : -9223372036854775808 ≤ a1 ∧ a1 ≤ 9223372036854775807 := by simpa [Lit.wf, IntKind.min, IntKind.max, IntKind.signed, IntKind.bits] using w1
  have hx2 : -9223372036854775808 ≤ a2 ∧ a2 ≤ 9223372036854775807 := by simpa [Lit.wf, IntKind.min, IntKind.max, IntKind.signed, IntKind.bits] using w2
  have hx3 : -9223372036854775808 ≤ a3 ∧ a3 ≤ 9223372036854775807 := by simpa [Lit.wf, IntKind.min, IntKind.max, IntKind.signed, IntKind.bits] using w3
  obtain ⟨hl, hm, hI, hw⟩ := w0.ints
  have hb : ∀ x ∈ z0.take len0, 0 ≤ x ∧ x ≤ 255 := fun x hx => by
    have := hw x hx
    simpa [Lit.wf, IntKind.min, IntKind.max, IntKind.signed, IntKind.bits] using this
  have fin : Calls Try.prog 5 #[.slice a0 len0 cap0, .int .i64 a1, .int .i64 a2, .int .i64 a3] w fun e w' => e = .returned (.bool true) ∧ Fr Nobody w w' := by
    by_cases c1 : a3 < a2
    · refine numsRanges_main w a0 len0 cap0 _ a1 a2 a3 1 [] hx2.1 hx3.2 hx2.2 hx3.1 hI hl hb hm (by decide) ?_ ?_
      · intro w
        refine (rin_arg a1 a2 a3 w c1).mono ?_
        rintro e w' ⟨rfl, rfl⟩
        exact ⟨_, rfl, .inl ⟨rfl, rfl⟩, Fr.refl _ _⟩
      · intro w0 w b v L N hO hB hN hL
        refine (putIn_arg w b a1 a2 a3 c1).mono ?_
        rintro e w' ⟨rfl, rfl⟩
        exact ⟨rfl, by rw [List.append_nil]; exact hO, hB, hN⟩
    · by_cases c2 : a1 < a2 ∨ a3 < a1
      · refine numsRanges_main w a0 len0 cap0 _ a1 a2 a3 5 [] hx2.1 hx3.2 hx2.2 hx3.1 hI hl hb hm (by decide) ?_ ?_
        · intro w
          refine (rin_range a1 a2 a3 w (by omega) c2).mono ?_
          rintro e w' ⟨rfl, rfl⟩
          exact ⟨_, rfl, .inl ⟨rfl, rfl⟩, Fr.refl _ _⟩
        · intro w0 w b v L N hO hB hN hL
          refine (putIn_range w b a1 a2 a3 (by omega) c2).mono ?_
          rintro e w' ⟨rfl, rfl⟩
          exact ⟨rfl, by rw [List.append_nil]; exact hO, hB, hN⟩
      · refine numsRanges_main w a0 len0 cap0 _ a1 a2 a3 0 (bitsN (wid a2 a3) (a1 - a2).toNat) hx2.1 hx3.2 hx2.2 hx3.1 hI hl hb hm (by rw [length_bitsN]; exact wid_le a2 a3 hx2.1 hx3.2) ?_ ?_
        · intro w
          refine (rin_ok a1 a2 a3 (a1 - a2).toNat w (by omega) hx2.1 hx3.2 (by omega) (by omega)).mono ?_
          rintro e w' ⟨v, rfl, hO, hf⟩
          exact ⟨v, rfl, hO.bs, hf⟩
        · intro w0 w b v L N hO hB hN hL
          exact putIn_keep w0 w b v N L _ a1 a2 a3 (a1 - a2).toNat (by omega) hO hB hN hx2.1 hx3.2 (by omega) (by omega) (by omega)
  refine fin.mono ?_
  rintro e w' ⟨rfl, hf⟩
  exact ⟨rfl, hf.below (Nat.le_refl _) (fun _ _ => id)⟩

theorem laidOut : laidOutB Try.prog = true := by kernel_rfl

set_option maxRecDepth 100000 in
theorem numsRanges_lifted (os : Os) (started : os.Started) (H : Type) (enc : TypeId × Value → H) :
    ReturnsInHanded {} Try.checked os 5 .any (Rows.numsRangesSpec.pre6 enc Try.prog Try.f5 Rows.numsRangesRow.domain false) (Rows.numsRangesSpec.post enc Try.prog Try.f5 false true false false) := by
  refine returnsInHanded_of_change (C := Try.checked) own started (by kernel_rfl) Try.func5
    (ChangeSpec.witness6 (enc := enc) (C := Try.checked) false ⟨#[], #[.slice none 0 0, .int .i64 0, .int .i64 0, .int .i64 0], []⟩ 8 (by kernel_rfl) (by kernel_rfl) (by kernel_rfl) (by kernel_rfl)) ?_
  intro W base args ds gs before hval0 hW hcnd _
  have hval : ∀ (j : Nat) t v, Try.f5.params[j]? = some t → args[j]? = some v → Value.okWide Try.prog W .any base t v := hval0
  have hW' := hW
  obtain ⟨p, q, hA0, hV, rfl, hfz, hnd⟩ := hW
  have hA : DataW.TrodAll enc Try.prog W 0 (fun _ => true) true Try.f5.params.toList args.toList ds p := hA0
  rw [Try.params5] at hA hval
  obtain ⟨v0, vs0, d0, ds0, p0, q0, hargs, rfl, rfl, h0, r0⟩ := trodAll_cons hA
  obtain ⟨v1, vs1, d1, ds1, p1, q1, rfl, rfl, rfl, h1, r1⟩ := trodAll_cons r0
  obtain ⟨v2, vs2, d2, ds2, p2, q2, rfl, rfl, rfl, h2, r2⟩ := trodAll_cons r1
  obtain ⟨v3, vs3, d3, ds3, p3, q3, rfl, rfl, rfl, h3, r3⟩ := trodAll_cons r2
  obtain ⟨rfl, rfl, rfl⟩ := trodAll_nil r3
  obtain rfl : args = #[v0, v1, v2, v3] := by cases args; simp_all
  obtain ⟨rfl, rfl⟩ := trodVars_none hV
  obtain ⟨a0, len0, cap0, rfl⟩ := okWide_slice Try.underlying22 (hval 0 22 v0 rfl rfl)
  have k0 := h0
  have lt0 : ∀ x ∈ p0, x.block < W.heap.size := by obtain ⟨m, hm⟩ := k0; exact DataW.trod_lt m _ _ _ hm
  obtain ⟨z0, w0⟩ : ∃ zs, IsRow .u8 W a0 len0 cap0 zs := by
    obtain ⟨fuel, hf⟩ := h0
    rcases open_ints Try.underlying22 Try.underlying5 (by kernel_rfl) hf with ⟨hcs, _⟩ | ⟨x, l, c, zs, hcs, _, hl, hm, hz, _, hcell, hwz⟩
    · simp [Value.cells] at hcs
      obtain ⟨rfl, rfl, rfl⟩ := hcs
      exact ⟨[], .inl ⟨rfl, rfl, rfl, rfl⟩⟩
    · simp [Value.cells] at hcs
      obtain ⟨rfl, rfl, rfl⟩ := hcs
      exact ⟨zs, .inr ⟨_, rfl, hl, hm, by simpa using hz, hcell, hwz⟩⟩
  obtain ⟨a1, rfl, rfl, rfl, w1⟩ := open_int Try.underlying2 (hval 1 2 v1 rfl rfl) h1
  obtain ⟨a2, rfl, rfl, rfl, w2⟩ := open_int Try.underlying2 (hval 2 2 v2 rfl rfl) h2
  obtain ⟨a3, rfl, rfl, rfl, w3⟩ := open_int Try.underlying2 (hval 3 2 v3 rfl rfl) h3
  clear hA0 hval0
  refine (numsRanges_walk W a0 len0 cap0 z0 w0 a1 w1 a2 w2 a3 w3).mono fun e W' ⟨he, bel⟩ => ?_
  subst he
  exact ⟨_, rfl, _, _, _, [], _, [], hW', trodAll_mk1 (shut_bool Try.underlying4 _), (trodAll_cons_mk (Below.trod laidOut (by kernel_rfl) (of_decide_eq_true (by kernel_rfl)) k0 bel lt0) (trodAll_cons_mk (shut_int Try.underlying2 w1) (trodAll_cons_mk (shut_int Try.underlying2 w2) (trodAll_cons_mk (shut_int Try.underlying2 w3) trodAll_mk0)))), rfl, bel.frame _, fun h => by cases h⟩

theorem numsRanges_holds : Rows.NumsRangesSaid :=
  OpenClaim.holds_of_wide 5 Try.f5 rfl rfl rfl rfl rfl rfl rfl ⟨rfl, rfl, rfl, rfl, rfl⟩ rfl rfl rfl rfl rfl (by kernel_rfl) Try.func5 (by kernel_rfl)
    (of_decide_eq_true (by kernel_rfl)) (by unfold Func.isWrapper; first | (rw [if_pos (by decide +kernel)]; kernel_rfl) | (rw [if_neg (by decide +kernel)]; exact ⟨rfl, rfl⟩))
    (fun os started H enc _ => numsRanges_lifted os started H enc)


end Go.Proofs.Ytkdodinopehpnab
