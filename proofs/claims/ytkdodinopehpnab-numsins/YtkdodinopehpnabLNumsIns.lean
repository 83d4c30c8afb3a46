/-
  For every bytes, skip, lo and hi: from any bit on they are a number of the range or none, as the document's list of bits says, and the reader is as far as it says: NumsIns returns true, whatever its arguments, and changes nothing that was there.
-/
import Derived.Test.YtkdodinopehpnabVi
import Derived.ProofKit
import Derived.OpenShut
import Derived.ShutString
import Derived.ChangeOld
namespace Go.Proofs.Ytkdodinopehpnab
open Go.ChangeShapes Go.WideShapes Go.ChangeAt Go.RowKit
set_option linter.unusedVariables false

theorem own : ownKnob Try.prog.godebug = none := by kernel_rfl

set_option maxHeartbeats 40000000 in
theorem numsIns_fin (w : World) (ao : Option Addr) (len cap m s k : Nat) (lo hi : Int) (h0 : -9223372036854775808 ≤ lo) (h1 : hi ≤ 9223372036854775807) (h2 : lo ≤ 9223372036854775807) (h3 : -9223372036854775808 ≤ hi) (P : List Nat) (hmin : min (len : Int) 100 = (m : Int)) (hm : m ≤ 100) (hml : m ≤ len) (hlc : len ≤ cap) (hmax : len ≤ maxLen) (hn : ao = none → cap = 0) (hPl : P.length = m) (hPa : BytesAt w ao P) (hPb : ∀ x ∈ P, x < 256) (hs : s < 256) (hk : min (s % 64) (8 * m) = k) :
    Calls Try.prog 6 #[.slice ao len cap, .int .u8 (s : Int), .int .i64 lo, .int .i64 hi] w fun e w' => e = .returned (.bool true) ∧ Fr Nobody w w' := by
  unfold maxLen at hmax
  have HP : Hid (P.length = m ∧ BytesAt w ao P ∧ (∀ x ∈ P, x < 256) ∧ (ao = none → cap = 0)) := ⟨hPl, hPa, hPb, hn⟩
  obtain ⟨ll, hll⟩ : ∃ ll, 8 * m = ll := ⟨_, rfl⟩
  have hlb : (bitsB P).length = ll := by rw [length_bitsB, hPl, hll]
  have hll2 : ll ≤ 800 := by omega
  rw [hll] at hk
  have hk1 : k ≤ ll := by omega
  have hk2 : k ≤ 63 := by omega
  have hkm : min ((s : Int) % 64) (ll : Int) = (k : Int) := by omega
  have HLL : Hid (8 * P.length = ll ∧ (bitsB P).length = ll) := ⟨by rw [hPl, hll], hlb⟩
  have G1 : Hid (∀ w v, Bs w v ((bitsB P).drop k) → _) := fun w v h => rgetIn_any w v _ lo hi h (by rw [List.length_drop, hlb]; omega) h0 h1 h2 h3
  have G2 : Hid (∀ w0 w br, Or w0 w br P k → _) := fun w0 w br h => getIn_or w0 w br P k lo hi h h0 h1 h2 h3
  generalize gi lo hi ((bitsB P).drop k) = r at *
  obtain ⟨rc, rv, rn⟩ := r
  obtain ⟨q, hq⟩ : ∃ q, 8 * P.length - (k + rn) = q := ⟨_, rfl⟩
  have HL : Hid ((((bitsB P).drop k).drop rn).length = q) := by show _ = _; rw [List.length_drop, List.length_drop, length_bitsB]; omega
  have G5 : Hid (∀ w0 w br, Or w0 w br P (k + rn) → Calls Try.prog 27 #[.pointer (some ⟨br, 0, none⟩)] w fun e w' => e = .returned (.int .i64 (q : Int)) ∧ Or w0 w' br P (k + rn)) := fun w0 w br h => by rw [← hq]; exact left_or w0 w br P (k + rn) h
  have hq2 : q ≤ 800 := by omega
  have t1 : (rv == rv) = true := by simp
  have t3 : (rc == rc) = true := by simp
  have t4 : ((q : Int) == (q : Int)) = true := by simp
  clear h0 h1 h2 h3 hn hPl hPa hPb hll hlb hk hq
  go_enter Try.func6, Try.ntmps6
  go_wp2_with fail
  refine (awake2 w).mono ?_
  rintro e w1 ⟨rfl, hf⟩
  have F1 : Hid (Fr Nobody w w1) := hf
  have HS : Hid (Src w1 (.slice ao m cap) P.length (vrow P)) := by
    have := (HP.out.2.1.quiet F1.out).src cap HP.out.2.2.2
    rw [HP.out.1] at this ⊢
    exact this
  clear hf
  go_wp2_with fail
  refine (read_or w w1 (.slice ao m cap) P F1.out HS.out HP.out.2.2.1 (by have := HP.out.1; omega)).mono ?_
  rintro e w2 ⟨br, rfl, _, hO, _⟩
  have H2 : Hid (Or w w2 br P 0) := hO
  clear hO HS F1
  go_wp2_with fail
  refine (rbits_any w2 ao cap m P (HP.out.2.1.quiet H2.out.fr) HP.out.1 HP.out.2.2.1 (by omega)).mono ?_
  rintro e w3 ⟨v3, rfl, hB, hf⟩
  obtain ⟨a3, c3, hv3⟩ := row_any hB
  rw [HLL.out.2] at hv3
  subst hv3
  have H3 : Hid (Duo w w3 br P 0 (.slice a3 ll c3) (bitsB P)) := ⟨H2.out.quiet hf, hB.bs⟩
  have hc3 : ll ≤ c3 := by
    rcases hB.bs with ⟨hv, h0⟩ | ⟨g, o, cap', cur, hv, hc, _⟩
    · simp only [Value.slice.injEq] at hv; omega
    · simp only [Value.slice.injEq] at hv; omega
  clear hB hf H2
  go_wp2_with fail
  refine (get_duo w w3 br P 0 k _ _ H3.out (by omega) (by have := HLL.out.1; omega)).mono ?_
  generalize numAt P 0 k = nk
  rintro e w4 ⟨rfl, hD⟩
  have H4 : Hid (Or w w4 br P k) := by have := hD.1; rw [Nat.zero_add] at this; exact this
  have HB := hD.2
  rw [← HLL.out.2] at HB
  have HD0 := HB.drop k (by rw [HLL.out.2]; exact hk1)
  rw [HLL.out.2] at HD0
  clear HB hD H3
  by_cases e : c3 = k
  · have HD : Hid (Bs w4 (.slice a3 0 0) ((bitsB P).drop k)) := by rw [if_pos e, e, Nat.sub_self, show ll - k = 0 from by omega] at HD0; exact HD0
    have e' := e.symm
    clear e
    subst e'
    clear HD0
    go_wp2_with fail
    refine (G1.out w4 _ HD.out).mono ?_
    rintro e w5 ⟨u, rfl, hU, hf⟩
    obtain ⟨au, cu, hu⟩ := hU.shape
    rw [HL.out] at hu
    subst hu
    have H5 : Hid (Or w w5 br P k) := H4.out.quiet hf
    clear hU hf H4 HD
    go_wp2_with fail
    refine (G2.out w w5 br H5.out).mono ?_
    rintro e w6 ⟨rfl, hO⟩
    have H6 : Hid (Or w w6 br P (k + rn)) := hO
    clear hO H5
    go_wp2_with fail
    refine (G5.out w _ br H6.out).mono ?_
    rintro e w8 ⟨rfl, hO⟩
    have H8 : Hid (Fr Nobody w w8) := hO.fr
    clear hO H6
    go_wp2
    go_ret
    exact ⟨rfl, H8.out⟩
  · have HD : Hid (Bs w4 (.slice (a3.map (fun x => x.add k)) (ll - k) (c3 - k)) ((bitsB P).drop k)) := by rw [if_neg e] at HD0; exact HD0
    clear HD0
    go_wp2_with fail
    refine (G1.out w4 _ HD.out).mono ?_
    rintro e w5 ⟨u, rfl, hU, hf⟩
    obtain ⟨au, cu, hu⟩ := hU.shape
    rw [HL.out] at hu
    subst hu
    have H5 : Hid (Or w w5 br P k) := H4.out.quiet hf
    clear hU hf H4 HD
    go_wp2_with fail
    refine (G2.out w w5 br H5.out).mono ?_
    rintro e w6 ⟨rfl, hO⟩
    have H6 : Hid (Or w w6 br P (k + rn)) := hO
    clear hO H5
    go_wp2_with fail
    refine (G5.out w _ br H6.out).mono ?_
    rintro e w8 ⟨rfl, hO⟩
    have H8 : Hid (Fr Nobody w w8) := hO.fr
    clear hO H6
    go_wp2
    go_ret
    exact ⟨rfl, H8.out⟩

theorem numsIns_walk (w : World) (a0 : Option Addr) (len0 cap0 : Nat) (z0 : List Int) (w0 : IsRow .u8 w a0 len0 cap0 z0) (a1 : Int) (w1 : (Lit.int .u8 a1).wf = true) (a2 : Int) (w2 : (Lit.int .i64 a2).wf = true) (a3 : Int) (w3 : (Lit.int .i64 a3).wf = true) :
    Calls Try.prog 6 #[.slice a0 len0 cap0, .int .u8 a1, .int .i64 a2, .int .i64 a3] w fun e w' => e = .returned (.bool true) ∧ Below w.heap.size w w' := by
  have hx1 : 0 ≤ a1 ∧ a1 ≤ 255 := by simpa [Lit.wf, IntKind.min, IntKind.max, IntKind.signed, IntKind.bits] using w1
  have hx2 : -9223372036854775808 ≤ a2 ∧ a2 ≤ 9223372036854775807 := by simpa [Lit.wf, IntKind.min, IntKind.max, IntKind.signed, IntKind.bits] using w2
  have hx3 : -9223372036854775808 ≤ a3 ∧ a3 ≤ 9223372036854775807 := by simpa [Lit.wf, IntKind.min, IntKind.max, IntKind.signed, IntKind.bits] using w3
  obtain ⟨hl, hm, hI, hw⟩ := w0.ints
  obtain ⟨hc, hn⟩ := w0.more
  have hb : ∀ x ∈ z0.take len0, 0 ≤ x ∧ x ≤ 255 := fun x hx => by
    have := hw x hx
    simpa [Lit.wf, IntKind.min, IntKind.max, IntKind.signed, IntKind.bits] using this
  obtain ⟨s, rfl⟩ := Int.eq_ofNat_of_zero_le hx1.1
  obtain ⟨P, hPl, hPa, hPb⟩ := bytes_of w a0 _ (min len0 100) hI hb (by omega)
  refine (numsIns_fin w a0 len0 cap0 (min len0 100) s _ a2 a3 hx2.1 hx3.2 hx2.2 hx3.1 P (by omega) (by omega) (by omega) hc hm hn hPl hPa hPb (by omega) rfl).mono ?_
  rintro e w' ⟨rfl, hf⟩
  exact ⟨rfl, hf.below (Nat.le_refl _) (fun _ _ => id)⟩

theorem laidOut : laidOutB Try.prog = true := by kernel_rfl

set_option maxRecDepth 100000 in
theorem numsIns_lifted (os : Os) (started : os.Started) (H : Type) (enc : TypeId × Value → H) :
    ReturnsInHanded {} Try.checked os 6 .any (Rows.numsInsSpec.pre6 enc Try.prog Try.f6 Rows.numsInsRow.domain false) (Rows.numsInsSpec.post enc Try.prog Try.f6 false true false false) := by
  refine returnsInHanded_of_change (C := Try.checked) own started (by kernel_rfl) Try.func6
    (ChangeSpec.witness6 (enc := enc) (C := Try.checked) false ⟨#[], #[.slice none 0 0, .int .u8 0, .int .i64 0, .int .i64 0], []⟩ 8 (by kernel_rfl) (by kernel_rfl) (by kernel_rfl) (by kernel_rfl)) ?_
  intro W base args ds gs before hval0 hW hcnd _
  have hval : ∀ (j : Nat) t v, Try.f6.params[j]? = some t → args[j]? = some v → Value.okWide Try.prog W .any base t v := hval0
  have hW' := hW
  obtain ⟨p, q, hA0, hV, rfl, hfz, hnd⟩ := hW
  have hA : DataW.TrodAll enc Try.prog W 0 (fun _ => true) true Try.f6.params.toList args.toList ds p := hA0
  rw [Try.params6] at hA hval
  obtain ⟨v0, vs0, d0, ds0, p0, q0, hargs, rfl, rfl, h0, r0⟩ := trodAll_cons hA
  obtain ⟨v1, vs1, d1, ds1, p1, q1, rfl, rfl, rfl, h1, r1⟩ := trodAll_cons r0
  obtain ⟨v2, vs2, d2, ds2, p2, q2, rfl, rfl, rfl, h2, r2⟩ := trodAll_cons r1
  obtain ⟨v3, vs3, d3, ds3, p3, q3, rfl, rfl, rfl, h3, r3⟩ := trodAll_cons r2
  obtain ⟨rfl, rfl, rfl⟩ := trodAll_nil r3
  obtain rfl : args = #[v0, v1, v2, v3] := by cases args; simp_all
  obtain ⟨rfl, rfl⟩ := trodVars_none hV
  obtain ⟨a0, len0, cap0, rfl⟩ := okWide_slice Try.underlying22 (hval 0 22 v0 rfl rfl)
  have k0 := h0
  have lt0 : ∀ x ∈ p0, x.block < W.heap.size := by obtain ⟨m, hm⟩ := k0; exact DataW.trod_lt m _ _ _ hm
  obtain ⟨z0, w0⟩ : ∃ zs, IsRow .u8 W a0 len0 cap0 zs := by
    obtain ⟨fuel, hf⟩ := h0
    rcases open_ints Try.underlying22 Try.underlying5 (by kernel_rfl) hf with ⟨hcs, _⟩ | ⟨x, l, c, zs, hcs, _, hl, hm, hz, _, hcell, hwz⟩
    · simp [Value.cells] at hcs
      obtain ⟨rfl, rfl, rfl⟩ := hcs
      exact ⟨[], .inl ⟨rfl, rfl, rfl, rfl⟩⟩
    · simp [Value.cells] at hcs
      obtain ⟨rfl, rfl, rfl⟩ := hcs
      exact ⟨zs, .inr ⟨_, rfl, hl, hm, by simpa using hz, hcell, hwz⟩⟩
  obtain ⟨a1, rfl, rfl, rfl, w1⟩ := open_int Try.underlying5 (hval 1 5 v1 rfl rfl) h1
  obtain ⟨a2, rfl, rfl, rfl, w2⟩ := open_int Try.underlying2 (hval 2 2 v2 rfl rfl) h2
  obtain ⟨a3, rfl, rfl, rfl, w3⟩ := open_int Try.underlying2 (hval 3 2 v3 rfl rfl) h3
  clear hA0 hval0
  refine (numsIns_walk W a0 len0 cap0 z0 w0 a1 w1 a2 w2 a3 w3).mono fun e W' ⟨he, bel⟩ => ?_
  subst he
  exact ⟨_, rfl, _, _, _, [], _, [], hW', trodAll_mk1 (shut_bool Try.underlying4 _), (trodAll_cons_mk (Below.trod laidOut (by kernel_rfl) (of_decide_eq_true (by kernel_rfl)) k0 bel lt0) (trodAll_cons_mk (shut_int Try.underlying5 w1) (trodAll_cons_mk (shut_int Try.underlying2 w2) (trodAll_cons_mk (shut_int Try.underlying2 w3) trodAll_mk0)))), rfl, bel.frame _, fun h => by cases h⟩

theorem numsIns_holds : Rows.NumsInsSaid :=
  OpenClaim.holds_of_wide 6 Try.f6 rfl rfl rfl rfl rfl rfl rfl ⟨rfl, rfl, rfl, rfl, rfl⟩ rfl rfl rfl rfl rfl (by kernel_rfl) Try.func6 (by kernel_rfl)
    (of_decide_eq_true (by kernel_rfl)) (by unfold Func.isWrapper; first | (rw [if_pos (by decide +kernel)]; kernel_rfl) | (rw [if_neg (by decide +kernel)]; exact ⟨rfl, rfl⟩))
    (fun os started H enc _ => numsIns_lifted os started H enc)


end Go.Proofs.Ytkdodinopehpnab
