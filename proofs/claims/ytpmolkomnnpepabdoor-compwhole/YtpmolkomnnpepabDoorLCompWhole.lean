/-
  For every component and every number of bits ahead: Put of package comp writes just the component's bits, or refuses it and writes nothing, Size tells how many, and Get reads it again: CompWhole returns true, whatever its arguments, where the table of the components lies as the program's text lays it, and changes nothing that was there.
-/
import Derived.Test.YtpmolkomnnpepabDoorKy
namespace Go.Proofs.YtpmolkomnnpepabDoor
open Go.ChangeShapes Go.WideShapes Go.ChangeAt Go.RowKit
set_option linter.unusedVariables false
set_option maxRecDepth 100000

theorem packed_src {w w' : World} {v : Value} {L : List Bool} (h : Packed w w' v L) : Src w' v (pack L).length (vrow (pack L)) := by
  rw [length_pack]; exact Src.of_row h.1


theorem get_or2 (w0 w : World) (br : Nat) (P : List Nat) (t n : Nat) (h : Or w0 w br P t) (hn : n ≤ 64) (hl : t + n ≤ 8 * P.length) :
    Calls Tryd.prog 19 #[.pointer (some ⟨br, 0, none⟩), .int .i64 n] w fun e w' => e = .returned (.tuple #[.int .u64 (numAt P t n : Nat), .int .i64 0]) ∧ Or w0 w' br P (t + n) ∧ Fr (At br none) w w' := by
  obtain ⟨g, hR, hF⟩ := h
  refine (get_ok2 _ w br g P t n hR hn hl).mono ?_
  rintro e w' ⟨rfl, hR', hf'⟩
  exact ⟨rfl, Or.of_rd hR hF hR' hf', hf'⟩

set_option maxHeartbeats 8000000 in
theorem compWhole_main (w : World) (ht : Tab w) (k n kk : Nat) (hk : k < 256) (hn : n < 256) (hkk : (n : Int) % 16 = (kk : Int)) (hkk2 : kk < 16) (F : Nat → Int) (M : List Bool) (cd : Nat) (hcd : chk k F = cd) (hM : sizeK k F = M.length) (hM2 : M.length ≤ 60)
    (GP : ∀ w, Calls Tryd.prog 11 #[.agg (cmp k F)] w fun e w' => ∃ u, e = .returned (.tuple #[u, .int .i64 (cd : Int)]) ∧ Bo w.heap.size w' u M ∧ Fr Nobody w w')
    (PP : ∀ w1 wx b, Tab w1 → Ow w1 wx b (ones kk) → Calls Tryd.prog 12 #[.pointer (some ⟨b, 0, none⟩), .agg (cmp k F)] wx fun e w' => e = .returned (.int .i64 (cd : Int)) ∧ Ow w1 w' b (ones kk ++ M) ∧ Wf wx w')
    (BK : cd = 0 → gcode k (pack (ones kk ++ M)) kk = 0 ∧ kk + gcons k (pack (ones kk ++ M)) kk = (ones kk ++ M).length ∧ cmp k (gfld k (pack (ones kk ++ M)) kk) = cmp k F) :
    Calls Tryd.prog 3 #[.agg (cmp k F), .int .u8 (n : Int)] w fun e w' => e = .returned (.bool true) ∧ Fr Nobody w w' := by
  have H : Hid (Tab w) := ht
  have HB0 : Hid (Box (w.alloc (.cells (cmp k F) 24)) w.heap.size k F) := Box.new w k F
  have HF0 : Hid (Fr Nobody w (w.alloc (.cells (cmp k F) 24))) := (Fr.refl _ _).alloc _
  have GP' : Hid (∀ w, _) := GP
  have PP' : Hid (∀ w1 wx b, Tab w1 → Ow w1 wx b (ones kk) → _) := PP
  have SZ : Hid (∀ w, Tab w → Calls Tryd.prog 17 #[.agg (cmp k F)] w fun e w' => e = .returned (.int .i64 ((M.length : Nat) : Int)) ∧ Fr Nobody w w') := fun w h => by rw [← hM]; exact size_any w h k hk F
  have AH : Hid (∀ w, _) := fun w => ahead_any w n kk hn hkk hkk2
  have BK' : Hid (cd = 0 → gcode k (pack (ones kk ++ M)) kk = 0 ∧ kk + gcons k (pack (ones kk ++ M)) kk = (ones kk ++ M).length ∧ cmp k (gfld k (pack (ones kk ++ M)) kk) = cmp k F) := BK
  have HLO : Hid ((ones kk).length = kk) := length_ones kk
  have HA : Hid _ := eq_a3 9997 (F 0) (F 1) (F 2) (F 0) (F 1) (F 2)
  have hl0 := length_ones kk
  generalize hLL : ones kk = L at *
  clear GP PP BK ht hM hLL hcd
  unfold cmp at GP' PP' SZ HB0 HF0
  have HNL : Hid ((L ++ M).length = kk + M.length) := by show _ = _; rw [List.length_append, HLO.out]
  unfold cmp
  go_enter Tryd.func3, Tryd.ntmps3
  go_wp2_with fail
  refine (awake6 _ (H.out.quiet HF0.out)).mono ?_
  rintro e w1 ⟨rfl, hf⟩
  have F1 : Hid (Fr Nobody w w1) := Fr.trans HF0.out hf
  have B1 : Hid (Box w1 w.heap.size k F) := Box.quiet HB0.out hf
  have T1 : Hid (Tab w1) := H.out.quiet F1.out
  clear hf HB0 HF0
  go_wp2_with fail
  refine (AH.out _).mono ?_
  rintro e w2 ⟨b, v, rfl, hO, hV⟩
  obtain ⟨av, cv, hvs⟩ := row_any hV
  rw [HLO.out] at hvs
  subst hvs
  have O2 : Hid (Ow w1 w2 b L) := hO
  have V2 : Hid (Bo w1.heap.size w2 (.slice av kk cv) L) := hV
  have B2 : Hid (Box w2 w.heap.size k F) := B1.out.quiet hO.fr
  obtain ⟨p0, p1, p2, p3⟩ := B2.out.cells
  clear hO hV
  go_wp2_with fail
  refine (GP'.out _).mono ?_
  rintro e w3 ⟨u, rfl, hU, hf⟩
  obtain ⟨au, cu, hus⟩ := row_any hU
  subst hus
  have O3 : Hid (Ow w1 w3 b L) := O2.out.quiet hf
  have V3 : Hid (Bo w1.heap.size w3 (.slice av kk cv) L) := V2.out.quiet hf
  have U3 : Hid (Bs w3 (.slice au M.length cu) M) := hU.bs
  have B3 : Hid (Box w3 w.heap.size k F) := B2.out.quiet hf
  clear hU hf O2 V2 p0 p1 p2 p3
  go_wp2_with (at_builtin; refine append_bits rfl _ _ rfl w1.heap.size _ _ L M V3.out U3.out (by omega) (by omega) O3.out.fr.size rfl rfl ?_)
  intro v4 w4 hV4 hg4
  have O4 : Hid (Ow w1 w4 b L) := O3.out.grown V3.out hg4
  have B4 : Hid (Box w4 w.heap.size k F) := B3.out.grown V3.out hg4
  obtain ⟨a4, c4, hv4⟩ := row_any hV4
  rw [HNL.out] at hv4
  subst hv4
  have V4 : Hid (Bs w4 (.slice a4 (kk + M.length) c4) (L ++ M)) := hV4.bs
  obtain ⟨p0, p1, p2, p3⟩ := B4.out.cells
  clear hV4 hg4 O3 V3 U3 B3
  go_wp2_with fail
  refine (PP'.out w1 w4 b T1.out O4.out).mono ?_
  rintro e w5 ⟨rfl, hO, hw⟩
  have O5 : Hid (Ow w1 w5 b (L ++ M)) := hO
  have V5 : Hid (Bs w5 (.slice a4 (kk + M.length) c4) (L ++ M)) := V4.out.wf hw
  have B5 : Hid (Box w5 w.heap.size k F) := B4.out.wf hw
  clear hO hw O4 V4 B4 p0 p1 p2 p3
  go_wp2_with fail
  refine (bytes_ow w1 w5 b (L ++ M) O5.out (by rw [HNL.out]; omega)).mono ?_
  rintro e w6 ⟨va, rfl, ho, hf, _, hO⟩
  have O6 : Hid (Ow w1 w6 b (L ++ M)) := hO
  have V6 : Hid (Bs w6 (.slice a4 (kk + M.length) c4) (L ++ M)) := V5.out.quiet hf
  have R6 : Hid (w6.ownsRow 0 5 1 va (nb (L ++ M).length) (vrow (pack (L ++ M)))) := ho
  have B6 : Hid (Box w6 w.heap.size k F) := B5.out.quiet hf
  clear ho hf hO O5 V5 B5
  go_wp2_with fail
  refine (rbytes_any w6 _ (L ++ M) V6.out (by rw [HNL.out]; omega)).mono ?_
  rintro e w7 ⟨vb, rfl, hp⟩
  have O7 : Hid (Ow w1 w7 b (L ++ M)) := O6.out.quiet hp.2.1
  have S7 : Hid (Src w7 va (pack (L ++ M)).length (vrow (pack (L ++ M))) ∧ Src w7 vb (pack (L ++ M)).length (vrow (pack (L ++ M)))) := by
    refine ⟨?_, packed_src hp⟩
    rw [length_pack]; exact Src.of_row (hp.2.1.row R6.out (fun _ _ => id))
  have B7 : Hid (Box w7 w.heap.size k F) := B6.out.quiet hp.2.1
  clear hp R6 O6 V6 B6
  go_wp2_with fail
  refine (same_fr w7 va vb _ S7.out.1 S7.out.2).mono ?_
  rintro e w8 ⟨rfl, hf⟩
  have O8 : Hid (Ow w1 w8 b (L ++ M)) := O7.out.quiet hf
  have B8 : Hid (Box w8 w.heap.size k F) := B7.out.quiet hf
  clear hf O7 B7 S7
  go_wp2_with fail
  refine (len_fr w1 w8 b (L ++ M) O8.out).mono ?_
  rw [HNL.out]
  rintro e w9 ⟨rfl, hf⟩
  have O9 : Hid (Ow w1 w9 b (L ++ M)) := O8.out.quiet hf
  have B9 : Hid (Box w9 w.heap.size k F) := B8.out.quiet hf
  obtain ⟨p0, p1, p2, p3⟩ := B9.out.cells
  clear hf O8 B8
  go_wp2_with fail
  refine (SZ.out _ (T1.out.quiet O9.out.fr)).mono ?_
  rintro e w10 ⟨rfl, hf⟩
  have O10 : Hid (Ow w1 w10 b (L ++ M)) := O9.out.quiet hf
  have B10 : Hid (Box w10 w.heap.size k F) := B9.out.quiet hf
  clear hf O9 B9 p0 p1 p2 p3
  by_cases h0 : cd = 0
  · subst h0
    obtain ⟨g0, g1, g2⟩ := BK'.out rfl
    have GG : Hid (∀ wx br, Or w1 wx br (pack (L ++ M)) kk → Calls Tryd.prog 20 #[.pointer (some ⟨br, 0, none⟩), .int .u8 (k : Int)] wx fun e w' => e = .returned (.tuple #[.agg #[.int .u8 (k : Int), .int .i32 (F 0), .int .i32 (F 1), .int .i32 (F 2)], .int .i64 0]) ∧ Or w1 w' br (pack (L ++ M)) (L ++ M).length ∧ Fr (At br none) wx w') := fun wx br h => by
      have := getC_or w1 wx T1.out br (pack (L ++ M)) kk k hk h (cmp k F) (fun _ => g2.symm) (fun e => absurd g0 e)
      rw [g0, g1] at this
      exact this
    have EB : Hid (endOf (pack (L ++ M)) (L ++ M).length = 0) := end_back (L ++ M)
    have HPK : Hid (kk ≤ 8 * (pack (L ++ M)).length ∧ (pack (L ++ M)).length ≤ 1048576) := by
      have e1 := length_pack (L ++ M)
      rw [HNL.out] at e1
      unfold nb at e1
      show _ ∧ _
      omega
    have PL : Hid (∀ x ∈ pack (L ++ M), x < 256) := pack_lt _
    clear g0 g1 g2 BK' PP' GP' SZ AH
    go_wp2_with fail
    refine (bytes_ow w1 w10 b (L ++ M) O10.out (by rw [HNL.out]; omega)).mono ?_
    rintro e w11 ⟨va, rfl, ho, hf, _, hO⟩
    have F11 : Hid (Fr Nobody w1 w11) := hO.fr
    have S11 : Hid (Src w11 va (pack (L ++ M)).length (vrow (pack (L ++ M)))) := by
      show Src _ _ _ _
      rw [length_pack]; exact Src.of_row ho
    have B11 : Hid (Box w11 w.heap.size k F) := B10.out.quiet hf
    clear ho hf hO O10 B10
    generalize pack (L ++ M) = P at *
    generalize (L ++ M).length = N at *
    go_wp2_with fail
    refine (read_or w1 w11 va P F11.out S11.out PL.out HPK.out.2).mono ?_
    rintro e w12 ⟨br, rfl, _, hO, hf⟩
    have O12 : Hid (Or w1 w12 br P 0) := hO
    have B12 : Hid (Box w12 w.heap.size k F) := B11.out.quiet hf
    clear hO hf S11 F11 B11
    go_wp2_with fail
    refine (get_or2 w1 w12 br P 0 kk O12.out (by omega) (by have := HPK.out.1; omega)).mono ?_
    generalize numAt P 0 kk = nk
    rintro e w13 ⟨rfl, hO, hf⟩
    rw [Nat.zero_add] at hO
    have O13 : Hid (Or w1 w13 br P kk) := hO
    have B13 : Hid (Box w13 w.heap.size k F) := B12.out.fr1 hf (O12.out.ne_box B12.out)
    have c0 := B13.out.kind
    clear hO hf O12 B12
    go_wp2_with fail
    refine (GG.out w13 br O13.out).mono ?_
    rintro e w14 ⟨rfl, hO, hf⟩
    have O14 : Hid (Or w1 w14 br P N) := hO
    have B14 : Hid (Box w14 w.heap.size k F) := B13.out.fr1 hf (O13.out.ne_box B13.out)
    clear hO hf O13 B13 c0
    obtain ⟨p0, p1, p2, p3⟩ := B14.out.cells
    have q1 : w.heap.size < w14.heap.size := World.block_lt_of_cell? w14 _ p0
    have q2 : w14.heap.size ≠ w.heap.size := by omega
    have O15 : Hid (Or w1 (w14.alloc (.cells #[.int .u8 (k : Int), .int .i32 (F 0), .int .i32 (F 1), .int .i32 (F 2)] 24)) br P N) := O14.out.quiet ((Fr.refl _ _).alloc _)
    have hA := HA.out
    have t1 : (F 0 == F 0) = true := by simp
    have t2 : (F 1 == F 1) = true := by simp
    have t3 : (F 2 == F 2) = true := by simp
    go_wp2_with fail
    refine (end_or w1 _ br P N O15.out).mono ?_
    rw [EB.out]
    rintro e w16 ⟨rfl, hO⟩
    have F16 : Hid (Fr Nobody w1 w16) := hO.fr
    clear hO
    go_wp2
    go_ret
    exact ⟨rfl, F1.out.trans F16.out⟩
  · have hne : ((cd : Int) != 0) = true := by rw [bne_iff_ne]; omega
    go_wp2
    go_ret
    exact ⟨rfl, F1.out.trans O10.out.fr⟩
theorem compWhole_walk (w : World) (ht : Tab w) (k : Int) (wk : ok8 k) (a : Int) (wa : ok32 a) (b : Int) (wb : ok32 b) (c : Int) (wc : ok32 c) (n : Int) (wn : (Lit.int .u8 n).wf = true) :
    Calls Tryd.prog 3 #[.agg #[.int .u8 k, .int .i32 a, .int .i32 b, .int .i32 c], .int .u8 n] w fun e w' => e = .returned (.bool true) ∧ Below w.heap.size w w' := by
  obtain ⟨k, rfl, hk⟩ := ok8_nat wk
  obtain ⟨n, rfl, hn⟩ := ok8_nat wn
  have hkk2 : n % 16 < 16 := Nat.mod_lt _ (by decide)
  have key : Calls Tryd.prog 3 #[.agg (cmp k (f3 a b c)), .int .u8 (n : Int)] w fun e w' => e = .returned (.bool true) ∧ Fr Nobody w w' := by
    by_cases h0 : chk k (f3 a b c) = 0
    · refine compWhole_main w ht k n (n % 16) hk hn (by omega) hkk2 (f3 a b c) (cb k (f3 a b c) (cnt k)) 0 h0 (by unfold sizeK; rw [if_pos h0, length_cb]; rfl) (by rw [length_cb]; exact bits_le k) ?_ ?_ ?_
      · exact fun w => rputC_ok w k hk (f3 a b c) h0
      · intro w1 wx bb ht1 hO
        exact putC_ok w1 wx ht1 bb _ k hk (f3 a b c) hO h0 (by rw [length_ones]; omega)
      · intro _
        have hb := get_back k (f3 a b c) (pack (ones (n % 16) ++ cb k (f3 a b c) (cnt k))) (ones (n % 16)) _ (by rw [bitsB_pack, List.append_assoc]) h0
        rw [length_ones] at hb
        refine ⟨hb.1, ?_, hb.2.2⟩
        rw [hb.2.1, List.length_append, length_ones, length_cb]; rfl
    · refine compWhole_main w ht k n (n % 16) hk hn (by omega) hkk2 (f3 a b c) [] (chk k (f3 a b c)) rfl (by unfold sizeK; rw [if_neg h0]; rfl) (by decide) ?_ ?_ (fun e => absurd e h0)
      · intro w
        refine (rputC_err w k hk (f3 a b c) h0).mono ?_
        rintro e w' ⟨rfl, hf⟩
        exact ⟨_, rfl, Bo.nil _ _, hf⟩
      · intro w1 wx bb ht1 hO
        refine (putC_err w1 wx ht1 bb k hk (f3 a b c) hO.fr h0).mono ?_
        rintro e w' ⟨rfl, hf⟩
        exact ⟨rfl, by rw [List.append_nil]; exact hO.quiet hf, Wf.of_quiet hf⟩
  refine key.mono ?_
  rintro e w' ⟨rfl, hf⟩
  exact ⟨rfl, hf.below (Nat.le_refl _) (fun _ _ => id)⟩
theorem compWhole_lifted (os : Os) (started : os.Started) (H : Type) (enc : TypeId × Value → H) :
    ReturnsInHanded {} Tryd.checked os 3 .any (fun w args => (Rows.compWholeSpec.pre enc Tryd.prog Tryd.f3 [] false w args ∧ laidMetH Tryd.prog laid1 w) ∧ sizedMet enc Tryd.prog Tryd.f3 (OpenSpec.ofChange Rows.compWholeSpec) false w args) (Rows.compWholeSpec.post enc Tryd.prog Tryd.f3 false true false false) := by
  refine returnsInHanded_of_change_and (C := Tryd.checked) (X := fun w _ => laidMetH Tryd.prog laid1 w) (fun _ _ _ hh h => h.of_heap hh) own started (by kernel_rfl) Tryd.func3
    (ChangeSpec.witness_shaped (enc := enc) (C := Tryd.checked) (os := os) (X := fun w _ => laidMetH Tryd.prog laid1 w) false (World.doorLaid Tryd.prog 400 os) #[.agg #[.int .u8 0, .int .i32 0, .int .i32 0, .int .i32 0], .int .u8 0] 8 rfl (World.shaped_of_RefB (by kernel_rfl) (by kernel_rfl)) (by kernel_rfl) (by kernel_rfl) (by kernel_rfl) (door_met os _)) ?_
  intro W base args ds gs before hval0 hW _ _ hL _
  have hval : ∀ (j : Nat) t v, Tryd.f3.params[j]? = some t → args[j]? = some v → Value.okWide Tryd.prog W .any base t v := hval0
  have hW' := hW
  obtain ⟨p, q, hA0, hV, rfl, hfz, hnd⟩ := hW
  have hA : DataW.TrodAll enc Tryd.prog W 0 (fun _ => true) true Tryd.f3.params.toList args.toList ds p := hA0
  rw [Tryd.params3] at hA hval
  obtain ⟨v0, vs0, d0, ds0, p0, q0, hargs, rfl, rfl, h0, r0⟩ := trodAll_cons hA
  obtain ⟨v1, vs1, d1, ds1, p1, q1, rfl, rfl, rfl, h1, r1⟩ := trodAll_cons r0
  obtain ⟨rfl, rfl, rfl⟩ := trodAll_nil r1
  obtain rfl : args = #[v0, v1] := by cases args; simp_all
  obtain ⟨rfl, rfl⟩ := trodVars_none hV
  obtain ⟨k0, x0, y0, z0, rfl, rfl, rfl, wk0, wx0, wy0, wz0⟩ := open_comp (hval 0 24 v0 rfl rfl) h0
  obtain ⟨a1, rfl, rfl, rfl, w1⟩ := open_int Tryd.underlying5 (hval 1 5 v1 rfl rfl) h1
  clear hA0 hval0
  refine (compWhole_walk W (of_laid hL) k0 wk0 x0 wx0 y0 wy0 z0 wz0 a1 w1).mono fun e W' ⟨he, bel⟩ => ?_
  subst he
  exact ⟨_, rfl, _, _, _, [], _, [], hW', trodAll_mk1 (shut_bool Tryd.underlying4 _), (trodAll_cons_mk (shut_comp wk0 wx0 wy0 wz0) (trodAll_cons_mk (shut_int Tryd.underlying5 w1) trodAll_mk0)), rfl, bel.frame _, fun h => by cases h⟩

theorem compWhole_row : Rows.CompWholeSaid :=
  OpenClaim.holds_of_wide 3 Tryd.f3 rfl rfl rfl rfl rfl rfl rfl ⟨rfl, rfl, rfl, rfl, rfl⟩ rfl rfl rfl rfl rfl (by kernel_rfl) Tryd.func3 (by kernel_rfl)
    (of_decide_eq_true (by kernel_rfl)) (by unfold Func.isWrapper; first | (rw [if_pos (by decide +kernel)]; kernel_rfl) | (rw [if_neg (by decide +kernel)]; exact ⟨rfl, rfl⟩))
    (fun os started H enc _ => compWhole_lifted os started H enc)

theorem compWhole_holds : Rows.CompWholeCardSaid :=
  Claim7.holds_tied_plain_at .later [] [.data] true (true, "8ca0d6b8ccc34495e322e2d592ec33e163ccb62834ee7392b16817c4c942c2a4") false
    compWhole_row (fun _ h => by cases h) (by kernel_rfl) (fun _ h => by cases h) compWhole_row_tie rfl ⟨rfl, rfl⟩ (by kernel_rfl) rfl
    (fun f fn hf hfn => by
      obtain rfl : f = 3 := Option.some.inj ((show Tryd.prog.funcNamed "pinnace/pinnacelaw06.CompWhole" = some 3 by kernel_rfl).symm.trans hf) |>.symm
      obtain rfl : fn = Tryd.f3 := (Option.some.inj (Tryd.func3.symm.trans hfn)).symm
      exact ⟨by kernel_rfl, fun j t ht => by
        rw [Tryd.params3] at ht
        have hm : t ∈ [24, 5] := by simpa using Array.mem_of_getElem? ht
        have hall : ([24, 5].all fun u => !Tryd.prog.wantsStandIn u) = true := by kernel_rfl
        exact (show Tryd.prog.wantsStandIn t = false by simpa using List.all_eq_true.1 hall t hm)⟩)
    (by kernel_rfl)

end Go.Proofs.YtpmolkomnnpepabDoor
