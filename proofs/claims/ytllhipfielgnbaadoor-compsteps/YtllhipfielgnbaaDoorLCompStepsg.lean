/-
  For every two components and every number of bits ahead: PutStep of package comp writes just the second one's bits behind the first, or refuses it and writes nothing, SizeStep tells how many, and GetStep reads it again: CompSteps returns true, whatever its arguments, where the table of the components lies as the program's text lays it, and changes nothing that was there.
-/
import Derived.Test.YtllhipfielgnbaaDoorKbkg
namespace Go.Proofs.YtllhipfielgnbaaDoor
open Go.ChangeShapes Go.WideShapes Go.ChangeAt Go.RowKit
set_option linter.unusedVariables false
set_option maxRecDepth 100000

theorem packed_src {w w' : World} {v : Value} {L : List Bool} (h : Packed w w' v L) : Src w' v (pack L).length (vrow (pack L)) := by
  rw [length_pack]; exact Src.of_row h.1


theorem get_or2 (w0 w : World) (br : Nat) (P : List Nat) (t n : Nat) (h : Or w0 w br P t) (hn : n ≤ 64) (hl : t + n ≤ 8 * P.length) :
    Calls Tryd.prog 15 #[.pointer (some ⟨br, 0, none⟩), .int .i64 n] w fun e w' => e = .returned (.tuple #[.int .u64 (numAt P t n : Nat), .int .i64 0]) ∧ Or w0 w' br P (t + n) ∧ Fr (At br none) w w' := by
  obtain ⟨g, hR, hF⟩ := h
  refine (get_ok2 _ w br g P t n hR hn hl).mono ?_
  rintro e w' ⟨rfl, hR', hf'⟩
  exact ⟨rfl, Or.of_rd hR hF hR' hf', hf'⟩

/-- both boxes -/
structure Bxs (w w' : World) (k k' : Nat) (F G : Nat → Int) : Prop where
  a : Box w' w.heap.size k F
  b : Box w' (w.heap.size + 1) k' G
theorem Bxs.quiet {w w1 w2 : World} {k k' : Nat} {F G : Nat → Int} (h : Bxs w w1 k k' F G) (hf : Fr Nobody w1 w2) : Bxs w w2 k k' F G := ⟨h.a.quiet hf, h.b.quiet hf⟩
theorem Bxs.grown {B : Nat} {w w1 w2 : World} {k k' : Nat} {F G : Nat → Int} {v : Value} {L : List Bool} (h : Bxs w w1 k k' F G) (hv : Bo B w1 v L) (hg : w1.grownBy w2 v.ownBlock) : Bxs w w2 k k' F G := ⟨h.a.grown hv hg, h.b.grown hv hg⟩
theorem Bxs.wf {w w1 w2 : World} {k k' : Nat} {F G : Nat → Int} (h : Bxs w w1 k k' F G) (hf : Wf w1 w2) : Bxs w w2 k k' F G := ⟨h.a.wf hf, h.b.wf hf⟩
theorem Bxs.fr1 {w w0 w1 w2 : World} {k k' br t : Nat} {P : List Nat} {F G : Nat → Int} (h : Bxs w w1 k k' F G) (hf : Fr (At br none) w1 w2) (ho : Or w0 w1 br P t) : Bxs w w2 k k' F G := ⟨h.a.fr1 hf (ho.ne_box h.a), h.b.fr1 hf (ho.ne_box h.b)⟩

set_option maxHeartbeats 8000000 in
theorem compSteps_main (w : World) (ht : Tab w) (k k' n kk : Nat) (hk : k < 256) (hk' : k' < 256) (hn : n < 256) (hkk : (n : Int) % 16 = (kk : Int)) (hkk2 : kk < 16) (F G : Nat → Int) (hF : I32 F) (hG : I32 G) (M : List Bool) (cd : Nat) (hM : sizeS k k' F G = M.length) (hM2 : M.length ≤ 100)
    (GP : ∀ w, Calls Tryd.prog 7 #[.agg (cmp k F), .agg (cmp k' G)] w fun e w' => ∃ u, e = .returned (.tuple #[u, .int .i64 (cd : Int)]) ∧ Bo w.heap.size w' u M ∧ Fr Nobody w w')
    (PP : ∀ w1 wx b, Tab w1 → Ow w1 wx b (ones kk) → Calls Tryd.prog 8 #[.pointer (some ⟨b, 0, none⟩), .agg (cmp k F), .agg (cmp k' G)] wx fun e w' => e = .returned (.int .i64 (cd : Int)) ∧ Ow w1 w' b (ones kk ++ M) ∧ Wf wx w')
    (BK : cd = 0 → scode k F (pack (ones kk ++ M)) kk = 0 ∧ kk + scons k F (pack (ones kk ++ M)) kk = (ones kk ++ M).length ∧ cmp k (sfld k F (pack (ones kk ++ M)) kk) = cmp k' G) :
    Calls Tryd.prog 3 #[.agg (cmp k F), .agg (cmp k' G), .int .u8 (n : Int)] w fun e w' => e = .returned (.bool true) ∧ Fr Nobody w w' := by
  have H : Hid (Tab w) := ht
  have HB0 : Hid (Bxs w ((w.alloc (.cells (cmp k F) 24)).alloc (.cells (cmp k' G) 24)) k k' F G) := ⟨(boxes w k k' F G).1, (boxes w k k' F G).2.1⟩
  have HF0 : Hid (Fr Nobody w ((w.alloc (.cells (cmp k F) 24)).alloc (.cells (cmp k' G) 24))) := (boxes w k k' F G).2.2
  have GP' : Hid (∀ w, _) := GP
  have PP' : Hid (∀ w1 wx b, Tab w1 → Ow w1 wx b (ones kk) → _) := PP
  have SZ : Hid (∀ w, Tab w → Calls Tryd.prog 13 #[.agg (cmp k F), .agg (cmp k' G)] w fun e w' => e = .returned (.int .i64 ((M.length : Nat) : Int)) ∧ Fr Nobody w w') := fun w h => by rw [← hM]; exact sizeStep_any w h k k' hk hk' F G hF hG
  have AH : Hid (∀ w, _) := fun w => ahead_any w n kk hn hkk hkk2
  have BK' : Hid (cd = 0 → scode k F (pack (ones kk ++ M)) kk = 0 ∧ kk + scons k F (pack (ones kk ++ M)) kk = (ones kk ++ M).length ∧ cmp k (sfld k F (pack (ones kk ++ M)) kk) = cmp k' G) := BK
  have HLO : Hid ((ones kk).length = kk) := length_ones kk
  have HA : Hid _ := eq_a3 9997 (G 0) (G 1) (G 2) (G 0) (G 1) (G 2)
  have hl0 := length_ones kk
  generalize hLL : ones kk = L at *
  clear GP PP BK ht hM hLL
  unfold cmp at GP' PP' SZ HB0 HF0
  have HNL : Hid ((L ++ M).length = kk + M.length) := by show _ = _; rw [List.length_append, HLO.out]
  unfold cmp
  go_enter Tryd.func3, Tryd.ntmps3
  go_wp2_with fail
  refine (awake6 _ (H.out.quiet HF0.out)).mono ?_
  rintro e w1 ⟨rfl, hf⟩
  have F1 : Hid (Fr Nobody w w1) := Fr.trans HF0.out hf
  have B1 : Hid (Bxs w w1 k k' F G) := Bxs.quiet HB0.out hf
  have T1 : Hid (Tab w1) := H.out.quiet F1.out
  clear hf HB0 HF0
  go_wp2_with fail
  refine (AH.out _).mono ?_
  rintro e w2 ⟨b, v, rfl, hO, hV⟩
  obtain ⟨av, cv, hvs⟩ := row_any hV
  rw [HLO.out] at hvs
  subst hvs
  have O2 : Hid (Ow w1 w2 b L) := hO
  have V2 : Hid (Bo w1.heap.size w2 (.slice av kk cv) L) := hV
  have B2 : Hid (Bxs w w2 k k' F G) := B1.out.quiet hO.fr
  obtain ⟨p0, p1, p2, p3⟩ := B2.out.a.cells
  obtain ⟨q0, q1, q2, q3⟩ := B2.out.b.cells
  clear hO hV
  go_wp2_with fail
  refine (GP'.out _).mono ?_
  rintro e w3 ⟨u, rfl, hU, hf⟩
  obtain ⟨au, cu, hus⟩ := row_any hU
  subst hus
  have O3 : Hid (Ow w1 w3 b L) := O2.out.quiet hf
  have V3 : Hid (Bo w1.heap.size w3 (.slice av kk cv) L) := V2.out.quiet hf
  have U3 : Hid (Bs w3 (.slice au M.length cu) M) := hU.bs
  have B3 : Hid (Bxs w w3 k k' F G) := B2.out.quiet hf
  clear hU hf O2 V2 p0 p1 p2 p3 q0 q1 q2 q3
  go_wp2_with (at_builtin; refine append_bits rfl _ _ rfl w1.heap.size _ _ L M V3.out U3.out (by omega) (by omega) O3.out.fr.size rfl rfl ?_)
  intro v4 w4 hV4 hg4
  have O4 : Hid (Ow w1 w4 b L) := O3.out.grown V3.out hg4
  have B4 : Hid (Bxs w w4 k k' F G) := B3.out.grown V3.out hg4
  obtain ⟨a4, c4, hv4⟩ := row_any hV4
  rw [HNL.out] at hv4
  subst hv4
  have V4 : Hid (Bs w4 (.slice a4 (kk + M.length) c4) (L ++ M)) := hV4.bs
  obtain ⟨p0, p1, p2, p3⟩ := B4.out.a.cells
  obtain ⟨q0, q1, q2, q3⟩ := B4.out.b.cells
  clear hV4 hg4 O3 V3 U3 B3
  go_wp2_with fail
  refine (PP'.out w1 w4 b T1.out O4.out).mono ?_
  rintro e w5 ⟨rfl, hO, hw⟩
  have O5 : Hid (Ow w1 w5 b (L ++ M)) := hO
  have V5 : Hid (Bs w5 (.slice a4 (kk + M.length) c4) (L ++ M)) := V4.out.wf hw
  have B5 : Hid (Bxs w w5 k k' F G) := B4.out.wf hw
  clear hO hw O4 V4 B4 p0 p1 p2 p3 q0 q1 q2 q3
  go_wp2_with fail
  refine (bytes_ow w1 w5 b (L ++ M) O5.out (by rw [HNL.out]; omega)).mono ?_
  rintro e w6 ⟨va, rfl, ho, hf, _, hO⟩
  have O6 : Hid (Ow w1 w6 b (L ++ M)) := hO
  have V6 : Hid (Bs w6 (.slice a4 (kk + M.length) c4) (L ++ M)) := V5.out.quiet hf
  have R6 : Hid (w6.ownsRow 0 5 1 va (nb (L ++ M).length) (vrow (pack (L ++ M)))) := ho
  have B6 : Hid (Bxs w w6 k k' F G) := B5.out.quiet hf
  clear ho hf hO O5 V5 B5
  go_wp2_with fail
  refine (rbytes_any w6 _ (L ++ M) V6.out (by rw [HNL.out]; omega)).mono ?_
  rintro e w7 ⟨vb, rfl, hp⟩
  have O7 : Hid (Ow w1 w7 b (L ++ M)) := O6.out.quiet hp.2.1
  have S7 : Hid (Src w7 va (pack (L ++ M)).length (vrow (pack (L ++ M))) ∧ Src w7 vb (pack (L ++ M)).length (vrow (pack (L ++ M)))) := by
    refine ⟨?_, packed_src hp⟩
    rw [length_pack]; exact Src.of_row (hp.2.1.row R6.out (fun _ _ => id))
  have B7 : Hid (Bxs w w7 k k' F G) := B6.out.quiet hp.2.1
  clear hp R6 O6 V6 B6
  go_wp2_with fail
  refine (same_fr w7 va vb _ S7.out.1 S7.out.2).mono ?_
  rintro e w8 ⟨rfl, hf⟩
  have O8 : Hid (Ow w1 w8 b (L ++ M)) := O7.out.quiet hf
  have B8 : Hid (Bxs w w8 k k' F G) := B7.out.quiet hf
  clear hf O7 B7 S7
  go_wp2_with fail
  refine (len_fr w1 w8 b (L ++ M) O8.out).mono ?_
  rw [HNL.out]
  rintro e w9 ⟨rfl, hf⟩
  have O9 : Hid (Ow w1 w9 b (L ++ M)) := O8.out.quiet hf
  have B9 : Hid (Bxs w w9 k k' F G) := B8.out.quiet hf
  obtain ⟨p0, p1, p2, p3⟩ := B9.out.a.cells
  obtain ⟨q0, q1, q2, q3⟩ := B9.out.b.cells
  clear hf O8 B8
  go_wp2_with fail
  refine (SZ.out _ (T1.out.quiet O9.out.fr)).mono ?_
  rintro e w10 ⟨rfl, hf⟩
  have O10 : Hid (Ow w1 w10 b (L ++ M)) := O9.out.quiet hf
  have B10 : Hid (Bxs w w10 k k' F G) := B9.out.quiet hf
  clear hf O9 B9 p0 p1 p2 p3 q0 q1 q2 q3
  by_cases h0 : cd = 0
  · subst h0
    obtain ⟨g0, g1, g2⟩ := BK'.out rfl
    have GG : Hid (∀ wx br, Or w1 wx br (pack (L ++ M)) kk → Calls Tryd.prog 16 #[.pointer (some ⟨br, 0, none⟩), .agg #[.int .u8 (k : Int), .int .i32 (F 0), .int .i32 (F 1), .int .i32 (F 2)]] wx fun e w' => e = .returned (.tuple #[.agg #[.int .u8 (k' : Int), .int .i32 (G 0), .int .i32 (G 1), .int .i32 (G 2)], .int .i64 0]) ∧ Or w1 w' br (pack (L ++ M)) (L ++ M).length ∧ Fr (At br none) wx w') := fun wx br h => by
      have := stepC_or w1 wx T1.out br (pack (L ++ M)) kk k hk F h (cmp k' G) (fun _ => g2.symm) (fun e => absurd g0 e)
      rw [g0, g1] at this
      exact this
    have EB : Hid (endOf (pack (L ++ M)) (L ++ M).length = 0) := end_back (L ++ M)
    have HPK : Hid (kk ≤ 8 * (pack (L ++ M)).length ∧ (pack (L ++ M)).length ≤ 1048576) := by
      have e1 := length_pack (L ++ M)
      rw [HNL.out] at e1
      unfold nb at e1
      show _ ∧ _
      omega
    have PL : Hid (∀ x ∈ pack (L ++ M), x < 256) := pack_lt _
    clear g0 g1 g2 BK' PP' GP' SZ AH
    go_wp2_with fail
    refine (bytes_ow w1 w10 b (L ++ M) O10.out (by rw [HNL.out]; omega)).mono ?_
    rintro e w11 ⟨va, rfl, ho, hf, _, hO⟩
    have F11 : Hid (Fr Nobody w1 w11) := hO.fr
    have S11 : Hid (Src w11 va (pack (L ++ M)).length (vrow (pack (L ++ M)))) := by
      show Src _ _ _ _
      rw [length_pack]; exact Src.of_row ho
    have B11 : Hid (Bxs w w11 k k' F G) := B10.out.quiet hf
    clear ho hf hO O10 B10
    generalize pack (L ++ M) = P at *
    generalize (L ++ M).length = N at *
    go_wp2_with fail
    refine (read_or w1 w11 va P F11.out S11.out PL.out HPK.out.2).mono ?_
    rintro e w12 ⟨br, rfl, _, hO, hf⟩
    have O12 : Hid (Or w1 w12 br P 0) := hO
    have B12 : Hid (Bxs w w12 k k' F G) := B11.out.quiet hf
    clear hO hf S11 F11 B11
    go_wp2_with fail
    refine (get_or2 w1 w12 br P 0 kk O12.out (by omega) (by have := HPK.out.1; omega)).mono ?_
    generalize numAt P 0 kk = nk
    rintro e w13 ⟨rfl, hO, hf⟩
    rw [Nat.zero_add] at hO
    have O13 : Hid (Or w1 w13 br P kk) := hO
    have B13 : Hid (Bxs w w13 k k' F G) := B12.out.fr1 hf O12.out
    obtain ⟨p0, p1, p2, p3⟩ := B13.out.a.cells
    clear hO hf O12 B12
    go_wp2_with fail
    refine (GG.out w13 br O13.out).mono ?_
    rintro e w14 ⟨rfl, hO, hf⟩
    have O14 : Hid (Or w1 w14 br P N) := hO
    have B14 : Hid (Bxs w w14 k k' F G) := B13.out.fr1 hf O13.out
    clear hO hf O13 B13 p0 p1 p2 p3
    obtain ⟨p0, p1, p2, p3⟩ := B14.out.a.cells
    obtain ⟨q0, q1, q2, q3⟩ := B14.out.b.cells
    have y1 : w.heap.size + 1 < w14.heap.size := World.block_lt_of_cell? w14 _ q0
    have y2 : w14.heap.size ≠ w.heap.size + 1 := by omega
    have O15 : Hid (Or w1 (w14.alloc (.cells #[.int .u8 (k' : Int), .int .i32 (G 0), .int .i32 (G 1), .int .i32 (G 2)] 24)) br P N) := O14.out.quiet ((Fr.refl _ _).alloc _)
    have hA := HA.out
    have t1 : (G 0 == G 0) = true := by simp
    have t2 : (G 1 == G 1) = true := by simp
    have t3 : (G 2 == G 2) = true := by simp
    go_wp2_with fail
    refine (end_or w1 _ br P N O15.out).mono ?_
    rw [EB.out]
    rintro e w16 ⟨rfl, hO⟩
    have F16 : Hid (Fr Nobody w1 w16) := hO.fr
    clear hO
    go_wp2
    go_ret
    exact ⟨rfl, F1.out.trans F16.out⟩
  · have hne : ((cd : Int) != 0) = true := by rw [bne_iff_ne]; omega
    go_wp2
    go_ret
    exact ⟨rfl, F1.out.trans O10.out.fr⟩
theorem compSteps_walk (w : World) (ht : Tab w) (k : Int) (wk : ok8 k) (a : Int) (wa : ok32 a) (b : Int) (wb : ok32 b) (c : Int) (wc : ok32 c) (k' : Int) (wk' : ok8 k') (a' : Int) (wa' : ok32 a') (b' : Int) (wb' : ok32 b') (c' : Int) (wc' : ok32 c') (n : Int) (wn : (Lit.int .u8 n).wf = true) :
    Calls Tryd.prog 3 #[.agg #[.int .u8 k, .int .i32 a, .int .i32 b, .int .i32 c], .agg #[.int .u8 k', .int .i32 a', .int .i32 b', .int .i32 c'], .int .u8 n] w fun e w' => e = .returned (.bool true) ∧ Below w.heap.size w w' := by
  obtain ⟨k, rfl, hk⟩ := ok8_nat wk
  obtain ⟨k', rfl, hk'⟩ := ok8_nat wk'
  obtain ⟨n, rfl, hn⟩ := ok8_nat wn
  have hkk2 : n % 16 < 16 := Nat.mod_lt _ (by decide)
  have hF := i32_f3 wa wb wc
  have hG := i32_f3 wa' wb' wc'
  have key : Calls Tryd.prog 3 #[.agg (cmp k (f3 a b c)), .agg (cmp k' (f3 a' b' c')), .int .u8 (n : Int)] w fun e w' => e = .returned (.bool true) ∧ Fr Nobody w w' := by
    generalize f3 a b c = F at *
    generalize f3 a' b' c' = G at *
    by_cases h0 : ckS k k' F G = 0
    · obtain ⟨h1, h2, h3⟩ := ckS_ok k k' F G h0
      subst h3
      refine compSteps_main w ht k k n (n % 16) hk hk hn (by omega) hkk2 F G hF hG (sbs k F G (cnt k)) 0 (by unfold sizeS; rw [if_pos h0, length_sbs]) (by rw [length_sbs]; have := ssum_le k (cnt k) F G (Nat.le_refl _); have := cnt_le k; omega) ?_ ?_ ?_
      · exact fun w => rstep_ok w k hk F G h1 h2
      · intro w1 wx bb ht1 hO
        exact putStep_ok w1 wx ht1 bb _ k hk F G hF hG hO h0 (by rw [length_ones]; omega)
      · intro _
        have hb := step_back k F G (pack (ones (n % 16) ++ sbs k F G (cnt k))) (ones (n % 16)) _ (by rw [bitsB_pack, List.append_assoc]) h1 h2
        rw [length_ones] at hb
        refine ⟨hb.1, ?_, hb.2.2⟩
        rw [hb.2.1, List.length_append, length_ones, length_sbs]
    · refine compSteps_main w ht k k' n (n % 16) hk hk' hn (by omega) hkk2 F G hF hG [] (ckS k k' F G) (by unfold sizeS; rw [if_neg h0]; rfl) (by decide) ?_ ?_ (fun e => absurd e h0)
      · intro w
        refine (rstep_err w k k' hk hk' F G h0).mono ?_
        rintro e w' ⟨rfl, hf⟩
        exact ⟨_, rfl, Bo.nil _ _, hf⟩
      · intro w1 wx bb ht1 hO
        refine (putStep_err w1 wx ht1 bb k k' hk hk' F G hO.fr h0).mono ?_
        rintro e w' ⟨rfl, hf⟩
        exact ⟨rfl, by rw [List.append_nil]; exact hO.quiet hf, Wf.of_quiet hf⟩
  refine key.mono ?_
  rintro e w' ⟨rfl, hf⟩
  exact ⟨rfl, hf.below (Nat.le_refl _) (fun _ _ => id)⟩
theorem compSteps_lifted (os : Os) (started : os.Started) (H : Type) (enc : TypeId × Value → H) :
    ReturnsInHanded {} Tryd.checked os 3 .any (fun w args => (Rows.compStepsSpec.pre enc Tryd.prog Tryd.f3 [] false w args ∧ laidMetH Tryd.prog laid1 w) ∧ sizedMet enc Tryd.prog Tryd.f3 (OpenSpec.ofChange Rows.compStepsSpec) false w args) (Rows.compStepsSpec.post enc Tryd.prog Tryd.f3 false true false false) := by
  refine returnsInHanded_of_change_and (C := Tryd.checked) (X := fun w _ => laidMetH Tryd.prog laid1 w) (fun _ _ _ hh h => h.of_heap hh) own started (by kernel_rfl) Tryd.func3
    (ChangeSpec.witness_shaped (enc := enc) (C := Tryd.checked) (os := os) (X := fun w _ => laidMetH Tryd.prog laid1 w) false (World.doorLaid Tryd.prog 400 os) #[.agg #[.int .u8 0, .int .i32 0, .int .i32 0, .int .i32 0], .agg #[.int .u8 0, .int .i32 0, .int .i32 0, .int .i32 0], .int .u8 0] 8 rfl (World.shaped_of_RefB (by kernel_rfl) (by kernel_rfl)) (by kernel_rfl) (by kernel_rfl) (by kernel_rfl) (door_met os _)) ?_
  intro W base args ds gs before hval0 hW _ _ hL _
  have hval : ∀ (j : Nat) t v, Tryd.f3.params[j]? = some t → args[j]? = some v → Value.okWide Tryd.prog W .any base t v := hval0
  have hW' := hW
  obtain ⟨p, q, hA0, hV, rfl, hfz, hnd⟩ := hW
  have hA : DataW.TrodAll enc Tryd.prog W 0 (fun _ => true) true Tryd.f3.params.toList args.toList ds p := hA0
  rw [Tryd.params3] at hA hval
  obtain ⟨v0, vs0, d0, ds0, p0, q0, hargs, rfl, rfl, h0, r0⟩ := trodAll_cons hA
  obtain ⟨v1, vs1, d1, ds1, p1, q1, rfl, rfl, rfl, h1, r1⟩ := trodAll_cons r0
  obtain ⟨v2, vs2, d2, ds2, p2, q2, rfl, rfl, rfl, h2, r2⟩ := trodAll_cons r1
  obtain ⟨rfl, rfl, rfl⟩ := trodAll_nil r2
  obtain rfl : args = #[v0, v1, v2] := by cases args; simp_all
  obtain ⟨rfl, rfl⟩ := trodVars_none hV
  obtain ⟨k0, x0, y0, z0, rfl, rfl, rfl, wk0, wx0, wy0, wz0⟩ := open_comp (hval 0 24 v0 rfl rfl) h0
  obtain ⟨k1, x1, y1, z1, rfl, rfl, rfl, wk1, wx1, wy1, wz1⟩ := open_comp (hval 1 24 v1 rfl rfl) h1
  obtain ⟨a2, rfl, rfl, rfl, w2⟩ := open_int Tryd.underlying5 (hval 2 5 v2 rfl rfl) h2
  clear hA0 hval0
  refine (compSteps_walk W (of_laid hL) k0 wk0 x0 wx0 y0 wy0 z0 wz0 k1 wk1 x1 wx1 y1 wy1 z1 wz1 a2 w2).mono fun e W' ⟨he, bel⟩ => ?_
  subst he
  exact ⟨_, rfl, _, _, _, [], _, [], hW', trodAll_mk1 (shut_bool Tryd.underlying4 _), (trodAll_cons_mk (shut_comp wk0 wx0 wy0 wz0) (trodAll_cons_mk (shut_comp wk1 wx1 wy1 wz1) (trodAll_cons_mk (shut_int Tryd.underlying5 w2) trodAll_mk0))), rfl, bel.frame _, fun h => by cases h⟩

theorem compSteps_row : Rows.CompStepsSaid :=
  OpenClaim.holds_of_wide 3 Tryd.f3 rfl rfl rfl rfl rfl rfl rfl ⟨rfl, rfl, rfl, rfl, rfl⟩ rfl rfl rfl rfl rfl (by kernel_rfl) Tryd.func3 (by kernel_rfl)
    (of_decide_eq_true (by kernel_rfl)) (by unfold Func.isWrapper; first | (rw [if_pos (by decide +kernel)]; kernel_rfl) | (rw [if_neg (by decide +kernel)]; exact ⟨rfl, rfl⟩))
    (fun os started H enc _ => compSteps_lifted os started H enc)

theorem compSteps_holds : Rows.CompStepsCardSaid :=
  Claim7.holds_tied_plain_at .later [] [.data] true (true, "3b6ec10ecb5a8dec2e0daf80b3764bbd442228e3f8940a8a4f93296a762da05d") false
    compSteps_row (fun _ h => by cases h) (by kernel_rfl) (fun _ h => by cases h) compSteps_row_tie rfl ⟨rfl, rfl⟩ (by kernel_rfl) rfl
    (fun f fn hf hfn => by
      obtain rfl : f = 3 := Option.some.inj ((show Tryd.prog.funcNamed "pinnace/pinnacelaw06.CompSteps" = some 3 by kernel_rfl).symm.trans hf) |>.symm
      obtain rfl : fn = Tryd.f3 := (Option.some.inj (Tryd.func3.symm.trans hfn)).symm
      exact ⟨by kernel_rfl, fun j t ht => by
        rw [Tryd.params3] at ht
        have hm : t ∈ [24, 24, 5] := by simpa using Array.mem_of_getElem? ht
        have hall : ([24, 24, 5].all fun u => !Tryd.prog.wantsStandIn u) = true := by kernel_rfl
        exact (show Tryd.prog.wantsStandIn t = false by simpa using List.all_eq_true.1 hall t hm)⟩)
    (by kernel_rfl)

end Go.Proofs.YtllhipfielgnbaaDoor
