/-
  For every bytes, skip and kind: from any bit on they are a component's of the kind, or aren't, as the document's list of bits says, and the reader is as far as it says: CompGets returns true, whatever its arguments, where the table of the components lies as the program's text lays it, and changes nothing that was there.
-/
import Derived.Test.YtpmolkomnnpepabDoorKp
namespace Go.Proofs.YtpmolkomnnpepabDoor
open Go.ChangeShapes Go.WideShapes Go.ChangeAt Go.RowKit
set_option linter.unusedVariables false
set_option maxRecDepth 100000

set_option maxHeartbeats 40000000 in
theorem compGets_fin (w : World) (ht : Tab w) (ao : Option Addr) (len cap m s k kd : Nat) (hkd : kd < 256) (P : List Nat) (hmin : min (len : Int) 40 = (m : Int)) (hm : m ≤ 40) (hml : m ≤ len) (hlc : len ≤ cap) (hmax : len ≤ maxLen) (hn : ao = none → cap = 0) (hPl : P.length = m) (hPa : BytesAt w ao P) (hPb : ∀ x ∈ P, x < 256) (hs : s ≤ 255) (hk : k = min (s % 32) (8 * m)) :
    Calls Tryd.prog 5 #[.slice ao len cap, .int .u8 (s : Int), .int .u8 (kd : Int)] w fun e w' => e = .returned (.bool true) ∧ Fr Nobody w w' := by
  unfold maxLen at hmax
  have HT : Hid (Tab w) := ht
  have HP : Hid (P.length = m ∧ BytesAt w ao P ∧ (∀ x ∈ P, x < 256) ∧ (ao = none → cap = 0)) := ⟨hPl, hPa, hPb, hn⟩
  obtain ⟨ll, hll⟩ : ∃ ll, 8 * m = ll := ⟨_, rfl⟩
  have hlb : (bitsB P).length = ll := by rw [length_bitsB, hPl, hll]
  have hll2 : ll ≤ 320 := by omega
  rw [hll] at hk
  have hk1 : k ≤ ll := by omega
  have hk2 : k ≤ 31 := by omega
  have hkm : min ((s : Int) % 32) (ll : Int) = (k : Int) := by omega
  have HLL : Hid (8 * P.length = ll ∧ (bitsB P).length = ll) := ⟨by rw [hPl, hll], hlb⟩
  obtain ⟨ka, Fa, hgo⟩ := gout_cmp kd P k
  have G1 : Hid (∀ w v, Bs w v ((bitsB P).drop k) → _) := fun w v h => rgetC_any w v P k kd hkd h (by rw [hlb]; omega) (gout kd P k) (gout_1 kd P k) (gout_2 kd P k)
  have G2 : Hid (∀ w1 br, Or w w1 br P k → _) := fun w1 br h => getC_or w w1 ht br P k kd hkd h (gout kd P k) (gout_1 kd P k) (gout_2 kd P k)
  rw [hgo] at G1 G2
  generalize gcode kd P k = rc at *
  generalize gcons kd P k = rn at *
  clear hgo
  obtain ⟨q, hq⟩ : ∃ q, 8 * P.length - (k + rn) = q := ⟨_, rfl⟩
  have HL : Hid (((bitsB P).drop (k + rn)).length = q) := by show _ = _; rw [List.length_drop, length_bitsB]; omega
  have G5 : Hid (∀ w0 w br, Or w0 w br P (k + rn) → Calls Tryd.prog 28 #[.pointer (some ⟨br, 0, none⟩)] w fun e w' => e = .returned (.int .i64 (q : Int)) ∧ Or w0 w' br P (k + rn)) := fun w0 w br h => by rw [← hq]; exact left_or w0 w br P (k + rn) h
  have hq2 : q ≤ 320 := by omega
  have t3 : (rc == rc) = true := by simp
  have t4 : ((q : Int) == (q : Int)) = true := by simp
  have HA : Hid _ := eq_a3 9997 (Fa 0) (Fa 1) (Fa 2) (Fa 0) (Fa 1) (Fa 2)
  unfold cmp at G1 G2
  clear hn hPl hPa hPb hll hlb hk hq ht
  go_enter Tryd.func5, Tryd.ntmps5
  go_wp2_with fail
  refine (awake6 w HT.out).mono ?_
  rintro e w1 ⟨rfl, hf⟩
  have F1 : Hid (Fr Nobody w w1) := hf
  have HS : Hid (Src w1 (.slice ao m cap) P.length (vrow P)) := by
    have := (HP.out.2.1.quiet F1.out).src cap HP.out.2.2.2
    rw [HP.out.1] at this ⊢
    exact this
  clear hf
  go_wp2_with fail
  refine (read_or w w1 (.slice ao m cap) P F1.out HS.out HP.out.2.2.1 (by have := HP.out.1; omega)).mono ?_
  rintro e w2 ⟨br, rfl, _, hO, _⟩
  have H2 : Hid (Or w w2 br P 0) := hO
  clear hO HS F1
  go_wp2_with fail
  refine (rbits_any w2 ao cap m P (HP.out.2.1.quiet H2.out.fr) HP.out.1 HP.out.2.2.1 (by omega)).mono ?_
  rintro e w3 ⟨v3, rfl, hB, hf⟩
  obtain ⟨a3, c3, hv3⟩ := row_any hB
  rw [HLL.out.2] at hv3
  subst hv3
  have H3 : Hid (Duo w w3 br P 0 (.slice a3 ll c3) (bitsB P)) := ⟨H2.out.quiet hf, hB.bs⟩
  have hc3 : ll ≤ c3 := by
    rcases hB.bs with ⟨hv, h0⟩ | ⟨g, o, cap', cur, hv, hc, _⟩
    · simp only [Value.slice.injEq] at hv; omega
    · simp only [Value.slice.injEq] at hv; omega
  clear hB hf H2
  go_wp2_with fail
  refine (get_duo w w3 br P 0 k _ _ H3.out (by omega) (by have := HLL.out.1; omega)).mono ?_
  generalize numAt P 0 k = nk
  rintro e w4 ⟨rfl, hD⟩
  have H4 : Hid (Or w w4 br P k) := by have := hD.1; rw [Nat.zero_add] at this; exact this
  have HB := hD.2
  rw [← HLL.out.2] at HB
  have HD0 := HB.drop k (by rw [HLL.out.2]; exact hk1)
  rw [HLL.out.2] at HD0
  clear HB hD H3
  by_cases e : c3 = k
  · have HD : Hid (Bs w4 (.slice a3 0 0) ((bitsB P).drop k)) := by rw [if_pos e, e, Nat.sub_self, show ll - k = 0 from by omega] at HD0; exact HD0
    have e' := e.symm
    clear e
    subst e'
    clear HD0
    go_wp2_with fail
    refine (G1.out w4 _ HD.out).mono ?_
    rintro e w5 ⟨u, rfl, hU, hf⟩
    obtain ⟨au, cu, hu⟩ := hU.shape
    rw [HL.out] at hu
    subst hu
    have H5 : Hid (Or w w5 br P k) := H4.out.quiet hf
    have HX : Hid (Box (w5.alloc (.cells #[.int .u8 (ka : Int), .int .i32 (Fa 0), .int .i32 (Fa 1), .int .i32 (Fa 2)] 24)) w5.heap.size ka Fa) := Box.new w5 ka Fa
    have HO5 : Hid (Or w (w5.alloc (.cells #[.int .u8 (ka : Int), .int .i32 (Fa 0), .int .i32 (Fa 1), .int .i32 (Fa 2)] 24)) br P k) := H5.out.quiet ((Fr.refl _ _).alloc _)
    clear hU hf H4 HD
    go_wp2_with fail
    refine (G2.out _ br HO5.out).mono ?_
    rintro e w6 ⟨rfl, hO, hf6⟩
    have H6 : Hid (Or w w6 br P (k + rn)) := hO
    have X6 : Hid (Box w6 w5.heap.size ka Fa) := HX.out.fr1 hf6 (HO5.out.ne_box HX.out)
    obtain ⟨x0, x1, x2, x3⟩ := X6.out.cells
    have q6 : w5.heap.size < w6.heap.size := World.block_lt_of_cell? w6 _ x0
    have q7 : w6.heap.size ≠ w5.heap.size := by omega
    have H7 : Hid (Or w (w6.alloc (.cells #[.int .u8 (ka : Int), .int .i32 (Fa 0), .int .i32 (Fa 1), .int .i32 (Fa 2)] 24)) br P (k + rn)) := H6.out.quiet ((Fr.refl _ _).alloc _)
    clear hO H5 hf6 HX HO5 H6
    have hA := HA.out
    go_wp2_with fail
    refine (G5.out w _ br H7.out).mono ?_
    rintro e w8 ⟨rfl, hO⟩
    have H8 : Hid (Fr Nobody w w8) := hO.fr
    clear hO H7
    go_wp2
    go_ret
    exact ⟨rfl, H8.out⟩
  · have HD : Hid (Bs w4 (.slice (a3.map (fun x => x.add k)) (ll - k) (c3 - k)) ((bitsB P).drop k)) := by rw [if_neg e] at HD0; exact HD0
    clear HD0
    go_wp2_with fail
    refine (G1.out w4 _ HD.out).mono ?_
    rintro e w5 ⟨u, rfl, hU, hf⟩
    obtain ⟨au, cu, hu⟩ := hU.shape
    rw [HL.out] at hu
    subst hu
    have H5 : Hid (Or w w5 br P k) := H4.out.quiet hf
    have HX : Hid (Box (w5.alloc (.cells #[.int .u8 (ka : Int), .int .i32 (Fa 0), .int .i32 (Fa 1), .int .i32 (Fa 2)] 24)) w5.heap.size ka Fa) := Box.new w5 ka Fa
    have HO5 : Hid (Or w (w5.alloc (.cells #[.int .u8 (ka : Int), .int .i32 (Fa 0), .int .i32 (Fa 1), .int .i32 (Fa 2)] 24)) br P k) := H5.out.quiet ((Fr.refl _ _).alloc _)
    clear hU hf H4 HD
    go_wp2_with fail
    refine (G2.out _ br HO5.out).mono ?_
    rintro e w6 ⟨rfl, hO, hf6⟩
    have H6 : Hid (Or w w6 br P (k + rn)) := hO
    have X6 : Hid (Box w6 w5.heap.size ka Fa) := HX.out.fr1 hf6 (HO5.out.ne_box HX.out)
    obtain ⟨x0, x1, x2, x3⟩ := X6.out.cells
    have q6 : w5.heap.size < w6.heap.size := World.block_lt_of_cell? w6 _ x0
    have q7 : w6.heap.size ≠ w5.heap.size := by omega
    have H7 : Hid (Or w (w6.alloc (.cells #[.int .u8 (ka : Int), .int .i32 (Fa 0), .int .i32 (Fa 1), .int .i32 (Fa 2)] 24)) br P (k + rn)) := H6.out.quiet ((Fr.refl _ _).alloc _)
    clear hO H5 hf6 HX HO5 H6
    have hA := HA.out
    go_wp2_with fail
    refine (G5.out w _ br H7.out).mono ?_
    rintro e w8 ⟨rfl, hO⟩
    have H8 : Hid (Fr Nobody w w8) := hO.fr
    clear hO H7
    go_wp2
    go_ret
    exact ⟨rfl, H8.out⟩
theorem compGets_walk (w : World) (ht : Tab w) (a0 : Option Addr) (len0 cap0 : Nat) (z0 : List Int) (w0 : IsRow .u8 w a0 len0 cap0 z0) (a1 : Int) (w1 : (Lit.int .u8 a1).wf = true) (a2 : Int) (w2 : (Lit.int .u8 a2).wf = true) :
    Calls Tryd.prog 5 #[.slice a0 len0 cap0, .int .u8 a1, .int .u8 a2] w fun e w' => e = .returned (.bool true) ∧ Below w.heap.size w w' := by
  obtain ⟨hl, hm, hI, hw⟩ := w0.ints
  obtain ⟨hc, hn⟩ := w0.more
  have hb : ∀ x ∈ z0.take len0, 0 ≤ x ∧ x ≤ 255 := fun x hx => by
    have := hw x hx
    simpa [Lit.wf, IntKind.min, IntKind.max, IntKind.signed, IntKind.bits] using this
  obtain ⟨s, rfl, hs⟩ := ok8_nat w1
  obtain ⟨kd, rfl, hkd⟩ := ok8_nat w2
  obtain ⟨P, hPl, hPa, hPb⟩ := bytes_of w a0 _ (min len0 40) hI hb (by omega)
  refine (compGets_fin w ht a0 len0 cap0 (min len0 40) s _ kd hkd P (by omega) (by omega) (by omega) hc hm hn hPl hPa hPb (by omega) rfl).mono ?_
  rintro e w' ⟨rfl, hf⟩
  exact ⟨rfl, hf.below (Nat.le_refl _) (fun _ _ => id)⟩
theorem laidOut : laidOutB Tryd.prog = true := by kernel_rfl

set_option maxRecDepth 100000 in
theorem compGets_lifted (os : Os) (started : os.Started) (H : Type) (enc : TypeId × Value → H) :
    ReturnsInHanded {} Tryd.checked os 5 .any (fun w args => (Rows.compGetsSpec.pre enc Tryd.prog Tryd.f5 [] false w args ∧ laidMetH Tryd.prog laid1 w) ∧ sizedMet enc Tryd.prog Tryd.f5 (OpenSpec.ofChange Rows.compGetsSpec) false w args) (Rows.compGetsSpec.post enc Tryd.prog Tryd.f5 false true false false) := by
  refine returnsInHanded_of_change_and (C := Tryd.checked) (X := fun w _ => laidMetH Tryd.prog laid1 w) (fun _ _ _ hh h => h.of_heap hh) own started (by kernel_rfl) Tryd.func5
    (ChangeSpec.witness_shaped (enc := enc) (C := Tryd.checked) (os := os) (X := fun w _ => laidMetH Tryd.prog laid1 w) false (World.doorLaid Tryd.prog 400 os) #[.slice none 0 0, .int .u8 0, .int .u8 0] 8 rfl (World.shaped_of_RefB (by kernel_rfl) (by kernel_rfl)) (by kernel_rfl) (by kernel_rfl) (by kernel_rfl) (door_met os _)) ?_
  intro W base args ds gs before hval0 hW _ _ hL _
  have hval : ∀ (j : Nat) t v, Tryd.f5.params[j]? = some t → args[j]? = some v → Value.okWide Tryd.prog W .any base t v := hval0
  have hW' := hW
  obtain ⟨p, q, hA0, hV, rfl, hfz, hnd⟩ := hW
  have hA : DataW.TrodAll enc Tryd.prog W 0 (fun _ => true) true Tryd.f5.params.toList args.toList ds p := hA0
  rw [Tryd.params5] at hA hval
  obtain ⟨v0, vs0, d0, ds0, p0, q0, hargs, rfl, rfl, h0, r0⟩ := trodAll_cons hA
  obtain ⟨v1, vs1, d1, ds1, p1, q1, rfl, rfl, rfl, h1, r1⟩ := trodAll_cons r0
  obtain ⟨v2, vs2, d2, ds2, p2, q2, rfl, rfl, rfl, h2, r2⟩ := trodAll_cons r1
  obtain ⟨rfl, rfl, rfl⟩ := trodAll_nil r2
  obtain rfl : args = #[v0, v1, v2] := by cases args; simp_all
  obtain ⟨rfl, rfl⟩ := trodVars_none hV
  obtain ⟨a0, len0, cap0, rfl⟩ := okWide_slice Tryd.underlying35 (hval 0 35 v0 rfl rfl)
  have k0 := h0
  have lt0 : ∀ x ∈ p0, x.block < W.heap.size := by obtain ⟨m, hm⟩ := k0; exact DataW.trod_lt m _ _ _ hm
  obtain ⟨z0, w0⟩ : ∃ zs, IsRow .u8 W a0 len0 cap0 zs := by
    obtain ⟨fuel, hf⟩ := h0
    rcases open_ints Tryd.underlying35 Tryd.underlying5 (by kernel_rfl) hf with ⟨hcs, _⟩ | ⟨x, l, c, zs, hcs, _, hl, hm, hz, _, hcell, hwz⟩
    · simp [Value.cells] at hcs
      obtain ⟨rfl, rfl, rfl⟩ := hcs
      exact ⟨[], .inl ⟨rfl, rfl, rfl, rfl⟩⟩
    · simp [Value.cells] at hcs
      obtain ⟨rfl, rfl, rfl⟩ := hcs
      exact ⟨zs, .inr ⟨_, rfl, hl, hm, by simpa using hz, hcell, hwz⟩⟩
  obtain ⟨a1, rfl, rfl, rfl, w1⟩ := open_int Tryd.underlying5 (hval 1 5 v1 rfl rfl) h1
  obtain ⟨a2, rfl, rfl, rfl, w2⟩ := open_int Tryd.underlying5 (hval 2 5 v2 rfl rfl) h2
  clear hA0 hval0
  refine (compGets_walk W (of_laid hL) a0 len0 cap0 z0 w0 a1 w1 a2 w2).mono fun e W' ⟨he, bel⟩ => ?_
  subst he
  exact ⟨_, rfl, _, _, _, [], _, [], hW', trodAll_mk1 (shut_bool Tryd.underlying4 _), (trodAll_cons_mk (Below.trod laidOut (by kernel_rfl) (of_decide_eq_true (by kernel_rfl)) k0 bel lt0) (trodAll_cons_mk (shut_int Tryd.underlying5 w1) (trodAll_cons_mk (shut_int Tryd.underlying5 w2) trodAll_mk0))), rfl, bel.frame _, fun h => by cases h⟩

theorem compGets_row : Rows.CompGetsSaid :=
  OpenClaim.holds_of_wide 5 Tryd.f5 rfl rfl rfl rfl rfl rfl rfl ⟨rfl, rfl, rfl, rfl, rfl⟩ rfl rfl rfl rfl rfl (by kernel_rfl) Tryd.func5 (by kernel_rfl)
    (of_decide_eq_true (by kernel_rfl)) (by unfold Func.isWrapper; first | (rw [if_pos (by decide +kernel)]; kernel_rfl) | (rw [if_neg (by decide +kernel)]; exact ⟨rfl, rfl⟩))
    (fun os started H enc _ => compGets_lifted os started H enc)

theorem compGets_holds : Rows.CompGetsCardSaid :=
  Claim7.holds_tied_plain_at .later [] [.data] true (true, "8ca0d6b8ccc34495e322e2d592ec33e163ccb62834ee7392b16817c4c942c2a4") false
    compGets_row (fun _ h => by cases h) (by kernel_rfl) (fun _ h => by cases h) compGets_row_tie rfl ⟨rfl, rfl⟩ (by kernel_rfl) rfl
    (fun f fn hf hfn => by
      obtain rfl : f = 5 := Option.some.inj ((show Tryd.prog.funcNamed "pinnace/pinnacelaw06.CompGets" = some 5 by kernel_rfl).symm.trans hf) |>.symm
      obtain rfl : fn = Tryd.f5 := (Option.some.inj (Tryd.func5.symm.trans hfn)).symm
      exact ⟨by kernel_rfl, fun j t ht => by
        rw [Tryd.params5] at ht
        have hm : t ∈ [35, 5, 5] := by simpa using Array.mem_of_getElem? ht
        have hall : ([35, 5, 5].all fun u => !Tryd.prog.wantsStandIn u) = true := by kernel_rfl
        exact (show Tryd.prog.wantsStandIn t = false by simpa using List.all_eq_true.1 hall t hm)⟩)
    (by kernel_rfl)

end Go.Proofs.YtpmolkomnnpepabDoor
