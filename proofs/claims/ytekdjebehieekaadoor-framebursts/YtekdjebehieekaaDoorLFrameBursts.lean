/-
  EVERY BURST IS FOUND: for every body, bit and pattern: of the body's frame any bits within 32 that follow one another are turned, in the sum too: Open answers ErrSum and nothing: FrameBursts returns true, whatever its arguments, where the table of the sum lies as the program's text lays it, and changes nothing that was there.
-/
import Derived.Test.YtekdjebehieekaaDoorGd
import Derived.Test.YtekdjebehieekaaDoorGg
namespace Go.Proofs.YtekdjebehieekaaDoor
open Go.ChangeShapes Go.WideShapes Go.ChangeAt Go.RowKit
set_option linter.unusedVariables false

set_option maxHeartbeats 1000000 in
set_option maxRecDepth 100000 in
theorem frameBursts_main (w : World) (ao : Option Addr) (len cap m a p q t : Nat) (P : List Nat) (h : In w ao len cap P) (hmax : len ≤ maxLen) (ht : Tab w) (hm : min (len : Int) 2000 = (m : Int)) (hml : m ≤ len) (hm2 : m ≤ 2000) (ha : a < 65536) (hp : p < 4294967296) (hq : bits .or .u32 (p : Int) 1 = (q : Int)) (hq2 : q < 4294967296) (hodd : q % 2 = 1) (ht1 : t < 8 * (m + 4)) (ht2 : (a : Int) % (8 * ((m : Int) + 4)) = (t : Int)) :
    Calls Tryd.prog 6 #[.slice ao len cap, .int .u16 (a : Int), .int .u32 (p : Int)] w fun e w' => e = .returned (.bool true) ∧ Fr Nobody w w' := by
  have HC := h.cut m hml
  have hle := h.le
  have HI : Hid (In w ao m cap (P.take m)) := HC
  have HT : Hid (Tab w) := ht
  unfold maxLen at hmax
  generalize P.take m = R at *
  clear h HC ht
  go_enter Tryd.func6, Tryd.ntmps6
  go_wp2_with fail
  refine (awake_any w HT.out).mono ?_
  rintro e w1 ⟨rfl, hf⟩
  have HF : Hid _ := hf
  clear hf
  have HI1 : Hid _ := HI.out.quiet HF.out
  go_wp2_with (at_builtin; refine copy_bytes rfl _ _ rfl ao m cap R HI1.out.src HI1.out.eqn (by omega) rfl rfl ?_)
  intro v2 w2 ho2 hf2
  obtain ⟨a2, c2, hv2, hi2⟩ := In.of_own ho2 HI1.out.eqn HI1.out.byt
  subst hv2
  have HF2 : Hid (Fr Nobody w w2) := HF.out.trans hf2
  have HI2 : Hid _ := hi2
  clear ho2 hf2 hi2
  go_wp2_with fail
  refine (seal_ok w2 _ _ m R HI2.out (by omega) (HT.out.quiet HF2.out)).mono ?_
  rintro e w3 ⟨g, cp, rfl, ho3, hf3⟩
  have HF3 : Hid (Fr Nobody w w3) := HF2.out.trans hf3
  have HI3 : Hid (In w3 (some ⟨g, 0, none⟩) (m + 4) cp (frm R)) := In.of_row ho3 (by rw [length_frm, HI1.out.eqn]) (frm_byte R HI1.out.byt)
  clear ho3 hf3
  go_wp2_with fail
  refine (turn_any w3 _ cp (m + 4) (frm R) t q HI3.out.at' HI3.out.nil HI3.out.eqn HI3.out.byt (by omega) ht1 hq2).mono ?_
  rintro e w4 ⟨v', Q, rfl, ho, hq1, hqb, hqn, hf4⟩
  obtain ⟨g', cp', hv', hg'⟩ := row_shape ho (by omega)
  subst hv'
  have HF4 : Hid (Fr Nobody w w4) := HF3.out.trans hf4
  have HQ : Hid (In w4 (some ⟨g', 0, none⟩) (m + 4) cp' Q) := In.of_row ho hq1 hqb
  have HN : Hid _ := burst_no_frame R Q m t q HI1.out.eqn HI1.out.byt hq1 hqb hodd ht1 hqn
  clear ho hq1 hqb hqn hf4
  go_wp2_with fail
  refine (open_sum w4 _ cp' m Q HQ.out (by omega) (HT.out.quiet HF4.out) HN.out).mono ?_
  rintro e w5 ⟨rfl, rfl⟩
  go_wp2
  go_ret
  exact ⟨rfl, HF4.out⟩

theorem frameBursts_walk (w : World) (ht : Tab w) (a0 : Option Addr) (len0 cap0 : Nat) (z0 : List Int) (w0 : IsRow .u8 w a0 len0 cap0 z0) (a1 : Int) (w1 : (Lit.int .u16 a1).wf = true) (a2 : Int) (w2 : (Lit.int .u32 a2).wf = true) :
    Calls Tryd.prog 6 #[.slice a0 len0 cap0, .int .u16 a1, .int .u32 a2] w fun e w' => e = .returned (.bool true) ∧ Below w.heap.size w w' := by
  obtain ⟨hmax, P, hP⟩ := in_row w0
  obtain ⟨a, rfl, ha⟩ := u16_rng w1
  obtain ⟨p, rfl, hp⟩ := u32_rng w2
  obtain ⟨q, hq, hq2, hodd⟩ := or_one p hp
  refine (frameBursts_main w a0 len0 cap0 (min len0 2000) a p q (a % (8 * (min len0 2000 + 4))) P hP hmax ht (by omega) (by omega) (by omega) ha hp hq hq2 hodd (Nat.mod_lt _ (by omega)) ?_).mono ?_
  · rw [Int.natCast_emod, Int.natCast_mul]; rfl
  · rintro e w' ⟨rfl, hf⟩
    exact ⟨rfl, hf.below (Nat.le_refl _) (fun _ _ => id)⟩

theorem laidOut : laidOutB Tryd.prog = true := by kernel_rfl

set_option maxRecDepth 100000 in
theorem frameBursts_lifted (os : Os) (started : os.Started) (H : Type) (enc : TypeId × Value → H) :
    ReturnsInHanded {} Tryd.checked os 6 .any (fun w args => (Rows.frameBurstsSpec.pre enc Tryd.prog Tryd.f6 [] false w args ∧ laidMetH Tryd.prog laid1 w) ∧ sizedMet enc Tryd.prog Tryd.f6 (OpenSpec.ofChange Rows.frameBurstsSpec) false w args) (Rows.frameBurstsSpec.post enc Tryd.prog Tryd.f6 false true false false) := by
  refine returnsInHanded_of_change_and (C := Tryd.checked) (X := fun w _ => laidMetH Tryd.prog laid1 w) (fun _ _ _ hh h => h.of_heap hh) own started (by kernel_rfl) Tryd.func6
    (ChangeSpec.witness_shaped (enc := enc) (C := Tryd.checked) (os := os) (X := fun w _ => laidMetH Tryd.prog laid1 w) false (World.doorLaid Tryd.prog 400 os) #[.slice none 0 0, .int .u16 0, .int .u32 0] 8 rfl (World.shaped_of_RefB (by kernel_rfl) (by kernel_rfl)) (by kernel_rfl) (by kernel_rfl) (by kernel_rfl) (door_met os _)) ?_
  intro W base args ds gs before hval0 hW _ _ hL _
  have hval : ∀ (j : Nat) t v, Tryd.f6.params[j]? = some t → args[j]? = some v → Value.okWide Tryd.prog W .any base t v := hval0
  have hW' := hW
  obtain ⟨p, q, hA0, hV, rfl, hfz, hnd⟩ := hW
  have hA : DataW.TrodAll enc Tryd.prog W 0 (fun _ => true) true Tryd.f6.params.toList args.toList ds p := hA0
  rw [Tryd.params6] at hA hval
  obtain ⟨v0, vs0, d0, ds0, p0, q0, hargs, rfl, rfl, h0, r0⟩ := trodAll_cons hA
  obtain ⟨v1, vs1, d1, ds1, p1, q1, rfl, rfl, rfl, h1, r1⟩ := trodAll_cons r0
  obtain ⟨v2, vs2, d2, ds2, p2, q2, rfl, rfl, rfl, h2, r2⟩ := trodAll_cons r1
  obtain ⟨rfl, rfl, rfl⟩ := trodAll_nil r2
  obtain rfl : args = #[v0, v1, v2] := by cases args; simp_all
  obtain ⟨rfl, rfl⟩ := trodVars_none hV
  obtain ⟨a0, len0, cap0, rfl⟩ := okWide_slice Tryd.underlying22 (hval 0 22 v0 rfl rfl)
  have k0 := h0
  have lt0 : ∀ x ∈ p0, x.block < W.heap.size := by obtain ⟨m, hm⟩ := k0; exact DataW.trod_lt m _ _ _ hm
  obtain ⟨z0, w0⟩ : ∃ zs, IsRow .u8 W a0 len0 cap0 zs := by
    obtain ⟨fuel, hf⟩ := h0
    rcases open_ints Tryd.underlying22 Tryd.underlying5 (by kernel_rfl) hf with ⟨hcs, _⟩ | ⟨x, l, c, zs, hcs, _, hl, hm, hz, _, hcell, hwz⟩
    · simp [Value.cells] at hcs
      obtain ⟨rfl, rfl, rfl⟩ := hcs
      exact ⟨[], .inl ⟨rfl, rfl, rfl, rfl⟩⟩
    · simp [Value.cells] at hcs
      obtain ⟨rfl, rfl, rfl⟩ := hcs
      exact ⟨zs, .inr ⟨_, rfl, hl, hm, by simpa using hz, hcell, hwz⟩⟩
  obtain ⟨a1, rfl, rfl, rfl, w1⟩ := open_int Tryd.underlying34 (hval 1 34 v1 rfl rfl) h1
  obtain ⟨a2, rfl, rfl, rfl, w2⟩ := open_int Tryd.underlying25 (hval 2 25 v2 rfl rfl) h2
  clear hA0 hval0
  refine (frameBursts_walk W (of_laid hL) a0 len0 cap0 z0 w0 a1 w1 a2 w2).mono fun e W' ⟨he, bel⟩ => ?_
  subst he
  exact ⟨_, rfl, _, _, _, [], _, [], hW', trodAll_mk1 (shut_bool Tryd.underlying4 _), (trodAll_cons_mk (Below.trod laidOut (by kernel_rfl) (of_decide_eq_true (by kernel_rfl)) k0 bel lt0) (trodAll_cons_mk (shut_int Tryd.underlying34 w1) (trodAll_cons_mk (shut_int Tryd.underlying25 w2) trodAll_mk0))), rfl, bel.frame _, fun h => by cases h⟩

theorem frameBursts_row : Rows.FrameBurstsSaid :=
  OpenClaim.holds_of_wide 6 Tryd.f6 rfl rfl rfl rfl rfl rfl rfl ⟨rfl, rfl, rfl, rfl, rfl⟩ rfl rfl rfl rfl rfl (by kernel_rfl) Tryd.func6 (by kernel_rfl)
    (of_decide_eq_true (by kernel_rfl)) (by unfold Func.isWrapper; first | (rw [if_pos (by decide +kernel)]; kernel_rfl) | (rw [if_neg (by decide +kernel)]; exact ⟨rfl, rfl⟩))
    (fun os started H enc _ => frameBursts_lifted os started H enc)

theorem frameBursts_holds : Rows.FrameBurstsCardSaid :=
  Claim7.holds_tied_plain_at .later [] [.data] true (true, "dc3f316d42b1e05479d7fa2384e8bf57c16cf6ad2264c95d5d38ad7805788d4b") false
    frameBursts_row (fun _ h => by cases h) (by kernel_rfl) (fun _ h => by cases h) frameBursts_row_tie rfl ⟨rfl, rfl⟩ (by kernel_rfl) rfl
    (fun f fn hf hfn => by
      obtain rfl : f = 6 := Option.some.inj ((show Tryd.prog.funcNamed "pinnace/pinnacelaw03.FrameBursts" = some 6 by kernel_rfl).symm.trans hf) |>.symm
      obtain rfl : fn = Tryd.f6 := (Option.some.inj (Tryd.func6.symm.trans hfn)).symm
      exact ⟨by kernel_rfl, fun j t ht => by
        rw [Tryd.params6] at ht
        have hm : t ∈ [22, 34, 25] := by simpa using Array.mem_of_getElem? ht
        have hall : ([22, 34, 25].all fun u => !Tryd.prog.wantsStandIn u) = true := by kernel_rfl
        exact (show Tryd.prog.wantsStandIn t = false by simpa using List.all_eq_true.1 hall t hm)⟩)
    (by kernel_rfl)

end Go.Proofs.YtekdjebehieekaaDoor
