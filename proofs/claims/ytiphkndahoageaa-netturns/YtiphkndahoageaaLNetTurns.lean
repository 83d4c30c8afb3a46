/-
  Of any bytes just the bits of the pattern that are there are turned; twice turned all is as it was: NetTurns returns true, whatever its arguments, and changes nothing that was there.
-/
import Derived.Test.YtiphkndahoageaaNtm
import Derived.ChangeOld
namespace Go.Proofs.Ytiphkndahoageaa
open Go.ChangeShapes Go.WideShapes Go.ChangeAt Go.RowKit
set_option linter.unusedVariables false

theorem own : ownKnob Try.prog.godebug = none := by kernel_rfl
theorem i64_rng {n : Int} (h : (Lit.int .i64 n).wf = true) : -9223372036854775808 ≤ n ∧ n ≤ 9223372036854775807 := by
  simpa [Lit.wf, IntKind.min, IntKind.max, IntKind.signed, IntKind.bits] using h
set_option maxHeartbeats 4000000 in
set_option maxRecDepth 100000 in
theorem netTurns_a (w : World) (ao : Option Addr) (len cap : Nat) (P : List Nat) (h : In w ao len cap P) (hmax : len ≤ maxLen) (hm : len ≤ 200) (t : Int) (ht0 : -9223372036854775808 ≤ t) (ht1 : t ≤ 9223372036854775807) (pat : Nat) (hpat : pat < 4294967296) :
    Calls Try.prog 4 #[.slice ao len cap, .int .i64 t, .int .u32 (pat : Int)] w fun e w' => e = .returned (.bool true) ∧ Fr Nobody w w' := by
  have hle := h.le
  have HI : Hid (In w ao len cap P) := h
  have hm2 : (len : Int) ≤ 200 := by omega
  unfold maxLen at hmax
  clear h
  go_enter Try.func4, Try.ntmps4
  go_wp2_with fail
  refine (awake24 w).mono ?_
  rintro e w1 ⟨rfl, hf⟩
  have H1 : Hid (Own w w1 []) := Own.of_fr hf
  clear hf
  go_wp2_with (at_builtin; refine copy_own rfl _ _ rfl ao len cap P H1.out (HI.out.quiet H1.out.fr).src HI.out.eqn (by omega) _ rfl rfl rfl ?_)
  intro a2 c2 w2 hO
  have H2 : Hid (Own w w2 _) := hO
  have HC : Hid (Calls _ _ _ _ _) := turned_any w w2 _ hO (.slice a2 len c2) len P HI.out.eqn (Src.of_row hO.row) (by omega) HI.out.byt t ht0 ht1 pat hpat ⟨_, _, rfl⟩
  clear hO H1
  go_wp2_with fail
  refine HC.out.mono ?_
  rintro e w3 ⟨a3, c3, rfl, hO⟩
  clear HC H2
  have HC : Hid (Calls _ _ _ _ _) := rturned_any w w3 _ hO ao cap len P HI.out.eqn (HI.out.quiet hO.fr).at' (by omega) HI.out.byt t ht0 ht1 pat hpat
  clear hO
  go_wp2_with fail
  refine HC.out.mono ?_
  rintro e w4 ⟨a4, c4, rfl, hO⟩
  clear HC
  have hl : (tun P t pat 32).length = len := by rw [length_tun]; exact HI.out.eqn
  have s1 := Src.of_row hO.two.row
  have s2 := Src.of_row hO.row
  have HC : Hid (Calls _ _ _ _ _) := same_any w4 (.slice a3 len c3) (.slice a4 len c4) (tun P t pat 32) (by rw [hl]; exact s1) (by rw [hl]; exact s2)
  have H4 : Hid (Own w w4 _) := hO
  clear hO hl s1 s2
  go_wp2_with fail
  refine HC.out.mono ?_
  rintro e w5 ⟨rfl, rfl⟩
  clear HC
  have HC : Hid (Calls _ _ _ _ _) := turned_any w w5 _ H4.out (.slice a3 len c3) len (tun P t pat 32) (by rw [length_tun]; exact HI.out.eqn) (Src.of_row H4.out.two.row) (by omega) (tun_byte _ _ _ _ HI.out.byt) t ht0 ht1 pat hpat ⟨_, _, rfl⟩
  rw [tun_twice P t pat HI.out.byt] at HC
  clear H4
  go_wp2_with fail
  refine HC.out.mono ?_
  rintro e w6 ⟨a6, c6, rfl, hO⟩
  clear HC
  have s1 := Src.of_row hO.row
  have HC : Hid (Calls _ _ _ _ _) := same_any w6 (.slice a6 len c6) (.slice ao len cap) P (by rw [HI.out.eqn]; exact s1) (HI.out.quiet hO.fr).src
  have H6 : Hid (Own w w6 _) := hO
  clear hO s1
  go_wp2_with fail
  refine HC.out.mono ?_
  rintro e w7 ⟨rfl, rfl⟩
  clear HC
  have s1 := Src.of_row H6.out.four.row
  have HC : Hid (Calls _ _ _ _ _) := same_any w7 (.slice a2 len c2) (.slice ao len cap) P (by rw [HI.out.eqn]; exact s1) (HI.out.quiet H6.out.fr).src
  have HF : Hid (Fr Nobody w w7) := H6.out.fr
  clear s1 H6
  go_wp2_with fail
  refine HC.out.mono ?_
  rintro e w8 ⟨rfl, rfl⟩
  clear HC
  go_wp2
  go_ret
  exact ⟨rfl, HF.out⟩
set_option maxHeartbeats 4000000 in
set_option maxRecDepth 100000 in
theorem netTurns_b (w : World) (ao : Option Addr) (len cap : Nat) (P : List Nat) (h : In w ao len cap P) (hmax : len ≤ maxLen) (hm : 200 < len) (t : Int) (ht0 : -9223372036854775808 ≤ t) (ht1 : t ≤ 9223372036854775807) (pat : Nat) (hpat : pat < 4294967296) :
    Calls Try.prog 4 #[.slice ao len cap, .int .i64 t, .int .u32 (pat : Int)] w fun e w' => e = .returned (.bool true) ∧ Fr Nobody w w' := by
  have hle := h.le
  have HI : Hid (In w ao 200 cap (P.take 200)) := h.cut 200 (by omega)
  have hm2 : ¬ (len : Int) ≤ 200 := by omega
  have hm3 : (200 : Int) < (len : Int) := by omega
  have hc2 : 200 ≤ cap := by omega
  unfold maxLen at hmax
  generalize P.take 200 = R at *
  clear h
  go_enter Try.func4, Try.ntmps4
  go_wp2_with fail
  refine (awake24 w).mono ?_
  rintro e w1 ⟨rfl, hf⟩
  have H1 : Hid (Own w w1 []) := Own.of_fr hf
  clear hf
  go_wp2_with (at_builtin; refine copy_own rfl _ _ rfl ao 200 cap R H1.out (HI.out.quiet H1.out.fr).src HI.out.eqn (by omega) _ rfl rfl rfl ?_)
  intro a2 c2 w2 hO
  have H2 : Hid (Own w w2 _) := hO
  have HC : Hid (Calls _ _ _ _ _) := turned_any w w2 _ hO (.slice a2 200 c2) 200 R HI.out.eqn (Src.of_row hO.row) (by omega) HI.out.byt t ht0 ht1 pat hpat ⟨_, _, rfl⟩
  clear hO H1
  go_wp2_with fail
  refine HC.out.mono ?_
  rintro e w3 ⟨a3, c3, rfl, hO⟩
  clear HC H2
  have HC : Hid (Calls _ _ _ _ _) := rturned_any w w3 _ hO ao cap 200 R HI.out.eqn (HI.out.quiet hO.fr).at' (by omega) HI.out.byt t ht0 ht1 pat hpat
  clear hO
  go_wp2_with fail
  refine HC.out.mono ?_
  rintro e w4 ⟨a4, c4, rfl, hO⟩
  clear HC
  have hl : (tun R t pat 32).length = 200 := by rw [length_tun]; exact HI.out.eqn
  have s1 := Src.of_row hO.two.row
  have s2 := Src.of_row hO.row
  have HC : Hid (Calls _ _ _ _ _) := same_any w4 (.slice a3 200 c3) (.slice a4 200 c4) (tun R t pat 32) (by rw [hl]; exact s1) (by rw [hl]; exact s2)
  have H4 : Hid (Own w w4 _) := hO
  clear hO hl s1 s2
  go_wp2_with fail
  refine HC.out.mono ?_
  rintro e w5 ⟨rfl, rfl⟩
  clear HC
  have HC : Hid (Calls _ _ _ _ _) := turned_any w w5 _ H4.out (.slice a3 200 c3) 200 (tun R t pat 32) (by rw [length_tun]; exact HI.out.eqn) (Src.of_row H4.out.two.row) (by omega) (tun_byte _ _ _ _ HI.out.byt) t ht0 ht1 pat hpat ⟨_, _, rfl⟩
  rw [tun_twice R t pat HI.out.byt] at HC
  clear H4
  go_wp2_with fail
  refine HC.out.mono ?_
  rintro e w6 ⟨a6, c6, rfl, hO⟩
  clear HC
  have s1 := Src.of_row hO.row
  have HC : Hid (Calls _ _ _ _ _) := same_any w6 (.slice a6 200 c6) (.slice ao 200 cap) R (by rw [HI.out.eqn]; exact s1) (HI.out.quiet hO.fr).src
  have H6 : Hid (Own w w6 _) := hO
  clear hO s1
  go_wp2_with fail
  refine HC.out.mono ?_
  rintro e w7 ⟨rfl, rfl⟩
  clear HC
  have s1 := Src.of_row H6.out.four.row
  have HC : Hid (Calls _ _ _ _ _) := same_any w7 (.slice a2 200 c2) (.slice ao 200 cap) R (by rw [HI.out.eqn]; exact s1) (HI.out.quiet H6.out.fr).src
  have HF : Hid (Fr Nobody w w7) := H6.out.fr
  clear s1 H6
  go_wp2_with fail
  refine HC.out.mono ?_
  rintro e w8 ⟨rfl, rfl⟩
  clear HC
  go_wp2
  go_ret
  exact ⟨rfl, HF.out⟩
theorem netTurns_walk (w : World) (a0 : Option Addr) (len0 cap0 : Nat) (z0 : List Int) (w0 : IsRow .u8 w a0 len0 cap0 z0) (a1 : Int) (w1 : (Lit.int .i64 a1).wf = true) (a2 : Int) (w2 : (Lit.int .u32 a2).wf = true) :
    Calls Try.prog 4 #[.slice a0 len0 cap0, .int .i64 a1, .int .u32 a2] w fun e w' => e = .returned (.bool true) ∧ Below w.heap.size w w' := by
  obtain ⟨hmax, P, hP⟩ := in_row w0
  obtain ⟨h0, h1⟩ := i64_rng w1
  obtain ⟨pat, rfl, hpat⟩ := u32_rng w2
  by_cases c : len0 ≤ 200
  · refine (netTurns_a w a0 len0 cap0 P hP hmax c a1 h0 h1 pat hpat).mono ?_
    rintro e w' ⟨rfl, hf⟩
    exact ⟨rfl, hf.below (Nat.le_refl _) (fun _ _ => id)⟩
  · refine (netTurns_b w a0 len0 cap0 P hP hmax (by omega) a1 h0 h1 pat hpat).mono ?_
    rintro e w' ⟨rfl, hf⟩
    exact ⟨rfl, hf.below (Nat.le_refl _) (fun _ _ => id)⟩
theorem laidOut : laidOutB Try.prog = true := by kernel_rfl

set_option maxRecDepth 100000 in
theorem netTurns_lifted (os : Os) (started : os.Started) (H : Type) (enc : TypeId × Value → H) :
    ReturnsInHanded {} Try.checked os 4 .any (Rows.netTurnsSpec.pre6 enc Try.prog Try.f4 Rows.netTurnsRow.domain false) (Rows.netTurnsSpec.post enc Try.prog Try.f4 false true false false) := by
  refine returnsInHanded_of_change (C := Try.checked) own started (by kernel_rfl) Try.func4
    (ChangeSpec.witness6 (enc := enc) (C := Try.checked) false ⟨#[], #[.slice none 0 0, .int .i64 0, .int .u32 0], []⟩ 8 (by kernel_rfl) (by kernel_rfl) (by kernel_rfl) (by kernel_rfl)) ?_
  intro W base args ds gs before hval0 hW hcnd _
  have hval : ∀ (j : Nat) t v, Try.f4.params[j]? = some t → args[j]? = some v → Value.okWide Try.prog W .any base t v := hval0
  have hW' := hW
  obtain ⟨p, q, hA0, hV, rfl, hfz, hnd⟩ := hW
  have hA : DataW.TrodAll enc Try.prog W 0 (fun _ => true) true Try.f4.params.toList args.toList ds p := hA0
  rw [Try.params4] at hA hval
  obtain ⟨v0, vs0, d0, ds0, p0, q0, hargs, rfl, rfl, h0, r0⟩ := trodAll_cons hA
  obtain ⟨v1, vs1, d1, ds1, p1, q1, rfl, rfl, rfl, h1, r1⟩ := trodAll_cons r0
  obtain ⟨v2, vs2, d2, ds2, p2, q2, rfl, rfl, rfl, h2, r2⟩ := trodAll_cons r1
  obtain ⟨rfl, rfl, rfl⟩ := trodAll_nil r2
  obtain rfl : args = #[v0, v1, v2] := by cases args; simp_all
  obtain ⟨rfl, rfl⟩ := trodVars_none hV
  obtain ⟨a0, len0, cap0, rfl⟩ := okWide_slice Try.underlying31 (hval 0 31 v0 rfl rfl)
  have k0 := h0
  have lt0 : ∀ x ∈ p0, x.block < W.heap.size := by obtain ⟨m, hm⟩ := k0; exact DataW.trod_lt m _ _ _ hm
  obtain ⟨z0, w0⟩ : ∃ zs, IsRow .u8 W a0 len0 cap0 zs := by
    obtain ⟨fuel, hf⟩ := h0
    rcases open_ints Try.underlying31 Try.underlying5 (by kernel_rfl) hf with ⟨hcs, _⟩ | ⟨x, l, c, zs, hcs, _, hl, hm, hz, _, hcell, hwz⟩
    · simp [Value.cells] at hcs
      obtain ⟨rfl, rfl, rfl⟩ := hcs
      exact ⟨[], .inl ⟨rfl, rfl, rfl, rfl⟩⟩
    · simp [Value.cells] at hcs
      obtain ⟨rfl, rfl, rfl⟩ := hcs
      exact ⟨zs, .inr ⟨_, rfl, hl, hm, by simpa using hz, hcell, hwz⟩⟩
  obtain ⟨a1, rfl, rfl, rfl, w1⟩ := open_int Try.underlying3 (hval 1 3 v1 rfl rfl) h1
  obtain ⟨a2, rfl, rfl, rfl, w2⟩ := open_int Try.underlying34 (hval 2 34 v2 rfl rfl) h2
  clear hA0 hval0
  refine (netTurns_walk W a0 len0 cap0 z0 w0 a1 w1 a2 w2).mono fun e W' ⟨he, bel⟩ => ?_
  subst he
  exact ⟨_, rfl, _, _, _, [], _, [], hW', trodAll_mk1 (shut_bool Try.underlying4 _), (trodAll_cons_mk (Below.trod laidOut (by kernel_rfl) (of_decide_eq_true (by kernel_rfl)) k0 bel lt0) (trodAll_cons_mk (shut_int Try.underlying3 w1) (trodAll_cons_mk (shut_int Try.underlying34 w2) trodAll_mk0))), rfl, bel.frame _, fun h => by cases h⟩

theorem netTurns_holds : Rows.NetTurnsSaid :=
  OpenClaim.holds_of_wide 4 Try.f4 rfl rfl rfl rfl rfl rfl rfl ⟨rfl, rfl, rfl, rfl, rfl⟩ rfl rfl rfl rfl rfl (by kernel_rfl) Try.func4 (by kernel_rfl)
    (of_decide_eq_true (by kernel_rfl)) (by unfold Func.isWrapper; first | (rw [if_pos (by decide +kernel)]; kernel_rfl) | (rw [if_neg (by decide +kernel)]; exact ⟨rfl, rfl⟩))
    (fun os started H enc _ => netTurns_lifted os started H enc)

end Go.Proofs.Ytiphkndahoageaa
