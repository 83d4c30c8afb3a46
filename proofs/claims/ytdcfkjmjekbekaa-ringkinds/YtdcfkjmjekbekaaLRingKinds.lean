/-
  Rings of any kind of things hold them as they are: RingKinds returns true, whatever its arguments, and changes nothing that was there.
-/
import Derived.Test.YtdcfkjmjekbekaaYkf
import Derived.ProofKit
import Derived.OpenShut
import Derived.ShutString
import Derived.ChangeOld
namespace Go.Proofs.Ytdcfkjmjekbekaa
open Go.ChangeShapes Go.WideShapes Go.ChangeAt Go.RowKit
set_option linter.unusedVariables false

theorem own : ownKnob Try.prog.godebug = none := by kernel_rfl
theorem u32_rng {n : Int} (h : (Lit.int .u32 n).wf = true) : ∃ k : Nat, n = k ∧ k < 4294967296 := by
  have : 0 ≤ n ∧ n ≤ 4294967295 := by simpa [Lit.wf, IntKind.min, IntKind.max, IntKind.signed, IntKind.bits] using h
  exact ⟨n.toNat, by omega, by omega⟩

set_option maxHeartbeats 4000000 in
set_option maxRecDepth 100000 in
theorem ringKinds_fr (w : World) (ao : Option Addr) (len cap : Nat) (Z : List Int) (hmax : len ≤ maxLen) (hZl : Z.length = len) (hZa : Ints .u32 w ao Z) (hZb : ∀ n ∈ Z, (Lit.int .u32 n).wf = true)
    (ap : Option Addr) (plen pcap : Nat) (Q : List Pr) (hpc : plen ≤ pcap) (hpm : pcap ≤ maxLen) (hQl : Q.length = plen) (hQ : Prs w ap Q) :
    Calls Try.prog 3 #[.slice ao len cap, .slice ap plen pcap] w fun e w' => e = .returned (.bool true) ∧ Fr Nobody w w' := by
  unfold maxLen at hmax hpm
  have HZ : Hid (Z.length = len ∧ Ints .u32 w ao Z ∧ ∀ n ∈ Z, (Lit.int .u32 n).wf = true) := ⟨hZl, hZa, hZb⟩
  have HQ : Hid (Q.length = plen ∧ Prs w ap Q) := ⟨hQl, hQ⟩
  clear hZl hZa hZb hQl hQ
  go_enter Try.func3, Try.ntmps3
  go_wp2_with fail
  refine (awake8 w w [] (Own.start _)).mono ?_
  rintro e w1 ⟨rfl, hO⟩
  have H1 : Hid (Own w w1 []) := hO
  clear hO
  go_wp2_with fail
  refine (newd w w1 [] 64 H1.out (by decide) (by decide)).mono ?_
  rintro e w2 ⟨ba, rfl, hO⟩
  have H2 : Hid (Own w w2 [Ringd ba 64 []]) := hO
  clear hO H1
  go_wp2_with fail
  refine (newe w w2 _ 64 H2.out (by decide) (by decide)).mono ?_
  rintro e w3 ⟨be, rfl, hO⟩
  have H3 : Hid (Own w w3 [Ringe be 64 [], Ringd ba 64 []]) := hO
  clear hO H2
  go_wp2
  go_loopw [35] (fun c wr => ∃ k : Nat, k ≤ len ∧ c = .int .i64 k ∧ ∃ (L : List (Nat × Pr)) (M : List (Nat × (Option Addr × Nat × Nat))), ROk 64 L ∧ ROk 64 M ∧ tks L = tks M ∧ L.length ≤ k ∧ M.length ≤ k ∧ Own w wr [Ringe be 64 M, Ringd ba 64 L]) (fun c _ => len - (intOf c).toNat)
  case atStart => exact ⟨0, Nat.zero_le _, rfl, [], [], ROk.nil (by decide) (by decide), ROk.nil (by decide) (by decide), rfl, Nat.le_refl _, Nat.le_refl _, H3.out⟩
  case round =>
    obtain ⟨k, hk, rfl, L, M, hL, hM, hT, hll, hml, hO⟩ := hrel
    have HO : Hid (Own w wr [Ringe be 64 M, Ringd ba 64 L]) := hO
    have HR : Hid (ROk 64 L ∧ ROk 64 M ∧ tks L = tks M) := ⟨hL, hM, hT⟩
    clear hO H3 hL hM hT
    by_cases hlt : k < len
    · obtain ⟨zz, hz⟩ : ∃ z, Z[k]? = some z := ⟨_, List.getElem?_eq_getElem (by rw [HZ.out.1]; exact hlt)⟩
      obtain ⟨t, rfl, ht⟩ := u32_rng (HZ.out.2.2 zz (List.mem_of_getElem? hz))
      obtain ⟨g, o0, hao, cx⟩ : ∃ g o0, ao = some ⟨g, o0, none⟩ ∧ wr.cell? ⟨g, o0 + k, none⟩ = some (.int .u32 (t : Int)) := by
        rcases HZ.out.2.1.quiet HO.out.fr with h | ⟨g, o0, h1, h2⟩
        · subst h; simp at hz
        · exact ⟨g, o0, h1, h2 k _ hz⟩
      subst hao
      clear hz
      have hlt' : (k : Int) < (len : Int) := by omega
      by_cases hpl : k < plen
      · have hpl' : (k : Int) < (plen : Int) := by omega
        by_cases h60 : k < 60
        · have h60' : (k : Int) < 60 := by omega
          obtain ⟨x, hx⟩ : ∃ x, Q[k]? = some x := ⟨_, List.getElem?_eq_getElem (by rw [HQ.out.1]; exact hpl)⟩
          obtain ⟨gp, op, hap, HP⟩ : ∃ g o, ap = some ⟨g, o, none⟩ ∧ Hid (∀ w', Fr Nobody w w' → w'.cell? ⟨g, o + k * 2, none⟩ = some (.int .i32 x.1) ∧ w'.cell? ⟨g, o + k * 2 + 1, none⟩ = some (.bool x.2)) := by
            rcases HQ.out.2 with h | ⟨g, o, h1, h2⟩
            · rw [h] at hx; simp at hx
            · refine ⟨g, o, h1, fun w' hf => ?_⟩
              obtain ⟨y0, y1⟩ := h2 k _ hx
              have hb := World.block_lt_of_cell? w _ y0
              exact ⟨(hf.cell (p := ⟨g, o + k * 2, none⟩) hb id).trans y0, (hf.cell (p := ⟨g, o + k * 2 + 1, none⟩) hb id).trans y1⟩
          subst hap
          have hs1 : (k : Int) + 1 ≤ (pcap : Int) := by omega
          have hs2 : k + 1 ≤ pcap := by omega
          have hs5 : ¬ pcap = 0 := by omega
          have hs7 : ¬ (k : Int) + 1 < 0 := by omega
          have hs8 : IntKind.i64.wrap ((k : Int) + 1) = (k : Int) + 1 := by rw [IntKind.wrap_i64]; omega
          have hs6 : pcap ≠ 0 := by omega
          have hs3 : k < pcap := by omega
          have hs4 : (k : Int) < (pcap : Int) := by omega
          obtain ⟨p0, p1⟩ := HP.out _ HO.out.fr
          have HC1 : Hid (Calls _ _ _ _ _) := putd w _ _ ba 64 L t x HO.out.two.drew HR.out.1 ht (by omega)
          have HC2 : Hid (∀ w', Own w w' [Ringd ba 64 (rput 64 L t x).2, Ringe be 64 M] → Calls Try.prog 8 #[.pointer (some ⟨be, 0, none⟩), .int .u32 (t : Int), .slice (some ⟨gp, op, none⟩) (k + 1) pcap] w' fun e w'' => e = .returned (.int .i64 (rput 64 M t (some (⟨gp, op, none⟩ : Addr), k + 1, pcap)).1) ∧ Own w w'' [Ringe be 64 (rput 64 M t (some (⟨gp, op, none⟩ : Addr), k + 1, pcap)).2, Ringd ba 64 (rput 64 L t x).2]) :=
            fun w' h => pute w w' _ be 64 M t (some (⟨gp, op, none⟩ : Addr), k + 1, pcap) h.two HR.out.2.1 ht (by omega)
          have hcase := rput_two (t := t) (x := x) (y := (some (⟨gp, op, none⟩ : Addr), k + 1, pcap)) HR.out.2.2 (show L.length < 64 by omega) (show M.length < 64 by omega)
          have HL2 := rput_ok HR.out.1 t x ht
          have HM2 := rput_ok HR.out.2.1 t (some (⟨gp, op, none⟩ : Addr), k + 1, pcap) ht
          clear hx
          rcases hcase with ⟨e1, e2⟩ | ⟨e1, e2⟩
          · rw [e1] at HC1
            rw [e1, e2] at HC2
            clear e1 e2 HL2 HM2
            simp only at HC1 HC2
            go_wp2_with fail
            go_region_with (first
              | (go_at_call 7; refine HC1.out.mono ?_; rintro e w5 ⟨rfl, hO5⟩
                 have H5 : Hid (Own w w5 [Ringd ba 64 L, Ringe be 64 M]) := hO5
                 clear hO5)
              | (go_at_call 8; refine (HC2.out _ H5.out).mono ?_; rintro e w6 ⟨rfl, hO6⟩
                 have H6 : Hid (Own w w6 [Ringe be 64 M, Ringd ba 64 L]) := hO6
                 clear hO6))
            all_goals
              clear HO cx p0 p1 HC1 HC2 H5
              go_wp2
              go_roundw
              case rel => exact ⟨k + 1, by omega, by go_num, L, M, HR.out.1, HR.out.2.1, HR.out.2.2, by omega, by omega, H6.out⟩
              case measure => simp [intOf]; omega
          · rw [e1] at HC1 HL2
            rw [e1, e2] at HC2
            rw [e2] at HM2
            simp only at HC1 HC2 HL2 HM2
            have HLM : Hid (ROk 64 (L ++ [(t, x)]) ∧ ROk 64 (M ++ [(t, (some (⟨gp, op, none⟩ : Addr), k + 1, pcap))]) ∧ tks (L ++ [(t, x)]) = tks (M ++ [(t, (some (⟨gp, op, none⟩ : Addr), k + 1, pcap))]) ∧ (L ++ [(t, x)]).length ≤ k + 1 ∧ (M ++ [(t, (some (⟨gp, op, none⟩ : Addr), k + 1, pcap))]).length ≤ k + 1) := by
              refine ⟨HL2, HM2, ?_, by simp; omega, by simp; omega⟩
              have := HR.out.2.2
              unfold tks at this ⊢
              rw [List.map_append, List.map_append, this]; rfl
            have HG1 : Hid (∀ w', Own w w' [Ringe be 64 (M ++ [(t, (some (⟨gp, op, none⟩ : Addr), k + 1, pcap))]), Ringd ba 64 (L ++ [(t, x)])] → Calls Try.prog 9 #[.pointer (some ⟨ba, 0, none⟩), .int .u32 (t : Int)] w' fun e w'' => e = .returned (.tuple #[.agg #[.int .i32 x.1, .bool x.2], .bool true]) ∧ Own w w'' [Ringd ba 64 (L ++ [(t, x)]), Ringe be 64 (M ++ [(t, (some (⟨gp, op, none⟩ : Addr), k + 1, pcap))])]) :=
              fun w' h => getd w w' _ ba 64 _ t h.two HL2 x (rget_snoc HL2)
            have HG2 : Hid (∀ w' l, Own w w' (Ringe be 64 (M ++ [(t, (some (⟨gp, op, none⟩ : Addr), k + 1, pcap))]) :: l) → Calls Try.prog 10 #[.pointer (some ⟨be, 0, none⟩), .int .u32 (t : Int)] w' fun e w'' => e = .returned (.tuple #[.slice (some ⟨gp, op, none⟩) (k + 1) pcap, .bool true]) ∧ Own w w'' (Ringe be 64 (M ++ [(t, (some (⟨gp, op, none⟩ : Addr), k + 1, pcap))]) :: l)) := by
              intro w' l h
              have := gete w w' l be 64 _ t h HM2
              rw [rget_snoc HM2] at this
              exact this
            clear e1 e2 HL2 HM2
            go_wp2_with fail
            go_region_with (first
              | (go_at_call 7; refine HC1.out.mono ?_; rintro e w5 ⟨rfl, hO5⟩
                 have H5 : Hid (Own w w5 [Ringd ba 64 (L ++ [(t, x)]), Ringe be 64 M]) := hO5
                 clear hO5)
              | (go_at_call 8; refine (HC2.out _ H5.out).mono ?_; rintro e w6 ⟨rfl, hO6⟩
                 have H6 : Hid (Own w w6 [Ringe be 64 (M ++ [(t, (some (⟨gp, op, none⟩ : Addr), k + 1, pcap))]), Ringd ba 64 (L ++ [(t, x)])]) := hO6
                 clear hO6))
            all_goals
              clear HO cx p0 p1 HC1 HC2 H5
              go_wp2_with fail
              refine (HG1.out _ H6.out).mono ?_
              rintro e w7 ⟨rfl, hO7⟩
              have H7 : Hid (Own w w7 [Ringd ba 64 (L ++ [(t, x)]), Ringe be 64 (M ++ [(t, (some (⟨gp, op, none⟩ : Addr), k + 1, pcap))])]) := hO7
              have H7b : Hid (Own w (w7.alloc (.cells #[.int .i32 x.1, .bool x.2] 30)) [Ringe be 64 (M ++ [(t, (some (⟨gp, op, none⟩ : Addr), k + 1, pcap))]), Ringd ba 64 (L ++ [(t, x)]), Cells w7.heap.size #[.int .i32 x.1, .bool x.2] 30]) := (hO7.allocC #[.int .i32 x.1, .bool x.2] 30).back3.two
              clear hO7 H6 HG1
              go_wp2_with fail
              refine (HG2.out _ _ H7b.out).mono ?_
              rintro e w8 ⟨rfl, hO8⟩
              have H8 : Hid (Own w w8 [Ringe be 64 (M ++ [(t, (some (⟨gp, op, none⟩ : Addr), k + 1, pcap))]), Ringd ba 64 (L ++ [(t, x)])]) := hO8.three.tail
              have c0 := hO8.three.cell 0
              have c1 := hO8.three.cell 1
              simp at c0 c1
              obtain ⟨p0, p1⟩ := HP.out _ hO8.fr
              clear hO8 H7 H7b HG2
              obtain ⟨xa, xb⟩ := x
              simp only at c0 c1 p0 p1
              have hxa : (xa == xa) = true := by simp
              have hxb : (xb == xb) = true := by simp
              go_wp2
              go_quiet (fail)
              go_wp2
              go_roundw
              case rel => exact ⟨k + 1, by omega, by go_num, _, _, HLM.out.1, HLM.out.2.1, HLM.out.2.2.1, HLM.out.2.2.2.1, HLM.out.2.2.2.2, H8.out.drewN _⟩
              case measure => simp [intOf]; omega
        · have h60' : ¬ (k : Int) < 60 := by omega
          go_wp2
          go_ret
          exact ⟨rfl, HO.out.fr⟩
      · have hpl' : ¬ (k : Int) < (plen : Int) := by omega
        go_wp2
        go_ret
        exact ⟨rfl, HO.out.fr⟩
    · have hlt' : ¬ (k : Int) < (len : Int) := by omega
      go_wp2
      go_ret
      exact ⟨rfl, HO.out.fr⟩

theorem ringKinds_walk (w : World) (a0 : Option Addr) (len0 cap0 : Nat) (z0 : List Int) (w0 : IsRow .u32 w a0 len0 cap0 z0) (a1 : Option Addr) (len1 cap1 : Nat) (z1 : List Pr) (w1 : IsPairs w a1 len1 cap1 z1) :
    Calls Try.prog 3 #[.slice a0 len0 cap0, .slice a1 len1 cap1] w fun e w' => e = .returned (.bool true) ∧ Below w.heap.size w w' := by
  obtain ⟨h1, h2, h3, h4⟩ := w0.ints
  exact (ringKinds_fr w a0 len0 cap0 _ h2 h1 h3 h4 a1 len1 cap1 z1 w1.2.1 w1.2.2.1 w1.1 w1.prs).mono fun e w' ⟨h, f⟩ => ⟨h, f.below (Nat.le_refl _) (fun _ _ h => h)⟩

theorem laidOut : laidOutB Try.prog = true := by kernel_rfl

set_option maxRecDepth 100000 in
theorem ringKinds_lifted (os : Os) (started : os.Started) (H : Type) (enc : TypeId × Value → H) :
    ReturnsInHanded {} Try.checked os 3 .any (Rows.ringKindsSpec.pre6 enc Try.prog Try.f3 Rows.ringKindsRow.domain false) (Rows.ringKindsSpec.post enc Try.prog Try.f3 false true false false) := by
  refine returnsInHanded_of_change (C := Try.checked) own started (by kernel_rfl) Try.func3
    (ChangeSpec.witness6 (enc := enc) (C := Try.checked) false ⟨#[], #[.slice none 0 0, .slice none 0 0], []⟩ 8 (by kernel_rfl) (by kernel_rfl) (by kernel_rfl) (by kernel_rfl)) ?_
  intro W base args ds gs before hval0 hW hcnd _
  have hval : ∀ (j : Nat) t v, Try.f3.params[j]? = some t → args[j]? = some v → Value.okWide Try.prog W .any base t v := hval0
  have hW' := hW
  obtain ⟨p, q, hA0, hV, rfl, hfz, hnd⟩ := hW
  have hA : DataW.TrodAll enc Try.prog W 0 (fun _ => true) true Try.f3.params.toList args.toList ds p := hA0
  rw [Try.params3] at hA hval
  obtain ⟨v0, vs0, d0, ds0, p0, q0, hargs, rfl, rfl, h0, r0⟩ := trodAll_cons hA
  obtain ⟨v1, vs1, d1, ds1, p1, q1, rfl, rfl, rfl, h1, r1⟩ := trodAll_cons r0
  obtain ⟨rfl, rfl, rfl⟩ := trodAll_nil r1
  obtain rfl : args = #[v0, v1] := by cases args; simp_all
  obtain ⟨rfl, rfl⟩ := trodVars_none hV
  obtain ⟨a0, len0, cap0, rfl⟩ := okWide_slice Try.underlying22 (hval 0 22 v0 rfl rfl)
  have k0 := h0
  have lt0 : ∀ x ∈ p0, x.block < W.heap.size := by obtain ⟨m, hm⟩ := k0; exact DataW.trod_lt m _ _ _ hm
  obtain ⟨z0, w0⟩ : ∃ zs, IsRow .u32 W a0 len0 cap0 zs := by
    obtain ⟨fuel, hf⟩ := h0
    rcases open_ints Try.underlying22 Try.underlying34 (by kernel_rfl) hf with ⟨hcs, _⟩ | ⟨x, l, c, zs, hcs, _, hl, hm, hz, _, hcell, hwz⟩
    · simp [Value.cells] at hcs
      obtain ⟨rfl, rfl, rfl⟩ := hcs
      exact ⟨[], .inl ⟨rfl, rfl, rfl, rfl⟩⟩
    · simp [Value.cells] at hcs
      obtain ⟨rfl, rfl, rfl⟩ := hcs
      exact ⟨zs, .inr ⟨_, rfl, hl, hm, by simpa using hz, hcell, hwz⟩⟩
  obtain ⟨a1, len1, cap1, rfl⟩ := okWide_slice Try.underlying23 (hval 1 23 v1 rfl rfl)
  have k1 := h1
  have lt1 : ∀ x ∈ p1, x.block < W.heap.size := by obtain ⟨m, hm⟩ := k1; exact DataW.trod_lt m _ _ _ hm
  obtain ⟨z1, w1⟩ := open_ops (hval 1 23 _ rfl rfl) h1
  clear hA0 hval0
  refine (ringKinds_walk W a0 len0 cap0 z0 w0 a1 len1 cap1 z1 w1).mono fun e W' ⟨he, bel⟩ => ?_
  subst he
  exact ⟨_, rfl, _, _, _, [], _, [], hW', trodAll_mk1 (shut_bool Try.underlying4 _), (trodAll_cons_mk (Below.trod laidOut (by kernel_rfl) (of_decide_eq_true (by kernel_rfl)) k0 bel lt0) (trodAll_cons_mk (Below.trod laidOut (by kernel_rfl) (of_decide_eq_true (by kernel_rfl)) k1 bel lt1) trodAll_mk0)), rfl, bel.frame _, fun h => by cases h⟩

theorem ringKinds_holds : Rows.RingKindsSaid :=
  OpenClaim.holds_of_wide 3 Try.f3 rfl rfl rfl rfl rfl rfl rfl ⟨rfl, rfl, rfl, rfl, rfl⟩ rfl rfl rfl rfl rfl (by kernel_rfl) Try.func3 (by kernel_rfl)
    (of_decide_eq_true (by kernel_rfl)) (by unfold Func.isWrapper; first | (rw [if_pos (by decide +kernel)]; kernel_rfl) | (rw [if_neg (by decide +kernel)]; exact ⟨rfl, rfl⟩))
    (fun os started H enc _ => ringKinds_lifted os started H enc)

end Go.Proofs.Ytdcfkjmjekbekaa
