/-
  Whatever is cut off, what is left is what was, from that tick on: RingCuts returns true, whatever its arguments, and changes nothing that was there.
-/
import Derived.Test.YtficpeghmkbdpabYc
import Derived.ProofKit
import Derived.OpenShut
import Derived.ShutString
import Derived.ChangeOld
namespace Go.Proofs.Ytficpeghmkbdpab
open Go.ChangeShapes Go.WideShapes Go.ChangeAt Go.RowKit
set_option linter.unusedVariables false

theorem own : ownKnob Try.prog.godebug = none := by kernel_rfl
theorem u32_rng {n : Int} (h : (Lit.int .u32 n).wf = true) : ∃ k : Nat, n = k ∧ k < 4294967296 := by
  have : 0 ≤ n ∧ n ≤ 4294967295 := by simpa [Lit.wf, IntKind.min, IntKind.max, IntKind.signed, IntKind.bits] using h
  exact ⟨n.toNat, by omega, by omega⟩
def xf (t : Nat) : Nat := t ^^^ 5
theorem xf_eq (t : Nat) (h : t < 4294967296) : bits .xor .u32 (t : Int) 5 = (xf t : Int) := u32_xor_nat t 5 h (by decide)
theorem rput_mem {k : Nat} {L : List (Nat × Nat)} {t x : Nat} (h : ∀ e ∈ L, e.2 = xf e.1) (hx : x = xf t) : ∀ e ∈ (rput k L t x).2, e.2 = xf e.1 := by
  intro e he
  have hM : ∀ e ∈ L ++ [(t, x)], e.2 = xf e.1 := by
    intro e he
    rcases List.mem_append.1 he with he | he
    · exact h e he
    · have : e = (t, x) := by simpa using he
      rw [this]; exact hx
  unfold rput at he
  split at he
  · exact h e he
  · simp only at he
    split at he
    · exact hM e (List.mem_of_mem_drop he)
    · exact hM e he

set_option maxHeartbeats 4000000 in
set_option maxRecDepth 100000 in
theorem ringCuts_fr (at' : Nat) (hat : at' < 4294967296) (w : World) (ao : Option Addr) (len cap : Nat) (Z : List Int) (hmax : len ≤ maxLen) (hZl : Z.length = len) (hZa : Ints .u32 w ao Z) (hZb : ∀ n ∈ Z, (Lit.int .u32 n).wf = true) :
    Calls Try.prog 4 #[.slice ao len cap, .int .u32 (at' : Int)] w fun e w' => e = .returned (.bool true) ∧ Fr Nobody w w' := by
  unfold maxLen at hmax
  have HZ : Hid (Z.length = len ∧ Ints .u32 w ao Z ∧ ∀ n ∈ Z, (Lit.int .u32 n).wf = true) := ⟨hZl, hZa, hZb⟩
  clear hZl hZa hZb
  go_enter Try.func4, Try.ntmps4
  go_wp2_with fail
  refine (awake8 w w [] (Own.start _)).mono ?_
  rintro e w1 ⟨rfl, hO⟩
  have H1 : Hid (Own w w1 []) := hO
  clear hO
  go_wp2_with fail
  refine (newc w w1 [] 40 H1.out (by decide) (by decide)).mono ?_
  rintro e w2 ⟨bb, rfl, hO⟩
  have H2 : Hid (Own w w2 [Ringc bb 40 []]) := hO
  clear hO H1
  go_wp2
  go_loopw [26] (fun c wr => ∃ k : Nat, k ≤ len ∧ c = .int .i64 k ∧ ∃ L, ROk 40 L ∧ (∀ e ∈ L, e.2 = xf e.1) ∧ Own w wr [Ringc bb 40 L]) (fun c _ => len - (intOf c).toNat)
  case atStart => exact ⟨0, Nat.zero_le _, rfl, [], ROk.nil (by decide) (by decide), by simp, H2.out⟩
  case round =>
    obtain ⟨k, hk, rfl, L, hR, hX, hO⟩ := hrel
    have HO : Hid (Own w wr [Ringc bb 40 L]) := hO
    have HR : Hid (ROk 40 L ∧ ∀ e ∈ L, e.2 = xf e.1) := ⟨hR, hX⟩
    clear hO H2 hR hX
    by_cases hlt : k < len
    · obtain ⟨zz, hz⟩ : ∃ z, Z[k]? = some z := ⟨_, List.getElem?_eq_getElem (by rw [HZ.out.1]; exact hlt)⟩
      obtain ⟨t, rfl, ht⟩ := u32_rng (HZ.out.2.2 zz (List.mem_of_getElem? hz))
      obtain ⟨g, o0, hao, cx⟩ : ∃ g o0, ao = some ⟨g, o0, none⟩ ∧ wr.cell? ⟨g, o0 + k, none⟩ = some (.int .u32 (t : Int)) := by
        rcases HZ.out.2.1.quiet HO.out.fr with h | ⟨g, o0, h1, h2⟩
        · subst h; simp at hz
        · exact ⟨g, o0, h1, h2 k _ hz⟩
      subst hao
      clear hz
      have hlt' : (k : Int) < (len : Int) := by omega
      by_cases h40 : k < 40
      · have h40' : (k : Int) < 40 := by omega
        have hxe := xf_eq t ht
        obtain ⟨x, hx⟩ : ∃ x, x = xf t := ⟨_, rfl⟩
        rw [← hx] at hxe
        have HP : Hid (ROk 40 (rput 40 L t x).2 ∧ ∀ e ∈ (rput 40 L t x).2, e.2 = xf e.1) := ⟨rput_ok HR.out.1 t x ht, rput_mem HR.out.2 hx⟩
        clear hx
        go_wp2_with fail
        refine (putc w wr [] bb 40 L t x HO.out HR.out.1 ht).mono ?_
        rintro e w3 ⟨rfl, hO⟩
        have H3 : Hid (Own w w3 [Ringc bb 40 (rput 40 L t x).2]) := hO
        clear hO HO cx
        go_wp2
        go_roundw
        case rel => exact ⟨k + 1, by omega, by go_num, _, HP.out.1, HP.out.2, H3.out⟩
        case measure => simp [intOf]; omega
      · have h40' : ¬ (k : Int) < 40 := by omega
        go_wp2
        go_roundw
        case rel => exact ⟨k + 1, by omega, by go_num, L, HR.out.1, HR.out.2, HO.out⟩
        case measure => simp [intOf]; omega
    · have hlt' : ¬ (k : Int) < (len : Int) := by omega
      have hLk : L.length ≤ 40 := HR.out.1.le
      have hbl := below_le at' L
      have HRD : Hid (ROk 40 (L.drop (below at' L))) := HR.out.1.drop _
      have HB0 : Hid (below at' (L.drop (below at' L)) = 0) := below_again HR.out.1.inc at'
      have HDL : Hid ((L.drop (below at' L)).length = L.length - below at' L) := List.length_drop
      go_wp2_with fail
      refine (ticksc w wr [] bb 40 L HO.out HR.out.1).mono ?_
      rintro e w3 ⟨a1, c1, rfl, hO⟩
      have H3 : Hid (Own w w3 [Row 34 1 (.slice a1 L.length c1) L.length (irow .u32 (tksc L)), Ringc bb 40 L]) := hO
      clear hO HO
      go_wp2_with fail
      refine (cutc w w3 _ bb 40 L at' H3.out.two HR.out.1).mono ?_
      rintro e w4 ⟨rfl, hO⟩
      have H4 : Hid (Own w w4 [Ringc bb 40 (L.drop (below at' L)), Row 34 1 (.slice a1 L.length c1) L.length (irow .u32 (tksc L))]) := hO
      clear hO H3
      go_wp2_with fail
      refine (ticksc w w4 _ bb 40 _ H4.out HRD.out).mono ?_
      rw [HDL.out]
      rintro e w5 ⟨a2, c2, rfl, hO⟩
      have H5 : Hid (Own w w5 [Row 34 1 (.slice a2 (L.length - below at' L) c2) (L.length - below at' L) (irow .u32 (tksc (L.drop (below at' L)))), Ringc bb 40 (L.drop (below at' L)), Row 34 1 (.slice a1 L.length c1) L.length (irow .u32 (tksc L))]) := hO
      have hsum : (below at' L : Int) + ((L.length - below at' L : Nat) : Int) = (L.length : Int) := by omega
      have hlne : ((L.length : Int) != (L.length : Int)) = false := by simp
      have hdl : L.length - below at' L ≤ 40 := by omega
      clear hO H4
      go_wp2_with fail
      refine (cutc w w5 _ bb 40 _ at' H5.out.two HRD.out).mono ?_
      rw [HB0.out, List.drop_zero]
      rintro e w6 ⟨rfl, hO⟩
      have H6 : Hid (Own w w6 [Ringc bb 40 (L.drop (below at' L)), Row 34 1 (.slice a2 (L.length - below at' L) c2) (L.length - below at' L) (irow .u32 (tksc (L.drop (below at' L)))), Row 34 1 (.slice a1 L.length c1) L.length (irow .u32 (tksc L))]) := hO
      clear hO H5
      go_wp2
      go_loopw [61] (fun c wr2 => ∃ j : Nat, j ≤ L.length ∧ c = .int .i64 j ∧ Own w wr2 [Ringc bb 40 (L.drop (below at' L)), Row 34 1 (.slice a2 (L.length - below at' L) c2) (L.length - below at' L) (irow .u32 (tksc (L.drop (below at' L)))), Row 34 1 (.slice a1 L.length c1) L.length (irow .u32 (tksc L))]) (fun c _ => L.length - (intOf c).toNat)
      case atStart => exact ⟨0, Nat.zero_le _, rfl, H6.out⟩
      case round =>
        obtain ⟨j, hj, rfl, hO⟩ := hrel
        have HO2 : Hid (Own w _ [Ringc bb 40 (L.drop (below at' L)), Row 34 1 (.slice a2 (L.length - below at' L) c2) (L.length - below at' L) (irow .u32 (tksc (L.drop (below at' L)))), Row 34 1 (.slice a1 L.length c1) L.length (irow .u32 (tksc L))]) := hO
        clear hO H6
        by_cases hjl : j < L.length
        · obtain ⟨e, he⟩ : ∃ e, L[j]? = some e := ⟨_, List.getElem?_eq_getElem hjl⟩
          have het := HR.out.1.lt e (List.mem_of_getElem? he)
          have hex := HR.out.2 e (List.mem_of_getElem? he)
          have HG : Hid (rget (L.drop (below at' L)) e.1 = if at' ≤ e.1 then some e.2 else none) := cut_get HR.out.1 at' j e he
          obtain ⟨g1, d1, hv1, _⟩ := row_shape HO2.out.three.row (by omega)
          have hg1 := (Value.slice.inj hv1).1
          subst hg1
          have cy := HO2.out.three.row.cellAt j (by omega)
          rw [getElem?_irow, tksc, List.getElem?_map, he] at cy
          simp only [Option.map_some] at cy
          have hjl' : (j : Int) < (L.length : Int) := by omega
          by_cases hin : at' ≤ e.1
          · have hbj : below at' L ≤ j := by
              rcases Nat.lt_or_ge j (below at' L) with q | q
              · have := below_lt at' L j e q he; omega
              · exact q
            obtain ⟨g2, d2, hv2, _⟩ := row_shape HO2.out.two.row (by omega)
            have hg2 := (Value.slice.inj hv2).1
            subst hg2
            have hidx : (j : Int) - (below at' L : Int) = ((j - below at' L : Nat) : Int) := by omega
            have hidl : j - below at' L < L.length - below at' L := by omega
            have hidl' : ((j - below at' L : Nat) : Int) < ((L.length - below at' L : Nat) : Int) := by omega
            have HC2 : Hid (∀ w', Own w w' [Ringc bb 40 (L.drop (below at' L)), Row 34 1 (.slice (some ⟨g2, 0, none⟩) (L.length - below at' L) c2) (L.length - below at' L) (irow .u32 (tksc (L.drop (below at' L)))), Row 34 1 (.slice (some ⟨g1, 0, none⟩) L.length c1) L.length (irow .u32 (tksc L))] → w'.cell? ⟨g2, j - below at' L, none⟩ = some (.int .u32 (e.1 : Int))) := by
              intro w' h'
              rw [h'.two.row.cellAt _ (by omega), getElem?_irow, tksc, List.getElem?_map, List.getElem?_drop, show below at' L + (j - below at' L) = j by omega, he]; rfl
            have hxe := xf_eq e.1 het
            rw [← hex] at hxe
            clear he hv1 hv2 hex
            obtain ⟨et, ex⟩ := e
            simp only at het HG cy hin HC2 hxe
            have hin' : (at' : Int) ≤ (et : Int) := by omega
            have q1 : ((ex : Int) != (ex : Int)) = false := by simp
            have q2 : ((et : Int) != (et : Int)) = false := by simp
            generalize hji : j - below at' L = ji at *
            clear hji
            go_wp2_with fail
            refine (getc w _ _ bb 40 _ et HO2.out HRD.out).mono ?_
            rw [HG.out, if_pos hin]
            rintro e w7 ⟨rfl, hO7⟩
            have cz := HC2.out w7 hO7
            have H7 : Hid (Own w w7 _) := hO7
            simp only [gvc]
            clear hO7 HO2 cy HG HC2
            go_wp2
            go_roundw
            case rel => exact ⟨j + 1, by omega, by go_num, H7.out⟩
            case measure => simp [intOf]; omega
          · clear he hv1 hex
            obtain ⟨et, ex⟩ := e
            simp only at het HG cy hin
            have hin' : ¬ (at' : Int) ≤ (et : Int) := by omega
            go_wp2_with fail
            refine (getc w _ _ bb 40 _ et HO2.out HRD.out).mono ?_
            rw [HG.out, if_neg hin]
            rintro e w7 ⟨rfl, hO7⟩
            have H7 : Hid (Own w w7 _) := hO7
            simp only [gvc]
            clear hO7 HO2 cy HG
            go_wp2
            go_roundw
            case rel => exact ⟨j + 1, by omega, by go_num, H7.out⟩
            case measure => simp [intOf]; omega
        · have hjl' : ¬ (j : Int) < (L.length : Int) := by omega
          go_wp2
          go_ret
          exact ⟨rfl, HO2.out.fr⟩

theorem ringCuts_walk (w : World) (a0 : Option Addr) (len0 cap0 : Nat) (z0 : List Int) (w0 : IsRow .u32 w a0 len0 cap0 z0) (a1 : Int) (w1 : (Lit.int .u32 a1).wf = true) :
    Calls Try.prog 4 #[.slice a0 len0 cap0, .int .u32 a1] w fun e w' => e = .returned (.bool true) ∧ Below w.heap.size w w' := by
  obtain ⟨a, rfl, ha⟩ := u32_rng w1
  obtain ⟨h1, h2, h3, h4⟩ := w0.ints
  exact (ringCuts_fr a ha w a0 len0 cap0 _ h2 h1 h3 h4).mono fun e w' ⟨h, f⟩ => ⟨h, f.below (Nat.le_refl _) (fun _ _ h => h)⟩

theorem laidOut : laidOutB Try.prog = true := by kernel_rfl

set_option maxRecDepth 100000 in
theorem ringCuts_lifted (os : Os) (started : os.Started) (H : Type) (enc : TypeId × Value → H) :
    ReturnsInHanded {} Try.checked os 4 .any (Rows.ringCutsSpec.pre6 enc Try.prog Try.f4 Rows.ringCutsRow.domain false) (Rows.ringCutsSpec.post enc Try.prog Try.f4 false true false false) := by
  refine returnsInHanded_of_change (C := Try.checked) own started (by kernel_rfl) Try.func4
    (ChangeSpec.witness6 (enc := enc) (C := Try.checked) false ⟨#[], #[.slice none 0 0, .int .u32 0], []⟩ 8 (by kernel_rfl) (by kernel_rfl) (by kernel_rfl) (by kernel_rfl)) ?_
  intro W base args ds gs before hval0 hW hcnd _
  have hval : ∀ (j : Nat) t v, Try.f4.params[j]? = some t → args[j]? = some v → Value.okWide Try.prog W .any base t v := hval0
  have hW' := hW
  obtain ⟨p, q, hA0, hV, rfl, hfz, hnd⟩ := hW
  have hA : DataW.TrodAll enc Try.prog W 0 (fun _ => true) true Try.f4.params.toList args.toList ds p := hA0
  rw [Try.params4] at hA hval
  obtain ⟨v0, vs0, d0, ds0, p0, q0, hargs, rfl, rfl, h0, r0⟩ := trodAll_cons hA
  obtain ⟨v1, vs1, d1, ds1, p1, q1, rfl, rfl, rfl, h1, r1⟩ := trodAll_cons r0
  obtain ⟨rfl, rfl, rfl⟩ := trodAll_nil r1
  obtain rfl : args = #[v0, v1] := by cases args; simp_all
  obtain ⟨rfl, rfl⟩ := trodVars_none hV
  obtain ⟨a0, len0, cap0, rfl⟩ := okWide_slice Try.underlying22 (hval 0 22 v0 rfl rfl)
  have k0 := h0
  have lt0 : ∀ x ∈ p0, x.block < W.heap.size := by obtain ⟨m, hm⟩ := k0; exact DataW.trod_lt m _ _ _ hm
  obtain ⟨z0, w0⟩ : ∃ zs, IsRow .u32 W a0 len0 cap0 zs := by
    obtain ⟨fuel, hf⟩ := h0
    rcases open_ints Try.underlying22 Try.underlying34 (by kernel_rfl) hf with ⟨hcs, _⟩ | ⟨x, l, c, zs, hcs, _, hl, hm, hz, _, hcell, hwz⟩
    · simp [Value.cells] at hcs
      obtain ⟨rfl, rfl, rfl⟩ := hcs
      exact ⟨[], .inl ⟨rfl, rfl, rfl, rfl⟩⟩
    · simp [Value.cells] at hcs
      obtain ⟨rfl, rfl, rfl⟩ := hcs
      exact ⟨zs, .inr ⟨_, rfl, hl, hm, by simpa using hz, hcell, hwz⟩⟩
  obtain ⟨a1, rfl, rfl, rfl, w1⟩ := open_int Try.underlying34 (hval 1 34 v1 rfl rfl) h1
  clear hA0 hval0
  refine (ringCuts_walk W a0 len0 cap0 z0 w0 a1 w1).mono fun e W' ⟨he, bel⟩ => ?_
  subst he
  exact ⟨_, rfl, _, _, _, [], _, [], hW', trodAll_mk1 (shut_bool Try.underlying4 _), (trodAll_cons_mk (Below.trod laidOut (by kernel_rfl) (of_decide_eq_true (by kernel_rfl)) k0 bel lt0) (trodAll_cons_mk (shut_int Try.underlying34 w1) trodAll_mk0)), rfl, bel.frame _, fun h => by cases h⟩

theorem ringCuts_holds : Rows.RingCutsSaid :=
  OpenClaim.holds_of_wide 4 Try.f4 rfl rfl rfl rfl rfl rfl rfl ⟨rfl, rfl, rfl, rfl, rfl⟩ rfl rfl rfl rfl rfl (by kernel_rfl) Try.func4 (by kernel_rfl)
    (of_decide_eq_true (by kernel_rfl)) (by unfold Func.isWrapper; first | (rw [if_pos (by decide +kernel)]; kernel_rfl) | (rw [if_neg (by decide +kernel)]; exact ⟨rfl, rfl⟩))
    (fun os started H enc _ => ringCuts_lifted os started H enc)

end Go.Proofs.Ytficpeghmkbdpab
