/-
  Of things by rising ticks the last ones are held, as many as there is room for, and no others: RingLast returns true, whatever its arguments, and changes nothing that was there.
-/
import Derived.Test.YtficpeghmkbdpaaYw
import Derived.ProofKit
import Derived.OpenShut
import Derived.ShutString
import Derived.ChangeOld
namespace Go.Proofs.Ytficpeghmkbdpaa
open Go.ChangeShapes Go.WideShapes Go.ChangeAt Go.RowKit
set_option linter.unusedVariables false

theorem own : ownKnob Try.prog.godebug = none := by kernel_rfl
theorem u8_rng {n : Int} (h : (Lit.int .u8 n).wf = true) : ∃ k : Nat, n = k ∧ k < 256 := by
  have : 0 ≤ n ∧ n ≤ 255 := by simpa [Lit.wf, IntKind.min, IntKind.max, IntKind.signed, IntKind.bits] using h
  exact ⟨n.toNat, by omega, by omega⟩
/-- the ticks of all that was put by then -/
def tks (S : List Nat) (m : Nat) : List Nat := (List.range m).map (fun i => tv S (i + 1))
theorem tks_len (S : List Nat) (m : Nat) : (tks S m).length = m := by simp [tks]
theorem tks_succ (S : List Nat) (m : Nat) : tks S (m + 1) = tks S m ++ [tv S (m + 1)] := by simp [tks, List.range_succ]
theorem tks_at (S : List Nat) (m i : Nat) (h : i < m) : (tks S m)[i]? = some (tv S (i + 1)) := by rw [tks, List.getElem?_map, List.getElem?_range h]; rfl

set_option maxHeartbeats 4000000 in
set_option maxRecDepth 100000 in
theorem ringLast_fr (a : Nat) (ha : a < 256) (w : World) (ao : Option Addr) (len cap : Nat) (Z : List Int) (S : List Nat) (hmax : len ≤ maxLen) (hZl : Z.length = len) (hZa : Ints .u8 w ao Z) (hSl : S.length = Z.length) (hS : ∀ s ∈ S, s < 256) (hSZ : ∀ (i s : Nat), S[i]? = some s → Z[i]? = some (s : Int)) :
    Calls Try.prog 8 #[.int .u8 (a : Int), .slice ao len cap] w fun e w' => e = .returned (.bool true) ∧ Fr Nobody w w' := by
  unfold maxLen at hmax
  obtain ⟨n, hn⟩ : ∃ n : Nat, n = 1 + a % 64 := ⟨_, rfl⟩
  have n1 : 1 ≤ n := by omega
  have n2 : n ≤ 64 := by omega
  have en : (1 : Int) + (a : Int) % 64 = (n : Int) := by omega
  have HZ : Hid (S.length = len ∧ Ints .u8 w ao Z ∧ (∀ s ∈ S, s < 256) ∧ ∀ (i s : Nat), S[i]? = some s → Z[i]? = some (s : Int)) := ⟨by rw [hSl, hZl], hZa, hS, hSZ⟩
  obtain ⟨i0, hi, hz0, hz1, hz2⟩ := info_parts Try.infoUa
  clear hn hZl hZa hSl hS hSZ
  go_enter Try.func8, Try.ntmps8
  go_wp2_with fail
  refine (awake8 w w [] (Own.start _)).mono ?_
  rintro e w1 ⟨rfl, hO⟩
  have H1 : Hid (Own w w1 []) := hO
  clear hO
  go_wp2_with fail
  refine (newb w w1 [] n H1.out n1 n2).mono ?_
  rintro e w2 ⟨bb, rfl, hO⟩
  have H2 : Hid (Own w w2 [Row 22 1 (.slice none 0 0) 0 [], Ringb bb n []]) := hO.nilRow _ _
  clear hO H1
  go_wp2
  go_loopw [8, 9, 31] (fun tk al c wr => ∃ k : Nat, k ≤ len ∧ c = .int .i64 k ∧ k ≤ 300 ∧ tk = .int .u32 (tv S k : Int) ∧ ∃ aa ac, al = .slice aa k ac ∧ Own w wr [Row 22 1 (.slice aa k ac) k (irow .u32 (tks S k)), Ringb bb n (held S n k)]) (fun _ _ c _ => len - (intOf c).toNat)
  case atStart => exact ⟨0, Nat.zero_le _, rfl, by omega, rfl, none, 0, rfl, by rw [show held S n 0 = [] by simp [held, pall]]; exact H2.out⟩
  case round =>
    obtain ⟨k, hk, rfl, hk3, rfl, aa, ac, rfl, hO⟩ := hrel
    have HO : Hid (Own w wr [Row 22 1 (.slice aa k ac) k (irow .u32 (tks S k)), Ringb bb n (held S n k)]) := hO
    clear hO H2
    have htl : tv S k ≤ 256 * k := tv_le S HZ.out.2.2.1 k (by rw [HZ.out.1]; exact hk)
    by_cases hround : k < len ∧ k < 300
    · obtain ⟨hlt, h300⟩ := hround
      have h300' : (k : Int) < 300 := by omega
      obtain ⟨s, hs⟩ : ∃ s, S[k]? = some s := ⟨_, List.getElem?_eq_getElem (by rw [HZ.out.1]; exact hlt)⟩
      have hs2 := HZ.out.2.2.1 s (List.mem_of_getElem? hs)
      have hz := HZ.out.2.2.2 k s hs
      obtain ⟨g, o0, hao, cx⟩ : ∃ g o0, ao = some ⟨g, o0, none⟩ ∧ wr.cell? ⟨g, o0 + k, none⟩ = some (.int .u8 (s : Int)) := by
        rcases HZ.out.2.1.quiet HO.out.fr with h | ⟨g, o0, h1, h2⟩
        · subst h; simp at hz
        · exact ⟨g, o0, h1, h2 k _ hz⟩
      subst hao
      have HTV : Hid (tv S (k + 1) = tv S k + (1 + s)) := tv_succ S k s hs
      have HP : Hid (rput n (held S n k) (tv S (k + 1)) (k : Int) = (0, held S n (k + 1))) := held_put S n k n1 (by rw [HZ.out.1]; exact hlt)
      have HK : Hid (ROk n (held S n k)) := held_ok S HZ.out.2.2.1 n k n1 n2 (by rw [HZ.out.1]; exact hk) hk3
      obtain ⟨T, hT⟩ : ∃ T, T = tv S (k + 1) := ⟨_, rfl⟩
      have HT : Hid (T = tv S (k + 1)) := hT
      have eT : (tv S k : Int) + (1 + (s : Int)) = (T : Int) := by rw [hT, HTV.out]; omega
      have hT2 : T < 4294967296 := by rw [hT, HTV.out]; omega
      clear hs hz hT
      generalize tv S k = tvk at *
      go_wp2_with fail
      refine (putb w wr _ bb n (held S n k) T (k : Int) HO.out.two HK.out hT2).mono ?_
      rw [HT.out, HP.out]
      rintro e w3 ⟨rfl, hO⟩
      have H3 : Hid (Own w w3 [Ringb bb n (held S n (k + 1)), Row 22 1 (.slice aa k ac) k (irow .u32 (tks S k))]) := hO
      clear hO HO cx
      go_wp2_with (at_builtin; refine append1_own rfl _ _ 81 rfl 22 i0 (.int .u32 0) 1 4 Try.underlying81 hi hz0 hz1 hz2 rfl (by decide) _ _ _ rfl H3.out.two _ _ (by simp) rfl rfl (one_int _ _) (by unfold maxLen; omega) (by omega) ?_)
      intro g' c' w4 hO4 hsz
      have H4 : Hid (Own w w4 [Row 22 1 (.slice (some ⟨g', 0, none⟩) (k + 1) c') (k + 1) (irow .u32 (tks S (k + 1))), Ringb bb n (held S n (k + 1))]) := by
        rw [tks_succ, irow_append]; exact hO4
      clear hO4 H3 hsz
      go_wp2
      go_roundw
      case rel => exact ⟨k + 1, by omega, by go_num, by omega, by rw [← HT.out], some ⟨g', 0, none⟩, c', rfl, H4.out⟩
      case measure => simp [intOf]; omega
    · have HK : Hid (ROk n (held S n k)) := held_ok S HZ.out.2.2.1 n k n1 n2 (by rw [HZ.out.1]; exact hk) hk3
      have HG : Hid (∀ i, i < k → rget (held S n k) (tv S (i + 1)) = if k - n ≤ i then some (i : Int) else none) := fun i hi => held_get S HZ.out.2.2.1 n k i n1 n2 (by rw [HZ.out.1]; exact hk) hk3 hi
      have HL : Hid ((held S n k).length = min n k) := held_len S n k
      have HB : Hid (∀ i, i < k → tv S (i + 1) < 4294967296) := fun i hi => by have := tv_le S HZ.out.2.2.1 (i + 1) (by rw [HZ.out.1]; omega); omega
      obtain ⟨m, hm⟩ : ∃ m, m = min n k := ⟨_, rfl⟩
      have hmi : min (n : Int) (k : Int) = (m : Int) := by rw [hm]; omega
      have hmn : m ≤ n := by omega
      have hmk : m ≤ k := by omega
      have HMM : Hid (m = min n k) := hm
      clear hm
      have hexit : ¬ k < len ∨ (k < len ∧ (300 : Int) ≤ (k : Int) ∧ ∃ (g o0 s : Nat), ao = some ⟨g, o0, none⟩ ∧ s < 256 ∧ wr.cell? ⟨g, o0 + k, none⟩ = some (.int .u8 (s : Int))) := by
        by_cases c : k < len
        · right
          refine ⟨c, by omega, ?_⟩
          obtain ⟨s, hs⟩ : ∃ s, S[k]? = some s := ⟨_, List.getElem?_eq_getElem (by rw [HZ.out.1]; exact c)⟩
          have hz := HZ.out.2.2.2 k s hs
          rcases HZ.out.2.1.quiet HO.out.fr with h | ⟨g, o0, h1, h2⟩
          · subst h; simp at hz
          · exact ⟨g, o0, s, h1, HZ.out.2.2.1 s (List.mem_of_getElem? hs), h2 k _ hz⟩
        · exact .inl c
      clear hround htl
      generalize tv S k = tvk at *
      rcases hexit with hlt | ⟨hlt, h300, g, o0, s, rfl, hs2, cx⟩
      all_goals
        go_wp2
        go_loopw [55] (fun c wr2 => ∃ j : Nat, j ≤ k ∧ c = .int .i64 j ∧ Own w wr2 [Row 22 1 (.slice aa k ac) k (irow .u32 (tks S k)), Ringb bb n (held S n k)]) (fun c _ => k - (intOf c).toNat)
        case atStart => exact ⟨0, Nat.zero_le _, rfl, HO.out⟩
        case round =>
          obtain ⟨j, hj, rfl, hO⟩ := hrel
          have HO2 : Hid (Own w _ [Row 22 1 (.slice aa k ac) k (irow .u32 (tks S k)), Ringb bb n (held S n k)]) := hO
          clear hO HO
          by_cases hjk : j < k
          · obtain ⟨g5, c5, hv, _⟩ := row_shape HO2.out.row (by omega)
            have hg5 := (Value.slice.inj hv).1
            subst hg5
            have cy := HO2.out.row.cellAt j (by omega)
            rw [getElem?_irow, tks_at S k j hjk] at cy
            simp only [Option.map_some] at cy
            have hb := HB.out j hjk
            have HGj : Hid (rget (held S n k) (tv S (j + 1)) = if k - n ≤ j then some (j : Int) else none) := HG.out j hjk
            have hjk' : (j : Int) < (k : Int) := by omega
            clear hv
            generalize tv S (j + 1) = tj at *
            by_cases hin : k - n ≤ j
            · have hin' : (k : Int) - (n : Int) ≤ (j : Int) := by omega
              have hjj : ((j : Int) != (j : Int)) = false := by simp
              go_wp2_with fail
              refine (getb w _ _ bb n (held S n k) tj HO2.out.two HK.out).mono ?_
              rw [HGj.out, if_pos hin]
              rintro e w5 ⟨rfl, hO⟩
              have H5 : Hid (Own w w5 [Ringb bb n (held S n k), Row 22 1 (.slice (some ⟨g5, 0, none⟩) k ac) k (irow .u32 (tks S k))]) := hO
              simp only [gvb]
              clear hO HO2 cy HGj
              go_wp2
              go_roundw
              case rel => exact ⟨j + 1, by omega, by go_num, H5.out.two⟩
              case measure => simp [intOf]; omega
            · have hin' : ¬ (k : Int) - (n : Int) ≤ (j : Int) := by omega
              go_wp2_with fail
              refine (getb w _ _ bb n (held S n k) tj HO2.out.two HK.out).mono ?_
              rw [HGj.out, if_neg hin]
              rintro e w5 ⟨rfl, hO⟩
              have H5 : Hid (Own w w5 [Ringb bb n (held S n k), Row 22 1 (.slice (some ⟨g5, 0, none⟩) k ac) k (irow .u32 (tks S k))]) := hO
              simp only [gvb]
              clear hO HO2 cy HGj
              go_wp2
              go_roundw
              case rel => exact ⟨j + 1, by omega, by go_num, H5.out.two⟩
              case measure => simp [intOf]; omega
          · have hd : decide ((j : Int) < (k : Int)) = false := decide_eq_false (by omega)
            go_wp2_with fail
            refine (lenb w _ _ bb n (held S n k) HO2.out.two).mono ?_
            rw [HL.out, ← HMM.out]
            rintro e w5 ⟨rfl, hw⟩
            subst hw
            have hcs : (m = n ∧ n ≤ k) ∨ (m = k ∧ k < n) := by have := HMM.out; omega
            clear hmi hmn hmk HMM
            rcases hcs with ⟨rfl, hnk⟩ | ⟨rfl, hnk⟩
            all_goals
              go_wp2
              all_goals
                go_ret
                exact ⟨by first | rfl | (simp; done), HO2.out.fr⟩

theorem ringLast_walk (w : World) (a0 : Int) (w0 : (Lit.int .u8 a0).wf = true) (a1 : Option Addr) (len1 cap1 : Nat) (z1 : List Int) (w1 : IsRow .u8 w a1 len1 cap1 z1) :
    Calls Try.prog 8 #[.int .u8 a0, .slice a1 len1 cap1] w fun e w' => e = .returned (.bool true) ∧ Below w.heap.size w w' := by
  obtain ⟨a, rfl, ha⟩ := u8_rng w0
  obtain ⟨h1, h2, h3, h4⟩ := w1.ints
  obtain ⟨S, s1, s2, s3⟩ := nats_of h4
  exact (ringLast_fr a ha w a1 len1 cap1 _ S h2 h1 h3 s1 s2 s3).mono fun e w' ⟨h, f⟩ => ⟨h, f.below (Nat.le_refl _) (fun _ _ h => h)⟩

theorem laidOut : laidOutB Try.prog = true := by kernel_rfl

set_option maxRecDepth 100000 in
theorem ringLast_lifted (os : Os) (started : os.Started) (H : Type) (enc : TypeId × Value → H) :
    ReturnsInHanded {} Try.checked os 8 .any (Rows.ringLastSpec.pre6 enc Try.prog Try.f8 Rows.ringLastRow.domain false) (Rows.ringLastSpec.post enc Try.prog Try.f8 false true false false) := by
  refine returnsInHanded_of_change (C := Try.checked) own started (by kernel_rfl) Try.func8
    (ChangeSpec.witness6 (enc := enc) (C := Try.checked) false ⟨#[], #[.int .u8 0, .slice none 0 0], []⟩ 8 (by kernel_rfl) (by kernel_rfl) (by kernel_rfl) (by kernel_rfl)) ?_
  intro W base args ds gs before hval0 hW hcnd _
  have hval : ∀ (j : Nat) t v, Try.f8.params[j]? = some t → args[j]? = some v → Value.okWide Try.prog W .any base t v := hval0
  have hW' := hW
  obtain ⟨p, q, hA0, hV, rfl, hfz, hnd⟩ := hW
  have hA : DataW.TrodAll enc Try.prog W 0 (fun _ => true) true Try.f8.params.toList args.toList ds p := hA0
  rw [Try.params8] at hA hval
  obtain ⟨v0, vs0, d0, ds0, p0, q0, hargs, rfl, rfl, h0, r0⟩ := trodAll_cons hA
  obtain ⟨v1, vs1, d1, ds1, p1, q1, rfl, rfl, rfl, h1, r1⟩ := trodAll_cons r0
  obtain ⟨rfl, rfl, rfl⟩ := trodAll_nil r1
  obtain rfl : args = #[v0, v1] := by cases args; simp_all
  obtain ⟨rfl, rfl⟩ := trodVars_none hV
  obtain ⟨a0, rfl, rfl, rfl, w0⟩ := open_int Try.underlying5 (hval 0 5 v0 rfl rfl) h0
  obtain ⟨a1, len1, cap1, rfl⟩ := okWide_slice Try.underlying53 (hval 1 53 v1 rfl rfl)
  have k1 := h1
  have lt1 : ∀ x ∈ p1, x.block < W.heap.size := by obtain ⟨m, hm⟩ := k1; exact DataW.trod_lt m _ _ _ hm
  obtain ⟨z1, w1⟩ : ∃ zs, IsRow .u8 W a1 len1 cap1 zs := by
    obtain ⟨fuel, hf⟩ := h1
    rcases open_ints Try.underlying53 Try.underlying5 (by kernel_rfl) hf with ⟨hcs, _⟩ | ⟨x, l, c, zs, hcs, _, hl, hm, hz, _, hcell, hwz⟩
    · simp [Value.cells] at hcs
      obtain ⟨rfl, rfl, rfl⟩ := hcs
      exact ⟨[], .inl ⟨rfl, rfl, rfl, rfl⟩⟩
    · simp [Value.cells] at hcs
      obtain ⟨rfl, rfl, rfl⟩ := hcs
      exact ⟨zs, .inr ⟨_, rfl, hl, hm, by simpa using hz, hcell, hwz⟩⟩
  clear hA0 hval0
  refine (ringLast_walk W a0 w0 a1 len1 cap1 z1 w1).mono fun e W' ⟨he, bel⟩ => ?_
  subst he
  exact ⟨_, rfl, _, _, _, [], _, [], hW', trodAll_mk1 (shut_bool Try.underlying4 _), (trodAll_cons_mk (shut_int Try.underlying5 w0) (trodAll_cons_mk (Below.trod laidOut (by kernel_rfl) (of_decide_eq_true (by kernel_rfl)) k1 bel lt1) trodAll_mk0)), rfl, bel.frame _, fun h => by cases h⟩

theorem ringLast_holds : Rows.RingLastSaid :=
  OpenClaim.holds_of_wide 8 Try.f8 rfl rfl rfl rfl rfl rfl rfl ⟨rfl, rfl, rfl, rfl, rfl⟩ rfl rfl rfl rfl rfl (by kernel_rfl) Try.func8 (by kernel_rfl)
    (of_decide_eq_true (by kernel_rfl)) (by unfold Func.isWrapper; first | (rw [if_pos (by decide +kernel)]; kernel_rfl) | (rw [if_neg (by decide +kernel)]; exact ⟨rfl, rfl⟩))
    (fun os started H enc _ => ringLast_lifted os started H enc)

end Go.Proofs.Ytficpeghmkbdpaa
