/-
  What is put comes out in its order, through a box of any room, whenever it is taken: MailOrder returns true, whatever its arguments, and changes nothing that was there.
-/
import Derived.Test.YtijhbgkfffnioaaMe
import Derived.Deep.RegionWith
import Derived.ProofKit
import Derived.OpenShut
import Derived.ShutString
import Derived.ChangeOld
namespace Go.Proofs.Ytijhbgkfffnioaa
open Go.ChangeShapes Go.WideShapes Go.ChangeAt Go.RowKit Go.Conc
set_option linter.unusedVariables false

theorem own : ownKnob Try.prog.godebug = none := by kernel_rfl

set_option maxHeartbeats 8000000 in
set_option maxRecDepth 100000 in
theorem mailOrder_fr (a : Nat) (ha : a < 256) (w : World) (ao1 : Option Addr) (len1 cap1 : Nat) (Z : List Int) (ao2 : Option Addr) (len2 cap2 : Nat) (T : List Bool) (hmax1 : len1 ≤ maxLen) (hmax2 : len2 ≤ maxLen) (hZl : Z.length = len1) (hZa : Ints .i64 w ao1 Z) (hTl : T.length = len2) (hTa : RowsAt BoolIs 1 w ao2 T) :
    Calls Try.prog 6 #[.int .u8 (a : Int), .slice ao1 len1 cap1, .slice ao2 len2 cap2] w fun e w' => e = .returned (.bool true) ∧ Fr Nobody w w' := by
  unfold maxLen at hmax1 hmax2
  obtain ⟨n, hn⟩ : ∃ n : Nat, n = 1 + a % 40 := ⟨_, rfl⟩
  have n1 : 1 ≤ n := by omega
  have n2 : n ≤ 40 := by omega
  have en : (1 : Int) + (a : Int) % 40 = (n : Int) := by omega
  obtain ⟨i0, hi, hz0, hz1, hz2⟩ := info_parts Try.infoI64
  have HZ : Hid (Z.length = len1 ∧ Ints .i64 w ao1 Z ∧ T.length = len2 ∧ RowsAt BoolIs 1 w ao2 T) := ⟨hZl, hZa, hTl, hTa⟩
  clear hZl hZa hTl hTa hn
  go_enter Try.func6, Try.ntmps6
  go_wp2_with fail
  refine (awake9 w w [] (Own.start _)).mono ?_
  rintro e w1 ⟨rfl, hO⟩
  have H1 : Hid (Own w w1 []) := hO
  clear hO
  go_wp2_with fail
  refine (mnew w w1 [] n H1.out n1 (by omega)).mono ?_
  rintro e w2 ⟨b, rfl, hO⟩
  have H2 : Hid (Own w w2 [Bx b n [], Row 2 1 (.slice none 0 0) 0 [], Row 2 1 (.slice none 0 0) 0 []]) := ((hO.nilRow 2 1).nilRow 2 1).three
  clear hO H1 en
  go_wp2
  go_loopw [9, 10, 29] (fun iv uv c wr => ∃ k : Nat, k ≤ len1 ∧ c = .int .i64 k ∧ k ≤ 300 ∧ ∃ X Y L : List Int, X = Y ++ L ∧ L.length ≤ n ∧ X.length ≤ k ∧ Y.length ≤ k ∧ ∃ ai ci, iv = .slice ai X.length ci ∧ ∃ au cu, uv = .slice au Y.length cu ∧ Own w wr [Bx b n L, Row 2 1 (.slice ai X.length ci) X.length (lrow X), Row 2 1 (.slice au Y.length cu) Y.length (lrow Y)]) (fun _ _ c _ => len1 - (intOf c).toNat)
  case atStart => exact ⟨0, Nat.zero_le _, rfl, by omega, [], [], [], rfl, Nat.zero_le _, Nat.zero_le _, Nat.zero_le _, none, 0, rfl, none, 0, rfl, H2.out⟩
  case round =>
    obtain ⟨k, hk, rfl, hk3, X, Y, L, hX, hLn, hXk, hYk, ai, ci, rfl, au, cu, rfl, hO⟩ := hrel
    have HO : Hid (Own w wr [Bx b n L, Row 2 1 (.slice ai X.length ci) X.length (lrow X), Row 2 1 (.slice au Y.length cu) Y.length (lrow Y)]) := hO
    have HX : Hid (X = Y ++ L) := hX
    clear hO H2 hX
    by_cases hround : k < len1 ∧ k < 300
    · obtain ⟨hlt, h300⟩ := hround
      have h300' : (k : Int) < 300 := by omega
      obtain ⟨x, hx⟩ : ∃ x, Z[k]? = some x := ⟨_, List.getElem?_eq_getElem (by rw [HZ.out.1]; exact hlt)⟩
      obtain ⟨g, o0, hao, cx⟩ := int_at (HZ.out.2.1.quiet HO.out.fr) k x hx
      subst hao
      have hlt' : (k : Int) < (len1 : Int) := by omega
      clear hx
      by_cases hroom : L.length < n
      · go_wp2_with fail
        refine (mput_room w wr _ b n L x HO.out hroom).mono ?_
        rintro e w3 ⟨rfl, hO3⟩
        have H3 : Hid (Own w w3 [Bx b n (L ++ [x]), Row 2 1 (.slice ai X.length ci) X.length (lrow X), Row 2 1 (.slice au Y.length cu) Y.length (lrow Y)]) := hO3
        clear hO3 HO cx
        go_wp2_with (at_builtin; refine append1_own rfl _ _ 52 rfl 2 i0 (.int .i64 0) 1 8 Try.underlying52 hi hz0 hz1 hz2 rfl (by decide) _ _ _ rfl H3.out.two _ #[.int .i64 x] (by simp) rfl rfl (by intro u hu; simp at hu; subst hu; rfl) (by unfold maxLen; omega) (by omega) ?_)
        intro g4 c4 w4 hO4 hsz4
        obtain ⟨X', hX'⟩ : ∃ X', X' = X ++ [x] := ⟨_, rfl⟩
        obtain ⟨L', hL'⟩ : ∃ L', L' = L ++ [x] := ⟨_, rfl⟩
        have HP : Hid (Own w w4 [Bx b n L', Row 2 1 (.slice (some ⟨g4, 0, none⟩) X'.length c4) X'.length (lrow X'), Row 2 1 (.slice au Y.length cu) Y.length (lrow Y)]) := by
          rw [hX', hL', lrow_append, show (X ++ [x]).length = X.length + 1 by simp]
          exact hO4.two
        have hXl : X'.length = X.length + 1 := by rw [hX']; simp
        have hLl : L'.length ≤ n := by rw [hL']; simp; omega
        have HX2 : Hid (X' = Y ++ L') := by show _ = _; rw [hX', hL', HX.out]; simp
        clear hO4 H3 hsz4 hX' hL' HX
        have HX := HX2
        clear HX2
        rw [← hXl]
        have hXk' : X'.length ≤ k + 1 := by omega
        obtain ⟨ai', hai'⟩ : ∃ ai' : Option Addr, ai' = some ⟨g4, 0, none⟩ := ⟨_, rfl⟩
        obtain ⟨ci', hci'⟩ : ∃ ci', ci' = c4 := ⟨_, rfl⟩
        rw [← hai', ← hci'] at HP ⊢
        clear hai' hci' hXl hXk hLn hroom
        -- what may be taken
        by_cases hk2 : k < len2
        · obtain ⟨tb, htb⟩ : ∃ tb, T[k]? = some tb := ⟨_, List.getElem?_eq_getElem (by rw [HZ.out.2.2.1]; exact hk2)⟩
          obtain ⟨g2, o2, hao2, ct⟩ := bool_at (HZ.out.2.2.2.quiet HP.out.fr) k tb htb
          subst hao2
          have hk2' : (k : Int) < (len2 : Int) := by omega
          clear htb
          cases tb with
          | true =>
            cases L' with
            | nil =>
              go_wp2_with fail
              refine (mtake_none w _ _ b n HP.out).mono ?_
              rintro e w6 ⟨rfl, hO6⟩
              have H6 : Hid (Own w w6 _) := hO6
              clear hO6 ct
              go_wp2
              go_roundw
              case rel => exact ⟨k + 1, by omega, by go_num, by omega, X', Y, [], HX.out, by omega, by omega, by omega, _, _, rfl, _, _, rfl, H6.out⟩
              case measure => simp [intOf]; omega
            | cons y M =>
              go_wp2_with fail
              refine (mtake_some w _ _ b n M y HP.out).mono ?_
              rintro e w6 ⟨rfl, hO6⟩
              have H6 : Hid (Own w w6 [Bx b n M, Row 2 1 (.slice ai' X'.length ci') X'.length (lrow X'), Row 2 1 (.slice au Y.length cu) Y.length (lrow Y)]) := hO6
              clear hO6 ct
              go_wp2_with (at_builtin; refine append1_own rfl _ _ 52 rfl 2 i0 (.int .i64 0) 1 8 Try.underlying52 hi hz0 hz1 hz2 rfl (by decide) _ _ _ rfl H6.out.three _ #[.int .i64 y] (by simp) rfl rfl (by intro u hu; simp at hu; subst hu; rfl) (by unfold maxLen; omega) (by omega) ?_)
              intro g7 c7 w7 hO7 hsz7
              have H7 : Hid (Own w w7 [Bx b n M, Row 2 1 (.slice ai' X'.length ci') X'.length (lrow X'), Row 2 1 (.slice (some ⟨g7, 0, none⟩) (Y ++ [y]).length c7) (Y ++ [y]).length (lrow (Y ++ [y]))]) := by
                rw [lrow_append, show (Y ++ [y]).length = Y.length + 1 by simp]
                exact hO7.back3
              have HX7 : Hid (X' = (Y ++ [y]) ++ M) := by show _ = _; rw [HX.out]; simp
              have HM : Hid (M.length ≤ n) := Nat.le_trans (Nat.le_succ M.length) hLl
              clear hO7 H6 hsz7
              go_wp2
              go_roundw
              case rel => exact ⟨k + 1, by omega, by go_num, by omega, X', Y ++ [y], M, HX7.out, HM.out, by omega, by simp; omega, _, _, rfl, _, _, by simp, H7.out⟩
              case measure => simp [intOf]; omega
          | false =>
            go_wp2
            go_roundw
            case rel => exact ⟨k + 1, by omega, by go_num, by omega, X', Y, L', HX.out, by omega, by omega, by omega, _, _, rfl, _, _, rfl, HP.out⟩
            case measure => simp [intOf]; omega
        · have hk2' : ¬ (k : Int) < (len2 : Int) := by omega
          go_wp2
          go_roundw
          case rel => exact ⟨k + 1, by omega, by go_num, by omega, X', Y, L', HX.out, by omega, by omega, by omega, _, _, rfl, _, _, rfl, HP.out⟩
          case measure => simp [intOf]; omega
      · have hLn2 : L.length = n := by omega
        go_wp2_with fail
        refine (mput_full w wr _ b n L x HO.out (by omega)).mono ?_
        rintro e w3 ⟨rfl, hO3⟩
        have H3 : Hid (Own w w3 [Bx b n L, Row 2 1 (.slice ai X.length ci) X.length (lrow X), Row 2 1 (.slice au Y.length cu) Y.length (lrow Y)]) := hO3
        clear hO3 HO cx
        have hz3 : ((n : Int) - (L.length : Int)) = 0 := by omega
        go_wp2_with fail
        refine (mroom w w3 _ b n L H3.out hLn (by omega)).mono ?_
        rw [hz3]
        rintro e w4 ⟨rfl, hO4⟩
        obtain ⟨X', hX'⟩ : ∃ X', X' = X := ⟨_, rfl⟩
        obtain ⟨L', hL'⟩ : ∃ L', L' = L := ⟨_, rfl⟩
        obtain ⟨ai', hai'⟩ : ∃ ai' : Option Addr, ai' = ai := ⟨_, rfl⟩
        obtain ⟨ci', hci'⟩ : ∃ ci', ci' = ci := ⟨_, rfl⟩
        have HP : Hid (Own w w4 [Bx b n L', Row 2 1 (.slice ai' X'.length ci') X'.length (lrow X'), Row 2 1 (.slice au Y.length cu) Y.length (lrow Y)]) := by
          rw [hX', hL', hai', hci']; exact hO4
        have hLl : L'.length ≤ n := by rw [hL']; exact hLn
        have hXk' : X'.length ≤ k + 1 := by rw [hX']; omega
        rw [← hX', ← hai', ← hci']
        rw [← hX', ← hL'] at HX
        clear hO4 H3 hz3 hLn2 hroom hX' hL' hai' hci' hXk hLn
        -- what may be taken
        by_cases hk2 : k < len2
        · obtain ⟨tb, htb⟩ : ∃ tb, T[k]? = some tb := ⟨_, List.getElem?_eq_getElem (by rw [HZ.out.2.2.1]; exact hk2)⟩
          obtain ⟨g2, o2, hao2, ct⟩ := bool_at (HZ.out.2.2.2.quiet HP.out.fr) k tb htb
          subst hao2
          have hk2' : (k : Int) < (len2 : Int) := by omega
          clear htb
          cases tb with
          | true =>
            cases L' with
            | nil =>
              go_wp2_with fail
              refine (mtake_none w _ _ b n HP.out).mono ?_
              rintro e w6 ⟨rfl, hO6⟩
              have H6 : Hid (Own w w6 _) := hO6
              clear hO6 ct
              go_wp2
              go_roundw
              case rel => exact ⟨k + 1, by omega, by go_num, by omega, X', Y, [], HX.out, by omega, by omega, by omega, _, _, rfl, _, _, rfl, H6.out⟩
              case measure => simp [intOf]; omega
            | cons y M =>
              go_wp2_with fail
              refine (mtake_some w _ _ b n M y HP.out).mono ?_
              rintro e w6 ⟨rfl, hO6⟩
              have H6 : Hid (Own w w6 [Bx b n M, Row 2 1 (.slice ai' X'.length ci') X'.length (lrow X'), Row 2 1 (.slice au Y.length cu) Y.length (lrow Y)]) := hO6
              clear hO6 ct
              go_wp2_with (at_builtin; refine append1_own rfl _ _ 52 rfl 2 i0 (.int .i64 0) 1 8 Try.underlying52 hi hz0 hz1 hz2 rfl (by decide) _ _ _ rfl H6.out.three _ #[.int .i64 y] (by simp) rfl rfl (by intro u hu; simp at hu; subst hu; rfl) (by unfold maxLen; omega) (by omega) ?_)
              intro g7 c7 w7 hO7 hsz7
              have H7 : Hid (Own w w7 [Bx b n M, Row 2 1 (.slice ai' X'.length ci') X'.length (lrow X'), Row 2 1 (.slice (some ⟨g7, 0, none⟩) (Y ++ [y]).length c7) (Y ++ [y]).length (lrow (Y ++ [y]))]) := by
                rw [lrow_append, show (Y ++ [y]).length = Y.length + 1 by simp]
                exact hO7.back3
              have HX7 : Hid (X' = (Y ++ [y]) ++ M) := by show _ = _; rw [HX.out]; simp
              have HM : Hid (M.length ≤ n) := Nat.le_trans (Nat.le_succ M.length) hLl
              clear hO7 H6 hsz7
              go_wp2
              go_roundw
              case rel => exact ⟨k + 1, by omega, by go_num, by omega, X', Y ++ [y], M, HX7.out, HM.out, by omega, by simp; omega, _, _, rfl, _, _, by simp, H7.out⟩
              case measure => simp [intOf]; omega
          | false =>
            go_wp2
            go_roundw
            case rel => exact ⟨k + 1, by omega, by go_num, by omega, X', Y, L', HX.out, by omega, by omega, by omega, _, _, rfl, _, _, rfl, HP.out⟩
            case measure => simp [intOf]; omega
        · have hk2' : ¬ (k : Int) < (len2 : Int) := by omega
          go_wp2
          go_roundw
          case rel => exact ⟨k + 1, by omega, by go_num, by omega, X', Y, L', HX.out, by omega, by omega, by omega, _, _, rfl, _, _, rfl, HP.out⟩
          case measure => simp [intOf]; omega
    · have hexit : ¬ k < len1 ∨ (k < len1 ∧ (300 : Int) ≤ (k : Int) ∧ ∃ (g o0 : Nat) (x : Int), ao1 = some ⟨g, o0, none⟩ ∧ wr.cell? ⟨g, o0 + k, none⟩ = some (.int .i64 x)) := by
        by_cases c : k < len1
        · right
          refine ⟨c, by omega, ?_⟩
          obtain ⟨x, hx⟩ : ∃ x, Z[k]? = some x := ⟨_, List.getElem?_eq_getElem (by rw [HZ.out.1]; exact c)⟩
          obtain ⟨g, o0, h1, h2⟩ := int_at (HZ.out.2.1.quiet HO.out.fr) k x hx
          exact ⟨g, o0, x, h1, h2⟩
        · exact .inl c
      clear hround
      rcases hexit with hlt | ⟨hlt, h300, g, o0, x, rfl, cx⟩
      all_goals
        go_wp2_with fail
        refine (mall w wr _ b n L HO.out (by omega)).mono ?_
        rintro e w5 ⟨al, cl, rfl, hO5⟩
        have H5 : Hid (Own w w5 [Row 2 1 (.slice au Y.length cu) Y.length (lrow Y), View 1 (.slice al L.length cl) L.length (lrow L), Row 2 1 (.slice ai X.length ci) X.length (lrow X)]) := by
          have h1 := (hO5.view (by decide)).two.tail
          exact h1.three
        clear hO5 HO
        have HC1 : Hid (∀ u ∈ lrow L, u.oneCell' = true) := one_lrow L
        go_wp2_with (at_builtin; refine append_view rfl _ _ 52 rfl 2 i0 (.int .i64 0) 1 8 Try.underlying52 hi hz0 hz1 hz2 rfl (by decide) _ _ _ rfl _ L.length (lrow L) rfl H5.out HC1.out (by unfold maxLen; omega) (by omega) ?_)
        intro a6 c6 w6 hO6 hsz6
        have HXl : Hid (X.length = Y.length + L.length) := by show _ = _; rw [HX.out]; simp
        have H6 : Hid (Own w w6 [Row 2 1 (.slice a6 X.length c6) X.length (lrow X), Row 2 1 (.slice ai X.length ci) X.length (lrow X)]) := by
          have h1 := hO6.two.tail
          rw [← lrow_append, ← HX.out, ← HXl.out] at h1
          exact h1
        clear hO6 H5 hsz6
        have HS : Hid (Calls _ _ _ _ _) := same_I w6 _ _ X H6.out.numsI H6.out.two.numsI (by omega)
        have hXX := HXl.out
        rw [← hXX]
        clear hXX
        go_wp2_with fail
        refine HS.out.mono ?_
        rintro e w7 ⟨rfl, hf7⟩
        have H7 : Hid (Fr Nobody w w7) := H6.out.fr.trans hf7
        clear hf7 H6
        go_wp2
        go_ret
        exact ⟨rfl, H7.out⟩

theorem mailOrder_walk (w : World) (a0 : Int) (w0 : (Lit.int .u8 a0).wf = true) (a1 : Option Addr) (len1 cap1 : Nat) (z1 : List Int) (w1 : IsRow .i64 w a1 len1 cap1 z1) (a2 : Option Addr) (len2 cap2 : Nat) (z2 : List Bool) (w2 : IsBools w a2 len2 cap2 z2) :
    Calls Try.prog 6 #[.int .u8 a0, .slice a1 len1 cap1, .slice a2 len2 cap2] w fun e w' => e = .returned (.bool true) ∧ Below w.heap.size w w' := by
  obtain ⟨a, rfl, ha⟩ := u8_rng w0
  obtain ⟨h1, h2, h3, h4⟩ := w1.ints
  obtain ⟨t1, t2, t3, t4⟩ := w2
  exact (mailOrder_fr a ha w a1 len1 cap1 _ a2 len2 cap2 z2 h2 (by omega) h1 h3 t1 t4).mono fun e w' ⟨h, f⟩ => ⟨h, f.below (Nat.le_refl _) (fun _ _ h => h)⟩
theorem laidOut : laidOutB Try.prog = true := by kernel_rfl

set_option maxRecDepth 100000 in
theorem mailOrder_lifted (os : Os) (started : os.Started) (H : Type) (enc : TypeId × Value → H) :
    ReturnsInHanded {} Try.checked os 6 .any (Rows.mailOrderSpec.pre6 enc Try.prog Try.f6 Rows.mailOrderRow.domain false) (Rows.mailOrderSpec.post enc Try.prog Try.f6 false true false false) := by
  refine returnsInHanded_of_change (C := Try.checked) own started (by kernel_rfl) Try.func6
    (ChangeSpec.witness6 (enc := enc) (C := Try.checked) false ⟨#[], #[.int .u8 0, .slice none 0 0, .slice none 0 0], []⟩ 8 (by kernel_rfl) (by kernel_rfl) (by kernel_rfl) (by kernel_rfl)) ?_
  intro W base args ds gs before hval0 hW hcnd _
  have hval : ∀ (j : Nat) t v, Try.f6.params[j]? = some t → args[j]? = some v → Value.okWide Try.prog W .any base t v := hval0
  have hW' := hW
  obtain ⟨p, q, hA0, hV, rfl, hfz, hnd⟩ := hW
  have hA : DataW.TrodAll enc Try.prog W 0 (fun _ => true) true Try.f6.params.toList args.toList ds p := hA0
  rw [Try.params6] at hA hval
  obtain ⟨v0, vs0, d0, ds0, p0, q0, hargs, rfl, rfl, h0, r0⟩ := trodAll_cons hA
  obtain ⟨v1, vs1, d1, ds1, p1, q1, rfl, rfl, rfl, h1, r1⟩ := trodAll_cons r0
  obtain ⟨v2, vs2, d2, ds2, p2, q2, rfl, rfl, rfl, h2, r2⟩ := trodAll_cons r1
  obtain ⟨rfl, rfl, rfl⟩ := trodAll_nil r2
  obtain rfl : args = #[v0, v1, v2] := by cases args; simp_all
  obtain ⟨rfl, rfl⟩ := trodVars_none hV
  obtain ⟨a0, rfl, rfl, rfl, w0⟩ := open_int Try.underlying5 (hval 0 5 v0 rfl rfl) h0
  obtain ⟨a1, len1, cap1, rfl⟩ := okWide_slice Try.underlying52 (hval 1 52 v1 rfl rfl)
  have k1 := h1
  have lt1 : ∀ x ∈ p1, x.block < W.heap.size := by obtain ⟨m, hm⟩ := k1; exact DataW.trod_lt m _ _ _ hm
  obtain ⟨z1, w1⟩ : ∃ zs, IsRow .i64 W a1 len1 cap1 zs := by
    obtain ⟨fuel, hf⟩ := h1
    rcases open_ints Try.underlying52 Try.underlying2 (by kernel_rfl) hf with ⟨hcs, _⟩ | ⟨x, l, c, zs, hcs, _, hl, hm, hz, _, hcell, hwz⟩
    · simp [Value.cells] at hcs
      obtain ⟨rfl, rfl, rfl⟩ := hcs
      exact ⟨[], .inl ⟨rfl, rfl, rfl, rfl⟩⟩
    · simp [Value.cells] at hcs
      obtain ⟨rfl, rfl, rfl⟩ := hcs
      exact ⟨zs, .inr ⟨_, rfl, hl, hm, by simpa using hz, hcell, hwz⟩⟩
  obtain ⟨a2, len2, cap2, rfl⟩ := okWide_slice Try.underlying63 (hval 2 63 v2 rfl rfl)
  have k2 := h2
  have lt2 : ∀ x ∈ p2, x.block < W.heap.size := by obtain ⟨m, hm⟩ := k2; exact DataW.trod_lt m _ _ _ hm
  obtain ⟨z2, w2⟩ := open_bools (hval 2 63 _ rfl rfl) h2
  clear hA0 hval0
  refine (mailOrder_walk W a0 w0 a1 len1 cap1 z1 w1 a2 len2 cap2 z2 w2).mono fun e W' ⟨he, bel⟩ => ?_
  subst he
  exact ⟨_, rfl, _, _, _, [], _, [], hW', trodAll_mk1 (shut_bool Try.underlying4 _), (trodAll_cons_mk (shut_int Try.underlying5 w0) (trodAll_cons_mk (Below.trod laidOut (by kernel_rfl) (of_decide_eq_true (by kernel_rfl)) k1 bel lt1) (trodAll_cons_mk (Below.trod laidOut (by kernel_rfl) (of_decide_eq_true (by kernel_rfl)) k2 bel lt2) trodAll_mk0))), rfl, bel.frame _, fun h => by cases h⟩

theorem mailOrder_holds : Rows.MailOrderSaid :=
  OpenClaim.holds_of_wide 6 Try.f6 rfl rfl rfl rfl rfl rfl rfl ⟨rfl, rfl, rfl, rfl, rfl⟩ rfl rfl rfl rfl rfl (by kernel_rfl) Try.func6 (by kernel_rfl)
    (of_decide_eq_true (by kernel_rfl)) (by unfold Func.isWrapper; first | (rw [if_pos (by decide +kernel)]; kernel_rfl) | (rw [if_neg (by decide +kernel)]; exact ⟨rfl, rfl⟩))
    (fun os started H enc _ => mailOrder_lifted os started H enc)

end Go.Proofs.Ytijhbgkfffnioaa
