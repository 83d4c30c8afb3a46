/-
  Datagrams that are taken from the front come in the order in which they were put: NetOrder returns true, whatever its argument, and changes nothing that was there.
-/
import Derived.Test.YtiphkndahoageaaNtr
import Derived.Test.YtiphkndahoageaaNto
import Derived.ChangeOld
namespace Go.Proofs.Ytiphkndahoageaa
open Go.ChangeShapes Go.WideShapes Go.ChangeAt Go.RowKit
set_option linter.unusedVariables false

theorem own : ownKnob Try.prog.godebug = none := by kernel_rfl
/-- what is put: each with its place -/
def ordF (Q : List FrE) : List (Int × List Nat) := Q.mapIdx fun i q => ((i : Int), q.P)
theorem ordF_at (Q : List FrE) (k : Nat) (q : FrE) (h : Q[k]? = some q) : (ordF Q)[k]? = some ((k : Int), q.P) := by rw [ordF, List.getElem?_mapIdx, h]; rfl
theorem ordF_len (Q : List FrE) : (ordF Q).length = Q.length := by simp [ordF]
set_option maxHeartbeats 8000000 in
set_option maxRecDepth 100000 in
theorem netOrder_fr (w : World) (ao : Option Addr) (len cap : Nat) (Q : List FrE) (hQ : IsFrs w ao len cap Q) :
    Calls Try.prog 6 #[.slice ao len cap] w fun e w' => e = .returned (.bool true) ∧ Fr Nobody w w' := by
  obtain ⟨hQl, hlc, hcm, hQa⟩ := hQ
  unfold maxLen at hcm
  obtain ⟨m, hm⟩ : ∃ m, m = min len 40 := ⟨_, rfl⟩
  have hmin : (if (40 : Int) < (len : Int) then (40 : Int) else (len : Int)) = (m : Int) := by split <;> omega
  have hm1 : m ≤ 40 := by omega
  have hm2 : m ≤ len := by omega
  have hmc : m ≤ cap := by omega
  have HQ : Hid (Q.length = len ∧ RowsAt (SlT w) 1 w ao Q) := ⟨hQl, hQa⟩
  clear hQl hQa hm
  go_enter Try.func6, Try.ntmps6
  go_wp2_with fail
  refine (awake24 w).mono ?_
  rintro e w1 ⟨rfl, hf⟩
  have HC : Hid (Calls _ _ _ _ _) := bnew_ok w w1 [] 40 (Own.of_fr hf) (by decide) (by decide)
  clear hf
  go_wp2_with fail
  refine HC.out.mono ?_
  rintro e w2 ⟨b, rfl, hO⟩
  clear HC
  have H2 : Hid (Own w w2 [BagT 61 b 40 []]) := hO
  clear hO
  go_wp2
  refine wp_loop (fun a' wr => ∃ (k : Nat) (E : List Gr), a' = { tmps := #[.slice ao m cap, a'.tmps.getD 1 undef, a'.tmps.getD 2 undef, .pointer (some ⟨b, 0, none⟩), a'.tmps.getD 4 undef, a'.tmps.getD 5 undef, a'.tmps.getD 6 undef, a'.tmps.getD 7 undef, a'.tmps.getD 8 undef, a'.tmps.getD 9 undef, a'.tmps.getD 10 undef, a'.tmps.getD 11 undef, a'.tmps.getD 12 undef, a'.tmps.getD 13 undef, a'.tmps.getD 14 undef, a'.tmps.getD 15 undef, a'.tmps.getD 16 undef, a'.tmps.getD 17 undef, a'.tmps.getD 18 undef, a'.tmps.getD 19 undef, a'.tmps.getD 20 undef, a'.tmps.getD 21 undef, a'.tmps.getD 22 undef, a'.tmps.getD 23 undef, a'.tmps.getD 24 undef, a'.tmps.getD 25 undef, .slice ao m cap, .int .i64 (m : Int), .int .i64 (k : Int), a'.tmps.getD 29 undef, a'.tmps.getD 30 undef, a'.tmps.getD 31 undef, a'.tmps.getD 32 undef, a'.tmps.getD 33 undef, a'.tmps.getD 34 undef, a'.tmps.getD 35 undef, a'.tmps.getD 36 undef, a'.tmps.getD 37 undef, a'.tmps.getD 38 undef, a'.tmps.getD 39 undef, a'.tmps.getD 40 undef, a'.tmps.getD 41 undef, a'.tmps.getD 42 undef, a'.tmps.getD 43 undef, a'.tmps.getD 44 undef, a'.tmps.getD 45 undef, a'.tmps.getD 46 undef, a'.tmps.getD 47 undef, a'.tmps.getD 48 undef, a'.tmps.getD 49 undef, a'.tmps.getD 50 undef, a'.tmps.getD 51 undef, a'.tmps.getD 52 undef, a'.tmps.getD 53 undef, a'.tmps.getD 54 undef, a'.tmps.getD 55 undef, a'.tmps.getD 56 undef, a'.tmps.getD 57 undef, a'.tmps.getD 58 undef, a'.tmps.getD 59 undef, a'.tmps.getD 60 undef, a'.tmps.getD 61 undef, a'.tmps.getD 62 undef, a'.tmps.getD 63 undef, a'.tmps.getD 64 undef, a'.tmps.getD 65 undef, a'.tmps.getD 66 undef, a'.tmps.getD 67 undef, a'.tmps.getD 68 undef, a'.tmps.getD 69 undef, a'.tmps.getD 70 undef, a'.tmps.getD 71 undef, a'.tmps.getD 72 undef, a'.tmps.getD 73 undef, a'.tmps.getD 74 undef, a'.tmps.getD 75 undef, a'.tmps.getD 76 undef, a'.tmps.getD 77 undef, a'.tmps.getD 78 undef, a'.tmps.getD 79 undef, a'.tmps.getD 80 undef, a'.tmps.getD 81 undef], defers := [] } ∧ k ≤ m ∧ E.map Gr.ab = (ordF Q).take k ∧ Own w wr [BagT 61 b 40 E]) (fun a' _ => m - (intOf (a'.tmps.getD 28 undef)).toNat) ?_ ?_
  · exact ⟨0, [], rfl, Nat.zero_le _, rfl, H2.out⟩
  · intro a' wr hI
    obtain ⟨k, E, hact, hk, hE, hO⟩ := hI
    obtain ⟨u, hu⟩ : ∃ u : Nat → Value, ∀ k, a'.tmps.getD k undef = u k := ⟨_, fun _ => rfl⟩
    simp only [hu] at hact
    clear hu
    subst hact
    have HE : Hid (E.map Gr.ab = (ordF Q).take k) := hE
    have hEl : E.length = k := by
      have := congrArg List.length hE
      rw [List.length_map, List.length_take, ordF_len, HQ.out.1] at this
      omega
    clear hE H2
    by_cases hlt : k < m
    · have hlt' : (k : Int) < (m : Int) := by omega
      obtain ⟨g, o, q, hao, hq, hIn, hqr, p0⟩ := fr_at (HQ.out.2.quiet hO.fr) k (by rw [HQ.out.1]; omega)
      subst hao
      obtain ⟨qa, ql, qc, qP⟩ := q
      simp only at hIn hqr p0
      have HI : Hid (In w qa ql qc qP) := hIn
      have HEQ : Hid (∀ a c, (E ++ [(⟨a, c, (k : Int), qP⟩ : Gr)]).map Gr.ab = (ordF Q).take (k + 1)) := by
        intro a c
        rw [List.map_append, HE.out, List.take_add_one, ordF_at Q k _ hq]
        rfl
      have HO : Hid (Own w wr _) := hO
      have HEL : Hid (E.length = k) := hEl
      clear hO hIn hq hEl
      go_wp2_with (at_builtin; refine copy_own rfl _ _ rfl qa ql qc qP HO.out (HI.out.quiet HO.out.fr).src HI.out.eqn (by omega) _ rfl rfl rfl ?_)
      intro a2 c2 w4 hO
      have HC : Hid (Calls _ _ _ _ _) := bput_ok w w4 _ b 40 E hO.two (by rw [HEL.out]; omega) (by decide) (k : Int) a2 ql c2 qP HI.out.eqn (Src.of_row hO.row) (by omega)
      clear hO HO
      go_wp2_with fail
      refine HC.out.mono ?_
      rintro e w5 ⟨rfl, a3, c3, hO⟩
      have H5 : Hid (Own w w5 _) := hO.two.tail
      clear hO HC
      go_wp2
      exact ⟨⟨k + 1, _, rfl, by omega, HEQ.out a3 c3, H5.out⟩, by simp [intOf]; omega⟩
    · have hlt' : ¬ (k : Int) < (m : Int) := by omega
      have hkm : k = m := by omega
      have HO : Hid (Own w wr _) := hO
      have HE2 : Hid (E.map Gr.ab = (ordF Q).take m) := by rw [← hkm]; exact HE
      clear hO hkm hEl HE
      go_wp2
      refine wp_loop (fun a' wr => ∃ (k : Nat) (E : List Gr), a' = { tmps := #[.slice ao m cap, a'.tmps.getD 1 undef, a'.tmps.getD 2 undef, .pointer (some ⟨b, 0, none⟩), a'.tmps.getD 4 undef, a'.tmps.getD 5 undef, a'.tmps.getD 6 undef, a'.tmps.getD 7 undef, a'.tmps.getD 8 undef, a'.tmps.getD 9 undef, a'.tmps.getD 10 undef, a'.tmps.getD 11 undef, a'.tmps.getD 12 undef, a'.tmps.getD 13 undef, a'.tmps.getD 14 undef, a'.tmps.getD 15 undef, a'.tmps.getD 16 undef, a'.tmps.getD 17 undef, a'.tmps.getD 18 undef, a'.tmps.getD 19 undef, a'.tmps.getD 20 undef, a'.tmps.getD 21 undef, a'.tmps.getD 22 undef, a'.tmps.getD 23 undef, a'.tmps.getD 24 undef, a'.tmps.getD 25 undef, a'.tmps.getD 26 undef, a'.tmps.getD 27 undef, a'.tmps.getD 28 undef, a'.tmps.getD 29 undef, a'.tmps.getD 30 undef, a'.tmps.getD 31 undef, a'.tmps.getD 32 undef, a'.tmps.getD 33 undef, a'.tmps.getD 34 undef, a'.tmps.getD 35 undef, a'.tmps.getD 36 undef, a'.tmps.getD 37 undef, a'.tmps.getD 38 undef, a'.tmps.getD 39 undef, a'.tmps.getD 40 undef, a'.tmps.getD 41 undef, .slice ao m cap, .int .i64 (m : Int), .int .i64 (k : Int), a'.tmps.getD 45 undef, a'.tmps.getD 46 undef, a'.tmps.getD 47 undef, a'.tmps.getD 48 undef, a'.tmps.getD 49 undef, a'.tmps.getD 50 undef, a'.tmps.getD 51 undef, a'.tmps.getD 52 undef, a'.tmps.getD 53 undef, a'.tmps.getD 54 undef, a'.tmps.getD 55 undef, a'.tmps.getD 56 undef, a'.tmps.getD 57 undef, a'.tmps.getD 58 undef, a'.tmps.getD 59 undef, a'.tmps.getD 60 undef, a'.tmps.getD 61 undef, a'.tmps.getD 62 undef, a'.tmps.getD 63 undef, a'.tmps.getD 64 undef, a'.tmps.getD 65 undef, a'.tmps.getD 66 undef, a'.tmps.getD 67 undef, a'.tmps.getD 68 undef, a'.tmps.getD 69 undef, a'.tmps.getD 70 undef, a'.tmps.getD 71 undef, a'.tmps.getD 72 undef, a'.tmps.getD 73 undef, a'.tmps.getD 74 undef, a'.tmps.getD 75 undef, a'.tmps.getD 76 undef, a'.tmps.getD 77 undef, a'.tmps.getD 78 undef, a'.tmps.getD 79 undef, a'.tmps.getD 80 undef, a'.tmps.getD 81 undef], defers := [] } ∧ k ≤ m ∧ E.map Gr.ab = ((ordF Q).take m).drop k ∧ Own w wr [BagT 61 b 40 E]) (fun a' _ => m - (intOf (a'.tmps.getD 44 undef)).toNat) ?_ ?_
      · exact ⟨0, E, rfl, Nat.zero_le _, by rw [HE2.out]; rfl, HO.out⟩
      · intro a' wr hI
        obtain ⟨k, E, hact, hk, hE, hO⟩ := hI
        obtain ⟨u2, hu⟩ : ∃ u2 : Nat → Value, ∀ k, a'.tmps.getD k undef = u2 k := ⟨_, fun _ => rfl⟩
        simp only [hu] at hact
        clear hu
        subst hact
        clear HO HE2
        have hEl : E.length = m - k := by
          have := congrArg List.length hE
          rw [List.length_map, List.length_drop, List.length_take, ordF_len, HQ.out.1] at this
          omega
        by_cases hlt : k < m
        · have hlt' : (k : Int) < (m : Int) := by omega
          obtain ⟨g, o, q, hao, hq, hIn, hqr, p0⟩ := fr_at (HQ.out.2.quiet hO.fr) k (by rw [HQ.out.1]; omega)
          subst hao
          obtain ⟨x, hx⟩ : ∃ x, E[0]? = some x := ⟨_, List.getElem?_eq_getElem (by omega)⟩
          have hab : x.ab = ((k : Int), q.P) := by
            have h1 := congrArg (·[0]?) hE
            simp only [List.getElem?_map, hx, Option.map_some, List.getElem?_drop, Nat.add_zero] at h1
            rw [List.getElem?_take, if_pos hlt, ordF_at Q k _ hq] at h1
            exact Option.some.inj h1
          obtain ⟨xa, xc, xt, xP⟩ := x
          obtain ⟨qa, ql, qc, qP⟩ := q
          simp only [Gr.ab, Prod.mk.injEq] at hab
          obtain ⟨rfl, rfl⟩ := hab
          simp only at hIn hqr p0
          have HI : Hid (In w qa ql qc xP) := hIn
          have HC : Hid (Calls _ _ _ _ _) := btake_ok w wr _ b 40 E hO (by omega) 0 _ hx
          have HEQ : Hid ((E.eraseIdx 0).map Gr.ab = ((ordF Q).take m).drop (k + 1)) := by
            show _ = _
            rw [List.eraseIdx_zero, List.map_tail, hE, List.tail_drop]
          simp only at HC
          rw [show ((0 : Nat) : Int) = 0 from rfl] at HC
          have n1 : ∀ w', Own w w' [BagT 61 b 40 E] → True := fun _ _ => trivial
          clear n1 hO hE hx hIn hq hEl
          rw [HI.out.eqn] at HC
          go_wp2_with fail
          refine HC.out.mono ?_
          rintro e w4 ⟨rfl, hO⟩
          clear HC
          have HC : Hid (Calls _ _ _ _ _) := same_any (w4.alloc (.cells #[.int .i64 (k : Int), .slice xa ql xc] 33)) (.slice xa ql xc) (.slice qa ql qc) xP (by have := Src.of_row (hO.alloc (.cells #[.int .i64 (k : Int), .slice xa ql xc] 33)).row; rw [HI.out.eqn] at this ⊢; exact this) (HI.out.quiet (hO.fr.alloc _)).src
          have H4 : Hid (Own w _ _) := (hO.alloc (.cells #[.int .i64 (k : Int), .slice xa ql xc] 33)).tail
          have hee : ((k : Int) != (k : Int)) = false := by simp
          clear hO
          go_wp2_with fail
          refine HC.out.mono ?_
          rintro e w5 ⟨rfl, rfl⟩
          clear HC
          go_wp2
          exact ⟨⟨k + 1, _, rfl, by omega, HEQ.out, H4.out⟩, by simp [intOf]; omega⟩
        · have hlt' : ¬ (k : Int) < (m : Int) := by omega
          have hE0 : E = [] := List.eq_nil_of_length_eq_zero (by omega)
          subst hE0
          have HC : Hid (Calls _ _ _ _ _) := btake_no w wr _ (some b) 40 [] hO 0 (by simp [bln])
          clear hO hE hEl
          go_wp2_with fail
          refine HC.out.mono ?_
          rintro e w4 ⟨rfl, hO⟩
          clear HC
          have hO2 : Own w _ (BagT 61 b 40 [] :: []) := Own.alloc hO (.cells #[.int .i64 0, .slice none 0 0] 33)
          have HC : Hid (Calls _ _ _ _ _) := blen w _ _ b 40 [] hO2
          have HF : Hid (Fr Nobody w _) := hO2.fr
          clear hO hO2
          go_wp2_with fail
          refine HC.out.mono ?_
          rintro e w5 ⟨rfl, rfl⟩
          clear HC
          go_wp2
          go_ret
          exact ⟨rfl, HF.out⟩
theorem netOrder_walk (w : World) (a0 : Option Addr) (len0 cap0 : Nat) (z0 : List FrE) (w0 : IsFrs w a0 len0 cap0 z0) :
    Calls Try.prog 6 #[.slice a0 len0 cap0] w fun e w' => e = .returned (.bool true) ∧ Below w.heap.size w w' := by
  refine (netOrder_fr w a0 len0 cap0 z0 w0).mono ?_
  rintro e w' ⟨rfl, hf⟩
  exact ⟨rfl, hf.below (Nat.le_refl _) (fun _ _ => id)⟩

theorem laidOut : laidOutB Try.prog = true := by kernel_rfl

set_option maxRecDepth 100000 in
theorem netOrder_lifted (os : Os) (started : os.Started) (H : Type) (enc : TypeId × Value → H) :
    ReturnsInHanded {} Try.checked os 6 .any (Rows.netOrderSpec.pre6 enc Try.prog Try.f6 Rows.netOrderRow.domain false) (Rows.netOrderSpec.post enc Try.prog Try.f6 false true false false) := by
  refine returnsInHanded_of_change_sized (C := Try.checked) own started (by kernel_rfl) Try.func6
    (ChangeSpec.witness6 (enc := enc) (C := Try.checked) false ⟨#[], #[.slice none 0 0], []⟩ 8 (by kernel_rfl) (by kernel_rfl) (by kernel_rfl) (by kernel_rfl)) ?_
  intro W base args ds gs before hval0 hW hcnd hsz _
  have hval : ∀ (j : Nat) t v, Try.f6.params[j]? = some t → args[j]? = some v → Value.okWide Try.prog W .any base t v := hval0
  have hW' := hW
  obtain ⟨p, q, hA0, hV, rfl, hfz, hnd⟩ := hW
  have hA : DataW.TrodAll enc Try.prog W 0 (fun _ => true) true Try.f6.params.toList args.toList ds p := hA0
  rw [Try.params6] at hA hval
  obtain ⟨v0, vs0, d0, ds0, p0, q0, hargs, rfl, rfl, h0, r0⟩ := trodAll_cons hA
  obtain ⟨rfl, rfl, rfl⟩ := trodAll_nil r0
  obtain rfl : args = #[v0] := by cases args; simp_all
  obtain ⟨rfl, rfl⟩ := trodVars_none hV
  obtain ⟨a0, len0, cap0, rfl⟩ := okWide_slice Try.underlying56 (hval 0 56 v0 rfl rfl)
  have k0 := h0
  have lt0 : ∀ x ∈ p0, x.block < W.heap.size := by obtain ⟨m, hm⟩ := k0; exact DataW.trod_lt m _ _ _ hm
  have hM : ∀ y ∈ d0.weights Try.prog 56, y ≤ reachBytes := fun y hy => by
    have := List.all_eq_true.1 hsz y (DataW.weights_mem_each (j := 0) (t := 56) (d := d0) (by rw [Try.params6]; rfl) rfl y hy)
    simpa using this
  obtain ⟨z0, w0⟩ := open_frs h0 hM
  clear hA0 hval0
  refine (netOrder_walk W a0 len0 cap0 z0 w0).mono fun e W' ⟨he, bel⟩ => ?_
  subst he
  exact ⟨_, rfl, _, _, _, [], _, [], hW', trodAll_mk1 (shut_bool Try.underlying4 _), (trodAll_cons_mk (Below.trod laidOut (by kernel_rfl) (of_decide_eq_true (by kernel_rfl)) k0 bel lt0) trodAll_mk0), rfl, bel.frame _, fun h => by cases h⟩

theorem netOrder_holds : Rows.NetOrderSaid :=
  OpenClaim.holds_of_wide 6 Try.f6 rfl rfl rfl rfl rfl rfl rfl ⟨rfl, rfl, rfl, rfl, rfl⟩ rfl rfl rfl rfl rfl (by kernel_rfl) Try.func6 (by kernel_rfl)
    (of_decide_eq_true (by kernel_rfl)) (by unfold Func.isWrapper; first | (rw [if_pos (by decide +kernel)]; kernel_rfl) | (rw [if_neg (by decide +kernel)]; exact ⟨rfl, rfl⟩))
    (fun os started H enc _ => netOrder_lifted os started H enc)

end Go.Proofs.Ytiphkndahoageaa
