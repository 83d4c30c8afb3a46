/-
  Nothing comes out that wasn't put in, nothing is lost that isn't dropped, whatever is doubled and taken, in any order: NetKeeps returns true, whatever its arguments, and changes nothing that was there.
-/
import Derived.Test.YtiphkndahoageaaNtr
import Derived.Test.YtiphkndahoageaaNts
import Derived.Test.YtiphkndahoageaaNto
import Derived.ChangeOld
namespace Go.Proofs.Ytiphkndahoageaa
open Go.ChangeShapes Go.WideShapes Go.ChangeAt Go.RowKit Go.Maps
set_option linter.unusedVariables false

theorem own : ownKnob Try.prog.godebug = none := by kernel_rfl
theorem sum_le (V L : List (List Nat)) (hV : V.Nodup) : (V.map fun y => L.count y).sum ≤ L.length := by
  induction L with
  | nil =>
    clear hV
    induction V with
    | nil => exact Nat.le_refl _
    | cons b V ih => rw [List.map_cons, List.sum_cons]; simpa using ih
  | cons a L ih =>
    have h2 : ∀ W : List (List Nat), W.Nodup → (W.map fun y => (a :: L).count y).sum ≤ (W.map fun y => L.count y).sum + (if a ∈ W then 1 else 0) := by
      intro W hW
      induction W with
      | nil => simp
      | cons b W ihW =>
        obtain ⟨hb, hW'⟩ := List.nodup_cons.1 hW
        rw [List.map_cons, List.map_cons, List.sum_cons, List.sum_cons, List.count_cons]
        have := ihW hW'
        by_cases e : a = b
        · subst e
          simp [hb] at this ⊢; omega
        · have e2 : (a == b) = false := by simpa using e
          simp [e, e2] at this ⊢; omega
    have := h2 V hV
    rw [List.length_cons]
    split at this <;> omega
theorem zeroI (w : World) : (zeroValue 3).run Try.prog w = .ok (.int .i64 0) w := by kernel_rfl
/-- the bag and the map of how often each is there -/
structure Keep (E : List Gr) (D : List (List Nat)) : Prop where
  le : E.length ≤ 200
  byt : ∀ x ∈ E, ∀ y ∈ x.P, y < 256
  len : ∀ x ∈ E, x.P.length ≤ 40
  sub : ∀ y ∈ E.map Gr.P, y ∈ D
theorem Keep.put {E : List Gr} {D : List (List Nat)} (h : Keep E D) (hl : E.length < 200) (a : Option Addr) (c : Nat) (tt : Int) (P : List Nat) (hb : ∀ y ∈ P, y < 256) (hP : P.length ≤ 40) : Keep (E ++ [⟨a, c, tt, P⟩]) (D ++ [P]) := by
  refine ⟨by simp; omega, ?_, ?_, ?_⟩
  · intro x hx
    rcases List.mem_append.1 hx with hx | hx
    · exact h.byt x hx
    · simp at hx; subst hx; exact hb
  · intro x hx
    rcases List.mem_append.1 hx with hx | hx
    · exact h.len x hx
    · simp at hx; subst hx; exact hP
  · intro y hy
    rw [List.map_append, List.mem_append] at hy
    rcases hy with hy | hy
    · exact List.mem_append_left _ (h.sub y hy)
    · exact List.mem_append_right _ (by simpa using hy)
theorem Keep.take {E : List Gr} {D : List (List Nat)} (h : Keep E D) (i : Nat) (P : List Nat) : Keep (E.eraseIdx i) (D ++ [P]) := by
  have hsub : (E.eraseIdx i).Sublist E := List.eraseIdx_sublist E i
  refine ⟨Nat.le_trans hsub.length_le h.le, fun x hx => h.byt x (hsub.subset hx), fun x hx => h.len x (hsub.subset hx), fun y hy => ?_⟩
  exact List.mem_append_left _ (h.sub y ((hsub.map Gr.P).subset hy))
theorem count_put (E : List Gr) (x : Gr) (y : List Nat) : ((E ++ [x]).map Gr.P).count y = (E.map Gr.P).count y + (if x.P = y then 1 else 0) := by
  rw [List.map_append, List.count_append]
  simp [List.count_singleton]
theorem count_take (E : List Gr) (i : Nat) (x : Gr) (hx : E[i]? = some x) (y : List Nat) : (E.map Gr.P).count y = ((E.eraseIdx i).map Gr.P).count y + (if x.P = y then 1 else 0) := by
  rw [erase_at]
  conv => lhs; rw [split_at E i x hx]
  rw [List.map_append, List.map_cons, List.map_append, List.count_append, List.count_append, List.count_cons]
  simp; omega
theorem Own.giLeft {P : Program} {k : TypeId} {κ : Type} {S : Keys P k κ} {w0 w : World} {l : List Thing} {b r n sz cnt : Nat} {p : κ → Option Value} {left : κ → Prop} (h : Own w0 w (GIter S b r n sz p left cnt :: l)) : w.rangeLeft b r = cnt := by
  obtain ⟨A, ⟨B, C, ⟨⟨D, lf, hR, _⟩, _⟩, _⟩, _⟩ := h
  exact hR.left_eq
set_option maxHeartbeats 16000000 in
set_option maxRecDepth 100000 in
theorem netKeeps_fr (w : World) (ao : Option Addr) (len cap : Nat) (Q : List FrE) (hQ : IsFrs w ao len cap Q) (ao1 : Option Addr) (len1 cap1 : Nat) (O : List Nat) (hP : In w ao1 len1 cap1 O) (hm1 : len1 ≤ maxLen) :
    Calls Try.prog 5 #[.slice ao len cap, .slice ao1 len1 cap1] w fun e w' => e = .returned (.bool true) ∧ Fr Nobody w w' := by
  obtain ⟨hQl, hlc, hcm, hQa⟩ := hQ
  unfold maxLen at hcm hm1
  have HQ : Hid (Q.length = len ∧ RowsAt (SlT w) 1 w ao Q) := ⟨hQl, hQa⟩
  have HP : Hid (In w ao1 len1 cap1 O) := hP
  clear hQl hQa hP
  go_enter Try.func5, Try.ntmps5
  go_wp2_with fail
  refine (awake24 w).mono ?_
  rintro e w1 ⟨rfl, hf⟩
  have HC : Hid (Calls _ _ _ _ _) := bnew_ok w w1 [] 200 (Own.of_fr hf) (by decide) (by decide)
  clear hf
  go_wp2_with fail
  refine HC.out.mono ?_
  rintro e w2 ⟨b, rfl, hO⟩
  clear HC
  have hO := hO.gmNew byK
  rw [← cmD_nil] at hO
  have H2 : Hid (Own w _ _) := hO
  clear hO
  have hmm := fun w => @run_makeMap Try.prog 57 w
  go_upto_block 0 with (fail)
  clear hmm
  generalize w2.alloc (.map #[] 0) = W at *
  generalize w2.heap.size = bm at *
  refine wp_cut (fun a' wc => ∃ (E : List Gr) (D : List (List Nat)) (n sz : Nat), a' = { tmps := #[a'.tmps.getD 0 undef, .slice ao1 len1 cap1, a'.tmps.getD 2 undef, a'.tmps.getD 3 undef, a'.tmps.getD 4 undef, .pointer (some ⟨b, 0, none⟩), a'.tmps.getD 6 undef, .map (some bm), a'.tmps.getD 8 undef, a'.tmps.getD 9 undef, a'.tmps.getD 10 undef, a'.tmps.getD 11 undef, a'.tmps.getD 12 undef, a'.tmps.getD 13 undef, a'.tmps.getD 14 undef, a'.tmps.getD 15 undef, a'.tmps.getD 16 undef, a'.tmps.getD 17 undef, a'.tmps.getD 18 undef, a'.tmps.getD 19 undef, a'.tmps.getD 20 undef, a'.tmps.getD 21 undef, a'.tmps.getD 22 undef, a'.tmps.getD 23 undef, a'.tmps.getD 24 undef, a'.tmps.getD 25 undef, a'.tmps.getD 26 undef, a'.tmps.getD 27 undef, a'.tmps.getD 28 undef, a'.tmps.getD 29 undef, a'.tmps.getD 30 undef, a'.tmps.getD 31 undef, a'.tmps.getD 32 undef, a'.tmps.getD 33 undef, a'.tmps.getD 34 undef, a'.tmps.getD 35 undef, a'.tmps.getD 36 undef, a'.tmps.getD 37 undef, a'.tmps.getD 38 undef, a'.tmps.getD 39 undef, a'.tmps.getD 40 undef, a'.tmps.getD 41 undef, a'.tmps.getD 42 undef, a'.tmps.getD 43 undef, a'.tmps.getD 44 undef, a'.tmps.getD 45 undef, a'.tmps.getD 46 undef, a'.tmps.getD 47 undef, a'.tmps.getD 48 undef, a'.tmps.getD 49 undef, a'.tmps.getD 50 undef, a'.tmps.getD 51 undef, a'.tmps.getD 52 undef, a'.tmps.getD 53 undef, a'.tmps.getD 54 undef, a'.tmps.getD 55 undef, a'.tmps.getD 56 undef, a'.tmps.getD 57 undef, a'.tmps.getD 58 undef, a'.tmps.getD 59 undef, a'.tmps.getD 60 undef, a'.tmps.getD 61 undef, a'.tmps.getD 62 undef, a'.tmps.getD 63 undef, a'.tmps.getD 64 undef, a'.tmps.getD 65 undef, a'.tmps.getD 66 undef, a'.tmps.getD 67 undef, a'.tmps.getD 68 undef, a'.tmps.getD 69 undef, a'.tmps.getD 70 undef, a'.tmps.getD 71 undef, a'.tmps.getD 72 undef, a'.tmps.getD 73 undef, a'.tmps.getD 74 undef, a'.tmps.getD 75 undef, a'.tmps.getD 76 undef, a'.tmps.getD 77 undef, a'.tmps.getD 78 undef, a'.tmps.getD 79 undef, a'.tmps.getD 80 undef, a'.tmps.getD 81 undef, a'.tmps.getD 82 undef, a'.tmps.getD 83 undef, a'.tmps.getD 84 undef, a'.tmps.getD 85 undef, a'.tmps.getD 86 undef, a'.tmps.getD 87 undef, a'.tmps.getD 88 undef, a'.tmps.getD 89 undef, a'.tmps.getD 90 undef, a'.tmps.getD 91 undef, a'.tmps.getD 92 undef, a'.tmps.getD 93 undef, a'.tmps.getD 94 undef, a'.tmps.getD 95 undef, a'.tmps.getD 96 undef, a'.tmps.getD 97 undef, a'.tmps.getD 98 undef, a'.tmps.getD 99 undef, a'.tmps.getD 100 undef, a'.tmps.getD 101 undef, a'.tmps.getD 102 undef, a'.tmps.getD 103 undef, a'.tmps.getD 104 undef, a'.tmps.getD 105 undef, a'.tmps.getD 106 undef, a'.tmps.getD 107 undef, a'.tmps.getD 108 undef, a'.tmps.getD 109 undef, a'.tmps.getD 110 undef, a'.tmps.getD 111 undef, a'.tmps.getD 112 undef, a'.tmps.getD 113 undef, a'.tmps.getD 114 undef, a'.tmps.getD 115 undef, a'.tmps.getD 116 undef, a'.tmps.getD 117 undef, a'.tmps.getD 118 undef, a'.tmps.getD 119 undef, a'.tmps.getD 120 undef, a'.tmps.getD 121 undef, a'.tmps.getD 122 undef, a'.tmps.getD 123 undef, a'.tmps.getD 124 undef, a'.tmps.getD 125 undef, a'.tmps.getD 126 undef, a'.tmps.getD 127 undef, a'.tmps.getD 128 undef, a'.tmps.getD 129 undef, a'.tmps.getD 130 undef, a'.tmps.getD 131 undef, a'.tmps.getD 132 undef, a'.tmps.getD 133 undef, a'.tmps.getD 134 undef, a'.tmps.getD 135 undef, a'.tmps.getD 136 undef], defers := [] } ∧ E.length ≤ 30 ∧ n ≤ 30 ∧ Keep E D ∧ Own w wc [GMap byK bm n sz (cmD D (E.map Gr.P)), BagT 61 b 200 E]) ?rest ?first
  case first =>
    intro J K' hJ hK'
    have HJ : Hid _ := hJ
    clear hJ
    go_wp2
    refine wp_loop (fun a' wr => ∃ (k : Nat) (E : List Gr) (D : List (List Nat)) (n sz : Nat), a' = { tmps := #[a'.tmps.getD 0 undef, .slice ao1 len1 cap1, a'.tmps.getD 2 undef, a'.tmps.getD 3 undef, a'.tmps.getD 4 undef, .pointer (some ⟨b, 0, none⟩), a'.tmps.getD 6 undef, .map (some bm), a'.tmps.getD 8 undef, a'.tmps.getD 9 undef, a'.tmps.getD 10 undef, a'.tmps.getD 11 undef, a'.tmps.getD 12 undef, a'.tmps.getD 13 undef, a'.tmps.getD 14 undef, a'.tmps.getD 15 undef, a'.tmps.getD 16 undef, a'.tmps.getD 17 undef, a'.tmps.getD 18 undef, a'.tmps.getD 19 undef, a'.tmps.getD 20 undef, a'.tmps.getD 21 undef, a'.tmps.getD 22 undef, a'.tmps.getD 23 undef, a'.tmps.getD 24 undef, a'.tmps.getD 25 undef, a'.tmps.getD 26 undef, a'.tmps.getD 27 undef, a'.tmps.getD 28 undef, .slice ao len cap, .int .i64 (len : Int), .int .i64 (k : Int), a'.tmps.getD 32 undef, a'.tmps.getD 33 undef, a'.tmps.getD 34 undef, a'.tmps.getD 35 undef, a'.tmps.getD 36 undef, a'.tmps.getD 37 undef, a'.tmps.getD 38 undef, a'.tmps.getD 39 undef, a'.tmps.getD 40 undef, a'.tmps.getD 41 undef, a'.tmps.getD 42 undef, a'.tmps.getD 43 undef, a'.tmps.getD 44 undef, a'.tmps.getD 45 undef, a'.tmps.getD 46 undef, a'.tmps.getD 47 undef, a'.tmps.getD 48 undef, a'.tmps.getD 49 undef, a'.tmps.getD 50 undef, a'.tmps.getD 51 undef, a'.tmps.getD 52 undef, a'.tmps.getD 53 undef, a'.tmps.getD 54 undef, a'.tmps.getD 55 undef, a'.tmps.getD 56 undef, a'.tmps.getD 57 undef, a'.tmps.getD 58 undef, a'.tmps.getD 59 undef, a'.tmps.getD 60 undef, a'.tmps.getD 61 undef, a'.tmps.getD 62 undef, a'.tmps.getD 63 undef, a'.tmps.getD 64 undef, a'.tmps.getD 65 undef, a'.tmps.getD 66 undef, a'.tmps.getD 67 undef, a'.tmps.getD 68 undef, a'.tmps.getD 69 undef, a'.tmps.getD 70 undef, a'.tmps.getD 71 undef, a'.tmps.getD 72 undef, a'.tmps.getD 73 undef, a'.tmps.getD 74 undef, a'.tmps.getD 75 undef, a'.tmps.getD 76 undef, a'.tmps.getD 77 undef, a'.tmps.getD 78 undef, a'.tmps.getD 79 undef, a'.tmps.getD 80 undef, a'.tmps.getD 81 undef, a'.tmps.getD 82 undef, a'.tmps.getD 83 undef, a'.tmps.getD 84 undef, a'.tmps.getD 85 undef, a'.tmps.getD 86 undef, a'.tmps.getD 87 undef, a'.tmps.getD 88 undef, a'.tmps.getD 89 undef, a'.tmps.getD 90 undef, a'.tmps.getD 91 undef, a'.tmps.getD 92 undef, a'.tmps.getD 93 undef, a'.tmps.getD 94 undef, a'.tmps.getD 95 undef, a'.tmps.getD 96 undef, a'.tmps.getD 97 undef, a'.tmps.getD 98 undef, a'.tmps.getD 99 undef, a'.tmps.getD 100 undef, a'.tmps.getD 101 undef, a'.tmps.getD 102 undef, a'.tmps.getD 103 undef, a'.tmps.getD 104 undef, a'.tmps.getD 105 undef, a'.tmps.getD 106 undef, a'.tmps.getD 107 undef, a'.tmps.getD 108 undef, a'.tmps.getD 109 undef, a'.tmps.getD 110 undef, a'.tmps.getD 111 undef, a'.tmps.getD 112 undef, a'.tmps.getD 113 undef, a'.tmps.getD 114 undef, a'.tmps.getD 115 undef, a'.tmps.getD 116 undef, a'.tmps.getD 117 undef, a'.tmps.getD 118 undef, a'.tmps.getD 119 undef, a'.tmps.getD 120 undef, a'.tmps.getD 121 undef, a'.tmps.getD 122 undef, a'.tmps.getD 123 undef, a'.tmps.getD 124 undef, a'.tmps.getD 125 undef, a'.tmps.getD 126 undef, a'.tmps.getD 127 undef, a'.tmps.getD 128 undef, a'.tmps.getD 129 undef, a'.tmps.getD 130 undef, a'.tmps.getD 131 undef, a'.tmps.getD 132 undef, a'.tmps.getD 133 undef, a'.tmps.getD 134 undef, a'.tmps.getD 135 undef, a'.tmps.getD 136 undef], defers := [] } ∧ k ≤ len ∧ k ≤ 30 ∧ E.length = k ∧ n ≤ k ∧ Keep E D ∧ Own w wr [GMap byK bm n sz (cmD D (E.map Gr.P)), BagT 61 b 200 E]) (fun a' _ => len - (intOf (a'.tmps.getD 31 undef)).toNat) ?_ ?_
    · exact ⟨0, [], [], 0, 0, rfl, Nat.zero_le _, Nat.zero_le _, rfl, Nat.le_refl _, ⟨by simp, by simp, by simp, by simp⟩, H2.out⟩
    · intro a' wr hI
      obtain ⟨k, E, D, n, sz, hact, hk, hk30, hEl, hn, hKp, hO⟩ := hI
      obtain ⟨u, hu⟩ : ∃ u : Nat → Value, ∀ k, a'.tmps.getD k undef = u k := ⟨_, fun _ => rfl⟩
      simp only [hu] at hact
      clear hu
      subst hact
      clear H2
      have HKp : Hid (Keep E D ∧ E.length = k) := ⟨hKp, hEl⟩
      clear hKp hEl
      by_cases hlt : k < len
      · have hlt' : (k : Int) < (len : Int) := by omega
        obtain ⟨g, o, q, hao, hq, hIn, hqr, p0⟩ := fr_at (HQ.out.2.quiet hO.fr) k (by rw [HQ.out.1]; exact hlt)
        subst hao
        obtain ⟨qa, ql, qc, qP⟩ := q
        simp only at hIn hqr p0
        have hqle := hIn.le
        by_cases h30 : k < 30
        · have h30' : ¬ (30 : Int) ≤ (k : Int) := by omega
          obtain ⟨m, hm⟩ : ∃ m, m = min ql 40 := ⟨_, rfl⟩
          have hmin : (if (40 : Int) < (ql : Int) then (40 : Int) else (ql : Int)) = (m : Int) := by split <;> omega
          have hm40 : m ≤ 40 := by omega
          have hmq : m ≤ ql := by omega
          have hmc : m ≤ qc := by omega
          have HI : Hid (In w qa m qc (qP.take m)) := hIn.cut m hmq
          obtain ⟨R, hR⟩ : ∃ R, R = qP.take m := ⟨_, rfl⟩
          rw [← hR] at HI
          have HO : Hid (Own w wr _) := hO
          clear hO hIn hq hm hR
          go_wp2_with (at_builtin; refine copy_own rfl _ _ rfl qa m qc R HO.out (HI.out.quiet HO.out.fr).src HI.out.eqn (by omega) _ rfl rfl rfl ?_)
          intro a2 c2 w4 hO
          have HC : Hid (Calls _ _ _ _ _) := bput_ok w w4 _ b 200 E hO.three (by rw [HKp.out.2]; omega) (by decide) (k : Int) a2 m c2 R HI.out.eqn (Src.of_row hO.row) (by omega)
          clear hO HO
          go_wp2_with fail
          refine HC.out.mono ?_
          rintro e w5 ⟨rfl, a3, c3, hO⟩
          clear HC
          have hO := hO.two.tail.two
          have hok : byK.ok R := ⟨HI.out.byt, by rw [HI.out.eqn]; unfold maxLen; omega⟩
          have cv := conv_src w5 qa m qc R (HI.out.quiet hO.fr).src
          have hlk : (Instr.lookup 57 (.map (some bm)) (.string (bstr R)) false).run Try.prog w5 = .ok (.int .i64 (((E.map Gr.P).count R : Nat) : Int)) w5 := by
            rw [← cmD_get D _ HKp.out.1.sub]
            exact hO.gmAt Try.underlying57 (zeroI _) R hok
          have HCT : Hid (((E ++ [(⟨a3, c3, (k : Int), R⟩ : Gr)]).map Gr.P).count R = (E.map Gr.P).count R + 1) := by show _ = _; rw [count_put]; simp
          have hcnt : (E.map Gr.P).count R ≤ 200 := Nat.le_trans List.count_le_length (by rw [List.length_map]; exact HKp.out.1.le)
          obtain ⟨w6, hup, h6⟩ := hO.gmPut Try.underlying57 R (.int .i64 ((((E ++ [(⟨a3, c3, (k : Int), R⟩ : Gr)]).map Gr.P).count R : Nat) : Int)) hok (by unfold maxLen; omega)
          rw [cmD_put D _ ((E ++ [(⟨a3, c3, (k : Int), R⟩ : Gr)]).map Gr.P) R (fun y hy => by rw [count_put]; simp [Ne.symm hy])] at h6
          have hup : (Instr.mapUpdate 57 (.map (some bm)) (.string (bstr R)) (.int .i64 ((((E.map Gr.P).count R : Nat) : Int) + 1))).run Try.prog w5 = .ok () w6 := by
            rw [HCT.out] at hup
            exact hup
          have H6 : Hid (Own w w6 _) := h6
          clear hO h6 hok
          generalize (E.map Gr.P).count R = ct at *
          generalize bstr R = sR at *
          go_wp2
          refine ⟨⟨k + 1, E ++ [⟨a3, c3, (k : Int), R⟩], D ++ [R], n + 1, _, rfl, by omega, by omega, by rw [List.length_append, HKp.out.2]; rfl, by omega, HKp.out.1.put (by rw [HKp.out.2]; omega) _ _ _ _ HI.out.byt (by rw [HI.out.eqn]; exact hm40), H6.out⟩, by simp [intOf]; omega⟩
        · have h30' : (30 : Int) ≤ (k : Int) := by omega
          have HO : Hid (Own w wr _) := hO
          clear hO hIn hq
          go_wp2
          exact Met.intro (HJ.out _ _ ⟨E, D, n, sz, rfl, by rw [HKp.out.2]; exact hk30, by omega, HKp.out.1, HO.out⟩)
      · have hlt' : ¬ (k : Int) < (len : Int) := by omega
        have HO : Hid (Own w wr _) := hO
        clear hO
        go_wp2
        exact Met.intro (HJ.out _ _ ⟨E, D, n, sz, rfl, by rw [HKp.out.2]; exact hk30, by omega, HKp.out.1, HO.out⟩)
  case rest =>
    intro a' wc hcut
    obtain ⟨E0, D0, n0, sz0, hact, hE30, hn30, hKp, hO⟩ := hcut
    obtain ⟨u, hu⟩ : ∃ u : Nat → Value, ∀ k, a'.tmps.getD k undef = u k := ⟨_, fun _ => rfl⟩
    simp only [hu] at hact
    clear hu
    subst hact
    have HK0 : Hid (Keep E0 D0) := hKp
    have H3 : Hid (Own w wc _) := hO
    clear hO hKp H2
    go_upto_block 2 with (fail)
    refine wp_cut (fun a' wc => ∃ (E : List Gr) (D : List (List Nat)) (n sz : Nat), a' = { tmps := #[a'.tmps.getD 0 undef, .slice ao1 len1 cap1, a'.tmps.getD 2 undef, a'.tmps.getD 3 undef, a'.tmps.getD 4 undef, .pointer (some ⟨b, 0, none⟩), a'.tmps.getD 6 undef, .map (some bm), a'.tmps.getD 8 undef, a'.tmps.getD 9 undef, a'.tmps.getD 10 undef, a'.tmps.getD 11 undef, a'.tmps.getD 12 undef, a'.tmps.getD 13 undef, a'.tmps.getD 14 undef, a'.tmps.getD 15 undef, a'.tmps.getD 16 undef, a'.tmps.getD 17 undef, a'.tmps.getD 18 undef, a'.tmps.getD 19 undef, a'.tmps.getD 20 undef, a'.tmps.getD 21 undef, a'.tmps.getD 22 undef, a'.tmps.getD 23 undef, a'.tmps.getD 24 undef, a'.tmps.getD 25 undef, a'.tmps.getD 26 undef, a'.tmps.getD 27 undef, a'.tmps.getD 28 undef, a'.tmps.getD 29 undef, a'.tmps.getD 30 undef, a'.tmps.getD 31 undef, a'.tmps.getD 32 undef, a'.tmps.getD 33 undef, a'.tmps.getD 34 undef, a'.tmps.getD 35 undef, a'.tmps.getD 36 undef, a'.tmps.getD 37 undef, a'.tmps.getD 38 undef, a'.tmps.getD 39 undef, a'.tmps.getD 40 undef, a'.tmps.getD 41 undef, a'.tmps.getD 42 undef, a'.tmps.getD 43 undef, a'.tmps.getD 44 undef, a'.tmps.getD 45 undef, a'.tmps.getD 46 undef, a'.tmps.getD 47 undef, a'.tmps.getD 48 undef, a'.tmps.getD 49 undef, a'.tmps.getD 50 undef, a'.tmps.getD 51 undef, a'.tmps.getD 52 undef, a'.tmps.getD 53 undef, a'.tmps.getD 54 undef, a'.tmps.getD 55 undef, a'.tmps.getD 56 undef, a'.tmps.getD 57 undef, a'.tmps.getD 58 undef, a'.tmps.getD 59 undef, a'.tmps.getD 60 undef, a'.tmps.getD 61 undef, a'.tmps.getD 62 undef, a'.tmps.getD 63 undef, a'.tmps.getD 64 undef, a'.tmps.getD 65 undef, a'.tmps.getD 66 undef, a'.tmps.getD 67 undef, a'.tmps.getD 68 undef, a'.tmps.getD 69 undef, a'.tmps.getD 70 undef, a'.tmps.getD 71 undef, a'.tmps.getD 72 undef, a'.tmps.getD 73 undef, a'.tmps.getD 74 undef, a'.tmps.getD 75 undef, a'.tmps.getD 76 undef, a'.tmps.getD 77 undef, a'.tmps.getD 78 undef, a'.tmps.getD 79 undef, a'.tmps.getD 80 undef, a'.tmps.getD 81 undef, a'.tmps.getD 82 undef, a'.tmps.getD 83 undef, a'.tmps.getD 84 undef, a'.tmps.getD 85 undef, a'.tmps.getD 86 undef, a'.tmps.getD 87 undef, a'.tmps.getD 88 undef, a'.tmps.getD 89 undef, a'.tmps.getD 90 undef, a'.tmps.getD 91 undef, a'.tmps.getD 92 undef, a'.tmps.getD 93 undef, a'.tmps.getD 94 undef, a'.tmps.getD 95 undef, a'.tmps.getD 96 undef, a'.tmps.getD 97 undef, a'.tmps.getD 98 undef, a'.tmps.getD 99 undef, a'.tmps.getD 100 undef, a'.tmps.getD 101 undef, a'.tmps.getD 102 undef, a'.tmps.getD 103 undef, a'.tmps.getD 104 undef, a'.tmps.getD 105 undef, a'.tmps.getD 106 undef, a'.tmps.getD 107 undef, a'.tmps.getD 108 undef, a'.tmps.getD 109 undef, a'.tmps.getD 110 undef, a'.tmps.getD 111 undef, a'.tmps.getD 112 undef, a'.tmps.getD 113 undef, a'.tmps.getD 114 undef, a'.tmps.getD 115 undef, a'.tmps.getD 116 undef, a'.tmps.getD 117 undef, a'.tmps.getD 118 undef, a'.tmps.getD 119 undef, a'.tmps.getD 120 undef, a'.tmps.getD 121 undef, a'.tmps.getD 122 undef, a'.tmps.getD 123 undef, a'.tmps.getD 124 undef, a'.tmps.getD 125 undef, a'.tmps.getD 126 undef, a'.tmps.getD 127 undef, a'.tmps.getD 128 undef, a'.tmps.getD 129 undef, a'.tmps.getD 130 undef, a'.tmps.getD 131 undef, a'.tmps.getD 132 undef, a'.tmps.getD 133 undef, a'.tmps.getD 134 undef, a'.tmps.getD 135 undef, a'.tmps.getD 136 undef], defers := [] } ∧ Keep E D ∧ n ≤ 1000 ∧ Own w wc [GMap byK bm n sz (cmD D (E.map Gr.P)), BagT 61 b 200 E]) ?rest ?first
    case first =>
      intro J K' hJ hK'
      have HJ : Hid _ := hJ
      clear hJ
      go_wp2
      refine wp_loop (fun a' wr => ∃ (j : Nat) (E : List Gr) (D : List (List Nat)) (n sz : Nat), a' = { tmps := #[a'.tmps.getD 0 undef, .slice ao1 len1 cap1, a'.tmps.getD 2 undef, a'.tmps.getD 3 undef, a'.tmps.getD 4 undef, .pointer (some ⟨b, 0, none⟩), a'.tmps.getD 6 undef, .map (some bm), a'.tmps.getD 8 undef, a'.tmps.getD 9 undef, a'.tmps.getD 10 undef, a'.tmps.getD 11 undef, a'.tmps.getD 12 undef, a'.tmps.getD 13 undef, a'.tmps.getD 14 undef, a'.tmps.getD 15 undef, a'.tmps.getD 16 undef, a'.tmps.getD 17 undef, a'.tmps.getD 18 undef, a'.tmps.getD 19 undef, a'.tmps.getD 20 undef, a'.tmps.getD 21 undef, a'.tmps.getD 22 undef, a'.tmps.getD 23 undef, a'.tmps.getD 24 undef, a'.tmps.getD 25 undef, a'.tmps.getD 26 undef, a'.tmps.getD 27 undef, a'.tmps.getD 28 undef, a'.tmps.getD 29 undef, a'.tmps.getD 30 undef, a'.tmps.getD 31 undef, a'.tmps.getD 32 undef, a'.tmps.getD 33 undef, a'.tmps.getD 34 undef, a'.tmps.getD 35 undef, a'.tmps.getD 36 undef, a'.tmps.getD 37 undef, a'.tmps.getD 38 undef, a'.tmps.getD 39 undef, a'.tmps.getD 40 undef, a'.tmps.getD 41 undef, a'.tmps.getD 42 undef, a'.tmps.getD 43 undef, a'.tmps.getD 44 undef, a'.tmps.getD 45 undef, a'.tmps.getD 46 undef, a'.tmps.getD 47 undef, a'.tmps.getD 48 undef, a'.tmps.getD 49 undef, a'.tmps.getD 50 undef, a'.tmps.getD 51 undef, a'.tmps.getD 52 undef, a'.tmps.getD 53 undef, a'.tmps.getD 54 undef, a'.tmps.getD 55 undef, a'.tmps.getD 56 undef, .slice ao1 len1 cap1, .int .i64 (len1 : Int), .int .i64 (j : Int), a'.tmps.getD 60 undef, a'.tmps.getD 61 undef, a'.tmps.getD 62 undef, a'.tmps.getD 63 undef, a'.tmps.getD 64 undef, a'.tmps.getD 65 undef, a'.tmps.getD 66 undef, a'.tmps.getD 67 undef, a'.tmps.getD 68 undef, a'.tmps.getD 69 undef, a'.tmps.getD 70 undef, a'.tmps.getD 71 undef, a'.tmps.getD 72 undef, a'.tmps.getD 73 undef, a'.tmps.getD 74 undef, a'.tmps.getD 75 undef, a'.tmps.getD 76 undef, a'.tmps.getD 77 undef, a'.tmps.getD 78 undef, a'.tmps.getD 79 undef, a'.tmps.getD 80 undef, a'.tmps.getD 81 undef, a'.tmps.getD 82 undef, a'.tmps.getD 83 undef, a'.tmps.getD 84 undef, a'.tmps.getD 85 undef, a'.tmps.getD 86 undef, a'.tmps.getD 87 undef, a'.tmps.getD 88 undef, a'.tmps.getD 89 undef, a'.tmps.getD 90 undef, a'.tmps.getD 91 undef, a'.tmps.getD 92 undef, a'.tmps.getD 93 undef, a'.tmps.getD 94 undef, a'.tmps.getD 95 undef, a'.tmps.getD 96 undef, a'.tmps.getD 97 undef, a'.tmps.getD 98 undef, a'.tmps.getD 99 undef, a'.tmps.getD 100 undef, a'.tmps.getD 101 undef, a'.tmps.getD 102 undef, a'.tmps.getD 103 undef, a'.tmps.getD 104 undef, a'.tmps.getD 105 undef, a'.tmps.getD 106 undef, a'.tmps.getD 107 undef, a'.tmps.getD 108 undef, a'.tmps.getD 109 undef, a'.tmps.getD 110 undef, a'.tmps.getD 111 undef, a'.tmps.getD 112 undef, a'.tmps.getD 113 undef, a'.tmps.getD 114 undef, a'.tmps.getD 115 undef, a'.tmps.getD 116 undef, a'.tmps.getD 117 undef, a'.tmps.getD 118 undef, a'.tmps.getD 119 undef, a'.tmps.getD 120 undef, a'.tmps.getD 121 undef, a'.tmps.getD 122 undef, a'.tmps.getD 123 undef, a'.tmps.getD 124 undef, a'.tmps.getD 125 undef, a'.tmps.getD 126 undef, a'.tmps.getD 127 undef, a'.tmps.getD 128 undef, a'.tmps.getD 129 undef, a'.tmps.getD 130 undef, a'.tmps.getD 131 undef, a'.tmps.getD 132 undef, a'.tmps.getD 133 undef, a'.tmps.getD 134 undef, a'.tmps.getD 135 undef, a'.tmps.getD 136 undef], defers := [] } ∧ j ≤ len1 ∧ j ≤ 60 ∧ E.length ≤ 30 + j ∧ n ≤ 30 + j ∧ Keep E D ∧ Own w wr [GMap byK bm n sz (cmD D (E.map Gr.P)), BagT 61 b 200 E]) (fun a' _ => len1 - (intOf (a'.tmps.getD 59 undef)).toNat) ?_ ?_
      · exact ⟨0, E0, D0, n0, sz0, rfl, Nat.zero_le _, Nat.zero_le _, by omega, by omega, HK0.out, H3.out⟩
      · intro a' wr hI
        obtain ⟨j, E, D, n, sz, hact, hj, hj60, hEl, hn, hKp, hO⟩ := hI
        obtain ⟨u2, hu⟩ : ∃ u2 : Nat → Value, ∀ k, a'.tmps.getD k undef = u2 k := ⟨_, fun _ => rfl⟩
        simp only [hu] at hact
        clear hu
        subst hact
        clear H3 HK0
        have HKp : Hid (Keep E D) := hKp
        clear hKp
        by_cases hlt : j < len1
        · have hlt' : (j : Int) < (len1 : Int) := by omega
          have hOl := HP.out.eqn
          obtain ⟨g, o, hao⟩ := HP.out.some' (by omega)
          have p0 : wr.cell? ⟨g, o + j, none⟩ = some (.int .u8 ((O[j]'(by omega) : Nat) : Int)) := by
            rcases (HP.out.quiet hO.fr).at' with h0 | ⟨g', o', h1, h2⟩
            · rw [h0] at hOl; simp at hOl; omega
            · rw [hao] at h1
              cases h1
              exact h2 j _ (List.getElem?_eq_getElem (by omega))
          have hob : O[j]'(by omega) < 256 := HP.out.byt _ (List.getElem_mem _)
          generalize O[j]'(by omega) = ob at p0 hob
          subst hao
          clear hOl
          by_cases h60 : j < 60
          · have h60' : ¬ (60 : Int) ≤ (j : Int) := by omega
            have HLn : Hid (∀ W' l', Own w W' (BagT 61 b 200 E :: l') → Calls Try.prog 22 #[.pointer (some ⟨b, 0, none⟩)] W' fun e w' => e = .returned (.int .i64 (E.length : Int)) ∧ w' = W') := fun W' l' h' => blen w W' l' b 200 E h'
            obtain ⟨el, hel⟩ : ∃ el, el = E.length := ⟨_, rfl⟩
            have HEL : Hid (el = E.length) := hel
            rw [← hel] at hEl HLn
            have hel2 : el ≤ 200 := by rw [hel]; exact HKp.out.le
            clear hel
            have HC : Hid (Calls _ _ _ _ _) := HLn.out _ _ hO.two
            by_cases h0 : el = 0
            · have h0' : ((el : Int) == 0) = true := by simp [h0]
              have HO : Hid (Own w wr _) := hO
              clear hO h0
              go_wp2_with fail
              refine HC.out.mono ?_
              rintro e w4 ⟨rfl, rfl⟩
              clear HC HLn
              go_wp2
              exact Met.intro (HJ.out _ _ ⟨E, D, n, sz, rfl, HKp.out, by omega, HO.out⟩)
            · have h0' : ((el : Int) == 0) = false := by simp; omega
              obtain ⟨kk, hkk⟩ : ∃ kk, kk = ob / 2 % el := ⟨_, rfl⟩
              have hkl : kk < el := by rw [hkk]; exact Nat.mod_lt _ (by omega)
              have hmod : ((ob : Int) / 2).tmod (el : Int) = (kk : Int) := by rw [hkk, Int.tmod_eq_emod_of_nonneg (by omega)]; simp
              obtain ⟨x, hx⟩ : ∃ x, E[kk]? = some x := ⟨_, List.getElem?_eq_getElem (by rw [← HEL.out]; exact hkl)⟩
              have hxb := HKp.out.byt x (List.mem_of_getElem? hx)
              have hx40 := HKp.out.len x (List.mem_of_getElem? hx)
              have HX : Hid (E[kk]? = some x) := hx
              have hok : byK.ok x.P := ⟨hxb, by unfold maxLen; omega⟩
              have hle0 : ¬ (el : Int) = 0 := by omega
              have HO : Hid (Own w wr _) := hO
              clear hO h0 hx hkk
              go_wp2_with fail
              refine HC.out.mono ?_
              rintro e w4 ⟨rfl, rfl⟩
              go_wp2_with fail
              refine HC.out.mono ?_
              rintro e w4 ⟨rfl, rfl⟩
              have h200 : (el : Int) < 200 := by omega
              by_cases hodd : ob % 2 = 1
              · have hod1 : (ob : Int) % 2 = 1 := by omega
                have hod2 : ((ob : Int) % 2 == 1) = true := by simp [hod1]
                have hfull : E.length < 200 := by rw [← HEL.out]; omega
                have HC2 : Hid (Calls _ _ _ _ _) := bpeek_ok w w4 _ b 200 E HO.out.two kk x HX.out (by omega)
                have HC3 : Hid (∀ W' l', Own w W' (BagT 61 b 200 E :: l') → Calls _ _ _ W' _) := fun W' l' h' => bcopy_any w W' l' b 200 E h' kk x HX.out (fun e w' => e = .returned (.int .i64 0) ∧ ∃ a2 c2, Own w w' (BagT 61 b 200 (E ++ [⟨a2, c2, x.to, x.P⟩]) :: l')) ((bput_ok w W' l' b 200 E h' hfull (by decide) x.to x.ao x.P.length x.cap x.P rfl (by obtain ⟨lv, h2⟩ := Own.ex_iff.1 h'; exact Own.gsrc (A := [_, _]) HX.out h2) (by omega)).mono (by rintro e w' ⟨rfl, a2, c2, h2⟩; exact ⟨0, rfl, rfl, a2, c2, h2⟩))
                have HGA : Hid (∀ W' l' n' sz', Own w W' (GMap byK bm n' sz' (cmD D (E.map Gr.P)) :: l') → (Instr.lookup 57 (.map (some bm)) (.string (bstr x.P)) false).run Try.prog W' = .ok (.int .i64 (((E.map Gr.P).count x.P : Nat) : Int)) W') := fun W' l' n' sz' h' => by
                  rw [← cmD_get D _ HKp.out.sub]
                  exact h'.gmAt Try.underlying57 (zeroI _) x.P hok
                have hcnt : (E.map Gr.P).count x.P ≤ 200 := Nat.le_trans List.count_le_length (by rw [List.length_map]; exact HKp.out.le)
                go_wp2_with fail
                refine HC.out.mono ?_
                rintro e w5 ⟨rfl, rfl⟩
                clear HC HLn HO
                go_wp2_with fail
                refine HC2.out.mono ?_
                rintro e w6 ⟨a6, c6, rfl, hO⟩
                clear HC2
                have hO := hO.allocC #[.int .i64 x.to, .slice a6 x.P.length c6] 33
                have HC : Hid (Calls _ _ _ _ _) := HC3.out _ _ hO.three
                clear hO HC3 p0
                go_wp2_with fail
                refine HC.out.mono ?_
                rintro e w7 ⟨rfl, a7, c7, hO⟩
                clear HC
                generalize w6.heap.size = bu at *
                have u1 := hO.two.cell 1
                simp only [List.getElem?_toArray, List.getElem?_cons_zero, List.getElem?_cons_succ] at u1
                have cv := conv_src w7 a6 x.P.length c6 x.P (Src.of_row hO.three.row)
                have hO := hO.four
                have hlk := HGA.out w7 _ n sz hO
                have HCT : Hid (((E ++ [(⟨a7, c7, x.to, x.P⟩ : Gr)]).map Gr.P).count x.P = (E.map Gr.P).count x.P + 1) := by show _ = _; rw [count_put]; simp
                obtain ⟨w8, hup, h8⟩ := hO.gmPut Try.underlying57 x.P (.int .i64 ((((E ++ [(⟨a7, c7, x.to, x.P⟩ : Gr)]).map Gr.P).count x.P : Nat) : Int)) hok (by unfold maxLen; omega)
                rw [cmD_put D _ ((E ++ [(⟨a7, c7, x.to, x.P⟩ : Gr)]).map Gr.P) x.P (fun y hy => by rw [count_put]; simp [Ne.symm hy])] at h8
                have hup : (Instr.mapUpdate 57 (.map (some bm)) (.string (bstr x.P)) (.int .i64 ((((E.map Gr.P).count x.P : Nat) : Int) + 1))).run Try.prog w7 = .ok () w8 := by
                  rw [HCT.out] at hup
                  exact hup
                have H8 : Hid (Own w w8 _) := h8
                have HKN : Hid (Keep (E ++ [(⟨a7, c7, x.to, x.P⟩ : Gr)]) (D ++ [x.P])) := HKp.out.put hfull _ _ _ _ hxb hx40
                have HEN : Hid ((E ++ [(⟨a7, c7, x.to, x.P⟩ : Gr)]).length ≤ 30 + (j + 1)) := by show _ ≤ _; rw [List.length_append, ← HEL.out]; simp; omega
                clear hO h8 hok HGA
                generalize (E.map Gr.P).count x.P = ct at *
                generalize bstr x.P = sR at *
                generalize x.P.length = xn at *
                go_wp2
                exact ⟨⟨j + 1, _, _, n + 1, _, rfl, by omega, by omega, HEN.out, by omega, HKN.out, H8.out.three.tail.three.tail⟩, by simp [intOf]; omega⟩
              · have hod1 : (ob : Int) % 2 = 0 := by omega
                have hod2 : ((ob : Int) % 2 == 1) = false := by simp; omega
                have HC2 : Hid (Calls _ _ _ _ _) := btake_ok w w4 _ b 200 E HO.out.two (Nat.le_trans HKp.out.le (by decide)) kk x HX.out
                have HCT : Hid ((E.map Gr.P).count x.P = ((E.eraseIdx kk).map Gr.P).count x.P + 1) := by show _ = _; rw [count_take E kk x HX.out]; simp
                have HGA : Hid (∀ W' l' n' sz', Own w W' (GMap byK bm n' sz' (cmD D (E.map Gr.P)) :: l') → (Instr.lookup 57 (.map (some bm)) (.string (bstr x.P)) false).run Try.prog W' = .ok (.int .i64 (((E.map Gr.P).count x.P : Nat) : Int)) W') := fun W' l' n' sz' h' => by
                  rw [← cmD_get D _ HKp.out.sub]
                  exact h'.gmAt Try.underlying57 (zeroI _) x.P hok
                have hcnt : (E.map Gr.P).count x.P ≤ 200 := Nat.le_trans List.count_le_length (by rw [List.length_map]; exact HKp.out.le)
                clear HC HLn HO
                go_wp2_with fail
                refine HC2.out.mono ?_
                rintro e w6 ⟨rfl, hO⟩
                clear HC2 p0
                have hO := (hO.allocC #[.int .i64 x.to, .slice x.ao x.P.length x.cap] 33)
                obtain ⟨W6, hW6⟩ : ∃ W6, W6 = w6.alloc (.cells #[.int .i64 x.to, .slice x.ao x.P.length x.cap] 33) := ⟨_, rfl⟩
                rw [← hW6] at hO
                have cv := conv_src W6 x.ao x.P.length x.cap x.P (Src.of_row hO.two.row)
                have hO := hO.tail.tail.two
                have hlk := HGA.out W6 _ n sz hO
                obtain ⟨w8, hup, h8⟩ := hO.gmPut Try.underlying57 x.P (.int .i64 ((((E.eraseIdx kk).map Gr.P).count x.P : Nat) : Int)) hok (by unfold maxLen; omega)
                rw [cmD_put D _ ((E.eraseIdx kk).map Gr.P) x.P (fun y hy => by rw [count_take E kk x HX.out]; simp [Ne.symm hy])] at h8
                have hup : (Instr.mapUpdate 57 (.map (some bm)) (.string (bstr x.P)) (.int .i64 ((((E.eraseIdx kk).map Gr.P).count x.P : Nat) : Int))).run Try.prog W6 = .ok () w8 := hup
                rw [hW6] at cv hlk hup
                have H8 : Hid (Own w w8 _) := h8
                have HKN : Hid (Keep (E.eraseIdx kk) (D ++ [x.P])) := HKp.out.take kk x.P
                have HEN : Hid ((E.eraseIdx kk).length ≤ 30 + (j + 1)) := by show _ ≤ _; have := (List.eraseIdx_sublist E kk).length_le; rw [← HEL.out] at this; omega
                rw [HCT.out] at hlk hcnt
                clear hO h8 hok HGA hW6 HCT
                generalize ((E.eraseIdx kk).map Gr.P).count x.P = ct at *
                generalize bstr x.P = sR at *
                generalize x.P.length = xn at *
                have hct0 : ((ct : Int) + 1 == 0) = false := by simp; omega
                have hct1 : ¬ (ct : Int) + 1 = 0 := by omega
                have hlk : ∀ q : Nat, q = 0 → (Instr.lookup 57 (.map (some bm)) (.string sR) false).run Try.prog (w6.alloc (.cells #[.int .i64 x.to, .slice x.ao xn x.cap] 33)) = .ok (.int .i64 ((ct : Int) + 1)) (w6.alloc (.cells #[.int .i64 x.to, .slice x.ao xn x.cap] 33)) := fun _ _ => by rw [hlk]; simp
                have hlk := hlk 0 rfl
                go_wp2
                exact ⟨⟨j + 1, _, _, n + 1, _, rfl, by omega, by omega, HEN.out, by omega, HKN.out, H8.out⟩, by simp [intOf]; omega⟩
          · have h60' : (60 : Int) ≤ (j : Int) := by omega
            have HO : Hid (Own w wr _) := hO
            clear hO
            go_wp2
            exact Met.intro (HJ.out _ _ ⟨E, D, n, sz, rfl, HKp.out, by omega, HO.out⟩)
        · have hlt' : ¬ (j : Int) < (len1 : Int) := by omega
          have HO : Hid (Own w wr _) := hO
          clear hO
          go_wp2
          exact Met.intro (HJ.out _ _ ⟨E, D, n, sz, rfl, HKp.out, by omega, HO.out⟩)
    case rest =>
      intro a' wc2 hcut
      obtain ⟨E, D, n, sz, hact, hKp, hn, hO⟩ := hcut
      obtain ⟨u3, hu⟩ : ∃ u3 : Nat → Value, ∀ k, a'.tmps.getD k undef = u3 k := ⟨_, fun _ => rfl⟩
      simp only [hu] at hact
      clear hu
      subst hact
      clear H3 HK0
      obtain ⟨w10, hrun, hI⟩ := hO.gmRange Try.underlying57
      obtain ⟨rr, hrr⟩ : ∃ rr, rr = wc2.heap.size := ⟨_, rfl⟩
      rw [← hrr] at hrun hI
      have HI : Hid (Own w w10 _) := hI
      have HKp : Hid (Keep E D) := hKp
      clear hO hI hrr hKp
      go_wp2
      clear hrun
      refine wp_loop (fun a' wr => ∃ (V : List (List Nat)) (left : List Nat → Prop) (cnt : Nat), a' = { tmps := #[a'.tmps.getD 0 undef, .slice ao1 len1 cap1, a'.tmps.getD 2 undef, a'.tmps.getD 3 undef, a'.tmps.getD 4 undef, .pointer (some ⟨b, 0, none⟩), a'.tmps.getD 6 undef, .map (some bm), a'.tmps.getD 8 undef, a'.tmps.getD 9 undef, a'.tmps.getD 10 undef, a'.tmps.getD 11 undef, a'.tmps.getD 12 undef, a'.tmps.getD 13 undef, a'.tmps.getD 14 undef, a'.tmps.getD 15 undef, a'.tmps.getD 16 undef, .int .i64 ((V.map fun y => (E.map Gr.P).count y).sum : Nat), a'.tmps.getD 18 undef, a'.tmps.getD 19 undef, a'.tmps.getD 20 undef, a'.tmps.getD 21 undef, a'.tmps.getD 22 undef, a'.tmps.getD 23 undef, a'.tmps.getD 24 undef, a'.tmps.getD 25 undef, a'.tmps.getD 26 undef, a'.tmps.getD 27 undef, a'.tmps.getD 28 undef, a'.tmps.getD 29 undef, a'.tmps.getD 30 undef, a'.tmps.getD 31 undef, a'.tmps.getD 32 undef, a'.tmps.getD 33 undef, a'.tmps.getD 34 undef, a'.tmps.getD 35 undef, a'.tmps.getD 36 undef, a'.tmps.getD 37 undef, a'.tmps.getD 38 undef, a'.tmps.getD 39 undef, a'.tmps.getD 40 undef, a'.tmps.getD 41 undef, a'.tmps.getD 42 undef, a'.tmps.getD 43 undef, a'.tmps.getD 44 undef, a'.tmps.getD 45 undef, a'.tmps.getD 46 undef, a'.tmps.getD 47 undef, a'.tmps.getD 48 undef, a'.tmps.getD 49 undef, a'.tmps.getD 50 undef, a'.tmps.getD 51 undef, a'.tmps.getD 52 undef, a'.tmps.getD 53 undef, a'.tmps.getD 54 undef, a'.tmps.getD 55 undef, a'.tmps.getD 56 undef, a'.tmps.getD 57 undef, a'.tmps.getD 58 undef, a'.tmps.getD 59 undef, a'.tmps.getD 60 undef, a'.tmps.getD 61 undef, a'.tmps.getD 62 undef, a'.tmps.getD 63 undef, a'.tmps.getD 64 undef, a'.tmps.getD 65 undef, a'.tmps.getD 66 undef, a'.tmps.getD 67 undef, a'.tmps.getD 68 undef, a'.tmps.getD 69 undef, a'.tmps.getD 70 undef, a'.tmps.getD 71 undef, a'.tmps.getD 72 undef, a'.tmps.getD 73 undef, a'.tmps.getD 74 undef, a'.tmps.getD 75 undef, a'.tmps.getD 76 undef, a'.tmps.getD 77 undef, a'.tmps.getD 78 undef, a'.tmps.getD 79 undef, a'.tmps.getD 80 undef, a'.tmps.getD 81 undef, a'.tmps.getD 82 undef, a'.tmps.getD 83 undef, a'.tmps.getD 84 undef, a'.tmps.getD 85 undef, a'.tmps.getD 86 undef, a'.tmps.getD 87 undef, a'.tmps.getD 88 undef, a'.tmps.getD 89 undef, a'.tmps.getD 90 undef, a'.tmps.getD 91 undef, a'.tmps.getD 92 undef, a'.tmps.getD 93 undef, a'.tmps.getD 94 undef, a'.tmps.getD 95 undef, a'.tmps.getD 96 undef, a'.tmps.getD 97 undef, a'.tmps.getD 98 undef, a'.tmps.getD 99 undef, a'.tmps.getD 100 undef, a'.tmps.getD 101 undef, a'.tmps.getD 102 undef, a'.tmps.getD 103 undef, a'.tmps.getD 104 undef, a'.tmps.getD 105 undef, a'.tmps.getD 106 undef, a'.tmps.getD 107 undef, a'.tmps.getD 108 undef, a'.tmps.getD 109 undef, a'.tmps.getD 110 undef, a'.tmps.getD 111 undef, a'.tmps.getD 112 undef, a'.tmps.getD 113 undef, a'.tmps.getD 114 undef, a'.tmps.getD 115 undef, a'.tmps.getD 116 undef, a'.tmps.getD 117 undef, a'.tmps.getD 118 undef, a'.tmps.getD 119 undef, a'.tmps.getD 120 undef, a'.tmps.getD 121 undef, a'.tmps.getD 122 undef, a'.tmps.getD 123 undef, a'.tmps.getD 124 undef, .pointer (some ⟨rr, 0, none⟩), a'.tmps.getD 126 undef, a'.tmps.getD 127 undef, a'.tmps.getD 128 undef, a'.tmps.getD 129 undef, a'.tmps.getD 130 undef, a'.tmps.getD 131 undef, a'.tmps.getD 132 undef, a'.tmps.getD 133 undef, a'.tmps.getD 134 undef, a'.tmps.getD 135 undef, a'.tmps.getD 136 undef], defers := [] } ∧ V.Nodup ∧ (∀ y ∈ V, y ∈ D) ∧ (∀ y, left y ↔ ((cmD D (E.map Gr.P) y).isSome = true ∧ y ∉ V)) ∧ Own w wr [GIter byK bm rr n sz (cmD D (E.map Gr.P)) left cnt, BagT 61 b 200 E]) (fun _ wr => wr.rangeLeft bm rr) ?_ ?_
      · exact ⟨[], _, _, rfl, List.nodup_nil, by simp, fun y => by simp, HI.out⟩
      · intro a' wr hI2
        obtain ⟨V, left, cnt, hact, hVn, hVD, hleft, hO⟩ := hI2
        obtain ⟨u4, hu⟩ : ∃ u4 : Nat → Value, ∀ k, a'.tmps.getD k undef = u4 k := ⟨_, fun _ => rfl⟩
        simp only [hu] at hact
        clear hu
        subst hact
        clear HI
        have HM0 : Hid (wr.rangeLeft bm rr = cnt) := hO.giLeft
        have hsum : (V.map fun y => (E.map Gr.P).count y).sum ≤ 200 := by
          have := sum_le V (E.map Gr.P) hVn
          rw [List.length_map] at this
          exact Nat.le_trans this HKp.out.le
        rcases hO.giNext 0 with ⟨h0, hall, hnx⟩ | ⟨y, v, w2, cnt', hy, hly, hpv, hnx, hent, hltc, hO2⟩
        · have hnx' : ∀ ty, (Instr.next (.pointer (some ⟨rr, 0, none⟩)) false ty).run Try.prog wr = .ok (.tuple #[.bool false]) wr := fun ty => hnx
          have HS : Hid ((V.map fun y => (E.map Gr.P).count y).sum = E.length) := by
            show _ = _
            rw [sum_count V _ hVn (fun x hx => ?_), List.length_map]
            obtain ⟨gx, hgx, rfl⟩ := List.mem_map.1 hx
            by_cases c : gx.P ∈ V
            · exact c
            · exact absurd ((hleft gx.P).2 ⟨by simp [cmD, HKp.out.sub _ hx], c⟩) (hall gx.P ⟨HKp.out.byt gx hgx, by have := HKp.out.len gx hgx; unfold maxLen; omega⟩)
          rw [HS.out]
          have HC : Hid (Calls _ _ _ _ _) := blen w wr _ b 200 E hO.two
          have HF : Hid (Fr Nobody w wr) := hO.fr
          clear hO h0 hall hnx HM0 hleft hVD hVn
          go_wp2_with fail
          refine HC.out.mono ?_
          rintro e w4 ⟨rfl, rfl⟩
          clear HC
          go_wp2
          go_ret
          exact ⟨rfl, HF.out⟩
        · have hyV : y ∉ V := ((hleft y).1 hly).2
          have hyD : y ∈ D := by
            have := ((hleft y).1 hly).1
            unfold cmD at this
            split at this
            · assumption
            · cases this
          have hv : v = .int .i64 (((E.map Gr.P).count y : Nat) : Int) := by
            unfold cmD at hpv
            rw [if_pos hyD] at hpv
            exact (Option.some.inj hpv).symm
          subst hv
          have HSU : Hid (((V ++ [y]).map fun y => (E.map Gr.P).count y).sum = (V.map fun y => (E.map Gr.P).count y).sum + (E.map Gr.P).count y) := by show _ = _; rw [List.map_append, List.sum_append]; simp
          have hcnt : (E.map Gr.P).count y ≤ 200 := Nat.le_trans List.count_le_length (by rw [List.length_map]; exact HKp.out.le)
          have HV2 : Hid ((V ++ [y]).Nodup ∧ (∀ z ∈ V ++ [y], z ∈ D) ∧ ∀ z, (left z ∧ z ≠ y) ↔ ((cmD D (E.map Gr.P) z).isSome = true ∧ z ∉ V ++ [y])) := by
            refine ⟨List.nodup_append.2 ⟨hVn, by simp, ?_⟩, ?_, ?_⟩
            · intro a ha c hc e
              simp at hc
              subst hc; subst e
              exact hyV ha
            · intro z hz
              rcases List.mem_append.1 hz with hz | hz
              · exact hVD z hz
              · simp at hz; subst hz; exact hyD
            · intro z
              rw [hleft z, List.mem_append, List.mem_singleton]
              constructor
              · rintro ⟨⟨h1, h2⟩, h3⟩
                exact ⟨h1, fun q => q.elim h2 h3⟩
              · rintro ⟨h1, h2⟩
                exact ⟨⟨h1, fun q => h2 (.inl q)⟩, fun q => h2 (.inr q)⟩
          have hnx' : ∀ ty, (Instr.next (.pointer (some ⟨rr, 0, none⟩)) false ty).run Try.prog wr = .ok (.tuple #[.bool true, .string (bstr y), .int .i64 (((E.map Gr.P).count y : Nat) : Int)]) w2 := fun ty => hnx
          have hent' : (Instr.entry (.pointer (some ⟨rr, 0, none⟩))).run Try.prog w2 = .ok (.tuple #[.string (bstr y), .int .i64 (((E.map Gr.P).count y : Nat) : Int)]) w2 := hent
          have HO2 : Hid (Own w w2 _) := hO2
          have HM1 : Hid (w2.rangeLeft bm rr = cnt' ∧ cnt' < cnt) := ⟨hO2.giLeft, hltc⟩
          clear hO hO2 hnx hent hltc hleft hVD hVn hyV hyD hly hpv hy
          obtain ⟨sV, hsV⟩ : ∃ sV, sV = (V.map fun y => (E.map Gr.P).count y).sum := ⟨_, rfl⟩
          rw [← hsV] at hsum HSU ⊢
          obtain ⟨ct, hct⟩ : ∃ ct, ct = (E.map Gr.P).count y := ⟨_, rfl⟩
          rw [← hct] at hcnt HSU hnx' hent'
          clear hsV hct
          generalize bstr y = sy at *
          go_wp2
          refine ⟨⟨V ++ [y], _, cnt', ?_, HV2.out.1, HV2.out.2.1, HV2.out.2.2, HO2.out⟩, by rw [HM0.out, HM1.out.1]; exact HM1.out.2⟩
          rw [HSU.out]
          rfl
theorem netKeeps_walk (w : World) (a0 : Option Addr) (len0 cap0 : Nat) (z0 : List FrE) (w0 : IsFrs w a0 len0 cap0 z0) (a1 : Option Addr) (len1 cap1 : Nat) (z1 : List Int) (w1 : IsRow .u8 w a1 len1 cap1 z1) :
    Calls Try.prog 5 #[.slice a0 len0 cap0, .slice a1 len1 cap1] w fun e w' => e = .returned (.bool true) ∧ Below w.heap.size w w' := by
  obtain ⟨hmax, P, hP⟩ := in_row w1
  refine (netKeeps_fr w a0 len0 cap0 z0 w0 a1 len1 cap1 P hP hmax).mono ?_
  rintro e w' ⟨rfl, hf⟩
  exact ⟨rfl, hf.below (Nat.le_refl _) (fun _ _ => id)⟩

theorem laidOut : laidOutB Try.prog = true := by kernel_rfl

set_option maxRecDepth 100000 in
theorem netKeeps_lifted (os : Os) (started : os.Started) (H : Type) (enc : TypeId × Value → H) :
    ReturnsInHanded {} Try.checked os 5 .any (Rows.netKeepsSpec.pre6 enc Try.prog Try.f5 Rows.netKeepsRow.domain false) (Rows.netKeepsSpec.post enc Try.prog Try.f5 false true false false) := by
  refine returnsInHanded_of_change_sized (C := Try.checked) own started (by kernel_rfl) Try.func5
    (ChangeSpec.witness6 (enc := enc) (C := Try.checked) false ⟨#[], #[.slice none 0 0, .slice none 0 0], []⟩ 8 (by kernel_rfl) (by kernel_rfl) (by kernel_rfl) (by kernel_rfl)) ?_
  intro W base args ds gs before hval0 hW hcnd hsz _
  have hval : ∀ (j : Nat) t v, Try.f5.params[j]? = some t → args[j]? = some v → Value.okWide Try.prog W .any base t v := hval0
  have hW' := hW
  obtain ⟨p, q, hA0, hV, rfl, hfz, hnd⟩ := hW
  have hA : DataW.TrodAll enc Try.prog W 0 (fun _ => true) true Try.f5.params.toList args.toList ds p := hA0
  rw [Try.params5] at hA hval
  obtain ⟨v0, vs0, d0, ds0, p0, q0, hargs, rfl, rfl, h0, r0⟩ := trodAll_cons hA
  obtain ⟨v1, vs1, d1, ds1, p1, q1, rfl, rfl, rfl, h1, r1⟩ := trodAll_cons r0
  obtain ⟨rfl, rfl, rfl⟩ := trodAll_nil r1
  obtain rfl : args = #[v0, v1] := by cases args; simp_all
  obtain ⟨rfl, rfl⟩ := trodVars_none hV
  obtain ⟨a0, len0, cap0, rfl⟩ := okWide_slice Try.underlying56 (hval 0 56 v0 rfl rfl)
  have k0 := h0
  have lt0 : ∀ x ∈ p0, x.block < W.heap.size := by obtain ⟨m, hm⟩ := k0; exact DataW.trod_lt m _ _ _ hm
  have hM : ∀ y ∈ d0.weights Try.prog 56, y ≤ reachBytes := fun y hy => by
    have := List.all_eq_true.1 hsz y (DataW.weights_mem_each (j := 0) (t := 56) (d := d0) (by rw [Try.params5]; rfl) rfl y hy)
    simpa using this
  obtain ⟨z0, w0⟩ := open_frs h0 hM
  obtain ⟨a1, len1, cap1, rfl⟩ := okWide_slice Try.underlying31 (hval 1 31 v1 rfl rfl)
  have k1 := h1
  have lt1 : ∀ x ∈ p1, x.block < W.heap.size := by obtain ⟨m, hm⟩ := k1; exact DataW.trod_lt m _ _ _ hm
  obtain ⟨z1, w1⟩ : ∃ zs, IsRow .u8 W a1 len1 cap1 zs := by
    obtain ⟨fuel, hf⟩ := h1
    rcases open_ints Try.underlying31 Try.underlying5 (by kernel_rfl) hf with ⟨hcs, _⟩ | ⟨x, l, c, zs, hcs, _, hl, hm, hz, _, hcell, hwz⟩
    · simp [Value.cells] at hcs
      obtain ⟨rfl, rfl, rfl⟩ := hcs
      exact ⟨[], .inl ⟨rfl, rfl, rfl, rfl⟩⟩
    · simp [Value.cells] at hcs
      obtain ⟨rfl, rfl, rfl⟩ := hcs
      exact ⟨zs, .inr ⟨_, rfl, hl, hm, by simpa using hz, hcell, hwz⟩⟩
  clear hA0 hval0
  refine (netKeeps_walk W a0 len0 cap0 z0 w0 a1 len1 cap1 z1 w1).mono fun e W' ⟨he, bel⟩ => ?_
  subst he
  exact ⟨_, rfl, _, _, _, [], _, [], hW', trodAll_mk1 (shut_bool Try.underlying4 _), (trodAll_cons_mk (Below.trod laidOut (by kernel_rfl) (of_decide_eq_true (by kernel_rfl)) k0 bel lt0) (trodAll_cons_mk (Below.trod laidOut (by kernel_rfl) (of_decide_eq_true (by kernel_rfl)) k1 bel lt1) trodAll_mk0)), rfl, bel.frame _, fun h => by cases h⟩

theorem netKeeps_holds : Rows.NetKeepsSaid :=
  OpenClaim.holds_of_wide 5 Try.f5 rfl rfl rfl rfl rfl rfl rfl ⟨rfl, rfl, rfl, rfl, rfl⟩ rfl rfl rfl rfl rfl (by kernel_rfl) Try.func5 (by kernel_rfl)
    (of_decide_eq_true (by kernel_rfl)) (by unfold Func.isWrapper; first | (rw [if_pos (by decide +kernel)]; kernel_rfl) | (rw [if_neg (by decide +kernel)]; exact ⟨rfl, rfl⟩))
    (fun os started H enc _ => netKeeps_lifted os started H enc)

end Go.Proofs.Ytiphkndahoageaa
