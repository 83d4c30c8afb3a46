/-
  For every n and b: a body of MaxBody - 2 to MaxBody bytes has a frame and is read out of it, one of one or two more has none and its bytes with four more are refused as too long: FrameLimits returns true, whatever its arguments, where the table of the sum lies as the program's text lays it, and changes nothing that was there.
-/
import Derived.Test.YtekdjebehieekaaDoorGd
import Derived.Test.YtekdjebehieekaaDoorGg
namespace Go.Proofs.YtekdjebehieekaaDoor
open Go.ChangeShapes Go.WideShapes Go.ChangeAt Go.RowKit
set_option linter.unusedVariables false

theorem made_row (w : World) (n : Nat) (hL : n ≤ 100000) : (w.alloc (.cells (madeCells #[.int .u8 0] n) 5)).ownsRow w.heap.size 5 1 (.slice (some ⟨w.heap.size, 0, none⟩) n n) n (vrow (List.replicate n 0)) := by
  have hr := World.ownsRow_lit (base := w.heap.size) (e := 5) (size := 1) w (madeCells #[.int .u8 0] n) n (Nat.le_refl _) (by unfold maxLen; omega) (by simp [size_madeCells])
  have e : (madeCells #[.int .u8 0] n).toList = vrow (List.replicate n 0) := by
    rw [toList_madeCells_one]; simp [vrow]
  rw [e] at hr
  exact hr
/-- Open of bytes that are long enough and not too long -/
theorem open_mid (w : World) (ao : Option Addr) (cap d : Nat) (P : List Nat) (h : In w ao (d + 4) cap P) (hL : d ≤ 4096) (ht : Tab w) :
    Calls Tryd.prog 17 #[.slice ao (d + 4) cap] w fun e w' => ∃ v' c, e = .returned (.tuple #[v', .int .i64 c]) ∧ (c = 0 ∨ c = 6) ∧ Fr Nobody w w' := by
  by_cases hne : bnum (P.drop d) = crc (P.take d)
  · refine (open_ok w ao cap d P h hL ht hne).mono ?_
    rintro e w' ⟨v', rfl, _, hf, _⟩
    exact ⟨v', 0, rfl, .inl rfl, hf⟩
  · refine (open_sum w ao cap d P h hL ht hne).mono ?_
    rintro e w' ⟨rfl, rfl⟩
    exact ⟨_, 6, rfl, .inr rfl, Fr.refl _ _⟩
theorem frm_opens (R : List Nat) (m : Nat) (h : R.length = m) : bnum ((frm R).drop m) = crc ((frm R).take m) ∧ (frm R).take m = R := by
  unfold frm
  subst h
  rw [List.drop_left, List.take_left]
  exact ⟨bnum_le4 _ (crc_lt R), rfl⟩

/-- the row of bytes, filled -/
def Filled (w wr : World) (k : Nat) : Prop := ∃ Q, wr.ownsRow w.heap.size 5 1 (.slice (some ⟨w.heap.size, 0, none⟩) k k) k (vrow Q) ∧ Q.length = k ∧ (∀ x ∈ Q, x < 256) ∧ Fr Nobody w wr

theorem vrow_four : vrow [0, 0, 0, 0] = [.int .u8 0, .int .u8 0, .int .u8 0, .int .u8 0] := rfl
theorem cell_four (w : World) (t : TypeId) : ∀ j u, (vrow [0, 0, 0, 0])[j]? = some u → (w.alloc (.cells #[.int .u8 0, .int .u8 0, .int .u8 0, .int .u8 0] t)).cell? ((⟨w.heap.size, 0, none⟩ : Addr).add j) = some u := by
  intro j u hu
  rw [addr_add, Nat.zero_add, cell_of_row _ _ _ _ _ _ (heap_alloc_new w _)]
  have e : (#[Value.int .u8 0, .int .u8 0, .int .u8 0, .int .u8 0] : Array Value) = (vrow [0, 0, 0, 0]).toArray := rfl
  rw [e, List.getElem?_toArray, hu]

set_option maxHeartbeats 2000000 in
set_option maxRecDepth 100000 in
theorem frameLimits_long (w : World) (n b k : Nat) (hn : n < 256) (hb : b < 256) (ht : Tab w) (hk : 4094 + (n : Int) % 5 = (k : Int)) (hk1 : 4096 < k) (hk2 : k ≤ 4098) :
    Calls Tryd.prog 7 #[.int .u8 (n : Int), .int .u8 (b : Int)] w fun e w' => e = .returned (.bool true) ∧ Fr Nobody w w' := by
  obtain ⟨i0, hi, hz0, hz1, hz2⟩ := info_parts Tryd.infoB
  have HT : Hid (Tab w) := ht
  have hmk := make_bytes k (by omega)
  clear ht
  go_enter Tryd.func7, Tryd.ntmps7
  go_wp2_with fail
  refine (awake_any w HT.out).mono ?_
  rintro e w1 ⟨rfl, hf⟩
  have HF : Hid _ := hf
  clear hf
  go_wp2_with fail
  clear hmk
  go_loopw [25] (fun c wr => ∃ j : Nat, j ≤ k ∧ c = .int .i64 j ∧ Filled w1 wr k) (fun c _ => k - (intOf c).toNat)
  case atStart => exact ⟨0, Nat.zero_le _, rfl, _, made_row w1 k (by omega), by simp, by simp, (Fr.refl _ w1).alloc _⟩
  case round =>
    obtain ⟨j, hj, rfl, Q, ho, hq1, hq2, hfw⟩ := hrel
    by_cases hlt : j < k
    · have HQ : Hid (Filled w1 (wr.setCell ⟨w1.heap.size, j, none⟩ (.int .u8 (b : Int))) k) := by
        refine ⟨Q.set j b, ?_, by rw [List.length_set]; exact hq1, ?_, hfw.setCell (.inr (Nat.le_refl _)) _⟩
        · rw [vrow_set]; exact (ho.stored j _).1
        · intro x hx
          rcases List.mem_or_eq_of_mem_set hx with hx | hx
          · exact hq2 x hx
          · rw [hx]; exact hb
      obtain ⟨u, cx⟩ : ∃ u, wr.cell? ⟨w1.heap.size, j, none⟩ = some u := by
        rw [ho.cellAt j (by omega), getElem?_vrow, List.getElem?_eq_getElem (by omega)]; exact ⟨_, rfl⟩
      have fx : wr.frozen? ⟨w1.heap.size, j, none⟩ = false := ho.frozenAt _
      clear ho hq1 hq2 hfw
      go_wp2
      exact ⟨⟨j + 1, by omega, by go_num, HQ.out⟩, by simp [intOf]; omega⟩
    · have HQ : Hid (In wr (some ⟨w1.heap.size, 0, none⟩) k k Q) := In.of_row ho hq1 hq2
      have HW : Hid (Fr Nobody w wr) := HF.out.trans hfw
      clear ho hfw
      go_wp2_with fail
      refine (seal_long wr _ k k hk1 (by unfold maxLen; omega)).mono ?_
      rintro e w3 ⟨rfl, rfl⟩
      go_wp2_with (at_builtin; refine copy_bytes rfl _ _ rfl _ k k Q HQ.out.src HQ.out.eqn (by omega) rfl rfl ?_)
      intro v4 w4 ho4 hf4
      have H4 : Hid (w4.ownsRow w.heap.size 5 1 v4 k (vrow Q) ∧ Fr Nobody w w4) := ⟨row_low ho4 HW.out.size, HW.out.trans hf4⟩
      have hs4 := H4.out.2.size
      clear ho4 hf4
      go_wp2_with (at_builtin; refine wpList_append_own _ rfl _ _ 22 rfl w.heap.size 5 i0 (.int .u8 0) 1 1 Tryd.underlying22 hi hz0 hz1 hz2 rfl (by decide) _ _ _ rfl (H4.out.1.alloc _) ⟨w4.heap.size, 0, none⟩ 4 4 (vrow [0, 0, 0, 0]) rfl rfl (cell_four _ _) (one_vrow _) (by unfold maxLen; omega) (by omega) (by simp; omega) ?_)
      intro v5 w5 ho5 hg5 _
      have H5 : Hid (Fr Nobody w w5) := (H4.out.2.alloc _).grown hg5 (fun q hq => .inr (H4.out.1.lt q hq).1)
      obtain ⟨g5, c5, hv5, hb5⟩ := row_shape ho5 (by omega)
      subst hv5
      clear ho5 hg5
      go_wp2_with fail
      refine (open_long w5 _ c5 (k + 4) (by omega) (by unfold maxLen; omega)).mono ?_
      rintro e w6 ⟨rfl, rfl⟩
      go_wp2
      go_ret
      exact ⟨rfl, H5.out⟩

set_option maxHeartbeats 2000000 in
set_option maxRecDepth 100000 in
theorem frameLimits_fits (w : World) (n b k : Nat) (hn : n < 256) (hb : b < 256) (ht : Tab w) (hk : 4094 + (n : Int) % 5 = (k : Int)) (hk0 : 4094 ≤ k) (hk1 : k ≤ 4096) :
    Calls Tryd.prog 7 #[.int .u8 (n : Int), .int .u8 (b : Int)] w fun e w' => e = .returned (.bool true) ∧ Fr Nobody w w' := by
  obtain ⟨i0, hi, hz0, hz1, hz2⟩ := info_parts Tryd.infoB
  have HT : Hid (Tab w) := ht
  have hmk := make_bytes k (by omega)
  clear ht
  go_enter Tryd.func7, Tryd.ntmps7
  go_wp2_with fail
  refine (awake_any w HT.out).mono ?_
  rintro e w1 ⟨rfl, hf⟩
  have HF : Hid _ := hf
  clear hf
  go_wp2_with fail
  clear hmk
  go_loopw [25] (fun c wr => ∃ j : Nat, j ≤ k ∧ c = .int .i64 j ∧ Filled w1 wr k) (fun c _ => k - (intOf c).toNat)
  case atStart => exact ⟨0, Nat.zero_le _, rfl, _, made_row w1 k (by omega), by simp, by simp, (Fr.refl _ w1).alloc _⟩
  case round =>
    obtain ⟨j, hj, rfl, Q, ho, hq1, hq2, hfw⟩ := hrel
    by_cases hlt : j < k
    · have HQ : Hid (Filled w1 (wr.setCell ⟨w1.heap.size, j, none⟩ (.int .u8 (b : Int))) k) := by
        refine ⟨Q.set j b, ?_, by rw [List.length_set]; exact hq1, ?_, hfw.setCell (.inr (Nat.le_refl _)) _⟩
        · rw [vrow_set]; exact (ho.stored j _).1
        · intro x hx
          rcases List.mem_or_eq_of_mem_set hx with hx | hx
          · exact hq2 x hx
          · rw [hx]; exact hb
      obtain ⟨u, cx⟩ : ∃ u, wr.cell? ⟨w1.heap.size, j, none⟩ = some u := by
        rw [ho.cellAt j (by omega), getElem?_vrow, List.getElem?_eq_getElem (by omega)]; exact ⟨_, rfl⟩
      have fx : wr.frozen? ⟨w1.heap.size, j, none⟩ = false := ho.frozenAt _
      clear ho hq1 hq2 hfw
      go_wp2
      exact ⟨⟨j + 1, by omega, by go_num, HQ.out⟩, by simp [intOf]; omega⟩
    · have HQ : Hid (In wr (some ⟨w1.heap.size, 0, none⟩) k k Q) := In.of_row ho hq1 hq2
      have HW : Hid (Fr Nobody w wr) := HF.out.trans hfw
      clear ho hfw
      go_wp2_with fail
      refine (seal_ok wr _ k k Q HQ.out hk1 (HT.out.quiet HW.out)).mono ?_
      rintro e w3 ⟨g3, c3, rfl, ho3, hf3⟩
      have HW3 : Hid (Fr Nobody w w3) := HW.out.trans hf3
      have HQ3 : Hid (In w3 (some ⟨w1.heap.size, 0, none⟩) k k Q) := HQ.out.quiet hf3
      have HI3 : Hid (In w3 (some ⟨g3, 0, none⟩) (k + 4) c3 (frm Q)) := In.of_row ho3 (by rw [length_frm, hq1]) (frm_byte Q hq2)
      clear ho3 hf3
      go_wp2_with (at_builtin; refine copy_bytes rfl _ _ rfl _ k k Q HQ3.out.src HQ3.out.eqn (by omega) rfl rfl ?_)
      intro v4 w4 ho4 hf4
      have H4 : Hid (w4.ownsRow w3.heap.size 5 1 v4 k (vrow Q) ∧ Fr Nobody w3 w4) := ⟨ho4, hf4⟩
      have hs4 := H4.out.2.size
      clear ho4 hf4
      go_wp2_with (at_builtin; refine wpList_append_own _ rfl _ _ 22 rfl w3.heap.size 5 i0 (.int .u8 0) 1 1 Tryd.underlying22 hi hz0 hz1 hz2 rfl (by decide) _ _ _ rfl (H4.out.1.alloc _) ⟨w4.heap.size, 0, none⟩ 4 4 (vrow [0, 0, 0, 0]) rfl rfl (cell_four _ _) (one_vrow _) (by unfold maxLen; omega) (by omega) (by simp; omega) ?_)
      intro v5 w5 ho5 hg5 _
      have H5 : Hid (Fr Nobody w3 w5) := (H4.out.2.alloc _).grown hg5 (fun q hq => .inr (H4.out.1.lt q hq).1)
      obtain ⟨g5, c5, hv5, hb5⟩ := row_shape ho5 (by omega)
      subst hv5
      have HI5 : Hid (In w5 (some ⟨g5, 0, none⟩) (k + 4) c5 (Q ++ [0, 0, 0, 0])) := by
        refine In.of_row (B := w3.heap.size) ?_ (by rw [List.length_append, hq1]; rfl) ?_
        · rw [vrow_append]; exact ho5
        · intro x hx
          rcases List.mem_append.1 hx with hx | hx
          · exact hq2 x hx
          · simp at hx; omega
      clear ho5 hg5
      go_wp2_with fail
      refine (open_mid w5 _ c5 k _ HI5.out hk1 ((HT.out.quiet HW3.out).quiet H5.out)).mono ?_
      rintro e w6 ⟨v6, c6, rfl, hc6, hf6⟩
      have H6 : Hid (Fr Nobody w3 w6) := H5.out.trans hf6
      have hc3 : (c6 != 3) = true := by rcases hc6 with rfl | rfl <;> rfl
      clear hf6 hc6
      go_wp2_with fail
      obtain ⟨hop1, hop2⟩ := frm_opens Q k hq1
      refine (open_ok w6 _ c3 k _ (HI3.out.quiet H6.out) hk1 ((HT.out.quiet HW3.out).quiet H6.out) hop1).mono ?_
      rintro e w7 ⟨v7, rfl, ho7, hf7, _⟩
      rw [hop2] at ho7
      have H7 : Hid (Fr Nobody w3 w7) := H6.out.trans hf7
      have HS7 : Hid (Src w7 v7 Q.length (vrow Q)) := by
        rw [hq1]; exact Src.of_row ho7
      have HS8 : Hid _ := (HQ3.out.quiet H7.out).src
      clear ho7 hf7 hop1 hop2
      go_wp2_with fail
      refine (same_any w7 _ _ Q HS7.out HS8.out).mono ?_
      rintro e w8 ⟨rfl, rfl⟩
      go_wp2
      go_ret
      exact ⟨rfl, HW3.out.trans H7.out⟩

theorem frameLimits_walk (w : World) (ht : Tab w) (a0 : Int) (w0 : (Lit.int .u8 a0).wf = true) (a1 : Int) (w1 : (Lit.int .u8 a1).wf = true) :
    Calls Tryd.prog 7 #[.int .u8 a0, .int .u8 a1] w fun e w' => e = .returned (.bool true) ∧ Below w.heap.size w w' := by
  obtain ⟨n, rfl, hn⟩ := u8_rng w0
  obtain ⟨b, rfl, hb⟩ := u8_rng w1
  have fin : Calls Tryd.prog 7 #[.int .u8 (n : Int), .int .u8 (b : Int)] w fun e w' => e = .returned (.bool true) ∧ Fr Nobody w w' := by
    by_cases c : 4094 + n % 5 ≤ 4096
    · exact frameLimits_fits w n b (4094 + n % 5) hn hb ht (by omega) (by omega) c
    · exact frameLimits_long w n b (4094 + n % 5) hn hb ht (by omega) (by omega) (by omega)
  refine fin.mono ?_
  rintro e w' ⟨rfl, hf⟩
  exact ⟨rfl, hf.below (Nat.le_refl _) (fun _ _ => id)⟩

theorem frameLimits_lifted (os : Os) (started : os.Started) (H : Type) (enc : TypeId × Value → H) :
    ReturnsInHanded {} Tryd.checked os 7 .any (fun w args => (Rows.frameLimitsSpec.pre enc Tryd.prog Tryd.f7 [] false w args ∧ laidMetH Tryd.prog laid1 w) ∧ sizedMet enc Tryd.prog Tryd.f7 (OpenSpec.ofChange Rows.frameLimitsSpec) false w args) (Rows.frameLimitsSpec.post enc Tryd.prog Tryd.f7 false true false false) := by
  refine returnsInHanded_of_change_and (C := Tryd.checked) (X := fun w _ => laidMetH Tryd.prog laid1 w) (fun _ _ _ hh h => h.of_heap hh) own started (by kernel_rfl) Tryd.func7
    (ChangeSpec.witness_shaped (enc := enc) (C := Tryd.checked) (os := os) (X := fun w _ => laidMetH Tryd.prog laid1 w) false (World.doorLaid Tryd.prog 400 os) #[.int .u8 0, .int .u8 0] 8 rfl (World.shaped_of_RefB (by kernel_rfl) (by kernel_rfl)) (by kernel_rfl) (by kernel_rfl) (by kernel_rfl) (door_met os _)) ?_
  intro W base args ds gs before hval0 hW _ _ hL _
  have hval : ∀ (j : Nat) t v, Tryd.f7.params[j]? = some t → args[j]? = some v → Value.okWide Tryd.prog W .any base t v := hval0
  have hW' := hW
  obtain ⟨p, q, hA0, hV, rfl, hfz, hnd⟩ := hW
  have hA : DataW.TrodAll enc Tryd.prog W 0 (fun _ => true) true Tryd.f7.params.toList args.toList ds p := hA0
  rw [Tryd.params7] at hA hval
  obtain ⟨v0, vs0, d0, ds0, p0, q0, hargs, rfl, rfl, h0, r0⟩ := trodAll_cons hA
  obtain ⟨v1, vs1, d1, ds1, p1, q1, rfl, rfl, rfl, h1, r1⟩ := trodAll_cons r0
  obtain ⟨rfl, rfl, rfl⟩ := trodAll_nil r1
  obtain rfl : args = #[v0, v1] := by cases args; simp_all
  obtain ⟨rfl, rfl⟩ := trodVars_none hV
  obtain ⟨a0, rfl, rfl, rfl, w0⟩ := open_int Tryd.underlying5 (hval 0 5 v0 rfl rfl) h0
  obtain ⟨a1, rfl, rfl, rfl, w1⟩ := open_int Tryd.underlying5 (hval 1 5 v1 rfl rfl) h1
  clear hA0 hval0
  refine (frameLimits_walk W (of_laid hL) a0 w0 a1 w1).mono fun e W' ⟨he, bel⟩ => ?_
  subst he
  exact ⟨_, rfl, _, _, _, [], _, [], hW', trodAll_mk1 (shut_bool Tryd.underlying4 _), (trodAll_cons_mk (shut_int Tryd.underlying5 w0) (trodAll_cons_mk (shut_int Tryd.underlying5 w1) trodAll_mk0)), rfl, bel.frame _, fun h => by cases h⟩

theorem frameLimits_row : Rows.FrameLimitsSaid :=
  OpenClaim.holds_of_wide 7 Tryd.f7 rfl rfl rfl rfl rfl rfl rfl ⟨rfl, rfl, rfl, rfl, rfl⟩ rfl rfl rfl rfl rfl (by kernel_rfl) Tryd.func7 (by kernel_rfl)
    (of_decide_eq_true (by kernel_rfl)) (by unfold Func.isWrapper; first | (rw [if_pos (by decide +kernel)]; kernel_rfl) | (rw [if_neg (by decide +kernel)]; exact ⟨rfl, rfl⟩))
    (fun os started H enc _ => frameLimits_lifted os started H enc)

theorem frameLimits_holds : Rows.FrameLimitsCardSaid :=
  Claim7.holds_tied_plain_at .later [] [.data] true (true, "dc3f316d42b1e05479d7fa2384e8bf57c16cf6ad2264c95d5d38ad7805788d4b") false
    frameLimits_row (fun _ h => by cases h) (by kernel_rfl) (fun _ h => by cases h) frameLimits_row_tie rfl ⟨rfl, rfl⟩ (by kernel_rfl) rfl
    (fun f fn hf hfn => by
      obtain rfl : f = 7 := Option.some.inj ((show Tryd.prog.funcNamed "pinnace/pinnacelaw03.FrameLimits" = some 7 by kernel_rfl).symm.trans hf) |>.symm
      obtain rfl : fn = Tryd.f7 := (Option.some.inj (Tryd.func7.symm.trans hfn)).symm
      exact ⟨by kernel_rfl, fun j t ht => by
        rw [Tryd.params7] at ht
        have hm : t ∈ [5, 5] := by simpa using Array.mem_of_getElem? ht
        have hall : ([5, 5].all fun u => !Tryd.prog.wantsStandIn u) = true := by kernel_rfl
        exact (show Tryd.prog.wantsStandIn t = false by simpa using List.all_eq_true.1 hall t hm)⟩)
    (by kernel_rfl)

end Go.Proofs.YtekdjebehieekaaDoor
