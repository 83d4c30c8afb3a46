/-
  Who moves within its cell changes nothing, and who goes there and back is where it was: CellsStill returns true, whatever its arguments, where the table of the components lies as the program's text lays it, and changes nothing that was there.
-/
import Derived.Test.YthokgjkgfolojaaDoorCem
import Derived.OpenShut
import Derived.SevenTiedAt
namespace Go.Proofs.YthokgjkgfolojaaDoor
open Go.ChangeShapes Go.WideShapes Go.ChangeAt Go.RowKit
set_option linter.unusedVariables false
set_option maxRecDepth 100000

set_option maxHeartbeats 16000000 in
theorem cellsStill_fr (w : World) (ht : Tab w) (ao : Option Addr) (len cap : Nat) (Q : List Opq) (hQ : IsOps w ao len cap Q) (id : Nat) (hid : id < 4294967296) (x y x2 y2 : Int) (hx : I32 x) (hy : I32 y) :
    Calls Tryd.prog 6 #[.slice ao len cap, .int .u32 (id : Int), .int .i32 x, .int .i32 y, .int .i32 x2, .int .i32 y2] w fun e w' => e = .returned (.bool true) ∧ Fr Nobody w w' := by
  have hlen : len ≤ 9223372036854775807 := by have h1 := hQ.2.1; have h2 := hQ.2.2.1; unfold maxLen at h2; omega
  have HIX : Hid (IsOps w ao len cap Q) := hQ
  obtain ⟨cx, hcx⟩ : ∃ cx, cx = cel x := ⟨_, rfl⟩
  obtain ⟨cy, hcy⟩ : ∃ cy, cy = cel y := ⟨_, rfl⟩
  have HX : Hid (∀ W, Calls Tryd.prog 8 #[.int .i32 x] W fun e w' => e = .returned (.int .i64 cx) ∧ w' = W) := fun W => by rw [hcx]; exact of_ok W x hx
  have HY : Hid (∀ W, Calls Tryd.prog 8 #[.int .i32 y] W fun e w' => e = .returned (.int .i64 cy) ∧ w' = W) := fun W => by rw [hcy]; exact of_ok W y hy
  clear hcx hcy hx hy
  have HT : Hid (Tab w) := ht
  have HQ : Hid (IsOps w ao len cap Q) := hQ
  have HA : Hid (Calls _ _ _ _ _) := awake16 w ht
  have HN : Hid (∀ w', Fr Nobody w w' → Calls Tryd.prog 11 #[] w' fun e w'' => ∃ g, e = .returned (.pointer (some ⟨g, 0, none⟩)) ∧ Own w w'' (Grid g [] 1000 :: [])) := fun w' hf => gnew w w' [] (Own.of_fr hf) 1000
  clear ht hQ
  go_enter Tryd.func6, Tryd.ntmps6
  go_wp2_with fail
  refine HA.out.mono ?_
  rintro e v1 ⟨rfl, hf⟩
  have H0 : Hid (Calls _ _ _ _ _) := HN.out v1 hf
  clear hf HA HN
  go_wp2_with fail
  refine H0.out.mono ?_
  rintro e v2 ⟨g, rfl, h1⟩
  have H1 : Hid (Own w v2 (Grid g [] 1000 :: [])) := h1
  clear h1 H0
  go_wp2
  go_loopw [23] (fun vi wr => ∃ j : Nat, j ≤ len ∧ vi = .int .i64 (j : Int) ∧ Own w wr (Grid g (plays (Q.take (min j 80))) 1000 :: []) ∧ GAll (plays (Q.take (min j 80))) 80) (fun vi _ => len - (iOf vi).toNat)
  case atStart => exact ⟨0, Nat.zero_le _, rfl, H1.out, GAll.nil.mono (by decide)⟩
  case round =>
    obtain ⟨j, hj, rfl, hO, hGA⟩ := hrel
    by_cases hlt : j < len
    · have hlt' : (j : Int) < (len : Int) := by omega
      obtain ⟨gs, os, q, rfl, hq, d1, d2, d3, d4, c0, c1, c2, c3⟩ := op_cells HQ.out hO.fr hlt
      by_cases hj80 : j < 80
      · have hj80' : (j : Int) < 80 := by omega
        have hst := take_step hq hj80
        have HST : Hid (plays (Q.take (min (j + 1) 80)) = pstep (plays (Q.take (min j 80))) q) := hst
        obtain ⟨L, hL⟩ : ∃ L, L = plays (Q.take (min j 80)) := ⟨_, rfl⟩
        rw [← hL] at hO hGA HST
        have hGL : GAll L j := by
          rw [hL]
          exact plays_all HQ.out (by omega)
        have HGN : Hid (GAll (pstep L q) 80) := (hGL.put q d2).mono (by omega)
        have hA := hO.allocC #[.int .u8 (q.d : Int), .int .u32 (q.i : Int), .int .i32 q.x, .int .i32 q.y] 32
        have HP : Hid (Calls _ _ _ _ _) := gput_any w _ _ g 1000 L hA.two hGA.ok HT.out q.i d2 q.x q.y (by have := hGA.len; omega) (by unfold maxLen; decide)
        obtain ⟨qd, hqd⟩ : ∃ qd : Nat, qd = q.d := ⟨_, rfl⟩
        obtain ⟨qi, hqi⟩ : ∃ qi : Nat, qi = q.i := ⟨_, rfl⟩
        obtain ⟨qx, hqx⟩ : ∃ qx : Int, qx = q.x := ⟨_, rfl⟩
        obtain ⟨qy, hqy⟩ : ∃ qy : Int, qy = q.y := ⟨_, rfl⟩
        obtain ⟨pe, hpe⟩ : ∃ pe, pe = putE q.i q.x q.y := ⟨_, rfl⟩
        have HPS : Hid (pstep L q = if pe = 0 then putL L (q.i, q.x, q.y) else L) := by show _ = _; rw [hpe]; rfl
        rw [← hpe] at HP
        rw [← HPS.out] at HP
        rw [← hqd] at c0 HP
        rw [← hqi] at c1 HP
        rw [← hqx] at c2 HP
        rw [← hqy] at c3 HP
        clear hA hO hst hq hL hGL hpe hGA d1 d2 d3 d4 HPS hqd hqi hqx hqy
        go_wp2_with fail
        refine HP.out.mono ?_
        rintro e w2 ⟨rfl, hO2⟩
        have HO2 : Hid (Own w w2 (Grid g (pstep L q) 1000 :: [])) := hO2.two.tail
        clear hO2 HP c0 c1 c2 c3
        go_wp2
        go_roundw
        case rel => exact ⟨j + 1, by omega, by go_num, by rw [HST.out]; exact HO2.out, by rw [HST.out]; exact HGN.out⟩
        case measure => simp [iOf]; omega
      · have hj80' : ¬ (j : Int) < 80 := by omega
        have HST : Hid (plays (Q.take (min (j + 1) 80)) = plays (Q.take (min j 80))) := take_stay hj80
        have hA := hO.alloc (.cells #[.int .u8 (q.d : Int), .int .u32 (q.i : Int), .int .i32 q.x, .int .i32 q.y] 32)
        have HA : Hid (Own w _ _) := hA
        have HGA : Hid (GAll _ 80) := hGA
        generalize q.d = qd at *
        generalize q.i = qi at *
        generalize q.x = qx at *
        generalize q.y = qy at *
        clear hA hO hGA hq d1 d2 d3 d4
        go_wp2
        go_roundw
        case rel => exact ⟨j + 1, by omega, by go_num, by rw [HST.out]; exact HA.out, by rw [HST.out]; exact HGA.out⟩
        case measure => simp [iOf]; omega
    · have hlt' : ¬ (j : Int) < (len : Int) := by omega
      obtain ⟨L, hL⟩ : ∃ L, L = plays (Q.take (min j 80)) := ⟨_, rfl⟩
      rw [← hL] at hO hGA
      clear hL H1 hj hlt
      have HX1 : Hid (Calls _ _ _ _ _) := gput_any w wr [] g 1000 L hO hGA.ok HT.out id hid x y (by have := hGA.len; omega) (by unfold maxLen; decide)
      have hpz : putE id x y = 0 → GAll (putL L (id, x, y)) 81 ∧ inW x y = true := fun hp => by
        obtain ⟨h0, hw⟩ := putE_zero hp
        exact ⟨⟨hGA.ok.put _ _ _ hid hw, hGA.inn.put _ _ _ hw, by have := len_put_le hGA.ok.1 (id, x, y); have := hGA.len; omega⟩, hw⟩
      by_cases hp : putE id x y = 0
      · obtain ⟨hG1, hw⟩ := hpz hp
        rw [hp] at HX1
        obtain ⟨L1, hL1⟩ : ∃ L1, L1 = putL L (id, x, y) := ⟨_, rfl⟩
        have HX1' : Hid (Calls Tryd.prog 13 #[.pointer (some ⟨g, 0, none⟩), .int .u32 (id : Int), .int .i32 x, .int .i32 y] wr fun e w' => e = .returned (.int .i64 0) ∧ Own w w' (Grid g L1 1000 :: [])) := by rw [hL1]; exact HX1.out
        rw [← hL1] at hG1
        have HG1 : Hid (GAll L1 81) := hG1
        have HP2 : Hid (∀ (W : World) (l : List Thing), Own w W (Grid g L1 1000 :: l) → Calls Tryd.prog 13 #[.pointer (some ⟨g, 0, none⟩), .int .u32 (id : Int), .int .i32 x2, .int .i32 y2] W fun e w' => e = .returned (.int .i64 (putE id x2 y2)) ∧ Own w w' (Grid g (if putE id x2 y2 = 0 then putL L1 (id, x2, y2) else L1) 1000 :: l)) := fun W l h => gput_any w W l g 1000 L1 h hG1.ok HT.out id hid x2 y2 (by have := hG1.len; omega) (by unfold maxLen; decide)
        have HP3 : Hid (putE id x2 y2 = 0 → ∀ (W : World) (l : List Thing), Own w W (Grid g (putL L1 (id, x2, y2)) 1000 :: l) → Calls Tryd.prog 13 #[.pointer (some ⟨g, 0, none⟩), .int .u32 (id : Int), .int .i32 x, .int .i32 y] W fun e w' => e = .returned (.int .i64 0) ∧ Own w w' (Grid g L1 1000 :: l)) := fun h2 W l h => by
          obtain ⟨h0, hw2⟩ := putE_zero h2
          have := gputC w W l g 1000 (putL L1 (id, x2, y2)) h (hG1.ok.put _ _ _ hid hw2) HT.out id hid x y h0 hw (by have := len_put_le hG1.ok.1 (id, x2, y2); have := hG1.len; omega) (by unfold maxLen; decide)
          rw [put_put (id, x, y) (id, x2, y2) rfl, hL1, put_put (id, x, y) (id, x, y) rfl] at this
          rw [hL1]
          exact this
        have HP4 : Hid (∀ (W : World) (l : List Thing), Own w W (Grid g L1 1000 :: l) → Calls Tryd.prog 13 #[.pointer (some ⟨g, 0, none⟩), .int .u32 (id : Int), .int .i32 x, .int .i32 y] W fun e w' => e = .returned (.int .i64 0) ∧ Own w w' (Grid g L1 1000 :: l)) := fun W l h => by
          have := gputC w W l g 1000 L1 h hG1.ok HT.out id hid x y (putE_zero hp).1 hw (by have := hG1.len; omega) (by unfold maxLen; decide)
          rw [hL1, put_put (id, x, y) (id, x, y) rfl] at this
          rw [hL1]
          exact this
        have HAT : Hid (∀ (W : World) (l : List Thing), Own w W (Grid g L1 1000 :: l) → Calls Tryd.prog 21 #[.pointer (some ⟨g, 0, none⟩), .int .i64 cx, .int .i64 cy] W fun e w' => ∃ (ao : Option Addr) (cap : Nat), e = .returned (.slice ao (boxL L1 cx cy cx cy).length cap) ∧ Own w w' (Row 30 1 (.slice ao (boxL L1 cx cy cx cy).length cap) (boxL L1 cx cy cx cy).length (irow .u32 (boxL L1 cx cy cx cy)) :: Grid g L1 1000 :: l)) := fun W l h => gat w W l g 1000 L1 h hG1.ok hG1.inn (by have := hG1.len; omega) cx cy
        have HUS : Hid (∀ (W : World) (l : List Thing), Own w W (Grid g L1 1000 :: l) → Calls Tryd.prog 18 #[.pointer (some ⟨g, 0, none⟩)] W fun e w' => e = .returned (.int .i64 (usedL L1 : Int)) ∧ w' = W) := fun W l h => gused w W l g 1000 L1 h
        obtain ⟨BX, hBX⟩ : ∃ BX, BX = boxL L1 cx cy cx cy := ⟨_, rfl⟩
        rw [← hBX] at HAT
        have hBl : BX.length ≤ 81 := by rw [hBX]; unfold boxL; rw [List.length_map]; exact Nat.le_trans (List.length_filter_le _ _) hG1.len
        obtain ⟨us, hus⟩ : ∃ us, us = usedL L1 := ⟨_, rfl⟩
        rw [← hus] at HUS
        obtain ⟨pe, hpe⟩ : ∃ pe, pe = putE id x2 y2 := ⟨_, rfl⟩
        rw [← hpe] at HP2 HP3
        clear HX1 hO hGA hpz hp hw hL1 hG1 hBX hus hpe HQ hid HT HG1
        go_wp2_with fail
        refine HX1'.out.mono ?_
        rintro e v3 ⟨rfl, h3⟩
        have H3 : Hid (Own w v3 _) := h3
        clear h3 HX1'
        go_wp2_with fail
        refine (HX.out _).mono ?_
        rintro e v4 ⟨rfl, rfl⟩
        go_wp2_with fail
        refine (HY.out _).mono ?_
        rintro e v5 ⟨rfl, rfl⟩
        go_wp2_with fail
        refine (HAT.out _ _ H3.out).mono ?_
        rintro e v6 ⟨ao1, cap1, rfl, h6⟩
        have HU6 : Hid (Calls _ _ _ _ _) := HUS.out v6 _ h6.two
        have H6 : Hid (Own w v6 (Grid g L1 1000 :: _)) := h6.two
        clear h6 H3
        generalize hbn : BX.length = bn at *
        have HBN : Hid (BX.length = bn) := hbn
        clear hbn
        go_wp2_with fail
        refine HU6.out.mono ?_
        rintro e v7 ⟨rfl, rfl⟩
        clear HU6
        go_wp2_with fail
        refine (HP2.out _ _ H6.out).mono ?_
        rintro e v8 ⟨rfl, h8⟩
        by_cases hp0 : pe = 0
        · rw [if_pos hp0] at h8
          have H8 : Hid (Calls _ _ _ _ _) := HP3.out hp0 v8 _ h8
          subst hp0
          clear h8 HP2 HP3 H6
          go_wp2_with fail
          refine H8.out.mono ?_
          rintro e v9 ⟨rfl, h9⟩
          have H9 : Hid (Calls _ _ _ _ _) := HP4.out v9 _ h9
          clear h9 H8 HP4
          go_wp2_with fail
          refine H9.out.mono ?_
          rintro e v10 ⟨rfl, h10⟩
          have H10 : Hid (Own w v10 _) := h10
          clear h10 H9
          go_wp2_with fail
          refine (HX.out _).mono ?_
          rintro e v11 ⟨rfl, rfl⟩
          go_wp2_with fail
          refine (HY.out _).mono ?_
          rintro e v12 ⟨rfl, rfl⟩
          go_wp2_with fail
          refine (HAT.out _ _ H10.out).mono ?_
          rintro e v13 ⟨ao2, cap2, rfl, h13⟩
          have HS : Hid (Calls _ _ _ _ _) := same_ok v13 (.slice ao2 bn cap2) (.slice ao1 bn cap1) BX (by have := HBN.out; subst this; exact Own.nums h13) (by have := HBN.out; subst this; exact Own.nums h13.three) (by have := HBN.out; omega)
          have H13 : Hid (Own w v13 (Grid g L1 1000 :: _)) := h13.two
          clear h13 H10 HAT HX HY
          go_wp2_with fail
          refine HS.out.mono ?_
          rintro e v14 ⟨rfl, hf⟩
          have h14 := H13.out.quiet hf
          have H14 : Hid (Calls _ _ _ _ _) := HUS.out v14 _ h14
          have HF : Hid (Fr Nobody w v14) := h14.fr
          clear h14 hf HS H13 HUS
          go_wp2_with fail
          refine H14.out.mono ?_
          rintro e v15 ⟨rfl, rfl⟩
          go_wp2
          go_ret
          exact ⟨by simp, HF.out⟩
        · rw [if_neg hp0] at h8
          have hp1 : (pe != 0) = true := by simpa using hp0
          have H8 : Hid (Own w v8 _) := h8
          clear h8 HP2 HP3 H6 HP4
          go_wp2_with fail
          refine (HX.out _).mono ?_
          rintro e v11 ⟨rfl, rfl⟩
          go_wp2_with fail
          refine (HY.out _).mono ?_
          rintro e v12 ⟨rfl, rfl⟩
          go_wp2_with fail
          refine (HAT.out _ _ H8.out).mono ?_
          rintro e v13 ⟨ao2, cap2, rfl, h13⟩
          have HS : Hid (Calls _ _ _ _ _) := same_ok v13 (.slice ao2 bn cap2) (.slice ao1 bn cap1) BX (by have := HBN.out; subst this; exact Own.nums h13) (by have := HBN.out; subst this; exact Own.nums h13.three) (by have := HBN.out; omega)
          have HF : Hid (Fr Nobody w v13) := h13.fr
          clear h13 H8 HAT HX HY
          go_wp2_with fail
          refine HS.out.mono ?_
          rintro e v14 ⟨rfl, hf⟩
          have HF2 : Hid (Fr Nobody w v14) := HF.out.trans hf
          clear hf HS HF
          go_wp2
          go_ret
          exact ⟨rfl, HF2.out⟩
      · obtain ⟨pe, hpe⟩ : ∃ pe, pe = putE id x y := ⟨_, rfl⟩
        rw [← hpe] at hp HX1
        rw [if_neg hp] at HX1
        have hp1 : (pe != 0) = true := by simpa using hp
        clear hpz hpe hO hGA
        go_wp2_with fail
        refine HX1.out.mono ?_
        rintro e v3 ⟨rfl, h3⟩
        have HF : Hid (Fr Nobody w v3) := h3.fr
        clear h3 HX1
        go_wp2
        go_ret
        exact ⟨rfl, HF.out⟩
theorem wfI32 {a : Int} (h : (Lit.int .i32 a).wf = true) : I32 a := by
  unfold I32
  simpa [Lit.wf, IntKind.min, IntKind.max, IntKind.signed, IntKind.bits] using h
theorem cellsStill_walk (w : World) (ht : Tab w) (ao : Option Addr) (len cap : Nat) (Q : List Opq) (hQ : IsOps w ao len cap Q) (a1 : Int) (w1 : (Lit.int .u32 a1).wf = true) (a2 : Int) (w2 : (Lit.int .i32 a2).wf = true) (a3 : Int) (w3 : (Lit.int .i32 a3).wf = true) (a4 : Int) (w4 : (Lit.int .i32 a4).wf = true) (a5 : Int) (w5 : (Lit.int .i32 a5).wf = true) :
    Calls Tryd.prog 6 #[.slice ao len cap, .int .u32 a1, .int .i32 a2, .int .i32 a3, .int .i32 a4, .int .i32 a5] w fun e w' => e = .returned (.bool true) ∧ Below w.heap.size w w' := by
  have h1 : 0 ≤ a1 ∧ a1 ≤ 4294967295 := by simpa [Lit.wf, IntKind.min, IntKind.max, IntKind.signed, IntKind.bits] using w1
  obtain ⟨id, rfl⟩ := Int.eq_ofNat_of_zero_le h1.1
  refine (cellsStill_fr w ht ao len cap Q hQ id (by omega) a2 a3 a4 a5 (wfI32 w2) (wfI32 w3)).mono ?_
  rintro e w' ⟨rfl, hf⟩
  exact ⟨rfl, hf.below (Nat.le_refl _) (fun _ _ h => h)⟩
theorem laidOut : laidOutB Tryd.prog = true := by kernel_rfl

set_option maxRecDepth 100000 in
theorem cellsStill_lifted (os : Os) (started : os.Started) (H : Type) (enc : TypeId × Value → H) :
    ReturnsInHanded {} Tryd.checked os 6 .any (fun w args => (Rows.cellsStillSpec.pre enc Tryd.prog Tryd.f6 [] false w args ∧ laidMetH Tryd.prog laid1 w) ∧ sizedMet enc Tryd.prog Tryd.f6 (OpenSpec.ofChange Rows.cellsStillSpec) false w args) (Rows.cellsStillSpec.post enc Tryd.prog Tryd.f6 false true false false) := by
  refine returnsInHanded_of_change_and (C := Tryd.checked) (X := fun w _ => laidMetH Tryd.prog laid1 w) (fun _ _ _ hh h => h.of_heap hh) own started (by kernel_rfl) Tryd.func6
    (ChangeSpec.witness_shaped (enc := enc) (C := Tryd.checked) (os := os) (X := fun w _ => laidMetH Tryd.prog laid1 w) false (World.doorLaid Tryd.prog 400 os) #[.slice none 0 0, .int .u32 0, .int .i32 0, .int .i32 0, .int .i32 0, .int .i32 0] 8 rfl (World.shaped_of_RefB (by kernel_rfl) (by kernel_rfl)) (by kernel_rfl) (by kernel_rfl) (by kernel_rfl) (door_met os _)) ?_
  intro W base args ds gs before hval0 hW _ _ hL _
  have hval : ∀ (j : Nat) t v, Tryd.f6.params[j]? = some t → args[j]? = some v → Value.okWide Tryd.prog W .any base t v := hval0
  have hW' := hW
  obtain ⟨p, q, hA0, hV, rfl, hfz, hnd⟩ := hW
  have hA : DataW.TrodAll enc Tryd.prog W 0 (fun _ => true) true Tryd.f6.params.toList args.toList ds p := hA0
  rw [Tryd.params6] at hA hval
  obtain ⟨v0, vs0, d0, ds0, p0, q0, hargs, rfl, rfl, h0, r0⟩ := trodAll_cons hA
  obtain ⟨v1, vs1, d1, ds1, p1, q1, rfl, rfl, rfl, h1, r1⟩ := trodAll_cons r0
  obtain ⟨v2, vs2, d2, ds2, p2, q2, rfl, rfl, rfl, h2, r2⟩ := trodAll_cons r1
  obtain ⟨v3, vs3, d3, ds3, p3, q3, rfl, rfl, rfl, h3, r3⟩ := trodAll_cons r2
  obtain ⟨v4, vs4, d4, ds4, p4, q4, rfl, rfl, rfl, h4, r4⟩ := trodAll_cons r3
  obtain ⟨v5, vs5, d5, ds5, p5, q5, rfl, rfl, rfl, h5, r5⟩ := trodAll_cons r4
  obtain ⟨rfl, rfl, rfl⟩ := trodAll_nil r5
  obtain rfl : args = #[v0, v1, v2, v3, v4, v5] := by cases args; simp_all
  obtain ⟨rfl, rfl⟩ := trodVars_none hV
  obtain ⟨a0, len0, cap0, rfl⟩ := okWide_slice Tryd.underlying25 (hval 0 25 v0 rfl rfl)
  have k0 := h0
  have lt0 : ∀ x ∈ p0, x.block < W.heap.size := by obtain ⟨m, hm⟩ := k0; exact DataW.trod_lt m _ _ _ hm
  obtain ⟨z0, w0⟩ := open_ops (hval 0 25 _ rfl rfl) h0
  obtain ⟨a1, rfl, rfl, rfl, w1⟩ := open_int Tryd.underlying30 (hval 1 30 v1 rfl rfl) h1
  obtain ⟨a2, rfl, rfl, rfl, w2⟩ := open_int Tryd.underlying21 (hval 2 21 v2 rfl rfl) h2
  obtain ⟨a3, rfl, rfl, rfl, w3⟩ := open_int Tryd.underlying21 (hval 3 21 v3 rfl rfl) h3
  obtain ⟨a4, rfl, rfl, rfl, w4⟩ := open_int Tryd.underlying21 (hval 4 21 v4 rfl rfl) h4
  obtain ⟨a5, rfl, rfl, rfl, w5⟩ := open_int Tryd.underlying21 (hval 5 21 v5 rfl rfl) h5
  clear hA0 hval0
  refine (cellsStill_walk W (of_laid hL) a0 len0 cap0 z0 w0 a1 w1 a2 w2 a3 w3 a4 w4 a5 w5).mono fun e W' ⟨he, bel⟩ => ?_
  subst he
  exact ⟨_, rfl, _, _, _, [], _, [], hW', trodAll_mk1 (shut_bool Tryd.underlying4 _), (trodAll_cons_mk (Below.trod laidOut (by kernel_rfl) (of_decide_eq_true (by kernel_rfl)) k0 bel lt0) (trodAll_cons_mk (shut_int Tryd.underlying30 w1) (trodAll_cons_mk (shut_int Tryd.underlying21 w2) (trodAll_cons_mk (shut_int Tryd.underlying21 w3) (trodAll_cons_mk (shut_int Tryd.underlying21 w4) (trodAll_cons_mk (shut_int Tryd.underlying21 w5) trodAll_mk0)))))), rfl, bel.frame _, fun h => by cases h⟩

theorem cellsStill_row : Rows.CellsStillSaid :=
  OpenClaim.holds_of_wide 6 Tryd.f6 rfl rfl rfl rfl rfl rfl rfl ⟨rfl, rfl, rfl, rfl, rfl⟩ rfl rfl rfl rfl rfl (by kernel_rfl) Tryd.func6 (by kernel_rfl)
    (of_decide_eq_true (by kernel_rfl)) (by unfold Func.isWrapper; first | (rw [if_pos (by decide +kernel)]; kernel_rfl) | (rw [if_neg (by decide +kernel)]; exact ⟨rfl, rfl⟩))
    (fun os started H enc _ => cellsStill_lifted os started H enc)

theorem cellsStill_holds : Rows.CellsStillCardSaid :=
  Claim7.holds_tied_plain_at .later [] [.data] true (true, "57f2681be1c13929572066f5f1e9bb9775a07279498cf8f2992ae601d68506ba") false
    cellsStill_row (fun _ h => by cases h) (by kernel_rfl) (fun _ h => by cases h) cellsStill_row_tie rfl ⟨rfl, rfl⟩ (by kernel_rfl) rfl
    (fun f fn hf hfn => by
      obtain rfl : f = 6 := Option.some.inj ((show Tryd.prog.funcNamed "pinnace/pinnacelaw16.CellsStill" = some 6 by kernel_rfl).symm.trans hf) |>.symm
      obtain rfl : fn = Tryd.f6 := (Option.some.inj (Tryd.func6.symm.trans hfn)).symm
      exact ⟨by kernel_rfl, fun j t ht => by
        rw [Tryd.params6] at ht
        have hm : t ∈ [25, 30, 21, 21, 21, 21] := by simpa using Array.mem_of_getElem? ht
        have hall : ([25, 30, 21, 21, 21, 21].all fun u => !Tryd.prog.wantsStandIn u) = true := by kernel_rfl
        exact (show Tryd.prog.wantsStandIn t = false by simpa using List.all_eq_true.1 hall t hm)⟩)
    (by kernel_rfl)

end Go.Proofs.YthokgjkgfolojaaDoor
