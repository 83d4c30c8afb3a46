/-
  Who is seen is who is there: of any entities at any places just those are visible from a region whose place it sees, by rising IDs: ViewSees returns true, whatever its arguments, where the table of the components lies as the program's text lays it, and changes nothing that was there.
-/
import Derived.Test.YthokgjkgfolojabDoorVim
import Derived.Test.YthokgjkgfolojabDoorVik
import Derived.Deep.RegionHeld3
import Derived.OpenShut
import Derived.SevenTiedAt
namespace Go.Proofs.YthokgjkgfolojabDoor
open Go.ChangeShapes Go.WideShapes Go.ChangeAt Go.RowKit
set_option linter.unusedVariables false
set_option maxRecDepth 100000

set_option maxHeartbeats 32000000 in
theorem viewSees_fr (w : World) (ht : Tab w) (ao : Option Addr) (len cap : Nat) (Q : List Opq) (hQ : IsOps w ao len cap Q) (on : Bool) (x y r : Int) :
    Calls Tryd.prog 3 #[.slice ao len cap, .agg #[.bool on, .int .i64 x, .int .i64 y, .int .i64 r]] w fun e w' => e = .returned (.bool true) ∧ Fr Nobody w w' := by
  have hlen : len ≤ 9223372036854775807 := by have h1 := hQ.2.1; have h2 := hQ.2.2.1; unfold maxLen at h2; omega
  have HT : Hid (Tab w) := ht
  have HQ : Hid (IsOps w ao len cap Q) := hQ
  have hA := (Own.start w).allocC #[.bool on, .int .i64 x, .int .i64 y, .int .i64 r] 24
  have HA : Hid (Own w _ _) := hA
  have HAW : Hid (Calls _ _ _ _ _) := awake17 (w.alloc (.cells #[.bool on, .int .i64 x, .int .i64 y, .int .i64 r] 24))
  clear ht hQ hA
  go_enter Tryd.func3, Tryd.ntmps3
  go_wp2_with fail
  refine HAW.out.mono ?_
  rintro e v1 ⟨rfl, hf⟩
  have H0 : Hid (Calls _ _ _ _ _) := gnew w v1 _ (HA.out.quiet hf) 1000
  clear hf HA HAW
  go_wp2_with fail
  refine H0.out.mono ?_
  rintro e v2 ⟨g, rfl, h1⟩
  generalize w.heap.size = B at *
  have H1 : Hid (Own w v2 (Grid g [] 1000 :: Cells B #[.bool on, .int .i64 x, .int .i64 y, .int .i64 r] 24 :: [])) := h1
  clear h1 H0
  go_wp2
  go_loopw [6, 14] (fun vl vi wr => ∃ (j : Nat) (ao2 : Option Addr) (cap2 : Nat) (L : List Spt) (n : Nat), j ≤ len ∧ vi = .int .i64 (j : Int) ∧ vl = .slice ao2 n cap2 ∧ n = L.length ∧ L = plays (Q.take (min j 60)) ∧ Own w wr (SRow ao2 cap2 L :: Grid g L 1000 :: Cells B #[.bool on, .int .i64 x, .int .i64 y, .int .i64 r] 24 :: []) ∧ GAll L 60) (fun _ vi _ => len - (iOf vi).toNat)
  case atStart => exact ⟨0, none, 0, [], 0, Nat.zero_le _, rfl, rfl, rfl, rfl, H1.out.nilRow _ _, GAll.nil.mono (by decide)⟩
  case round =>
    obtain ⟨j, ao2, cap2, L, n, hj, rfl, rfl, hn, hL, hO, hGA⟩ := hrel
    clear H1
    have hnl : n ≤ 60 := by have := hGA.len; omega
    by_cases hlt : j < len
    · have hlt' : (j : Int) < (len : Int) := by omega
      obtain ⟨gs, os, q, rfl, hq, d1, d2, d3, d4, c0, c1, c2⟩ := op_cells HQ.out hO.fr hlt
      by_cases hj80 : j < 60
      · have hj80' : (j : Int) < 60 := by omega
        have hST := take_step hq hj80
        rw [← hL] at hST
        have hGL : GAll L j := by
          rw [hL]
          exact plays_all HQ.out (by omega)
        have hG1' := (hGL.put q d2).mono (by omega : j + 1 ≤ 60)
        obtain ⟨qd, qi, qx, qy⟩ := q
        simp only at c0 c1 c2 d1 d2 d3 d4
        have hA := hO.allocC #[.int .u32 (qi : Int), .int .i32 qx, .int .i32 qy] 31
        obtain ⟨L1, hL1⟩ : ∃ L1, L1 = pstep L ⟨qd, qi, qx, qy⟩ := ⟨_, rfl⟩
        have hLp : L1 = rputL qi qx qy L := by rw [hL1]; rfl
        have hLg : L1 = (if putE qi qx qy = 0 then putL L (qi, qx, qy) else L) := by rw [hL1]; rfl
        rw [← hL1] at hG1' hST
        have HST : Hid (L1 = plays (Q.take (min (j + 1) 60))) := hST.symm
        obtain ⟨pe, hpe⟩ : ∃ pe, pe = putE qi qx qy := ⟨_, rfl⟩
        obtain ⟨m, hm⟩ : ∃ m, m = L1.length := ⟨_, rfl⟩
        have HGP : Hid (Calls _ _ _ _ _) := gput_any w _ _ g 1000 L hA.three hGA.ok HT.out qi d2 qx qy (by have := hGA.len; omega) (by unfold maxLen; decide)
        rw [← hLg, ← hpe] at HGP
        have HRP : Hid (∀ W l, Own w W (SRow ao2 cap2 L :: l) → Calls Tryd.prog 9 #[.slice ao2 n cap2, .int .u32 (qi : Int), .int .i32 qx, .int .i32 qy] W fun e w' => ∃ (ao' : Option Addr) (cap' : Nat), e = .returned (.tuple #[.slice ao' m cap', .int .i64 pe]) ∧ Own w w' (SRow ao' cap' L1 :: l)) := fun W l h => by
          have := rput_any w W l ao2 cap2 L h hGA.ok.1 (by omega) qi qx qy
          rw [← hLp, ← hpe, ← hn, ← hm] at this
          exact this
        have HM : Hid (m = L1.length) := hm
        have HG1 : Hid (GAll L1 60) := hG1'
        clear hA hO hq hL hGL hpe hGA d1 d2 d3 d4 hL1 hLp hLg hST hm hn hG1' hnl
        go_wp2_with fail
        refine HGP.out.mono ?_
        rintro e w2 ⟨rfl, h2⟩
        have HR2 : Hid (Calls _ _ _ _ _) := HRP.out w2 _ h2.three
        have k0 := h2.two.cell 0
        have k1 := h2.two.cell 1
        have k2 := h2.two.cell 2
        simp at k0 k1 k2
        clear HRP HGP h2 c0 c1 c2
        go_wp2_with fail
        refine HR2.out.mono ?_
        rintro e w3 ⟨a3, cap3, rfl, h3⟩
        have H3 : Hid (Own w w3 (SRow a3 cap3 L1 :: Grid g L1 1000 :: Cells B #[.bool on, .int .i64 x, .int .i64 y, .int .i64 r] 24 :: [])) := h3.three.tail
        clear h3 HR2 k0 k1 k2
        go_wp2
        go_roundw
        case rel => exact ⟨j + 1, a3, cap3, L1, m, by omega, by go_num, rfl, HM.out, HST.out, H3.out, HG1.out⟩
        case measure => simp [iOf]; omega
      · have hj80' : ¬ (j : Int) < 60 := by omega
        have HST : Hid (L = plays (Q.take (min (j + 1) 60))) := by show _ = _; rw [take_stay hj80]; exact hL
        obtain ⟨qd, qi, qx, qy⟩ := q
        simp only at c0 c1 c2 d1 d2 d3 d4
        have hA := hO.alloc (.cells #[.int .u32 (qi : Int), .int .i32 qx, .int .i32 qy] 31)
        have HA : Hid (Own w _ _) := hA
        have HGA : Hid (GAll L 60) := hGA
        have HNL : Hid (n = L.length) := hn
        clear hA hO hGA hq d1 d2 d3 d4 hn hL
        go_wp2
        go_roundw
        case rel => exact ⟨j + 1, ao2, cap2, L, n, by omega, by go_num, rfl, HNL.out, HST.out, HA.out, HGA.out⟩
        case measure => simp [iOf]; omega
    · have hlt' : ¬ (j : Int) < (len : Int) := by omega
      have HG : Hid (GAll L 60) := hGA
      have HNL : Hid (n = L.length) := hn
      have HI : Hid (∀ s ∈ L, I32 s.2.1 ∧ I32 s.2.2) := fun s hs => (HG.out.ok.2 s hs).2
      clear hGA hL hj HQ HT hn
      obtain ⟨X, hX⟩ : ∃ X, X = visL L on x y r := ⟨_, rfl⟩
      obtain ⟨xn, hxn⟩ : ∃ xn, xn = X.length := ⟨_, rfl⟩
      have hx60 : xn ≤ 60 := by rw [hxn, hX]; exact vis_short HG.out.len _ _ _ _
      have HV1 : Hid (∀ W, Own w W (Grid g L 1000 :: SRow ao2 cap2 L :: Cells B #[.bool on, .int .i64 x, .int .i64 y, .int .i64 r] 24 :: []) → Calls Tryd.prog 11 #[.pointer (some ⟨g, 0, none⟩), .agg #[.bool on, .int .i64 x, .int .i64 y, .int .i64 r]] W fun e w' => ∃ (a : Option Addr) (c : Nat), e = .returned (.slice a xn c) ∧ Own w w' (Row 29 1 (.slice a xn c) xn (irow .u32 X) :: Grid g L 1000 :: SRow ao2 cap2 L :: Cells B #[.bool on, .int .i64 x, .int .i64 y, .int .i64 r] 24 :: [])) := fun W h => by
        have := visible_ok w W _ g 1000 L h HG.out.ok HG.out.inn (by have := HG.out.len; omega) on x y r
        unfold IRow at this
        rw [← hX, ← hxn] at this
        exact this
      have HV2 : Hid (∀ W l, Own w W (SRow ao2 cap2 L :: l) → Calls Tryd.prog 12 #[.slice ao2 n cap2, .agg #[.bool on, .int .i64 x, .int .i64 y, .int .i64 r]] W fun e w' => ∃ (a : Option Addr) (c : Nat), e = .returned (.slice a xn c) ∧ Own w w' (Row 29 1 (.slice a xn c) xn (irow .u32 X) :: SRow ao2 cap2 L :: l)) := fun W l h => by
        have := rvisible_ok w W l ao2 cap2 L h (by have := HG.out.len; omega) HI.out on x y r
        unfold IRow at this
        rw [← HNL.out, ← hX, ← hxn] at this
        exact this
      have HV3 : Hid (∀ W, Calls Tryd.prog 11 #[.pointer none, .agg #[.bool on, .int .i64 x, .int .i64 y, .int .i64 r]] W fun e w' => e = .returned (.slice none 0 0) ∧ Fr Nobody W w') := fun W => visible_nil W on x y r
      have HSM : Hid (∀ (W : World) (l1 l2 : List Thing) (a b : Option Addr) (c d : Nat), Own w W (Row 29 1 (.slice a xn c) xn (irow .u32 X) :: l1) → Own w W (Row 29 1 (.slice b xn d) xn (irow .u32 X) :: l2) → Calls Tryd.prog 10 #[.slice a xn c, .slice b xn d] W fun e w' => e = .returned (.bool true) ∧ Fr Nobody W w') := fun W l1 l2 a b c d h1 h2 => by
        subst hxn
        exact same_ok W _ _ X h1.nums h2.nums (by omega)
      have p0 := hO.three.cell 0
      have p1 := hO.three.cell 1
      have p2 := hO.three.cell 2
      have p3 := hO.three.cell 3
      simp at p0 p1 p2 p3
      have H0 : Hid (Own w wr.drew (Grid g L 1000 :: SRow ao2 cap2 L :: Cells B #[.bool on, .int .i64 x, .int .i64 y, .int .i64 r] 24 :: [])) := hO.two.drew
      clear hO hX hxn HI HG HNL
      go_wp2
      go_region_held3 (fun w' => w'.cell? ⟨B, 0, none⟩ = some (.bool on) ∧ w'.cell? ⟨B, 1, none⟩ = some (.int .i64 x) ∧ w'.cell? ⟨B, 2, none⟩ = some (.int .i64 y) ∧ w'.cell? ⟨B, 3, none⟩ = some (.int .i64 r)) (go_keep)
            (first
              | (go_at_call 11; with_reducible refine (HV3.out _).mono ?_; rintro e w9 ⟨rfl, hf9⟩
                 have hO9 := H7.out.quiet hf9
                 have k0 := hO9.tail.four.cell 0
                 have k1 := hO9.tail.four.cell 1
                 have k2 := hO9.tail.four.cell 2
                 have k3 := hO9.tail.four.cell 3
                 simp at k0 k1 k2 k3
                 have H9 : Hid (Own w w9 _) := hO9
                 clear hO9 hf9)
              | (go_at_call 11; with_reducible refine (HV1.out _ H0.out).mono ?_; rintro e w5 ⟨a1, c1, rfl, hO5⟩
                 have b0 := hO5.four.cell 0
                 have b1 := hO5.four.cell 1
                 have b2 := hO5.four.cell 2
                 have b3 := hO5.four.cell 3
                 simp at b0 b1 b2 b3
                 have H5 : Hid (Own w w5 _) := hO5
                 clear hO5)
              | (go_at_call 12; with_reducible refine (HV2.out _ _ H5.out.three).mono ?_; rintro e w6 ⟨a2, c2, rfl, hO6⟩
                 have d0 := hO6.tail.four.cell 0
                 have d1 := hO6.tail.four.cell 1
                 have d2 := hO6.tail.four.cell 2
                 have d3 := hO6.tail.four.cell 3
                 simp at d0 d1 d2 d3
                 have H6 : Hid (Own w w6 _) := hO6
                 clear hO6)
              | (go_at_call 10; with_reducible refine (HSM.out _ _ _ _ _ _ _ H6.out.three H6.out).mono ?_; rintro e w7 ⟨rfl, hf7⟩
                 have hO7 := H6.out.quiet hf7
                 have i0 := hO7.tail.four.cell 0
                 have i1 := hO7.tail.four.cell 1
                 have i2 := hO7.tail.four.cell 2
                 have i3 := hO7.tail.four.cell 3
                 simp at i0 i1 i2 i3
                 have H7 : Hid (Own w w7 _) := hO7
                 clear hO7 hf7))
      have HF : Hid (Fr Nobody w w9) := H9.out.fr
      clear H9 H7 H6 H5 H0
      go_wp2
      go_ret
      exact ⟨by simp, HF.out⟩
theorem viewSees_walk (w : World) (ht : Tab w) (ao : Option Addr) (len cap : Nat) (Q : List Opq) (hQ : IsOps w ao len cap Q) (on : Bool) (x y r : Int) (h1 : ok64 x) (h2 : ok64 y) (h3 : ok64 r) :
    Calls Tryd.prog 3 #[.slice ao len cap, .agg #[.bool on, .int .i64 x, .int .i64 y, .int .i64 r]] w fun e w' => e = .returned (.bool true) ∧ Below w.heap.size w w' := by
  refine (viewSees_fr w ht ao len cap Q hQ on x y r).mono ?_
  rintro e w' ⟨rfl, hf⟩
  exact ⟨rfl, hf.below (Nat.le_refl _) (fun _ _ h => h)⟩
theorem laidOut : laidOutB Tryd.prog = true := by kernel_rfl

set_option maxRecDepth 100000 in
theorem viewSees_lifted (os : Os) (started : os.Started) (H : Type) (enc : TypeId × Value → H) :
    ReturnsInHanded {} Tryd.checked os 3 .any (fun w args => (Rows.viewSeesSpec.pre enc Tryd.prog Tryd.f3 [] false w args ∧ laidMetH Tryd.prog laid1 w) ∧ sizedMet enc Tryd.prog Tryd.f3 (OpenSpec.ofChange Rows.viewSeesSpec) false w args) (Rows.viewSeesSpec.post enc Tryd.prog Tryd.f3 false true false false) := by
  refine returnsInHanded_of_change_and (C := Tryd.checked) (X := fun w _ => laidMetH Tryd.prog laid1 w) (fun _ _ _ hh h => h.of_heap hh) own started (by kernel_rfl) Tryd.func3
    (ChangeSpec.witness_shaped (enc := enc) (C := Tryd.checked) (os := os) (X := fun w _ => laidMetH Tryd.prog laid1 w) false (World.doorLaid Tryd.prog 400 os) #[.slice none 0 0, .agg #[.bool false, .int .i64 0, .int .i64 0, .int .i64 0]] 8 rfl (World.shaped_of_RefB (by kernel_rfl) (by kernel_rfl)) (by kernel_rfl) (by kernel_rfl) (by kernel_rfl) (door_met os _)) ?_
  intro W base args ds gs before hval0 hW _ _ hL _
  have hval : ∀ (j : Nat) t v, Tryd.f3.params[j]? = some t → args[j]? = some v → Value.okWide Tryd.prog W .any base t v := hval0
  have hW' := hW
  obtain ⟨p, q, hA0, hV, rfl, hfz, hnd⟩ := hW
  have hA : DataW.TrodAll enc Tryd.prog W 0 (fun _ => true) true Tryd.f3.params.toList args.toList ds p := hA0
  rw [Tryd.params3] at hA hval
  obtain ⟨v0, vs0, d0, ds0, p0, q0, hargs, rfl, rfl, h0, r0⟩ := trodAll_cons hA
  obtain ⟨v1, vs1, d1, ds1, p1, q1, rfl, rfl, rfl, h1, r1⟩ := trodAll_cons r0
  obtain ⟨rfl, rfl, rfl⟩ := trodAll_nil r1
  obtain rfl : args = #[v0, v1] := by cases args; simp_all
  obtain ⟨rfl, rfl⟩ := trodVars_none hV
  obtain ⟨a0, len0, cap0, rfl⟩ := okWide_slice Tryd.underlying22 (hval 0 22 v0 rfl rfl)
  have k0 := h0
  have lt0 : ∀ x ∈ p0, x.block < W.heap.size := by obtain ⟨m, hm⟩ := k0; exact DataW.trod_lt m _ _ _ hm
  obtain ⟨z0, w0⟩ := open_ops (hval 0 22 _ rfl rfl) h0
  obtain ⟨on1, x1, y1, rr1, rfl, rfl, rfl, wx1, wy1, wr1⟩ := open_region (hval 1 24 v1 rfl rfl) h1
  clear hA0 hval0
  refine (viewSees_walk W (of_laid hL) a0 len0 cap0 z0 w0 on1 x1 y1 rr1 wx1 wy1 wr1).mono fun e W' ⟨he, bel⟩ => ?_
  subst he
  exact ⟨_, rfl, _, _, _, [], _, [], hW', trodAll_mk1 (shut_bool Tryd.underlying4 _), (trodAll_cons_mk (Below.trod laidOut (by kernel_rfl) (of_decide_eq_true (by kernel_rfl)) k0 bel lt0) (trodAll_cons_mk (shut_region wx1 wy1 wr1) trodAll_mk0)), rfl, bel.frame _, fun h => by cases h⟩

theorem viewSees_row : Rows.ViewSeesSaid :=
  OpenClaim.holds_of_wide 3 Tryd.f3 rfl rfl rfl rfl rfl rfl rfl ⟨rfl, rfl, rfl, rfl, rfl⟩ rfl rfl rfl rfl rfl (by kernel_rfl) Tryd.func3 (by kernel_rfl)
    (of_decide_eq_true (by kernel_rfl)) (by unfold Func.isWrapper; first | (rw [if_pos (by decide +kernel)]; kernel_rfl) | (rw [if_neg (by decide +kernel)]; exact ⟨rfl, rfl⟩))
    (fun os started H enc _ => viewSees_lifted os started H enc)

theorem viewSees_holds : Rows.ViewSeesCardSaid :=
  Claim7.holds_tied_plain_at .later [] [.data] true (true, "1cba1285d3d13900080f4e895c1d45178688ff316ec529ff7ce0543ce2837164") false
    viewSees_row (fun _ h => by cases h) (by kernel_rfl) (fun _ h => by cases h) viewSees_row_tie rfl ⟨rfl, rfl⟩ (by kernel_rfl) rfl
    (fun f fn hf hfn => by
      obtain rfl : f = 3 := Option.some.inj ((show Tryd.prog.funcNamed "pinnace/pinnacelaw17.ViewSees" = some 3 by kernel_rfl).symm.trans hf) |>.symm
      obtain rfl : fn = Tryd.f3 := (Option.some.inj (Tryd.func3.symm.trans hfn)).symm
      exact ⟨by kernel_rfl, fun j t ht => by
        rw [Tryd.params3] at ht
        have hm : t ∈ [22, 24] := by simpa using Array.mem_of_getElem? ht
        have hall : ([22, 24].all fun u => !Tryd.prog.wantsStandIn u) = true := by kernel_rfl
        exact (show Tryd.prog.wantsStandIn t = false by simpa using List.all_eq_true.1 hall t hm)⟩)
    (by kernel_rfl)

end Go.Proofs.YthokgjkgfolojabDoor
