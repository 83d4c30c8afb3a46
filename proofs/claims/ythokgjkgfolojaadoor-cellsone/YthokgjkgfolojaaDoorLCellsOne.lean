/-
  Everybody who is somewhere is in one cell, and in no other: CellsOne returns true, whatever its argument, where the table of the components lies as the program's text lays it, and changes nothing that was there.
-/
import Derived.Test.YthokgjkgfolojaaDoorCem
import Derived.Test.YthokgjkgfolojaaDoorCeo
import Derived.OpenShut
import Derived.SevenTiedAt
namespace Go.Proofs.YthokgjkgfolojaaDoor
open Go.ChangeShapes Go.WideShapes Go.ChangeAt Go.RowKit
set_option linter.unusedVariables false
set_option maxRecDepth 100000

set_option maxHeartbeats 16000000 in
theorem cellsOne_fr (w : World) (ht : Tab w) (ao : Option Addr) (len cap : Nat) (Q : List Opq) (hQ : IsOps w ao len cap Q) :
    Calls Tryd.prog 7 #[.slice ao len cap] w fun e w' => e = .returned (.bool true) ∧ Fr Nobody w w' := by
  have hlen : len ≤ 9223372036854775807 := by have h1 := hQ.2.1; have h2 := hQ.2.2.1; unfold maxLen at h2; omega
  have HT : Hid (Tab w) := ht
  have HQ : Hid (IsOps w ao len cap Q) := hQ
  have HA : Hid (Calls _ _ _ _ _) := awake16 w ht
  have HN : Hid (∀ w', Fr Nobody w w' → Calls Tryd.prog 11 #[] w' fun e w'' => ∃ g, e = .returned (.pointer (some ⟨g, 0, none⟩)) ∧ Own w w'' (Grid g [] 1000 :: [])) := fun w' hf => gnew w w' [] (Own.of_fr hf) 1000
  clear ht hQ
  go_enter Tryd.func7, Tryd.ntmps7
  go_wp2_with fail
  refine HA.out.mono ?_
  rintro e v1 ⟨rfl, hf⟩
  have H0 : Hid (Calls _ _ _ _ _) := HN.out v1 hf
  clear hf HA HN
  go_wp2_with fail
  refine H0.out.mono ?_
  rintro e v2 ⟨g, rfl, h1⟩
  have H1 : Hid (Own w v2 (Grid g [] 1000 :: [])) := h1
  clear h1 H0
  go_wp2
  go_loopw [21] (fun vi wr => ∃ j : Nat, j ≤ len ∧ vi = .int .i64 (j : Int) ∧ Own w wr (Grid g (playsD (Q.take (min j 80))) 1000 :: []) ∧ GAll (playsD (Q.take (min j 80))) 80) (fun vi _ => len - (iOf vi).toNat)
  case atStart => exact ⟨0, Nat.zero_le _, rfl, H1.out, GAll.nil.mono (by decide)⟩
  case round =>
    obtain ⟨j, hj, rfl, hO, hGA⟩ := hrel
    by_cases hlt : j < len
    · have hlt' : (j : Int) < (len : Int) := by omega
      obtain ⟨gs, os, q, rfl, hq, d1, d2, d3, d4, c0, c1, c2, c3⟩ := op_cells HQ.out hO.fr hlt
      by_cases hj80 : j < 80
      · have hj80' : ¬ (80 : Int) ≤ (j : Int) := by omega
        have HST : Hid (playsD (Q.take (min (j + 1) 80)) = dstep (playsD (Q.take (min j 80))) q) := take_stepD hq hj80
        obtain ⟨L, hL⟩ : ∃ L, L = playsD (Q.take (min j 80)) := ⟨_, rfl⟩
        rw [← hL] at hO hGA HST
        have hGL : GAll L j := by
          rw [hL]
          exact playsD_all HQ.out (by omega)
        have HGN : Hid (GAll (dstep L q) 80) := (hGL.dst q d2).mono (by omega)
        have hA := hO.allocC #[.int .u8 (q.d : Int), .int .u32 (q.i : Int), .int .i32 q.x, .int .i32 q.y] 32
        have HP : Hid (Calls _ _ _ _ _) := gput_any w _ _ g 1000 L hA.two hGA.ok HT.out q.i d2 q.x q.y (by have := hGA.len; omega) (by unfold maxLen; decide)
        have HDR : Hid (Calls _ _ _ _ _) := gdrop_any w _ _ g 1000 L hA.two hGA.ok q.i d2
        obtain ⟨qd, hqd⟩ : ∃ qd : Nat, qd = q.d := ⟨_, rfl⟩
        obtain ⟨qi, hqi⟩ : ∃ qi : Nat, qi = q.i := ⟨_, rfl⟩
        obtain ⟨qx, hqx⟩ : ∃ qx : Int, qx = q.x := ⟨_, rfl⟩
        obtain ⟨qy, hqy⟩ : ∃ qy : Int, qy = q.y := ⟨_, rfl⟩
        obtain ⟨pe, hpe⟩ : ∃ pe, pe = putE q.i q.x q.y := ⟨_, rfl⟩
        obtain ⟨de, hde⟩ : ∃ de : Int, de = (if (hom L q.i).isSome then 0 else 7) := ⟨_, rfl⟩
        have hps : pstep L q = if pe = 0 then putL L (q.i, q.x, q.y) else L := by rw [hpe]; rfl
        have HD1 : Hid (qd < 4 → dstep L q = pstep L q) := fun h => by unfold dstep; rw [if_pos (by rw [← hqd]; exact h)]
        have HD2 : Hid (¬ qd < 4 → dstep L q = dropL L q.i) := fun h => by unfold dstep; rw [if_neg (by rw [← hqd]; exact h)]
        rw [← hpe, ← hps] at HP
        rw [← hde] at HDR
        rw [← hqd] at c0 HP HDR
        rw [← hqi] at c1 HP HDR HD2
        rw [← hqx] at c2 HP HDR
        rw [← hqy] at c3 HP HDR
        clear hA hO hq hL hGL hpe hGA d1 d2 d3 d4 hps hqd hqi hqx hqy hde
        by_cases h4 : qd < 4
        · have h4' : (qd : Int) < 4 := by omega
          go_wp2_with fail
          refine HP.out.mono ?_
          rintro e w2 ⟨rfl, hO2⟩
          have HO2 : Hid (Own w w2 (Grid g (dstep L q) 1000 :: [])) := by rw [HD1.out h4]; exact hO2.two.tail
          clear hO2 HP c0 c1 c2 c3 HDR
          go_wp2
          go_roundw
          case rel => exact ⟨j + 1, by omega, by go_num, by rw [HST.out]; exact HO2.out, by rw [HST.out]; exact HGN.out⟩
          case measure => simp [iOf]; omega
        · have h4' : ¬ (qd : Int) < 4 := by omega
          go_wp2_with fail
          refine HDR.out.mono ?_
          rintro e w2 ⟨rfl, hO2⟩
          have HO2 : Hid (Own w w2 (Grid g (dstep L q) 1000 :: [])) := by rw [HD2.out h4]; exact hO2.two.tail
          clear hO2 HP c0 c1 c2 c3 HDR
          go_wp2
          go_roundw
          case rel => exact ⟨j + 1, by omega, by go_num, by rw [HST.out]; exact HO2.out, by rw [HST.out]; exact HGN.out⟩
          case measure => simp [iOf]; omega
      · have hj80' : (80 : Int) ≤ (j : Int) := by omega
        have HST : Hid (playsD (Q.take (min (j + 1) 80)) = playsD (Q.take (min j 80))) := take_stayD hj80
        have hA := hO.alloc (.cells #[.int .u8 (q.d : Int), .int .u32 (q.i : Int), .int .i32 q.x, .int .i32 q.y] 32)
        have HA : Hid (Own w _ _) := hA
        have HGA : Hid (GAll _ 80) := hGA
        generalize q.d = qd at *
        generalize q.i = qi at *
        generalize q.x = qx at *
        generalize q.y = qy at *
        clear hA hO hGA hq d1 d2 d3 d4
        go_wp2
        go_roundw
        case rel => exact ⟨j + 1, by omega, by go_num, by rw [HST.out]; exact HA.out, by rw [HST.out]; exact HGA.out⟩
        case measure => simp [iOf]; omega
    · have hlt' : ¬ (j : Int) < (len : Int) := by omega
      obtain ⟨L, hL⟩ : ∃ L, L = playsD (Q.take (min j 80)) := ⟨_, rfl⟩
      rw [← hL] at hO hGA
      have HO : Hid (Own w wr _) := hO
      have HG : Hid (GAll L 80) := hGA
      clear hL H1 hj hlt hO hGA HQ HT
      go_wp2
      go_loopw [6, 7, 8] (fun vn vu vx wr => ∃ (x : Int) (R : List Nat) (U : List Cll), vn = .int .i64 (R.length : Int) ∧ vu = .int .i64 (U.length : Int) ∧ vx = .int .i64 x ∧ -32 ≤ x ∧ x ≤ 32 ∧ Got L (-32) (-32) 31 x (-32) R ∧ Usd L x (-32) U ∧ Own w wr (Grid g L 1000 :: [])) (fun _ _ vx _ => (32 - iOf vx).toNat)
      case atStart => exact ⟨-32, [], [], rfl, rfl, rfl, by decide, by decide, Got.start L _ _ _, Usd.start L, HO.out⟩
      case round =>
        obtain ⟨x, R, U, rfl, rfl, rfl, hx1, hx2, hG, hU, hO⟩ := hrel
        have HO2 : Hid (Own w wr _) := hO
        have HGT : Hid (Got L (-32) (-32) 31 x (-32) R) := hG
        have HUS : Hid (Usd L x (-32) U) := hU
        clear hG hU hO HO
        by_cases hx : x < 32
        · generalize hrn : R.length = rn at *
          generalize hun : U.length = un at *
          have HRN : Hid (R.length = rn) := hrn
          have HUN : Hid (U.length = un) := hun
          clear hrn hun
          go_wp2
          go_loopw [6, 7, 9] (fun vn vu vy wr => ∃ (y : Int) (R : List Nat) (U : List Cll), vn = .int .i64 (R.length : Int) ∧ vu = .int .i64 (U.length : Int) ∧ vy = .int .i64 y ∧ -32 ≤ y ∧ y ≤ 32 ∧ Got L (-32) (-32) 31 x y R ∧ Usd L x y U ∧ Own w wr (Grid g L 1000 :: [])) (fun _ _ vy _ => (32 - iOf vy).toNat)
          case atStart => exact ⟨-32, R, U, by rw [HRN.out], by rw [HUN.out], rfl, by decide, by decide, HGT.out, HUS.out, HO2.out⟩
          case round =>
            obtain ⟨y, R2, U2, rfl, rfl, rfl, hy1, hy2, hG2, hU2, hO3⟩ := hrel
            have HGT2 : Hid (Got L (-32) (-32) 31 x y R2) := hG2
            have HUS2 : Hid (Usd L x y U2) := hU2
            have hRl := hG2.len HG.out.ok.1
            have hUl := hU2.len
            have hLl := HG.out.len
            clear HO2 HGT HUS HRN HUN
            by_cases hy : y < 32
            · have HAT : Hid (Calls _ _ _ _ _) := gat w wr _ g 1000 L hO3 HG.out.ok HG.out.inn (by omega) x y
              have hw := box_whl HG.out.ok.1 x y
              have HW : Hid (whl (crd L (x, y)) (boxL L x y x y)) := hw
              obtain ⟨xs, hxs⟩ : ∃ xs, xs = boxL L x y x y := ⟨_, rfl⟩
              rw [← hxs] at HAT HW
              have hxl : xs.length ≤ 80 := by
                rw [hxs]; unfold boxL; rw [List.length_map]
                exact Nat.le_trans (List.length_filter_le _ _) HG.out.len
              have HWH : Hid (∀ (j id : Nat) (W : World) (l : List Thing), xs[j]? = some id → Own w W (Grid g L 1000 :: l) → Calls Tryd.prog 16 #[.pointer (some ⟨g, 0, none⟩), .int .u32 (id : Int)] W fun e w' => e = .returned (.tuple #[.int .i64 x, .int .i64 y, .bool true]) ∧ Own w w' (Grid g L 1000 :: l)) := fun j id W l hj h => by
                have hm : id ∈ xs := List.mem_of_getElem? hj
                have hh := (mem_crd_hom HG.out.ok.1).1 ((HW.out.2 id).1 hm)
                obtain ⟨s, hs, rfl, _⟩ := (hom_some HG.out.ok.1).1 hh
                have := gwhere w W l g 1000 L h s.1 (HG.out.ok.2 s hs).1
                rw [hh] at this
                exact this
              have HRS : Hid (Got L (-32) (-32) 31 x (y + 1) (R2 ++ xs)) := hG2.step HG.out.ok.1 hy1 hx1 HW.out
              have HE : Hid (xs = [] ↔ crd L (x, y) = []) := by
                constructor
                · intro e
                  rw [e] at HW
                  apply List.eq_nil_iff_forall_not_mem.2
                  intro z hz
                  have := (HW.out.2 z).2 hz
                  cases this
                · intro e
                  have h2 := HW.out.2
                  rw [e] at h2
                  apply List.eq_nil_iff_forall_not_mem.2
                  intro z hz
                  have := (h2 z).1 hz
                  cases this
              clear hO3 hG2 hU2 hxs hw
              generalize hrn : R2.length = rn at *
              generalize hun : U2.length = un at *
              generalize hxn : xs.length = xn at *
              have HRN : Hid (R2.length = rn) := hrn
              have HUN : Hid (U2.length = un) := hun
              have HXN : Hid (xs.length = xn) := hxn
              clear hrn hun hxn
              go_wp2_with fail
              refine HAT.out.mono ?_
              rintro e w2 ⟨ao2, cap2, rfl, h2⟩
              have H2 : Hid (Own w w2 _) := h2
              clear h2 HAT
              go_wp2
              go_loopw [60] (fun vi wr => ∃ j : Nat, j ≤ xn ∧ vi = .int .i64 (j : Int) ∧ Own w wr (Row 30 1 (.slice ao2 xn cap2) xn (irow .u32 xs) :: Grid g L 1000 :: [])) (fun vi _ => xn - (iOf vi).toNat)
              case atStart => exact ⟨0, Nat.zero_le _, rfl, H2.out⟩
              case round =>
                obtain ⟨j, hj, rfl, hO4⟩ := hrel
                clear H2
                by_cases hjn : j < xn
                · have hjn' : (j : Int) < (xn : Int) := by omega
                  obtain ⟨id, hid⟩ : ∃ id, xs[j]? = some id := ⟨_, List.getElem?_eq_getElem (by rw [HXN.out]; exact hjn)⟩
                  obtain ⟨gr, cp, hv, _⟩ := row_shape hO4.row (by omega)
                  have hva := (Value.slice.inj hv).1
                  subst hva
                  have c0 : wr.cell? ⟨gr, j, none⟩ = some (.int .u32 (id : Int)) := by
                    rw [hO4.row.cellAt _ (by omega), getElem?_irow, hid]; rfl
                  have HWC : Hid (Calls _ _ _ _ _) := HWH.out j id wr _ hid hO4.two
                  clear hO4 hv hid
                  go_wp2_with fail
                  refine HWC.out.mono ?_
                  rintro e w3 ⟨rfl, h3⟩
                  have H3 : Hid (Own w w3 (Row 30 1 (.slice (some ⟨gr, 0, none⟩) xn cap2) xn (irow .u32 xs) :: Grid g L 1000 :: [])) := h3.two
                  clear h3 HWC c0
                  go_wp2
                  go_roundw
                  case rel => exact ⟨j + 1, by omega, by go_num, H3.out⟩
                  case measure => simp [iOf]; omega
                · have hjn' : ¬ (j : Int) < (xn : Int) := by omega
                  have H5 : Hid (Own w wr (Grid g L 1000 :: [])) := hO4.tail
                  clear hO4
                  by_cases hx0 : xs = []
                  · have hxz : xn = 0 := by rw [← HXN.out, hx0]; rfl
                    have HUN2 : Hid (Usd L x (y + 1) U2) := HUS2.out.stepN hx1 hy1 (HE.out.1 hx0)
                    have HRS2 : Hid (Got L (-32) (-32) 31 x (y + 1) R2) := by have := HRS.out; rw [hx0, List.append_nil] at this; exact this
                    subst hxz
                    go_wp2
                    go_roundw
                    case rel => exact ⟨y + 1, R2, U2, by rw [HRN.out], by rw [HUN.out], by go_num, by omega, by omega, HRS2.out, HUN2.out, H5.out⟩
                    case measure => simp [iOf]; omega
                  · have hxp : 0 < xn := by rw [← HXN.out]; exact List.length_pos_iff.2 hx0
                    have hxp' : (0 : Int) < (xn : Int) := by omega
                    have HUN2 : Hid (Usd L x (y + 1) (U2 ++ [(x, y)])) := HUS2.out.stepY hx1 hy1 (fun e => hx0 (HE.out.2 e))
                    go_wp2
                    go_roundw
                    case rel => exact ⟨y + 1, R2 ++ xs, U2 ++ [(x, y)], by rw [List.length_append, HRN.out, HXN.out]; go_num, by rw [List.length_append, HUN.out]; go_num, by go_num, by omega, by omega, HRS.out, HUN2.out, H5.out⟩
                    case measure => simp [iOf]; omega
            · have hy32 : y = 32 := by omega
              subst hy32
              have H5 : Hid (Own w wr (Grid g L 1000 :: [])) := hO3
              clear hO3 hG2 hU2
              generalize hrn : R2.length = rn at *
              generalize hun : U2.length = un at *
              have HRN : Hid (R2.length = rn) := hrn
              have HUN : Hid (U2.length = un) := hun
              clear hrn hun
              go_wp2
              go_roundw
              case rel => exact ⟨x + 1, R2, U2, by rw [HRN.out], by rw [HUN.out], by go_num, by omega, by omega, HGT2.out.col (by decide) hx1 (.inl (by decide)), HUS2.out.col hx1 rfl, H5.out⟩
              case measure => simp [iOf]; omega
        · have hx32 : x = 32 := by omega
          subst hx32
          have hr : R.length = L.length := HGT.out.whole HG.out
          have hu : U.length = usedL L := HUS.out.whole HG.out
          have HLE : Hid (Calls _ _ _ _ _) := glen w wr _ g 1000 L HO2.out
          have HUE : Hid (Calls _ _ _ _ _) := gused w wr _ g 1000 L HO2.out
          rw [← hr] at HLE
          rw [← hu] at HUE
          have HF : Hid (Fr Nobody w wr) := HO2.out.fr
          clear hr hu HO2 HGT HUS
          generalize R.length = rn at *
          generalize U.length = un at *
          go_wp2_with fail
          refine HLE.out.mono ?_
          rintro e w2 ⟨rfl, rfl⟩
          go_wp2_with fail
          refine HUE.out.mono ?_
          rintro e w3 ⟨rfl, rfl⟩
          go_wp2
          go_ret
          exact ⟨by simp, HF.out⟩
theorem cellsOne_walk (w : World) (ht : Tab w) (ao : Option Addr) (len cap : Nat) (Q : List Opq) (hQ : IsOps w ao len cap Q) :
    Calls Tryd.prog 7 #[.slice ao len cap] w fun e w' => e = .returned (.bool true) ∧ Below w.heap.size w w' := by
  refine (cellsOne_fr w ht ao len cap Q hQ).mono ?_
  rintro e w' ⟨rfl, hf⟩
  exact ⟨rfl, hf.below (Nat.le_refl _) (fun _ _ h => h)⟩
theorem laidOut : laidOutB Tryd.prog = true := by kernel_rfl

set_option maxRecDepth 100000 in
theorem cellsOne_lifted (os : Os) (started : os.Started) (H : Type) (enc : TypeId × Value → H) :
    ReturnsInHanded {} Tryd.checked os 7 .any (fun w args => (Rows.cellsOneSpec.pre enc Tryd.prog Tryd.f7 [] false w args ∧ laidMetH Tryd.prog laid1 w) ∧ sizedMet enc Tryd.prog Tryd.f7 (OpenSpec.ofChange Rows.cellsOneSpec) false w args) (Rows.cellsOneSpec.post enc Tryd.prog Tryd.f7 false true false false) := by
  refine returnsInHanded_of_change_and (C := Tryd.checked) (X := fun w _ => laidMetH Tryd.prog laid1 w) (fun _ _ _ hh h => h.of_heap hh) own started (by kernel_rfl) Tryd.func7
    (ChangeSpec.witness_shaped (enc := enc) (C := Tryd.checked) (os := os) (X := fun w _ => laidMetH Tryd.prog laid1 w) false (World.doorLaid Tryd.prog 400 os) #[.slice none 0 0] 8 rfl (World.shaped_of_RefB (by kernel_rfl) (by kernel_rfl)) (by kernel_rfl) (by kernel_rfl) (by kernel_rfl) (door_met os _)) ?_
  intro W base args ds gs before hval0 hW _ _ hL _
  have hval : ∀ (j : Nat) t v, Tryd.f7.params[j]? = some t → args[j]? = some v → Value.okWide Tryd.prog W .any base t v := hval0
  have hW' := hW
  obtain ⟨p, q, hA0, hV, rfl, hfz, hnd⟩ := hW
  have hA : DataW.TrodAll enc Tryd.prog W 0 (fun _ => true) true Tryd.f7.params.toList args.toList ds p := hA0
  rw [Tryd.params7] at hA hval
  obtain ⟨v0, vs0, d0, ds0, p0, q0, hargs, rfl, rfl, h0, r0⟩ := trodAll_cons hA
  obtain ⟨rfl, rfl, rfl⟩ := trodAll_nil r0
  obtain rfl : args = #[v0] := by cases args; simp_all
  obtain ⟨rfl, rfl⟩ := trodVars_none hV
  obtain ⟨a0, len0, cap0, rfl⟩ := okWide_slice Tryd.underlying25 (hval 0 25 v0 rfl rfl)
  have k0 := h0
  have lt0 : ∀ x ∈ p0, x.block < W.heap.size := by obtain ⟨m, hm⟩ := k0; exact DataW.trod_lt m _ _ _ hm
  obtain ⟨z0, w0⟩ := open_ops (hval 0 25 _ rfl rfl) h0
  clear hA0 hval0
  refine (cellsOne_walk W (of_laid hL) a0 len0 cap0 z0 w0).mono fun e W' ⟨he, bel⟩ => ?_
  subst he
  exact ⟨_, rfl, _, _, _, [], _, [], hW', trodAll_mk1 (shut_bool Tryd.underlying4 _), (trodAll_cons_mk (Below.trod laidOut (by kernel_rfl) (of_decide_eq_true (by kernel_rfl)) k0 bel lt0) trodAll_mk0), rfl, bel.frame _, fun h => by cases h⟩

theorem cellsOne_row : Rows.CellsOneSaid :=
  OpenClaim.holds_of_wide 7 Tryd.f7 rfl rfl rfl rfl rfl rfl rfl ⟨rfl, rfl, rfl, rfl, rfl⟩ rfl rfl rfl rfl rfl (by kernel_rfl) Tryd.func7 (by kernel_rfl)
    (of_decide_eq_true (by kernel_rfl)) (by unfold Func.isWrapper; first | (rw [if_pos (by decide +kernel)]; kernel_rfl) | (rw [if_neg (by decide +kernel)]; exact ⟨rfl, rfl⟩))
    (fun os started H enc _ => cellsOne_lifted os started H enc)

theorem cellsOne_holds : Rows.CellsOneCardSaid :=
  Claim7.holds_tied_plain_at .later [] [.data] true (true, "57f2681be1c13929572066f5f1e9bb9775a07279498cf8f2992ae601d68506ba") false
    cellsOne_row (fun _ h => by cases h) (by kernel_rfl) (fun _ h => by cases h) cellsOne_row_tie rfl ⟨rfl, rfl⟩ (by kernel_rfl) rfl
    (fun f fn hf hfn => by
      obtain rfl : f = 7 := Option.some.inj ((show Tryd.prog.funcNamed "pinnace/pinnacelaw16.CellsOne" = some 7 by kernel_rfl).symm.trans hf) |>.symm
      obtain rfl : fn = Tryd.f7 := (Option.some.inj (Tryd.func7.symm.trans hfn)).symm
      exact ⟨by kernel_rfl, fun j t ht => by
        rw [Tryd.params7] at ht
        have hm : t ∈ [25] := by simpa using Array.mem_of_getElem? ht
        have hall : ([25].all fun u => !Tryd.prog.wantsStandIn u) = true := by kernel_rfl
        exact (show Tryd.prog.wantsStandIn t = false by simpa using List.all_eq_true.1 hall t hm)⟩)
    (by kernel_rfl)

end Go.Proofs.YthokgjkgfolojaaDoor
