/-
  Who is visible is seen at the place where it is; who isn't isn't: ViewParts returns true, whatever its arguments, where the table of the components lies as the program's text lays it, and changes nothing that was there.
-/
import Derived.Test.YthokgjkgfolojabDoorVim
import Derived.Test.YthokgjkgfolojabDoorVik
import Derived.Deep.RegionHeld3
import Derived.OpenShut
import Derived.SevenTiedAt
namespace Go.Proofs.YthokgjkgfolojabDoor
open Go.ChangeShapes Go.WideShapes Go.ChangeAt Go.RowKit
set_option linter.unusedVariables false
set_option maxRecDepth 100000

theorem plays_pos' : ∀ (Q : List Opq) (L : List Spt), (∀ s ∈ L, s.1 ≠ 0) → ∀ s ∈ Q.foldl pstep L, s.1 ≠ 0 := by
  intro Q
  induction Q with
  | nil => intro L h s hs; exact h s hs
  | cons q Q ih =>
    intro L h
    refine ih _ (fun s hs => ?_)
    unfold pstep at hs
    by_cases hp : putE q.i q.x q.y = 0
    · rw [if_pos hp] at hs
      rcases mem_put.1 hs with rfl | ⟨h2, _⟩
      · exact (putE_zero hp).1
      · exact h s h2
    · rw [if_neg hp] at hs
      exact h s hs
theorem plays_pos (Q : List Opq) : ∀ s ∈ plays Q, s.1 ≠ 0 := plays_pos' Q [] (fun s hs => by cases hs)
theorem vis_inc {L : List Spt} (h : Rise L) (on : Bool) (x y r : Int) : (visL L on x y r).Pairwise (· < ·) := by
  unfold visL
  rw [List.pairwise_map]
  exact List.Pairwise.filter _ h
theorem vis_mem {L : List Spt} (h : Rise L) {s : Spt} (hs : s ∈ L) (on : Bool) (x y r : Int) : decide (s.1 ∈ visL L on x y r) = visP on x y r s := by
  have : s.1 ∈ visL L on x y r ↔ visP on x y r s = true := by
    unfold visL
    rw [List.mem_map]
    constructor
    · rintro ⟨t, ht, e⟩
      obtain ⟨h1, h2⟩ := List.mem_filter.1 ht
      have : t = s := h.uniq h1 hs e
      rw [← this]
      exact h2
    · intro hv
      exact ⟨s, List.mem_filter.2 ⟨hs, hv⟩, rfl⟩
  cases hv : visP on x y r s with
  | true => rw [hv] at this; simpa using this
  | false => rw [hv] at this; simpa using this
theorem zeroB (w : World) : (zeroValue 4).run Tryd.prog w = .ok (.bool false) w := by kernel_rfl
/-- who has been seen -/
def snp (X : List Nat) (j : Nat) (y : Nat) : Option Value := if y ∈ X.take j then some (.bool true) else none
theorem snp_succ {X : List Nat} {j v : Nat} (h : X[j]? = some v) (y : Nat) : (if y = v then some (.bool true) else snp X j y) = snp X (j + 1) y := by
  unfold snp
  rw [List.take_add_one, h]
  by_cases e : y = v
  · subst e; simp
  · simp [e]
theorem snp_all (X : List Nat) (y : Nat) : ((snp X X.length y).getD (.bool false)) = .bool (decide (y ∈ X)) := by
  unfold snp
  rw [List.take_length]
  by_cases e : y ∈ X <;> simp [e]
theorem Own.irow {w0 w : World} {l : List Thing} {ao : Option Addr} {cap n : Nat} {X : List Nat} (h : Own w0 w (Row 29 1 (.slice ao n cap) n (irow .u32 X) :: l)) {j : Nat} (hj : j < n) {v : Nat} (hv : X[j]? = some v) : ∃ g, ao = some ⟨g, 0, none⟩ ∧ w.cell? ⟨g, j, none⟩ = some (.int .u32 (v : Int)) := by
  obtain ⟨g, cp, hvv, _⟩ := row_shape h.row (by omega)
  have hva := (Value.slice.inj hvv).1
  subst hva
  refine ⟨g, rfl, ?_⟩
  rw [h.row.cellAt _ (by omega), getElem?_irow, hv]
  rfl
set_option maxHeartbeats 32000000 in
theorem viewParts_fr (w : World) (ht : Tab w) (ao : Option Addr) (len cap : Nat) (Q : List Opq) (hQ : IsOps w ao len cap Q) (on : Bool) (x y r : Int) :
    Calls Tryd.prog 5 #[.slice ao len cap, .agg #[.bool on, .int .i64 x, .int .i64 y, .int .i64 r]] w fun e w' => e = .returned (.bool true) ∧ Fr Nobody w w' := by
  have hlen : len ≤ 9223372036854775807 := by have h1 := hQ.2.1; have h2 := hQ.2.2.1; unfold maxLen at h2; omega
  have HT : Hid (Tab w) := ht
  have HQ : Hid (IsOps w ao len cap Q) := hQ
  have hA := (Own.start w).allocC #[.bool on, .int .i64 x, .int .i64 y, .int .i64 r] 24
  have HA : Hid (Own w _ _) := hA
  have HAW : Hid (Calls _ _ _ _ _) := awake17 (w.alloc (.cells #[.bool on, .int .i64 x, .int .i64 y, .int .i64 r] 24))
  clear ht hQ hA
  go_enter Tryd.func5, Tryd.ntmps5
  go_wp2_with fail
  refine HAW.out.mono ?_
  rintro e v1 ⟨rfl, hf⟩
  have H0 : Hid (Calls _ _ _ _ _) := gnew w v1 _ (HA.out.quiet hf) 1000
  clear hf HA HAW
  go_wp2_with fail
  refine H0.out.mono ?_
  rintro e v2 ⟨g, rfl, h1⟩
  generalize w.heap.size = B at *
  have H1 : Hid (Own w v2 (Grid g [] 1000 :: Cells B #[.bool on, .int .i64 x, .int .i64 y, .int .i64 r] 24 :: [])) := h1
  clear h1 H0
  go_wp2
  go_loopw [6, 20] (fun vl vi wr => ∃ (j : Nat) (ao2 : Option Addr) (cap2 : Nat) (L : List Spt) (n : Nat), j ≤ len ∧ vi = .int .i64 (j : Int) ∧ vl = .slice ao2 n cap2 ∧ n = L.length ∧ L = plays (Q.take (min j 60)) ∧ Own w wr (SRow ao2 cap2 L :: Grid g L 1000 :: Cells B #[.bool on, .int .i64 x, .int .i64 y, .int .i64 r] 24 :: []) ∧ GAll L 60) (fun _ vi _ => len - (iOf vi).toNat)
  case atStart => exact ⟨0, none, 0, [], 0, Nat.zero_le _, rfl, rfl, rfl, rfl, H1.out.nilRow _ _, GAll.nil.mono (by decide)⟩
  case round =>
    obtain ⟨j, ao2, cap2, L, n, hj, rfl, rfl, hn, hL, hO, hGA⟩ := hrel
    clear H1
    have hnl : n ≤ 60 := by have := hGA.len; omega
    by_cases hlt : j < len
    · have hlt' : (j : Int) < (len : Int) := by omega
      obtain ⟨gs, os, q, rfl, hq, d1, d2, d3, d4, c0, c1, c2⟩ := op_cells HQ.out hO.fr hlt
      by_cases hj80 : j < 60
      · have hj80' : (j : Int) < 60 := by omega
        have hST := take_step hq hj80
        rw [← hL] at hST
        have hGL : GAll L j := by
          rw [hL]
          exact plays_all HQ.out (by omega)
        have hG1' := (hGL.put q d2).mono (by omega : j + 1 ≤ 60)
        obtain ⟨qd, qi, qx, qy⟩ := q
        simp only at c0 c1 c2 d1 d2 d3 d4
        have hA := hO.allocC #[.int .u32 (qi : Int), .int .i32 qx, .int .i32 qy] 31
        obtain ⟨L1, hL1⟩ : ∃ L1, L1 = pstep L ⟨qd, qi, qx, qy⟩ := ⟨_, rfl⟩
        have hLp : L1 = rputL qi qx qy L := by rw [hL1]; rfl
        have hLg : L1 = (if putE qi qx qy = 0 then putL L (qi, qx, qy) else L) := by rw [hL1]; rfl
        rw [← hL1] at hG1' hST
        have HST : Hid (L1 = plays (Q.take (min (j + 1) 60))) := hST.symm
        obtain ⟨pe, hpe⟩ : ∃ pe, pe = putE qi qx qy := ⟨_, rfl⟩
        obtain ⟨m, hm⟩ : ∃ m, m = L1.length := ⟨_, rfl⟩
        have HGP : Hid (Calls _ _ _ _ _) := gput_any w _ _ g 1000 L hA.three hGA.ok HT.out qi d2 qx qy (by have := hGA.len; omega) (by unfold maxLen; decide)
        rw [← hLg, ← hpe] at HGP
        have HRP : Hid (∀ W l, Own w W (SRow ao2 cap2 L :: l) → Calls Tryd.prog 9 #[.slice ao2 n cap2, .int .u32 (qi : Int), .int .i32 qx, .int .i32 qy] W fun e w' => ∃ (ao' : Option Addr) (cap' : Nat), e = .returned (.tuple #[.slice ao' m cap', .int .i64 pe]) ∧ Own w w' (SRow ao' cap' L1 :: l)) := fun W l h => by
          have := rput_any w W l ao2 cap2 L h hGA.ok.1 (by omega) qi qx qy
          rw [← hLp, ← hpe, ← hn, ← hm] at this
          exact this
        have HM : Hid (m = L1.length) := hm
        have HG1 : Hid (GAll L1 60) := hG1'
        clear hA hO hq hL hGL hpe hGA d1 d2 d3 d4 hL1 hLp hLg hST hm hn hG1' hnl
        go_wp2_with fail
        refine HGP.out.mono ?_
        rintro e w2 ⟨rfl, h2⟩
        have HR2 : Hid (Calls _ _ _ _ _) := HRP.out w2 _ h2.three
        have k0 := h2.two.cell 0
        have k1 := h2.two.cell 1
        have k2 := h2.two.cell 2
        simp at k0 k1 k2
        clear HRP HGP h2 c0 c1 c2
        go_wp2_with fail
        refine HR2.out.mono ?_
        rintro e w3 ⟨a3, cap3, rfl, h3⟩
        have H3 : Hid (Own w w3 (SRow a3 cap3 L1 :: Grid g L1 1000 :: Cells B #[.bool on, .int .i64 x, .int .i64 y, .int .i64 r] 24 :: [])) := h3.three.tail
        clear h3 HR2 k0 k1 k2
        go_wp2
        go_roundw
        case rel => exact ⟨j + 1, a3, cap3, L1, m, by omega, by go_num, rfl, HM.out, HST.out, H3.out, HG1.out⟩
        case measure => simp [iOf]; omega
      · have hj80' : ¬ (j : Int) < 60 := by omega
        have HST : Hid (L = plays (Q.take (min (j + 1) 60))) := by show _ = _; rw [take_stay hj80]; exact hL
        obtain ⟨qd, qi, qx, qy⟩ := q
        simp only at c0 c1 c2 d1 d2 d3 d4
        have hA := hO.alloc (.cells #[.int .u32 (qi : Int), .int .i32 qx, .int .i32 qy] 31)
        have HA : Hid (Own w _ _) := hA
        have HGA : Hid (GAll L 60) := hGA
        have HNL : Hid (n = L.length) := hn
        clear hA hO hGA hq d1 d2 d3 d4 hn hL
        go_wp2
        go_roundw
        case rel => exact ⟨j + 1, ao2, cap2, L, n, by omega, by go_num, rfl, HNL.out, HST.out, HA.out, HGA.out⟩
        case measure => simp [iOf]; omega
    · have hlt' : ¬ (j : Int) < (len : Int) := by omega
      have HG : Hid (GAll L 60) := hGA
      have HNL : Hid (n = L.length) := hn
      have HI : Hid (∀ s ∈ L, I32 s.2.1 ∧ I32 s.2.2) := fun s hs => (HG.out.ok.2 s hs).2
      have HPS : Hid (∀ s ∈ L, s.1 ≠ 0) := by rw [hL]; exact plays_pos _
      clear hGA hL hj HQ HT hn
      have HRI : Hid (Rise L) := HG.out.ok.1
      obtain ⟨X, hX⟩ : ∃ X, X = visL L on x y r := ⟨_, rfl⟩
      obtain ⟨xn, hxn⟩ : ∃ xn, xn = X.length := ⟨_, rfl⟩
      have hx60 : xn ≤ 60 := by rw [hxn, hX]; exact vis_short HG.out.len _ _ _ _
      have HXI : Hid (X.Pairwise (· < ·)) := by rw [hX]; exact vis_inc HG.out.ok.1 _ _ _ _
      have HXV : Hid (∀ s ∈ L, decide (s.1 ∈ X) = visP on x y r s) := fun s hs => by rw [hX]; exact vis_mem HRI.out hs on x y r
      have HXP : Hid (∀ v ∈ X, v ≠ 0 ∧ v < 4294967296) := fun v hv => by
        rw [hX] at hv
        obtain ⟨s, hs, rfl⟩ := List.mem_map.1 hv
        have h1 := (List.mem_filter.1 hs).1
        exact ⟨HPS.out s h1, (HG.out.ok.2 s h1).1⟩
      have HID : Hid (∀ s ∈ L, s.1 < 4294967296) := fun s hs => (HG.out.ok.2 s hs).1
      have HV1 : Hid (∀ W l, Own w W (Grid g L 1000 :: l) → Calls Tryd.prog 11 #[.pointer (some ⟨g, 0, none⟩), .agg #[.bool on, .int .i64 x, .int .i64 y, .int .i64 r]] W fun e w' => ∃ (a : Option Addr) (c : Nat), e = .returned (.slice a xn c) ∧ Own w w' (Row 29 1 (.slice a xn c) xn (irow .u32 X) :: Grid g L 1000 :: l)) := fun W l h => by
        have := visible_ok w W _ g 1000 L h HG.out.ok HG.out.inn (by have := HG.out.len; omega) on x y r
        unfold IRow at this
        rw [← hX, ← hxn] at this
        exact this
      have HXN : Hid (xn = X.length) := hxn
      have hmm := fun w => @run_makeMap Tryd.prog 43 w
      have hM := hO.gmNew idK
      have p0 := hM.four.cell 0
      have p1 := hM.four.cell 1
      have p2 := hM.four.cell 2
      have p3 := hM.four.cell 3
      simp at p0 p1 p2 p3
      have H0 : Hid (Calls _ _ _ _ _) := HV1.out _ _ hM.three
      clear hO hX hxn HG HPS hM HV1
      go_wp2_with fail
      refine H0.out.mono ?_
      rintro e w5 ⟨a1, c1, rfl, h5⟩
      have H5 : Hid (Own w w5 (Row 29 1 (.slice a1 xn c1) xn (irow .u32 X) :: GMap idK wr.heap.size 0 0 (fun _ => none) :: SRow ao2 cap2 L :: Cells B #[.bool on, .int .i64 x, .int .i64 y, .int .i64 r] 24 :: [])) := h5.two.tail
      clear h5 H0 p0 p1 p2 p3 hmm
      generalize wr.heap.size = Bm at *
      go_wp2
      go_loopw [10, 52] (fun vl vi wr => ∃ (j lv sz : Nat), j ≤ xn ∧ vi = .int .i64 (j : Int) ∧ vl = .int .u32 (lv : Int) ∧ (∀ k v, j ≤ k → X[k]? = some v → lv < v) ∧ Own w wr (Row 29 1 (.slice a1 xn c1) xn (irow .u32 X) :: GMap idK Bm j sz (snp X j) :: SRow ao2 cap2 L :: Cells B #[.bool on, .int .i64 x, .int .i64 y, .int .i64 r] 24 :: [])) (fun _ vi _ => xn - (iOf vi).toNat)
      case atStart => exact ⟨0, 0, 0, Nat.zero_le _, rfl, rfl, fun k v _ hv => Nat.pos_of_ne_zero (HXP.out v (List.mem_of_getElem? hv)).1, (H5.out.two.gmIs (Nat.le_refl _) (fun y _ => by simp [snp])).two⟩
      case round =>
        obtain ⟨j, lv, sz, hj, rfl, rfl, hlv, hO⟩ := hrel
        clear H5
        by_cases hjx : j < xn
        · have hjx' : (j : Int) < (xn : Int) := by omega
          obtain ⟨v, hv⟩ : ∃ v, X[j]? = some v := ⟨_, List.getElem?_eq_getElem (by rw [← HXN.out]; exact hjx)⟩
          obtain ⟨g1, hg1, e1⟩ := hO.irow hjx hv
          have hlt2 : lv < v := hlv j v (Nat.le_refl _) hv
          have hle : ¬ ((v : Int) ≤ (lv : Int)) := by omega
          obtain ⟨W3, hr3, hO3⟩ := Own.gmPut hO.two Tryd.underlying43 v (.bool true) (HXP.out v (List.mem_of_getElem? hv)).2 (by unfold maxLen; omega)
          have hr3' : (Instr.mapUpdate 43 (.map (some Bm)) (.int .u32 (v : Int)) (.bool true)).run Tryd.prog wr = .ok () W3 := hr3
          have HO4 : Hid (Own w W3 (Row 29 1 (.slice a1 xn c1) xn (irow .u32 X) :: GMap idK Bm (j + 1) _ (snp X (j + 1)) :: SRow ao2 cap2 L :: Cells B #[.bool on, .int .i64 x, .int .i64 y, .int .i64 r] 24 :: [])) := (hO3.gmIs (Nat.le_refl _) (fun y _ => snp_succ hv y)).two
          have HLV : Hid (∀ k u, j + 1 ≤ k → X[k]? = some u → v < u) := fun k u hk hu => by
            have h1 := (List.getElem?_eq_some_iff.1 hv)
            have h2 := (List.getElem?_eq_some_iff.1 hu)
            have := List.pairwise_iff_getElem.1 HXI.out j k h1.1 h2.1 (by omega)
            rw [h1.2, h2.2] at this
            exact this
          subst hg1
          clear hO hO3 hr3 hv hlv hlt2
          go_wp2
          go_roundw
          case rel => exact ⟨j + 1, v, _, by omega, by go_num, rfl, HLV.out, HO4.out⟩
          case measure => simp [iOf]; omega
        · have hjx' : ¬ (j : Int) < (xn : Int) := by omega
          have hjn : j = xn := by omega
          have HO5 : Hid (Own w wr (GMap idK Bm X.length sz (snp X X.length) :: SRow ao2 cap2 L :: Cells B #[.bool on, .int .i64 x, .int .i64 y, .int .i64 r] 24 :: [])) := by
            have := hO.tail
            rw [hjn, HXN.out] at this
            exact this
          clear hO hlv hjn
          go_wp2
          go_loopw [65] (fun vi wr => ∃ (j : Nat), j ≤ n ∧ vi = .int .i64 (j : Int) ∧ Own w wr (GMap idK Bm X.length sz (snp X X.length) :: SRow ao2 cap2 L :: Cells B #[.bool on, .int .i64 x, .int .i64 y, .int .i64 r] 24 :: [])) (fun vi _ => n - (iOf vi).toNat)
          case atStart => exact ⟨0, Nat.zero_le _, rfl, HO5.out⟩
          case round =>
            obtain ⟨k, hk, rfl, hO⟩ := hrel
            clear HO5
            by_cases hkn : k < n
            · have hkn' : (k : Int) < (n : Int) := by omega
              obtain ⟨s, hs⟩ : ∃ s, L[k]? = some s := ⟨_, List.getElem?_eq_getElem (by rw [← HNL.out]; exact hkn)⟩
              obtain ⟨gr, hgr, s0, s1, s2⟩ := hO.two.spt hs
              have hms := List.mem_of_getElem? hs
              obtain ⟨hsx, hsy⟩ := HI.out s hms
              have hsi := HID.out s hms
              have hxv := HXV.out s hms
              obtain ⟨si, sx, sy⟩ := s
              simp only at s0 s1 s2 hsx hsy hsi hxv
              obtain ⟨bo, hbo⟩ : ∃ bo, bo = visP on x y r (si, sx, sy) := ⟨_, rfl⟩
              have S1 : Hid (∀ W, Calls Tryd.prog 14 #[.agg #[.bool on, .int .i64 x, .int .i64 y, .int .i64 r], .int .i32 sx, .int .i32 sy] W fun e w' => e = .returned (.bool bo) ∧ Fr Nobody W w') := fun W => by rw [hbo]; exact sees_ok W on x y r sx sy hsx hsy
              have hA := hO.allocC #[.int .u32 (si : Int), .int .i32 sx, .int .i32 sy] 31
              have HLK : Hid (∀ W, Own w W (GMap idK Bm X.length sz (snp X X.length) :: Cells wr.heap.size #[.int .u32 (si : Int), .int .i32 sx, .int .i32 sy] 31 :: SRow ao2 cap2 L :: Cells B #[.bool on, .int .i64 x, .int .i64 y, .int .i64 r] 24 :: []) → (Instr.lookup 43 (.map (some Bm)) (.int .u32 (si : Int)) false).run Tryd.prog W = .ok (.bool bo) W) := fun W h => by
                have := h.gmAt Tryd.underlying43 (zeroB _) si hsi
                rw [snp_all, hxv, ← hbo] at this
                exact this
              have HA : Hid (Own w _ (GMap idK Bm X.length sz (snp X X.length) :: Cells wr.heap.size #[.int .u32 (si : Int), .int .i32 sx, .int .i32 sy] 31 :: SRow ao2 cap2 L :: Cells B #[.bool on, .int .i64 x, .int .i64 y, .int .i64 r] 24 :: [])) := hA.two
              subst hgr
              clear hA hO hs hms hsx hsy hxv hbo hsi
              go_wp2
              generalize hWg : wr.alloc (.cells #[.int .u32 (si : Int), .int .i32 sx, .int .i32 sy] 31) = W1 at *
              generalize wr.heap.size = b at *
              clear hWg s0 s1 s2
              have q0 := fun f => HA.out.four.frCells f 0
              have q1 := fun f => HA.out.four.frCells f 1
              have q2 := fun f => HA.out.four.frCells f 2
              have q3 := fun f => HA.out.four.frCells f 3
              have r0 := fun f => HA.out.two.frCells f 0
              have r1 := fun f => HA.out.two.frCells f 1
              have r2 := fun f => HA.out.two.frCells f 2
              have hlk : ∀ f : FrOf W1, (Instr.lookup 43 (.map (some Bm)) (.int .u32 (si : Int)) false).run Tryd.prog f.val = .ok (.bool bo) f.val := fun f => HLK.out f.val (HA.out.quiet f.fr)
              simp at q0 q1 q2 q3 r0 r1 r2
              refine wp_region_fr (by kernel_rfl) (by kernel_rfl) ?_
              repeat (with_reducible refine wpQuiet_step (fun K hK => ?_)
                      go_simp
                      first
                        | (refine hK _ ?_; clear hK K)
                        | (apply Exists.intro
                           refine ⟨fun _ => ?_, hK _ ?_⟩
                           (go_at_call 14; with_reducible refine Calls.fr_of (S1.out _))
                           clear hK K))
              refine wpQuiet_nil ?_
              rintro w' ⟨f, rfl⟩
              have HO6 : Hid (Own w f.val (GMap idK Bm X.length sz (snp X X.length) :: SRow (some ⟨gr, 0, none⟩) cap2 L :: Cells B #[.bool on, .int .i64 x, .int .i64 y, .int .i64 r] 24 :: [])) := (HA.out.quiet f.fr).two.tail
              clear HA HLK hlk q0 q1 q2 q3 r0 r1 r2 S1
              go_wp2
              go_roundw
              case rel => exact ⟨k + 1, by omega, by go_num, HO6.out⟩
              case measure => simp [iOf]; omega
            · have hkn' : ¬ (k : Int) < (n : Int) := by omega
              have HF : Hid (Fr Nobody w wr) := hO.fr
              clear hO
              go_wp2
              go_ret
              exact ⟨rfl, HF.out⟩
theorem viewParts_walk (w : World) (ht : Tab w) (ao : Option Addr) (len cap : Nat) (Q : List Opq) (hQ : IsOps w ao len cap Q) (on : Bool) (x y r : Int) (h1 : ok64 x) (h2 : ok64 y) (h3 : ok64 r) :
    Calls Tryd.prog 5 #[.slice ao len cap, .agg #[.bool on, .int .i64 x, .int .i64 y, .int .i64 r]] w fun e w' => e = .returned (.bool true) ∧ Below w.heap.size w w' := by
  refine (viewParts_fr w ht ao len cap Q hQ on x y r).mono ?_
  rintro e w' ⟨rfl, hf⟩
  exact ⟨rfl, hf.below (Nat.le_refl _) (fun _ _ h => h)⟩
theorem laidOut : laidOutB Tryd.prog = true := by kernel_rfl

set_option maxRecDepth 100000 in
theorem viewParts_lifted (os : Os) (started : os.Started) (H : Type) (enc : TypeId × Value → H) :
    ReturnsInHanded {} Tryd.checked os 5 .any (fun w args => (Rows.viewPartsSpec.pre enc Tryd.prog Tryd.f5 [] false w args ∧ laidMetH Tryd.prog laid1 w) ∧ sizedMet enc Tryd.prog Tryd.f5 (OpenSpec.ofChange Rows.viewPartsSpec) false w args) (Rows.viewPartsSpec.post enc Tryd.prog Tryd.f5 false true false false) := by
  refine returnsInHanded_of_change_and (C := Tryd.checked) (X := fun w _ => laidMetH Tryd.prog laid1 w) (fun _ _ _ hh h => h.of_heap hh) own started (by kernel_rfl) Tryd.func5
    (ChangeSpec.witness_shaped (enc := enc) (C := Tryd.checked) (os := os) (X := fun w _ => laidMetH Tryd.prog laid1 w) false (World.doorLaid Tryd.prog 400 os) #[.slice none 0 0, .agg #[.bool false, .int .i64 0, .int .i64 0, .int .i64 0]] 8 rfl (World.shaped_of_RefB (by kernel_rfl) (by kernel_rfl)) (by kernel_rfl) (by kernel_rfl) (by kernel_rfl) (door_met os _)) ?_
  intro W base args ds gs before hval0 hW _ _ hL _
  have hval : ∀ (j : Nat) t v, Tryd.f5.params[j]? = some t → args[j]? = some v → Value.okWide Tryd.prog W .any base t v := hval0
  have hW' := hW
  obtain ⟨p, q, hA0, hV, rfl, hfz, hnd⟩ := hW
  have hA : DataW.TrodAll enc Tryd.prog W 0 (fun _ => true) true Tryd.f5.params.toList args.toList ds p := hA0
  rw [Tryd.params5] at hA hval
  obtain ⟨v0, vs0, d0, ds0, p0, q0, hargs, rfl, rfl, h0, r0⟩ := trodAll_cons hA
  obtain ⟨v1, vs1, d1, ds1, p1, q1, rfl, rfl, rfl, h1, r1⟩ := trodAll_cons r0
  obtain ⟨rfl, rfl, rfl⟩ := trodAll_nil r1
  obtain rfl : args = #[v0, v1] := by cases args; simp_all
  obtain ⟨rfl, rfl⟩ := trodVars_none hV
  obtain ⟨a0, len0, cap0, rfl⟩ := okWide_slice Tryd.underlying22 (hval 0 22 v0 rfl rfl)
  have k0 := h0
  have lt0 : ∀ x ∈ p0, x.block < W.heap.size := by obtain ⟨m, hm⟩ := k0; exact DataW.trod_lt m _ _ _ hm
  obtain ⟨z0, w0⟩ := open_ops (hval 0 22 _ rfl rfl) h0
  obtain ⟨on1, x1, y1, rr1, rfl, rfl, rfl, wx1, wy1, wr1⟩ := open_region (hval 1 24 v1 rfl rfl) h1
  clear hA0 hval0
  refine (viewParts_walk W (of_laid hL) a0 len0 cap0 z0 w0 on1 x1 y1 rr1 wx1 wy1 wr1).mono fun e W' ⟨he, bel⟩ => ?_
  subst he
  exact ⟨_, rfl, _, _, _, [], _, [], hW', trodAll_mk1 (shut_bool Tryd.underlying4 _), (trodAll_cons_mk (Below.trod laidOut (by kernel_rfl) (of_decide_eq_true (by kernel_rfl)) k0 bel lt0) (trodAll_cons_mk (shut_region wx1 wy1 wr1) trodAll_mk0)), rfl, bel.frame _, fun h => by cases h⟩

theorem viewParts_row : Rows.ViewPartsSaid :=
  OpenClaim.holds_of_wide 5 Tryd.f5 rfl rfl rfl rfl rfl rfl rfl ⟨rfl, rfl, rfl, rfl, rfl⟩ rfl rfl rfl rfl rfl (by kernel_rfl) Tryd.func5 (by kernel_rfl)
    (of_decide_eq_true (by kernel_rfl)) (by unfold Func.isWrapper; first | (rw [if_pos (by decide +kernel)]; kernel_rfl) | (rw [if_neg (by decide +kernel)]; exact ⟨rfl, rfl⟩))
    (fun os started H enc _ => viewParts_lifted os started H enc)

theorem viewParts_holds : Rows.ViewPartsCardSaid :=
  Claim7.holds_tied_plain_at .later [] [.data] true (true, "1cba1285d3d13900080f4e895c1d45178688ff316ec529ff7ce0543ce2837164") false
    viewParts_row (fun _ h => by cases h) (by kernel_rfl) (fun _ h => by cases h) viewParts_row_tie rfl ⟨rfl, rfl⟩ (by kernel_rfl) rfl
    (fun f fn hf hfn => by
      obtain rfl : f = 5 := Option.some.inj ((show Tryd.prog.funcNamed "pinnace/pinnacelaw17.ViewParts" = some 5 by kernel_rfl).symm.trans hf) |>.symm
      obtain rfl : fn = Tryd.f5 := (Option.some.inj (Tryd.func5.symm.trans hfn)).symm
      exact ⟨by kernel_rfl, fun j t ht => by
        rw [Tryd.params5] at ht
        have hm : t ∈ [22, 24] := by simpa using Array.mem_of_getElem? ht
        have hall : ([22, 24].all fun u => !Tryd.prog.wantsStandIn u) = true := by kernel_rfl
        exact (show Tryd.prog.wantsStandIn t = false by simpa using List.all_eq_true.1 hall t hm)⟩)
    (by kernel_rfl)

end Go.Proofs.YthokgjkgfolojabDoor
