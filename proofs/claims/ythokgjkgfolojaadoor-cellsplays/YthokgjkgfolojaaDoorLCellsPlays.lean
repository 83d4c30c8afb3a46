/-
  Every script of who comes, goes and moves has the document's answers, cell by cell, and so has a nil grid: CellsPlays returns true, whatever its arguments, where the table of the components lies as the program's text lays it, and changes nothing that was there.
-/
import Derived.Test.YthokgjkgfolojaaDoorCem
import Derived.Test.YthokgjkgfolojaaDoorCeu
import Derived.OpenShut
import Derived.SevenTiedAt
namespace Go.Proofs.YthokgjkgfolojaaDoor
open Go.ChangeShapes Go.WideShapes Go.ChangeAt Go.RowKit
set_option linter.unusedVariables false
set_option maxRecDepth 100000

theorem hom_is {L : List Spt} (h : Rise L) {s : Spt} (hs : s ∈ L) : hom L s.1 = some (scl s) := (hom_some h).2 ⟨s, hs, rfl, rfl⟩
theorem box_short {L : List Spt} {n : Nat} (h : GAll L n) (x0 y0 x1 y1 : Int) : (boxL L x0 y0 x1 y1).length ≤ n := by
  unfold boxL; rw [List.length_map]
  exact Nat.le_trans (List.length_filter_le _ _) h.len
set_option maxHeartbeats 32000000 in
theorem cellsPlays_fr (w : World) (ht : Tab w) (ao : Option Addr) (len cap : Nat) (Q : List Opq) (hQ : IsOps w ao len cap Q) (x0 y0 x1 y1 : Int) :
    Calls Tryd.prog 4 #[.slice ao len cap, .int .i64 x0, .int .i64 y0, .int .i64 x1, .int .i64 y1] w fun e w' => e = .returned (.bool true) ∧ Fr Nobody w w' := by
  have hlen : len ≤ 9223372036854775807 := by have h1 := hQ.2.1; have h2 := hQ.2.2.1; unfold maxLen at h2; omega
  have HT : Hid (Tab w) := ht
  have HQ : Hid (IsOps w ao len cap Q) := hQ
  have HA : Hid (Calls _ _ _ _ _) := awake16 w ht
  have HN : Hid (∀ w', Fr Nobody w w' → Calls Tryd.prog 11 #[] w' fun e w'' => ∃ g, e = .returned (.pointer (some ⟨g, 0, none⟩)) ∧ Own w w'' (Grid g [] 1000 :: [])) := fun w' hf => gnew w w' [] (Own.of_fr hf) 1000
  clear ht hQ
  go_enter Tryd.func4, Tryd.ntmps4
  go_wp2_with fail
  refine HA.out.mono ?_
  rintro e v1 ⟨rfl, hf⟩
  have H0 : Hid (Calls _ _ _ _ _) := HN.out v1 hf
  clear hf HA HN
  go_wp2_with fail
  refine H0.out.mono ?_
  rintro e v2 ⟨g, rfl, h1⟩
  have H1 : Hid (Own w v2 (Grid g [] 1000 :: [])) := h1
  clear h1 H0
  go_wp2
  go_loopw [13, 35] (fun vl vi wr => ∃ (j : Nat) (ao2 : Option Addr) (cap2 : Nat) (L : List Spt) (n : Nat), j ≤ len ∧ vi = .int .i64 (j : Int) ∧ vl = .slice ao2 n cap2 ∧ n = L.length ∧ L = playsS (Q.take (min j 80)) ∧ Own w wr (SRow ao2 cap2 L :: Grid g L 1000 :: []) ∧ GAll L 80) (fun _ vi _ => len - (iOf vi).toNat)
  case atStart => exact ⟨0, none, 0, [], 0, Nat.zero_le _, rfl, rfl, rfl, rfl, H1.out.nilRow _ _, GAll.nil.mono (by decide)⟩
  case round =>
    obtain ⟨j, ao2, cap2, L, n, hj, rfl, rfl, hn, hL, hO, hGA⟩ := hrel
    clear H1
    have hnl : n ≤ 80 := by have := hGA.len; omega
    by_cases hlt : j < len
    · have hlt' : (j : Int) < (len : Int) := by omega
      obtain ⟨gs, os, q, rfl, hq, d1, d2, d3, d4, c0, c1, c2, c3⟩ := op_cells HQ.out hO.fr hlt
      by_cases hj80 : j < 80
      · have hj80' : ¬ (80 : Int) ≤ (j : Int) := by omega
        have hST := take_stepS hq hj80
        rw [← hL] at hST
        have hGL : GAll L j := by
          rw [hL]
          exact playsS_all HQ.out (by omega)
        obtain ⟨qd, qi, qx, qy⟩ := q
        simp only at c0 c1 c2 c3 d1 d2 d3 d4
        have hA := hO.allocC #[.int .u8 (qd : Int), .int .u32 (qi : Int), .int .i32 qx, .int .i32 qy] 32
        by_cases h4 : qd < 4
        · have h4' : (qd : Int) < 4 := by omega
          have hLs : sstep L ⟨qd, qi, qx, qy⟩ = pstep L ⟨qd, qi, qx, qy⟩ := by unfold sstep; rw [if_pos h4]
          obtain ⟨L1, hL1⟩ : ∃ L1, L1 = sstep L ⟨qd, qi, qx, qy⟩ := ⟨_, rfl⟩
          have hLp : L1 = rputL qi qx qy L := by rw [hL1, hLs]; rfl
          have hLg : L1 = (if putE qi qx qy = 0 then putL L (qi, qx, qy) else L) := by rw [hL1, hLs]; rfl
          have hG1 : GAll L1 80 := by rw [hL1]; exact (hGL.sst _ d2).mono (by omega)
          have HST : Hid (L1 = playsS (Q.take (min (j + 1) 80))) := by show _ = _; rw [hST]; exact hL1
          obtain ⟨pe, hpe⟩ : ∃ pe, pe = putE qi qx qy := ⟨_, rfl⟩
          obtain ⟨m, hm⟩ : ∃ m, m = L1.length := ⟨_, rfl⟩
          have hml : m ≤ 80 := by rw [hm]; exact hG1.len
          have HRP : Hid (Calls _ _ _ _ _) := rput_any w _ _ ao2 cap2 L hA.two hGA.ok.1 (by omega) qi qx qy
          rw [← hLp, ← hpe, ← hn, ← hm] at HRP
          have HGP : Hid (∀ W a c, Own w W (SRow a c L1 :: Cells wr.heap.size #[.int .u8 (qd : Int), .int .u32 (qi : Int), .int .i32 qx, .int .i32 qy] 32 :: Grid g L 1000 :: []) → Calls Tryd.prog 13 #[.pointer (some ⟨g, 0, none⟩), .int .u32 (qi : Int), .int .i32 qx, .int .i32 qy] W fun e w' => e = .returned (.int .i64 pe) ∧ Own w w' (SRow a c L1 :: Grid g L1 1000 :: Cells wr.heap.size #[.int .u8 (qd : Int), .int .u32 (qi : Int), .int .i32 qx, .int .i32 qy] 32 :: [])) := fun W a c h => by
            refine (gput_any w W _ g 1000 L h.three hGA.ok HT.out qi d2 qx qy (by have := hGA.len; omega) (by unfold maxLen; decide)).mono ?_
            rintro e w' ⟨rfl, h2⟩
            rw [← hLg] at h2
            exact ⟨by rw [hpe], h2.two⟩
          have HPN : Hid (∀ W, Calls _ _ _ W _) := fun W => gput_nil W qi qx qy
          have HM : Hid (m = L1.length) := hm
          have HG1 : Hid (GAll L1 80) := hG1
          clear hA hO hq hL hGL hpe hGA d1 d3 d4 hLs hL1 hLp hLg hST hm hn hG1 hnl
          go_wp2_with fail
          refine HRP.out.mono ?_
          rintro e w2 ⟨a3, cap3, rfl, h2⟩
          have HG2 : Hid (Calls _ _ _ _ _) := HGP.out w2 a3 cap3 h2
          have k1 := h2.two.cell 1
          have k2 := h2.two.cell 2
          have k3 := h2.two.cell 3
          simp at k1 k2 k3
          clear HRP HGP h2 c0 c1 c2 c3
          go_wp2_with fail
          refine HG2.out.mono ?_
          rintro e w3 ⟨rfl, h3⟩
          clear k1 k2 k3 HG2
          have k1 := h3.three.cell 1
          have k2 := h3.three.cell 2
          have k3 := h3.three.cell 3
          simp at k1 k2 k3
          have H3 : Hid (Own w w3 _) := h3
          clear h3
          go_wp2_with fail
          refine (HPN.out _).mono ?_
          rintro e w4 ⟨rfl, rfl⟩
          clear HPN k2 k3
          have h3 := H3.out
          clear H3
          obtain ⟨hx, hhx⟩ : ∃ v : Int, v = ((hom L1 qi).getD (0, 0)).1 := ⟨_, rfl⟩
          obtain ⟨hy, hhy⟩ : ∃ v : Int, v = ((hom L1 qi).getD (0, 0)).2 := ⟨_, rfl⟩
          obtain ⟨ob, hob⟩ : ∃ v : Bool, v = (hom L1 qi).isSome := ⟨_, rfl⟩
          have HWH : Hid (Calls _ _ _ _ _) := gwhere w _ _ g 1000 L1 h3.two qi d2
          rw [← hhx, ← hhy, ← hob] at HWH
          have HHS : Hid (∀ s, s ∈ L1 → s.1 = qi → cel s.2.1 = hx ∧ cel s.2.2 = hy ∧ ob = true) := fun s hs e => by
            have := hom_is HG1.out.ok.1 hs
            rw [e] at this
            rw [hhx, hhy, hob, this]
            exact ⟨rfl, rfl, rfl⟩
          have HHA : Hid (ob = L1.any (fun s => decide (s.1 = qi))) := by show _ = _; rw [hob]; exact hom_any _ _
          clear h3 hhx hhy hob
          go_wp2_with fail
          refine HWH.out.mono ?_
          rintro e w5 ⟨rfl, h5⟩
          have H5 : Hid (Own w w5 (SRow a3 cap3 L1 :: Grid g L1 1000 :: Cells wr.heap.size #[.int .u8 (qd : Int), .int .u32 (qi : Int), .int .i32 qx, .int .i32 qy] 32 :: [])) := h5.two
          clear h5 HWH k1
          generalize wr.heap.size = B at *
          go_wp2
          go_loopw [20, 112] (fun vb vi wr2 => ∃ (k : Nat) (bk : Bool), k ≤ m ∧ vi = .int .i64 (k : Int) ∧ vb = .bool bk ∧ bk = (L1.take k).any (fun s => decide (s.1 = qi)) ∧ Own w wr2 (SRow a3 cap3 L1 :: Grid g L1 1000 :: Cells B #[.int .u8 (qd : Int), .int .u32 (qi : Int), .int .i32 qx, .int .i32 qy] 32 :: [])) (fun _ vi _ => m - (iOf vi).toNat)
          case atStart => exact ⟨0, false, Nat.zero_le _, rfl, rfl, by simp, H5.out⟩
          case round =>
            obtain ⟨k, bk, hk, rfl, rfl, hbk, h6⟩ := hrel
            clear H5
            have kq := h6.three.cell 1
            simp at kq
            by_cases hkl : k < m
            · have hkl' : (k : Int) < (m : Int) := by omega
              obtain ⟨s, hs⟩ : ∃ s, L1[k]? = some s := ⟨_, List.getElem?_eq_getElem (by rw [← HM.out]; exact hkl)⟩
              obtain ⟨gr, hgr, s0, s1, s2⟩ := h6.spt hs
              have hms := List.mem_of_getElem? hs
              have hat := any_take hs qi
              rw [← hbk] at hat
              obtain ⟨_, hsx, hsy⟩ := HG1.out.ok.2 s hms
              have hho := HHS.out s hms
              obtain ⟨si, sx, sy⟩ := s
              simp only at s0 s1 s2 hat hsx hsy hho
              have hA6 := h6.alloc (.cells #[.int .u32 (si : Int), .int .i32 sx, .int .i32 sy] 42)
              have HA6 : Hid (Own w _ _) := hA6
              have kq2 := hA6.three.cell 1
              simp at kq2
              subst hgr
              clear hA6 h6 hs hms hbk
              by_cases hid : si = qi
              · have hid' : ((si : Int) == (qi : Int)) = true := by simp [hid]
                obtain ⟨e1, e2, e3⟩ := hho hid
                have HX : Hid (∀ W, Calls Tryd.prog 10 #[.int .i32 sx] W fun e w' => e = .returned (.int .i64 hx) ∧ w' = W) := fun W => by rw [← e1]; exact rof_ok W sx hsx
                have HY : Hid (∀ W, Calls Tryd.prog 10 #[.int .i32 sy] W fun e w' => e = .returned (.int .i64 hy) ∧ w' = W) := fun W => by rw [← e2]; exact rof_ok W sy hsy
                have HAT : Hid (true = (L1.take (k + 1)).any (fun s => decide (s.1 = qi))) := by show _ = _; rw [hat]; simp [hid]
                have hh1 : (hx == hx) = true := by simp
                have hh2 : (hy == hy) = true := by simp
                clear hat e1 e2 hsx hsy hho hid
                subst e3
                go_wp2_with fail
                refine (HX.out _).mono ?_
                rintro e w7 ⟨rfl, rfl⟩
                go_wp2_with fail
                refine (HY.out _).mono ?_
                rintro e w8 ⟨rfl, rfl⟩
                go_wp2
                go_roundw
                case rel => exact ⟨k + 1, true, by omega, by go_num, by first | rfl | simp, HAT.out, HA6.out⟩
                case measure => simp [iOf]; omega
              · have hid' : ((si : Int) == (qi : Int)) = false := by simp; omega
                have HAT : Hid (bk = (L1.take (k + 1)).any (fun s => decide (s.1 = qi))) := by show _ = _; rw [hat]; simp [hid]
                clear hat hsx hsy hho hid
                go_wp2
                go_roundw
                case rel => exact ⟨k + 1, bk, by omega, by go_num, rfl, HAT.out, HA6.out⟩
                case measure => simp [iOf]; omega
            · have hkl' : ¬ (k : Int) < (m : Int) := by omega
              have hkm : k = m := by omega
              have hbo : bk = ob := by rw [hbk, HHA.out, hkm, HM.out, List.take_length]
              have HLE : Hid (Calls _ _ _ _ _) := glen w wr _ g 1000 L1 h6.two
              have HUE : Hid (Calls _ _ _ _ _) := gused w wr _ g 1000 L1 h6.two
              have HRU : Hid (Calls _ _ _ _ _) := rused w wr _ a3 cap3 L1 h6 (by have := HM.out; omega) (fun s hs => (HG1.out.ok.2 s hs).2)
              rw [← HM.out] at HLE HRU
              obtain ⟨u, hu⟩ : ∃ u, u = usedL L1 := ⟨_, rfl⟩
              rw [← hu] at HUE HRU
              have hbb : (ob != ob) = false := by simp
              have hb2 : ((m : Int) != (m : Int)) = false := by simp
              have hb3 : ((u : Int) != (u : Int)) = false := by simp
              subst hbo
              clear hbk hu h6 kq hkm
              go_wp2_with fail
              refine HLE.out.mono ?_
              rintro e w7 ⟨rfl, rfl⟩
              go_wp2_with fail
              refine HUE.out.mono ?_
              rintro e w8 ⟨rfl, rfl⟩
              go_wp2_with fail
              refine HRU.out.mono ?_
              rintro e w9 ⟨rfl, h9⟩
              have H9 : Hid (Own w w9 (SRow a3 cap3 L1 :: Grid g L1 1000 :: [])) := h9.three.tail
              clear h9 HRU HLE HUE
              go_wp2
              go_roundw
              case rel => exact ⟨j + 1, a3, cap3, L1, m, by omega, by go_num, rfl, HM.out, HST.out, H9.out, HG1.out⟩
              case measure => simp [iOf]; omega
        · have h4' : ¬ (qd : Int) < 4 := by omega
          by_cases h44 : qd = 4
          · have h44' : ((qd : Int) == 4) = true := by simp [h44]
            have hLs : sstep L ⟨qd, qi, qx, qy⟩ = dropL L qi := by unfold sstep; rw [if_neg h4, if_pos h44]
            obtain ⟨L1, hL1⟩ : ∃ L1, L1 = sstep L ⟨qd, qi, qx, qy⟩ := ⟨_, rfl⟩
            have hLp : L1 = dropL L qi := by rw [hL1, hLs]
            have hG1 : GAll L1 80 := by rw [hL1]; exact (hGL.sst _ d2).mono (by omega)
            have HST : Hid (L1 = playsS (Q.take (min (j + 1) 80))) := by show _ = _; rw [hST]; exact hL1
            obtain ⟨pe, hpe⟩ : ∃ pe, pe = dropE L qi := ⟨_, rfl⟩
            obtain ⟨m, hm⟩ : ∃ m, m = L1.length := ⟨_, rfl⟩
            have hml : m ≤ 80 := by rw [hm]; exact hG1.len
            have HRP : Hid (Calls _ _ _ _ _) := rdrop w _ _ ao2 cap2 L hA.two (by omega) qi
            rw [← hLp, ← hpe, ← hn, ← hm] at HRP
            have HGP : Hid (∀ W a c, Own w W (SRow a c L1 :: Cells wr.heap.size #[.int .u8 (qd : Int), .int .u32 (qi : Int), .int .i32 qx, .int .i32 qy] 32 :: Grid g L 1000 :: []) → Calls Tryd.prog 15 #[.pointer (some ⟨g, 0, none⟩), .int .u32 (qi : Int)] W fun e w' => e = .returned (.int .i64 pe) ∧ Own w w' (SRow a c L1 :: Grid g L1 1000 :: Cells wr.heap.size #[.int .u8 (qd : Int), .int .u32 (qi : Int), .int .i32 qx, .int .i32 qy] 32 :: [])) := fun W a c h => by
              refine (gdrop_any w W _ g 1000 L h.three hGA.ok qi d2).mono ?_
              rintro e w' ⟨rfl, h2⟩
              rw [← hLp] at h2
              exact ⟨by rw [hpe, drop_code hGA.ok.1], h2.two⟩
            have HPN : Hid (∀ W, Calls _ _ _ W _) := fun W => gdrop_nil W qi
            have HM : Hid (m = L1.length) := hm
            have HG1 : Hid (GAll L1 80) := hG1
            clear hA hO hq hL hGL hpe hGA d1 d3 d4 hLs hL1 hLp hST hm hn hG1 hnl h44
            go_wp2_with fail
            refine HRP.out.mono ?_
            rintro e w2 ⟨a3, cap3, rfl, h2⟩
            have HG2 : Hid (Calls _ _ _ _ _) := HGP.out w2 a3 cap3 h2
            have k1 := h2.two.cell 1
            simp at k1
            clear HRP HGP h2 c0 c1 c2 c3
            go_wp2_with fail
            refine HG2.out.mono ?_
            rintro e w3 ⟨rfl, h3⟩
            clear k1 HG2
            have k1 := h3.three.cell 1
            simp at k1
            have H3 : Hid (Own w w3 _) := h3
            clear h3
            go_wp2_with fail
            refine (HPN.out _).mono ?_
            rintro e w4 ⟨rfl, rfl⟩
            clear HPN
            have h3 := H3.out
            clear H3
            obtain ⟨hx, hhx⟩ : ∃ v : Int, v = ((hom L1 qi).getD (0, 0)).1 := ⟨_, rfl⟩
            obtain ⟨hy, hhy⟩ : ∃ v : Int, v = ((hom L1 qi).getD (0, 0)).2 := ⟨_, rfl⟩
            obtain ⟨ob, hob⟩ : ∃ v : Bool, v = (hom L1 qi).isSome := ⟨_, rfl⟩
            have HWH : Hid (Calls _ _ _ _ _) := gwhere w _ _ g 1000 L1 h3.two qi d2
            rw [← hhx, ← hhy, ← hob] at HWH
            have HHS : Hid (∀ s, s ∈ L1 → s.1 = qi → cel s.2.1 = hx ∧ cel s.2.2 = hy ∧ ob = true) := fun s hs e => by
              have := hom_is HG1.out.ok.1 hs
              rw [e] at this
              rw [hhx, hhy, hob, this]
              exact ⟨rfl, rfl, rfl⟩
            have HHA : Hid (ob = L1.any (fun s => decide (s.1 = qi))) := by show _ = _; rw [hob]; exact hom_any _ _
            clear h3 hhx hhy hob
            go_wp2_with fail
            refine HWH.out.mono ?_
            rintro e w5 ⟨rfl, h5⟩
            have H5 : Hid (Own w w5 (SRow a3 cap3 L1 :: Grid g L1 1000 :: Cells wr.heap.size #[.int .u8 (qd : Int), .int .u32 (qi : Int), .int .i32 qx, .int .i32 qy] 32 :: [])) := h5.two
            clear h5 HWH k1
            generalize wr.heap.size = B at *
            go_wp2
            go_loopw [20, 112] (fun vb vi wr2 => ∃ (k : Nat) (bk : Bool), k ≤ m ∧ vi = .int .i64 (k : Int) ∧ vb = .bool bk ∧ bk = (L1.take k).any (fun s => decide (s.1 = qi)) ∧ Own w wr2 (SRow a3 cap3 L1 :: Grid g L1 1000 :: Cells B #[.int .u8 (qd : Int), .int .u32 (qi : Int), .int .i32 qx, .int .i32 qy] 32 :: [])) (fun _ vi _ => m - (iOf vi).toNat)
            case atStart => exact ⟨0, false, Nat.zero_le _, rfl, rfl, by simp, H5.out⟩
            case round =>
              obtain ⟨k, bk, hk, rfl, rfl, hbk, h6⟩ := hrel
              clear H5
              have kq := h6.three.cell 1
              simp at kq
              by_cases hkl : k < m
              · have hkl' : (k : Int) < (m : Int) := by omega
                obtain ⟨s, hs⟩ : ∃ s, L1[k]? = some s := ⟨_, List.getElem?_eq_getElem (by rw [← HM.out]; exact hkl)⟩
                obtain ⟨gr, hgr, s0, s1, s2⟩ := h6.spt hs
                have hms := List.mem_of_getElem? hs
                have hat := any_take hs qi
                rw [← hbk] at hat
                obtain ⟨_, hsx, hsy⟩ := HG1.out.ok.2 s hms
                have hho := HHS.out s hms
                obtain ⟨si, sx, sy⟩ := s
                simp only at s0 s1 s2 hat hsx hsy hho
                have hA6 := h6.alloc (.cells #[.int .u32 (si : Int), .int .i32 sx, .int .i32 sy] 42)
                have HA6 : Hid (Own w _ _) := hA6
                have kq2 := hA6.three.cell 1
                simp at kq2
                subst hgr
                clear hA6 h6 hs hms hbk
                by_cases hid : si = qi
                · have hid' : ((si : Int) == (qi : Int)) = true := by simp [hid]
                  obtain ⟨e1, e2, e3⟩ := hho hid
                  have HX : Hid (∀ W, Calls Tryd.prog 10 #[.int .i32 sx] W fun e w' => e = .returned (.int .i64 hx) ∧ w' = W) := fun W => by rw [← e1]; exact rof_ok W sx hsx
                  have HY : Hid (∀ W, Calls Tryd.prog 10 #[.int .i32 sy] W fun e w' => e = .returned (.int .i64 hy) ∧ w' = W) := fun W => by rw [← e2]; exact rof_ok W sy hsy
                  have HAT : Hid (true = (L1.take (k + 1)).any (fun s => decide (s.1 = qi))) := by show _ = _; rw [hat]; simp [hid]
                  have hh1 : (hx == hx) = true := by simp
                  have hh2 : (hy == hy) = true := by simp
                  clear hat e1 e2 hsx hsy hho hid
                  subst e3
                  go_wp2_with fail
                  refine (HX.out _).mono ?_
                  rintro e w7 ⟨rfl, rfl⟩
                  go_wp2_with fail
                  refine (HY.out _).mono ?_
                  rintro e w8 ⟨rfl, rfl⟩
                  go_wp2
                  go_roundw
                  case rel => exact ⟨k + 1, true, by omega, by go_num, by first | rfl | simp, HAT.out, HA6.out⟩
                  case measure => simp [iOf]; omega
                · have hid' : ((si : Int) == (qi : Int)) = false := by simp; omega
                  have HAT : Hid (bk = (L1.take (k + 1)).any (fun s => decide (s.1 = qi))) := by show _ = _; rw [hat]; simp [hid]
                  clear hat hsx hsy hho hid
                  go_wp2
                  go_roundw
                  case rel => exact ⟨k + 1, bk, by omega, by go_num, rfl, HAT.out, HA6.out⟩
                  case measure => simp [iOf]; omega
              · have hkl' : ¬ (k : Int) < (m : Int) := by omega
                have hkm : k = m := by omega
                have hbo : bk = ob := by rw [hbk, HHA.out, hkm, HM.out, List.take_length]
                have HLE : Hid (Calls _ _ _ _ _) := glen w wr _ g 1000 L1 h6.two
                have HUE : Hid (Calls _ _ _ _ _) := gused w wr _ g 1000 L1 h6.two
                have HRU : Hid (Calls _ _ _ _ _) := rused w wr _ a3 cap3 L1 h6 (by have := HM.out; omega) (fun s hs => (HG1.out.ok.2 s hs).2)
                rw [← HM.out] at HLE HRU
                obtain ⟨u, hu⟩ : ∃ u, u = usedL L1 := ⟨_, rfl⟩
                rw [← hu] at HUE HRU
                have hbb : (ob != ob) = false := by simp
                have hb2 : ((m : Int) != (m : Int)) = false := by simp
                have hb3 : ((u : Int) != (u : Int)) = false := by simp
                subst hbo
                clear hbk hu h6 kq hkm
                go_wp2_with fail
                refine HLE.out.mono ?_
                rintro e w7 ⟨rfl, rfl⟩
                go_wp2_with fail
                refine HUE.out.mono ?_
                rintro e w8 ⟨rfl, rfl⟩
                go_wp2_with fail
                refine HRU.out.mono ?_
                rintro e w9 ⟨rfl, h9⟩
                have H9 : Hid (Own w w9 (SRow a3 cap3 L1 :: Grid g L1 1000 :: [])) := h9.three.tail
                clear h9 HRU HLE HUE
                go_wp2
                go_roundw
                case rel => exact ⟨j + 1, a3, cap3, L1, m, by omega, by go_num, rfl, HM.out, HST.out, H9.out, HG1.out⟩
                case measure => simp [iOf]; omega
          · have h44' : ((qd : Int) == 4) = false := by simp; omega
            have hLs : sstep L ⟨qd, qi, qx, qy⟩ = L := by unfold sstep; rw [if_neg h4, if_neg h44]
            have HST : Hid (L = playsS (Q.take (min (j + 1) 80))) := by show _ = _; rw [hST, hLs]
            have hml : n ≤ 80 := hnl
            have HM : Hid (n = L.length) := hn
            have HG1 : Hid (GAll L 80) := hGA
            have h3 := hA.two.in23
            clear hA hO hq hL hGL hGA d1 d3 d4 hLs hST hn hnl
            obtain ⟨hx, hhx⟩ : ∃ v : Int, v = ((hom L qi).getD (0, 0)).1 := ⟨_, rfl⟩
            obtain ⟨hy, hhy⟩ : ∃ v : Int, v = ((hom L qi).getD (0, 0)).2 := ⟨_, rfl⟩
            obtain ⟨ob, hob⟩ : ∃ v : Bool, v = (hom L qi).isSome := ⟨_, rfl⟩
            have HWH : Hid (Calls _ _ _ _ _) := gwhere w _ _ g 1000 L h3.two qi d2
            rw [← hhx, ← hhy, ← hob] at HWH
            have HHS : Hid (∀ s, s ∈ L → s.1 = qi → cel s.2.1 = hx ∧ cel s.2.2 = hy ∧ ob = true) := fun s hs e => by
              have := hom_is HG1.out.ok.1 hs
              rw [e] at this
              rw [hhx, hhy, hob, this]
              exact ⟨rfl, rfl, rfl⟩
            have HHA : Hid (ob = L.any (fun s => decide (s.1 = qi))) := by show _ = _; rw [hob]; exact hom_any _ _
            clear h3 hhx hhy hob
            go_wp2_with fail
            refine HWH.out.mono ?_
            rintro e w5 ⟨rfl, h5⟩
            have H5 : Hid (Own w w5 (SRow ao2 cap2 L :: Grid g L 1000 :: Cells wr.heap.size #[.int .u8 (qd : Int), .int .u32 (qi : Int), .int .i32 qx, .int .i32 qy] 32 :: [])) := h5.two
            clear h5 HWH c0 c1 c2 c3
            generalize wr.heap.size = B at *
            go_wp2
            go_loopw [20, 112] (fun vb vi wr2 => ∃ (k : Nat) (bk : Bool), k ≤ n ∧ vi = .int .i64 (k : Int) ∧ vb = .bool bk ∧ bk = (L.take k).any (fun s => decide (s.1 = qi)) ∧ Own w wr2 (SRow ao2 cap2 L :: Grid g L 1000 :: Cells B #[.int .u8 (qd : Int), .int .u32 (qi : Int), .int .i32 qx, .int .i32 qy] 32 :: [])) (fun _ vi _ => n - (iOf vi).toNat)
            case atStart => exact ⟨0, false, Nat.zero_le _, rfl, rfl, by simp, H5.out⟩
            case round =>
              obtain ⟨k, bk, hk, rfl, rfl, hbk, h6⟩ := hrel
              clear H5
              have kq := h6.three.cell 1
              simp at kq
              by_cases hkl : k < n
              · have hkl' : (k : Int) < (n : Int) := by omega
                obtain ⟨s, hs⟩ : ∃ s, L[k]? = some s := ⟨_, List.getElem?_eq_getElem (by rw [← HM.out]; exact hkl)⟩
                obtain ⟨gr, hgr, s0, s1, s2⟩ := h6.spt hs
                have hms := List.mem_of_getElem? hs
                have hat := any_take hs qi
                rw [← hbk] at hat
                obtain ⟨_, hsx, hsy⟩ := HG1.out.ok.2 s hms
                have hho := HHS.out s hms
                obtain ⟨si, sx, sy⟩ := s
                simp only at s0 s1 s2 hat hsx hsy hho
                have hA6 := h6.alloc (.cells #[.int .u32 (si : Int), .int .i32 sx, .int .i32 sy] 42)
                have HA6 : Hid (Own w _ _) := hA6
                have kq2 := hA6.three.cell 1
                simp at kq2
                subst hgr
                clear hA6 h6 hs hms hbk
                by_cases hid : si = qi
                · have hid' : ((si : Int) == (qi : Int)) = true := by simp [hid]
                  obtain ⟨e1, e2, e3⟩ := hho hid
                  have HX : Hid (∀ W, Calls Tryd.prog 10 #[.int .i32 sx] W fun e w' => e = .returned (.int .i64 hx) ∧ w' = W) := fun W => by rw [← e1]; exact rof_ok W sx hsx
                  have HY : Hid (∀ W, Calls Tryd.prog 10 #[.int .i32 sy] W fun e w' => e = .returned (.int .i64 hy) ∧ w' = W) := fun W => by rw [← e2]; exact rof_ok W sy hsy
                  have HAT : Hid (true = (L.take (k + 1)).any (fun s => decide (s.1 = qi))) := by show _ = _; rw [hat]; simp [hid]
                  have hh1 : (hx == hx) = true := by simp
                  have hh2 : (hy == hy) = true := by simp
                  clear hat e1 e2 hsx hsy hho hid
                  subst e3
                  go_wp2_with fail
                  refine (HX.out _).mono ?_
                  rintro e w7 ⟨rfl, rfl⟩
                  go_wp2_with fail
                  refine (HY.out _).mono ?_
                  rintro e w8 ⟨rfl, rfl⟩
                  go_wp2
                  go_roundw
                  case rel => exact ⟨k + 1, true, by omega, by go_num, by first | rfl | simp, HAT.out, HA6.out⟩
                  case measure => simp [iOf]; omega
                · have hid' : ((si : Int) == (qi : Int)) = false := by simp; omega
                  have HAT : Hid (bk = (L.take (k + 1)).any (fun s => decide (s.1 = qi))) := by show _ = _; rw [hat]; simp [hid]
                  clear hat hsx hsy hho hid
                  go_wp2
                  go_roundw
                  case rel => exact ⟨k + 1, bk, by omega, by go_num, rfl, HAT.out, HA6.out⟩
                  case measure => simp [iOf]; omega
              · have hkl' : ¬ (k : Int) < (n : Int) := by omega
                have hkm : k = n := by omega
                have hbo : bk = ob := by rw [hbk, HHA.out, hkm, HM.out, List.take_length]
                have HLE : Hid (Calls _ _ _ _ _) := glen w wr _ g 1000 L h6.two
                have HUE : Hid (Calls _ _ _ _ _) := gused w wr _ g 1000 L h6.two
                have HRU : Hid (Calls _ _ _ _ _) := rused w wr _ ao2 cap2 L h6 (by have := HM.out; omega) (fun s hs => (HG1.out.ok.2 s hs).2)
                rw [← HM.out] at HLE HRU
                obtain ⟨u, hu⟩ : ∃ u, u = usedL L := ⟨_, rfl⟩
                rw [← hu] at HUE HRU
                have hbb : (ob != ob) = false := by simp
                have hb2 : ((n : Int) != (n : Int)) = false := by simp
                have hb3 : ((u : Int) != (u : Int)) = false := by simp
                subst hbo
                clear hbk hu h6 kq hkm
                go_wp2_with fail
                refine HLE.out.mono ?_
                rintro e w7 ⟨rfl, rfl⟩
                go_wp2_with fail
                refine HUE.out.mono ?_
                rintro e w8 ⟨rfl, rfl⟩
                go_wp2_with fail
                refine HRU.out.mono ?_
                rintro e w9 ⟨rfl, h9⟩
                have H9 : Hid (Own w w9 (SRow ao2 cap2 L :: Grid g L 1000 :: [])) := h9.three.tail
                clear h9 HRU HLE HUE
                go_wp2
                go_roundw
                case rel => exact ⟨j + 1, ao2, cap2, L, n, by omega, by go_num, rfl, HM.out, HST.out, H9.out, HG1.out⟩
                case measure => simp [iOf]; omega
      · have hj80' : (80 : Int) ≤ (j : Int) := by omega
        obtain ⟨qd, qi, qx, qy⟩ := q
        simp only at c0 c1 c2 c3 d1 d2 d3 d4
        have hA := hO.alloc (.cells #[.int .u8 (qd : Int), .int .u32 (qi : Int), .int .i32 qx, .int .i32 qy] 32)
        have HO : Hid (Own w _ _) := hA
        have HG : Hid (GAll L 80) := hGA
        have HNL : Hid (n = L.length) := hn
        clear hA hO hGA hq hL hlt hj HQ HT hn d1 d2 d3 d4
        go_wp2
        clear c0 c1 c2 c3 hj80 hj80' hlt'
        go_loopw [157] (fun vi wr => ∃ k : Nat, k ≤ n ∧ vi = .int .i64 (k : Int) ∧ Own w wr (SRow ao2 cap2 L :: Grid g L 1000 :: [])) (fun vi _ => n - (iOf vi).toNat)
        case atStart => exact ⟨0, Nat.zero_le _, rfl, HO.out⟩
        case round =>
          obtain ⟨k, hk, rfl, hO⟩ := hrel
          clear HO
          have HI : Hid (∀ s ∈ L, I32 s.2.1 ∧ I32 s.2.2) := fun s hs => (HG.out.ok.2 s hs).2
          have HAT : Hid (∀ W l (a b : Int), Own w W (Grid g L 1000 :: l) → Calls Tryd.prog 21 #[.pointer (some ⟨g, 0, none⟩), .int .i64 a, .int .i64 b] W fun e w' => ∃ (xs : List Nat) (xn : Nat) (ao : Option Addr) (cap : Nat), xs = boxL L a b a b ∧ xn = xs.length ∧ xn ≤ 80 ∧ e = .returned (.slice ao xn cap) ∧ Own w w' (Row 30 1 (.slice ao xn cap) xn (irow .u32 xs) :: Grid g L 1000 :: l)) := fun W l a b h => by
            refine (gat w W l g 1000 L h HG.out.ok HG.out.inn (by have := HG.out.len; omega) a b).mono ?_
            rintro e w' ⟨ao, cap, rfl, h2⟩
            exact ⟨_, _, ao, cap, rfl, rfl, box_short HG.out _ _ _ _, rfl, h2⟩
          have HBX : Hid (∀ W l (a b c d : Int), Own w W (Grid g L 1000 :: l) → Calls Tryd.prog 23 #[.pointer (some ⟨g, 0, none⟩), .int .i64 a, .int .i64 b, .int .i64 c, .int .i64 d] W fun e w' => ∃ (xs : List Nat) (xn : Nat) (ao : Option Addr) (cap : Nat), xs = boxL L a b c d ∧ xn = xs.length ∧ xn ≤ 80 ∧ e = .returned (.slice ao xn cap) ∧ Own w w' (Row 30 1 (.slice ao xn cap) xn (irow .u32 xs) :: Grid g L 1000 :: l)) := fun W l a b c d h => by
            refine (gbox w W l g 1000 L h HG.out.ok HG.out.inn (by have := HG.out.len; omega) a b c d).mono ?_
            rintro e w' ⟨ao, cap, rfl, h2⟩
            exact ⟨_, _, ao, cap, rfl, rfl, box_short HG.out _ _ _ _, rfl, h2⟩
          have HRB : Hid (∀ W l (a b c d : Int), Own w W (SRow ao2 cap2 L :: l) → Calls Tryd.prog 22 #[.slice ao2 n cap2, .int .i64 a, .int .i64 b, .int .i64 c, .int .i64 d] W fun e w' => ∃ (xs : List Nat) (xn : Nat) (ao : Option Addr) (cap : Nat), xs = boxL L a b c d ∧ xn = xs.length ∧ xn ≤ 80 ∧ e = .returned (.slice ao xn cap) ∧ Own w w' (Row 30 1 (.slice ao xn cap) xn (irow .u32 xs) :: SRow ao2 cap2 L :: l)) := fun W l a b c d h => by
            have hr := rbox w W l ao2 cap2 L h (by have := HG.out.len; omega) HI.out a b c d
            rw [← HNL.out] at hr
            refine hr.mono ?_
            rintro e w' ⟨ao, cap, rfl, h2⟩
            exact ⟨_, _, ao, cap, rfl, rfl, box_short HG.out _ _ _ _, rfl, h2⟩
          have HSM : Hid (∀ (W : World) (l1 l2 : List Thing) (xs : List Nat) (xn : Nat) (a b : Option Addr) (c d : Nat), xn = xs.length → xn ≤ 80 → Own w W (Row 30 1 (.slice a xn c) xn (irow .u32 xs) :: l1) → Own w W (Row 30 1 (.slice b xn d) xn (irow .u32 xs) :: l2) → Calls Tryd.prog 20 #[.slice a xn c, .slice b xn d] W fun e w' => e = .returned (.bool true) ∧ Fr Nobody W w') := fun W l1 l2 xs xn a b c d hx hxl h1 h2 => by
            subst hx
            exact same_ok W _ _ xs h1.nums h2.nums (by omega)
          by_cases hkn : k < n
          · have hkn' : (k : Int) < (n : Int) := by omega
            obtain ⟨s, hs⟩ : ∃ s, L[k]? = some s := ⟨_, List.getElem?_eq_getElem (by rw [← HNL.out]; exact hkn)⟩
            obtain ⟨gr, hgr, s0, s1, s2⟩ := hO.spt hs
            obtain ⟨hsx, hsy⟩ := HI.out s (List.mem_of_getElem? hs)
            obtain ⟨si, sx, sy⟩ := s
            simp only at s0 s1 s2 hsx hsy
            obtain ⟨cx, hcx⟩ : ∃ cx, cx = cel sx := ⟨_, rfl⟩
            obtain ⟨cy, hcy⟩ : ∃ cy, cy = cel sy := ⟨_, rfl⟩
            have HX : Hid (∀ W, Calls Tryd.prog 10 #[.int .i32 sx] W fun e w' => e = .returned (.int .i64 cx) ∧ w' = W) := fun W => by rw [hcx]; exact rof_ok W sx hsx
            have HY : Hid (∀ W, Calls Tryd.prog 10 #[.int .i32 sy] W fun e w' => e = .returned (.int .i64 cy) ∧ w' = W) := fun W => by rw [hcy]; exact rof_ok W sy hsy
            have hA := hO.allocC #[.int .u32 (si : Int), .int .i32 sx, .int .i32 sy] 42
            have HA : Hid (Own w _ _) := hA
            subst hgr
            clear hA hO hs hcx hcy hsx hsy
            go_wp2
            generalize hWg : wr.alloc (.cells #[.int .u32 (si : Int), .int .i32 sx, .int .i32 sy] 42) = W1 at *
            generalize wr.heap.size = B at *
            clear hWg s0 s1 s2
            have q1 := HA.out.cell 1
            have q2 := HA.out.cell 2
            simp at q1 q2
            go_quiet (first | (go_at_call 10; with_reducible refine Calls.quiet_of_same (HX.out _)) | (go_at_call 10; with_reducible refine Calls.quiet_of_same (HY.out _)))
            generalize hWg : W1.drewN nq = W2
            have hB := HA.out.drewN nq
            rw [hWg] at hB
            have H5 : Hid (Calls _ _ _ _ _) := HAT.out W2 _ cx cy hB.tail.two
            clear hWg hB q1 q2 HA HX HY
            go_wp2_with fail
            refine H5.out.mono ?_
            rintro e w3 ⟨xs, xn, a1, c1, hxs, hxn, hx80, rfl, h3⟩
            have HXS : Hid (_ = _) := hxs
            have HXN : Hid (_ = _) := hxn
            clear hxs hxn
            have H6 : Hid (Calls _ _ _ _ _) := HRB.out w3 _ cx cy cx cy h3.three
            clear H5 h3
            go_wp2_with fail
            refine H6.out.mono ?_
            rintro e w4 ⟨ys, yn, a2, c2, hys, hyn, hy80, rfl, h4⟩
            have e1 : ys = xs := by rw [hys, HXS.out]
            subst e1
            have e2 : yn = xn := by rw [hyn, HXN.out]
            subst e2
            have H7 : Hid (Calls _ _ _ _ _) := HSM.out w4 _ _ ys yn a1 a2 c1 c2 hyn hy80 h4.three h4
            have H8 : Hid (Own w w4 (SRow (some ⟨gr, 0, none⟩) cap2 L :: Grid g L 1000 :: [])) := (h4.tail.two.tail)
            clear H6 h4 HXS hys HXN hyn hx80 hy80
            go_wp2_with fail
            refine H7.out.mono ?_
            rintro e w5 ⟨rfl, hf5⟩
            have H9 : Hid (Own w w5 _) := H8.out.quiet hf5
            clear H8 hf5 H7
            go_wp2
            go_roundw
            case rel => exact ⟨k + 1, by omega, by go_num, H9.out⟩
            case measure => simp [iOf]; omega
          · have hkn' : ¬ (k : Int) < (n : Int) := by omega
            have HW7 : Hid (Calls _ _ _ _ _) := gwhere_nil wr 7
            have H1 : Hid (Calls _ _ _ _ _) := HBX.out wr _ x0 y0 x1 y1 hO.two
            clear hO
            go_wp2_with fail
            refine HW7.out.mono ?_
            rintro e w2 ⟨rfl, rfl⟩
            go_wp2_with fail
            refine H1.out.mono ?_
            rintro e w3 ⟨xs, xn, a1, c1, hxs, hxn, hx80, rfl, h3⟩
            have HXS : Hid (_ = _) := hxs
            have HXN : Hid (_ = _) := hxn
            clear hxs hxn
            have H6 : Hid (Calls _ _ _ _ _) := HRB.out w3 _ x0 y0 x1 y1 h3.three
            clear H1 h3 HW7
            go_wp2_with fail
            refine H6.out.mono ?_
            rintro e w4 ⟨ys, yn, a2, c2, hys, hyn, hy80, rfl, h4⟩
            have e1 : ys = xs := by rw [hys, HXS.out]
            subst e1
            have e2 : yn = xn := by rw [hyn, HXN.out]
            subst e2
            have H7 : Hid (Calls _ _ _ _ _) := HSM.out w4 _ _ ys yn a1 a2 c1 c2 hyn hy80 h4.three h4
            have H8 : Hid (Own w w4 (SRow ao2 cap2 L :: Grid g L 1000 :: [])) := (h4.tail.two.tail)
            clear H6 h4 HXS hys HXN hyn hx80 hy80
            go_wp2_with fail
            refine H7.out.mono ?_
            rintro e w5 ⟨rfl, hf5⟩
            have h9 := H8.out.quiet hf5
            have H1 : Hid (Calls _ _ _ _ _) := HAT.out w5 _ x0 y0 h9.two
            clear H8 hf5 H7 h9
            go_wp2_with fail
            refine H1.out.mono ?_
            rintro e w6 ⟨xs, xm, a3, c3, hxs, hxn, hx80, rfl, h3⟩
            have HXS : Hid (_ = _) := hxs
            have HXN : Hid (_ = _) := hxn
            clear hxs hxn
            have H6 : Hid (Calls _ _ _ _ _) := HRB.out w6 _ x0 y0 x0 y0 h3.three
            clear H1 h3
            go_wp2_with fail
            refine H6.out.mono ?_
            rintro e w7 ⟨zs, zn, a4, c4, hys, hyn, hy80, rfl, h4⟩
            have e1 : zs = xs := by rw [hys, HXS.out]
            subst e1
            have e2 : zn = xm := by rw [hyn, HXN.out]
            subst e2
            have H7 : Hid (Calls _ _ _ _ _) := HSM.out w7 _ _ zs zn a3 a4 c3 c4 hyn hy80 h4.three h4
            have HF8 : Hid (Fr Nobody w w7) := h4.fr
            clear H6 h4 HXS hys HXN hyn hx80 hy80
            go_wp2_with fail
            refine H7.out.mono ?_
            rintro e w8 ⟨rfl, hf8⟩
            have HF9 : Hid (Fr Nobody w w8) := HF8.out.trans hf8
            have N1 : Hid (Calls _ _ _ _ _) := gat_nil w8 0 0
            have N2 : Hid (Calls _ _ _ _ _) := gbox_nil w8 x0 y0 x1 y1
            have N3 : Hid (Calls _ _ _ _ _) := glen_nil w8
            have N4 : Hid (Calls _ _ _ _ _) := gused_nil w8
            clear HF8 hf8 H7
            go_wp2_with fail
            refine N1.out.mono ?_
            rintro e w9 ⟨rfl, rfl⟩
            go_wp2_with fail
            refine N2.out.mono ?_
            rintro e w9 ⟨rfl, rfl⟩
            go_wp2_with fail
            refine N3.out.mono ?_
            rintro e w9 ⟨rfl, rfl⟩
            go_wp2_with fail
            refine N4.out.mono ?_
            rintro e w9 ⟨rfl, rfl⟩
            go_wp2
            go_ret
            exact ⟨by simp, HF9.out⟩
    · have hlt' : ¬ (j : Int) < (len : Int) := by omega
      have HO : Hid (Own w wr _) := hO
      have HG : Hid (GAll L 80) := hGA
      have HNL : Hid (n = L.length) := hn
      clear hO hGA hL hlt hj HQ HT hn
      go_wp2
      clear hlt'
      go_loopw [157] (fun vi wr => ∃ k : Nat, k ≤ n ∧ vi = .int .i64 (k : Int) ∧ Own w wr (SRow ao2 cap2 L :: Grid g L 1000 :: [])) (fun vi _ => n - (iOf vi).toNat)
      case atStart => exact ⟨0, Nat.zero_le _, rfl, HO.out⟩
      case round =>
        obtain ⟨k, hk, rfl, hO⟩ := hrel
        clear HO
        have HI : Hid (∀ s ∈ L, I32 s.2.1 ∧ I32 s.2.2) := fun s hs => (HG.out.ok.2 s hs).2
        have HAT : Hid (∀ W l (a b : Int), Own w W (Grid g L 1000 :: l) → Calls Tryd.prog 21 #[.pointer (some ⟨g, 0, none⟩), .int .i64 a, .int .i64 b] W fun e w' => ∃ (xs : List Nat) (xn : Nat) (ao : Option Addr) (cap : Nat), xs = boxL L a b a b ∧ xn = xs.length ∧ xn ≤ 80 ∧ e = .returned (.slice ao xn cap) ∧ Own w w' (Row 30 1 (.slice ao xn cap) xn (irow .u32 xs) :: Grid g L 1000 :: l)) := fun W l a b h => by
          refine (gat w W l g 1000 L h HG.out.ok HG.out.inn (by have := HG.out.len; omega) a b).mono ?_
          rintro e w' ⟨ao, cap, rfl, h2⟩
          exact ⟨_, _, ao, cap, rfl, rfl, box_short HG.out _ _ _ _, rfl, h2⟩
        have HBX : Hid (∀ W l (a b c d : Int), Own w W (Grid g L 1000 :: l) → Calls Tryd.prog 23 #[.pointer (some ⟨g, 0, none⟩), .int .i64 a, .int .i64 b, .int .i64 c, .int .i64 d] W fun e w' => ∃ (xs : List Nat) (xn : Nat) (ao : Option Addr) (cap : Nat), xs = boxL L a b c d ∧ xn = xs.length ∧ xn ≤ 80 ∧ e = .returned (.slice ao xn cap) ∧ Own w w' (Row 30 1 (.slice ao xn cap) xn (irow .u32 xs) :: Grid g L 1000 :: l)) := fun W l a b c d h => by
          refine (gbox w W l g 1000 L h HG.out.ok HG.out.inn (by have := HG.out.len; omega) a b c d).mono ?_
          rintro e w' ⟨ao, cap, rfl, h2⟩
          exact ⟨_, _, ao, cap, rfl, rfl, box_short HG.out _ _ _ _, rfl, h2⟩
        have HRB : Hid (∀ W l (a b c d : Int), Own w W (SRow ao2 cap2 L :: l) → Calls Tryd.prog 22 #[.slice ao2 n cap2, .int .i64 a, .int .i64 b, .int .i64 c, .int .i64 d] W fun e w' => ∃ (xs : List Nat) (xn : Nat) (ao : Option Addr) (cap : Nat), xs = boxL L a b c d ∧ xn = xs.length ∧ xn ≤ 80 ∧ e = .returned (.slice ao xn cap) ∧ Own w w' (Row 30 1 (.slice ao xn cap) xn (irow .u32 xs) :: SRow ao2 cap2 L :: l)) := fun W l a b c d h => by
          have hr := rbox w W l ao2 cap2 L h (by have := HG.out.len; omega) HI.out a b c d
          rw [← HNL.out] at hr
          refine hr.mono ?_
          rintro e w' ⟨ao, cap, rfl, h2⟩
          exact ⟨_, _, ao, cap, rfl, rfl, box_short HG.out _ _ _ _, rfl, h2⟩
        have HSM : Hid (∀ (W : World) (l1 l2 : List Thing) (xs : List Nat) (xn : Nat) (a b : Option Addr) (c d : Nat), xn = xs.length → xn ≤ 80 → Own w W (Row 30 1 (.slice a xn c) xn (irow .u32 xs) :: l1) → Own w W (Row 30 1 (.slice b xn d) xn (irow .u32 xs) :: l2) → Calls Tryd.prog 20 #[.slice a xn c, .slice b xn d] W fun e w' => e = .returned (.bool true) ∧ Fr Nobody W w') := fun W l1 l2 xs xn a b c d hx hxl h1 h2 => by
          subst hx
          exact same_ok W _ _ xs h1.nums h2.nums (by omega)
        by_cases hkn : k < n
        · have hkn' : (k : Int) < (n : Int) := by omega
          obtain ⟨s, hs⟩ : ∃ s, L[k]? = some s := ⟨_, List.getElem?_eq_getElem (by rw [← HNL.out]; exact hkn)⟩
          obtain ⟨gr, hgr, s0, s1, s2⟩ := hO.spt hs
          obtain ⟨hsx, hsy⟩ := HI.out s (List.mem_of_getElem? hs)
          obtain ⟨si, sx, sy⟩ := s
          simp only at s0 s1 s2 hsx hsy
          obtain ⟨cx, hcx⟩ : ∃ cx, cx = cel sx := ⟨_, rfl⟩
          obtain ⟨cy, hcy⟩ : ∃ cy, cy = cel sy := ⟨_, rfl⟩
          have HX : Hid (∀ W, Calls Tryd.prog 10 #[.int .i32 sx] W fun e w' => e = .returned (.int .i64 cx) ∧ w' = W) := fun W => by rw [hcx]; exact rof_ok W sx hsx
          have HY : Hid (∀ W, Calls Tryd.prog 10 #[.int .i32 sy] W fun e w' => e = .returned (.int .i64 cy) ∧ w' = W) := fun W => by rw [hcy]; exact rof_ok W sy hsy
          have hA := hO.allocC #[.int .u32 (si : Int), .int .i32 sx, .int .i32 sy] 42
          have HA : Hid (Own w _ _) := hA
          subst hgr
          clear hA hO hs hcx hcy hsx hsy
          go_wp2
          generalize hWg : wr.alloc (.cells #[.int .u32 (si : Int), .int .i32 sx, .int .i32 sy] 42) = W1 at *
          generalize wr.heap.size = B at *
          clear hWg s0 s1 s2
          have q1 := HA.out.cell 1
          have q2 := HA.out.cell 2
          simp at q1 q2
          go_quiet (first | (go_at_call 10; with_reducible refine Calls.quiet_of_same (HX.out _)) | (go_at_call 10; with_reducible refine Calls.quiet_of_same (HY.out _)))
          generalize hWg : W1.drewN nq = W2
          have hB := HA.out.drewN nq
          rw [hWg] at hB
          have H5 : Hid (Calls _ _ _ _ _) := HAT.out W2 _ cx cy hB.tail.two
          clear hWg hB q1 q2 HA HX HY
          go_wp2_with fail
          refine H5.out.mono ?_
          rintro e w3 ⟨xs, xn, a1, c1, hxs, hxn, hx80, rfl, h3⟩
          have HXS : Hid (_ = _) := hxs
          have HXN : Hid (_ = _) := hxn
          clear hxs hxn
          have H6 : Hid (Calls _ _ _ _ _) := HRB.out w3 _ cx cy cx cy h3.three
          clear H5 h3
          go_wp2_with fail
          refine H6.out.mono ?_
          rintro e w4 ⟨ys, yn, a2, c2, hys, hyn, hy80, rfl, h4⟩
          have e1 : ys = xs := by rw [hys, HXS.out]
          subst e1
          have e2 : yn = xn := by rw [hyn, HXN.out]
          subst e2
          have H7 : Hid (Calls _ _ _ _ _) := HSM.out w4 _ _ ys yn a1 a2 c1 c2 hyn hy80 h4.three h4
          have H8 : Hid (Own w w4 (SRow (some ⟨gr, 0, none⟩) cap2 L :: Grid g L 1000 :: [])) := (h4.tail.two.tail)
          clear H6 h4 HXS hys HXN hyn hx80 hy80
          go_wp2_with fail
          refine H7.out.mono ?_
          rintro e w5 ⟨rfl, hf5⟩
          have H9 : Hid (Own w w5 _) := H8.out.quiet hf5
          clear H8 hf5 H7
          go_wp2
          go_roundw
          case rel => exact ⟨k + 1, by omega, by go_num, H9.out⟩
          case measure => simp [iOf]; omega
        · have hkn' : ¬ (k : Int) < (n : Int) := by omega
          have HW7 : Hid (Calls _ _ _ _ _) := gwhere_nil wr 7
          have H1 : Hid (Calls _ _ _ _ _) := HBX.out wr _ x0 y0 x1 y1 hO.two
          clear hO
          go_wp2_with fail
          refine HW7.out.mono ?_
          rintro e w2 ⟨rfl, rfl⟩
          go_wp2_with fail
          refine H1.out.mono ?_
          rintro e w3 ⟨xs, xn, a1, c1, hxs, hxn, hx80, rfl, h3⟩
          have HXS : Hid (_ = _) := hxs
          have HXN : Hid (_ = _) := hxn
          clear hxs hxn
          have H6 : Hid (Calls _ _ _ _ _) := HRB.out w3 _ x0 y0 x1 y1 h3.three
          clear H1 h3 HW7
          go_wp2_with fail
          refine H6.out.mono ?_
          rintro e w4 ⟨ys, yn, a2, c2, hys, hyn, hy80, rfl, h4⟩
          have e1 : ys = xs := by rw [hys, HXS.out]
          subst e1
          have e2 : yn = xn := by rw [hyn, HXN.out]
          subst e2
          have H7 : Hid (Calls _ _ _ _ _) := HSM.out w4 _ _ ys yn a1 a2 c1 c2 hyn hy80 h4.three h4
          have H8 : Hid (Own w w4 (SRow ao2 cap2 L :: Grid g L 1000 :: [])) := (h4.tail.two.tail)
          clear H6 h4 HXS hys HXN hyn hx80 hy80
          go_wp2_with fail
          refine H7.out.mono ?_
          rintro e w5 ⟨rfl, hf5⟩
          have h9 := H8.out.quiet hf5
          have H1 : Hid (Calls _ _ _ _ _) := HAT.out w5 _ x0 y0 h9.two
          clear H8 hf5 H7 h9
          go_wp2_with fail
          refine H1.out.mono ?_
          rintro e w6 ⟨xs, xm, a3, c3, hxs, hxn, hx80, rfl, h3⟩
          have HXS : Hid (_ = _) := hxs
          have HXN : Hid (_ = _) := hxn
          clear hxs hxn
          have H6 : Hid (Calls _ _ _ _ _) := HRB.out w6 _ x0 y0 x0 y0 h3.three
          clear H1 h3
          go_wp2_with fail
          refine H6.out.mono ?_
          rintro e w7 ⟨zs, zn, a4, c4, hys, hyn, hy80, rfl, h4⟩
          have e1 : zs = xs := by rw [hys, HXS.out]
          subst e1
          have e2 : zn = xm := by rw [hyn, HXN.out]
          subst e2
          have H7 : Hid (Calls _ _ _ _ _) := HSM.out w7 _ _ zs zn a3 a4 c3 c4 hyn hy80 h4.three h4
          have HF8 : Hid (Fr Nobody w w7) := h4.fr
          clear H6 h4 HXS hys HXN hyn hx80 hy80
          go_wp2_with fail
          refine H7.out.mono ?_
          rintro e w8 ⟨rfl, hf8⟩
          have HF9 : Hid (Fr Nobody w w8) := HF8.out.trans hf8
          have N1 : Hid (Calls _ _ _ _ _) := gat_nil w8 0 0
          have N2 : Hid (Calls _ _ _ _ _) := gbox_nil w8 x0 y0 x1 y1
          have N3 : Hid (Calls _ _ _ _ _) := glen_nil w8
          have N4 : Hid (Calls _ _ _ _ _) := gused_nil w8
          clear HF8 hf8 H7
          go_wp2_with fail
          refine N1.out.mono ?_
          rintro e w9 ⟨rfl, rfl⟩
          go_wp2_with fail
          refine N2.out.mono ?_
          rintro e w9 ⟨rfl, rfl⟩
          go_wp2_with fail
          refine N3.out.mono ?_
          rintro e w9 ⟨rfl, rfl⟩
          go_wp2_with fail
          refine N4.out.mono ?_
          rintro e w9 ⟨rfl, rfl⟩
          go_wp2
          go_ret
          exact ⟨by simp, HF9.out⟩
theorem cellsPlays_walk (w : World) (ht : Tab w) (ao : Option Addr) (len cap : Nat) (Q : List Opq) (hQ : IsOps w ao len cap Q) (x0 : Int) (h1 : (Lit.int .i64 x0).wf = true) (y0 : Int) (h2 : (Lit.int .i64 y0).wf = true) (x1 : Int) (h3 : (Lit.int .i64 x1).wf = true) (y1 : Int) (h4 : (Lit.int .i64 y1).wf = true) :
    Calls Tryd.prog 4 #[.slice ao len cap, .int .i64 x0, .int .i64 y0, .int .i64 x1, .int .i64 y1] w fun e w' => e = .returned (.bool true) ∧ Below w.heap.size w w' := by
  refine (cellsPlays_fr w ht ao len cap Q hQ x0 y0 x1 y1).mono ?_
  rintro e w' ⟨rfl, hf⟩
  exact ⟨rfl, hf.below (Nat.le_refl _) (fun _ _ h => h)⟩
theorem laidOut : laidOutB Tryd.prog = true := by kernel_rfl

set_option maxRecDepth 100000 in
theorem cellsPlays_lifted (os : Os) (started : os.Started) (H : Type) (enc : TypeId × Value → H) :
    ReturnsInHanded {} Tryd.checked os 4 .any (fun w args => (Rows.cellsPlaysSpec.pre enc Tryd.prog Tryd.f4 [] false w args ∧ laidMetH Tryd.prog laid1 w) ∧ sizedMet enc Tryd.prog Tryd.f4 (OpenSpec.ofChange Rows.cellsPlaysSpec) false w args) (Rows.cellsPlaysSpec.post enc Tryd.prog Tryd.f4 false true false false) := by
  refine returnsInHanded_of_change_and (C := Tryd.checked) (X := fun w _ => laidMetH Tryd.prog laid1 w) (fun _ _ _ hh h => h.of_heap hh) own started (by kernel_rfl) Tryd.func4
    (ChangeSpec.witness_shaped (enc := enc) (C := Tryd.checked) (os := os) (X := fun w _ => laidMetH Tryd.prog laid1 w) false (World.doorLaid Tryd.prog 400 os) #[.slice none 0 0, .int .i64 0, .int .i64 0, .int .i64 0, .int .i64 0] 8 rfl (World.shaped_of_RefB (by kernel_rfl) (by kernel_rfl)) (by kernel_rfl) (by kernel_rfl) (by kernel_rfl) (door_met os _)) ?_
  intro W base args ds gs before hval0 hW _ _ hL _
  have hval : ∀ (j : Nat) t v, Tryd.f4.params[j]? = some t → args[j]? = some v → Value.okWide Tryd.prog W .any base t v := hval0
  have hW' := hW
  obtain ⟨p, q, hA0, hV, rfl, hfz, hnd⟩ := hW
  have hA : DataW.TrodAll enc Tryd.prog W 0 (fun _ => true) true Tryd.f4.params.toList args.toList ds p := hA0
  rw [Tryd.params4] at hA hval
  obtain ⟨v0, vs0, d0, ds0, p0, q0, hargs, rfl, rfl, h0, r0⟩ := trodAll_cons hA
  obtain ⟨v1, vs1, d1, ds1, p1, q1, rfl, rfl, rfl, h1, r1⟩ := trodAll_cons r0
  obtain ⟨v2, vs2, d2, ds2, p2, q2, rfl, rfl, rfl, h2, r2⟩ := trodAll_cons r1
  obtain ⟨v3, vs3, d3, ds3, p3, q3, rfl, rfl, rfl, h3, r3⟩ := trodAll_cons r2
  obtain ⟨v4, vs4, d4, ds4, p4, q4, rfl, rfl, rfl, h4, r4⟩ := trodAll_cons r3
  obtain ⟨rfl, rfl, rfl⟩ := trodAll_nil r4
  obtain rfl : args = #[v0, v1, v2, v3, v4] := by cases args; simp_all
  obtain ⟨rfl, rfl⟩ := trodVars_none hV
  obtain ⟨a0, len0, cap0, rfl⟩ := okWide_slice Tryd.underlying25 (hval 0 25 v0 rfl rfl)
  have k0 := h0
  have lt0 : ∀ x ∈ p0, x.block < W.heap.size := by obtain ⟨m, hm⟩ := k0; exact DataW.trod_lt m _ _ _ hm
  obtain ⟨z0, w0⟩ := open_ops (hval 0 25 _ rfl rfl) h0
  obtain ⟨a1, rfl, rfl, rfl, w1⟩ := open_int Tryd.underlying3 (hval 1 3 v1 rfl rfl) h1
  obtain ⟨a2, rfl, rfl, rfl, w2⟩ := open_int Tryd.underlying3 (hval 2 3 v2 rfl rfl) h2
  obtain ⟨a3, rfl, rfl, rfl, w3⟩ := open_int Tryd.underlying3 (hval 3 3 v3 rfl rfl) h3
  obtain ⟨a4, rfl, rfl, rfl, w4⟩ := open_int Tryd.underlying3 (hval 4 3 v4 rfl rfl) h4
  clear hA0 hval0
  refine (cellsPlays_walk W (of_laid hL) a0 len0 cap0 z0 w0 a1 w1 a2 w2 a3 w3 a4 w4).mono fun e W' ⟨he, bel⟩ => ?_
  subst he
  exact ⟨_, rfl, _, _, _, [], _, [], hW', trodAll_mk1 (shut_bool Tryd.underlying4 _), (trodAll_cons_mk (Below.trod laidOut (by kernel_rfl) (of_decide_eq_true (by kernel_rfl)) k0 bel lt0) (trodAll_cons_mk (shut_int Tryd.underlying3 w1) (trodAll_cons_mk (shut_int Tryd.underlying3 w2) (trodAll_cons_mk (shut_int Tryd.underlying3 w3) (trodAll_cons_mk (shut_int Tryd.underlying3 w4) trodAll_mk0))))), rfl, bel.frame _, fun h => by cases h⟩

theorem cellsPlays_row : Rows.CellsPlaysSaid :=
  OpenClaim.holds_of_wide 4 Tryd.f4 rfl rfl rfl rfl rfl rfl rfl ⟨rfl, rfl, rfl, rfl, rfl⟩ rfl rfl rfl rfl rfl (by kernel_rfl) Tryd.func4 (by kernel_rfl)
    (of_decide_eq_true (by kernel_rfl)) (by unfold Func.isWrapper; first | (rw [if_pos (by decide +kernel)]; kernel_rfl) | (rw [if_neg (by decide +kernel)]; exact ⟨rfl, rfl⟩))
    (fun os started H enc _ => cellsPlays_lifted os started H enc)

theorem cellsPlays_holds : Rows.CellsPlaysCardSaid :=
  Claim7.holds_tied_plain_at .later [] [.data] true (true, "57f2681be1c13929572066f5f1e9bb9775a07279498cf8f2992ae601d68506ba") false
    cellsPlays_row (fun _ h => by cases h) (by kernel_rfl) (fun _ h => by cases h) cellsPlays_row_tie rfl ⟨rfl, rfl⟩ (by kernel_rfl) rfl
    (fun f fn hf hfn => by
      obtain rfl : f = 4 := Option.some.inj ((show Tryd.prog.funcNamed "pinnace/pinnacelaw16.CellsPlays" = some 4 by kernel_rfl).symm.trans hf) |>.symm
      obtain rfl : fn = Tryd.f4 := (Option.some.inj (Tryd.func4.symm.trans hfn)).symm
      exact ⟨by kernel_rfl, fun j t ht => by
        rw [Tryd.params4] at ht
        have hm : t ∈ [25, 3, 3, 3, 3] := by simpa using Array.mem_of_getElem? ht
        have hall : ([25, 3, 3, 3, 3].all fun u => !Tryd.prog.wantsStandIn u) = true := by kernel_rfl
        exact (show Tryd.prog.wantsStandIn t = false by simpa using List.all_eq_true.1 hall t hm)⟩)
    (by kernel_rfl)

end Go.Proofs.YthokgjkgfolojaaDoor
