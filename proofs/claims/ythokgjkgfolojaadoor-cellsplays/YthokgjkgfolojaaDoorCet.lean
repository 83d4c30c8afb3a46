/-
  The document's list of who is where: Used.
-/
import Derived.Test.YthokgjkgfolojaaDoorCer
namespace Go.Proofs.YthokgjkgfolojaaDoor
open Go.RowKit
set_option linter.unusedVariables false
set_option maxRecDepth 100000

/-- has none of the first k this cell? -/
def frs (L : List Spt) (c : Cll) (k : Nat) : Bool := (L.take k).all (fun t => decide (scl t ≠ c))
theorem frs_zero (L : List Spt) (c : Cll) : frs L c 0 = true := by simp [frs]
theorem frs_succ {L : List Spt} {c : Cll} {k : Nat} {t : Spt} (h : L[k]? = some t) : frs L c (k + 1) = (frs L c k && decide (scl t ≠ c)) := by
  unfold frs; rw [take_one h, List.all_append]; simp
theorem usedN_succ {L : List Spt} {k : Nat} {s : Spt} (h : L[k]? = some s) : usedN L (k + 1) = usedN L k + (if frs L (scl s) k then 1 else 0) := by
  show usedN L k + _ = _
  rw [h]
  simp only
  congr 1
  by_cases hm : scl s ∈ (L.take k).map scl
  · rw [if_pos hm, if_neg]
    intro hf
    unfold frs at hf
    rw [List.all_eq_true] at hf
    obtain ⟨t, ht, e⟩ := List.mem_map.1 hm
    have := hf t ht
    simp [e] at this
  · rw [if_neg hm, if_pos]
    unfold frs
    rw [List.all_eq_true]
    intro t ht
    have : scl t ≠ scl s := fun e => hm (by rw [← e]; exact List.mem_map_of_mem ht)
    simpa using this
theorem usedN_le (L : List Spt) : ∀ k, usedN L k ≤ k := by
  intro k
  induction k with
  | zero => exact Nat.le_refl _
  | succ k ih =>
    show usedN L k + _ ≤ k + 1
    split
    · omega
    · split <;> omega
theorem Own.numsCap {w0 w : World} {l : List Thing} {e : TypeId} {z : Nat} {ao : Option Addr} {cap n : Nat} {xs : List Value} (h : Own w0 w (Row e z (.slice ao n cap) n xs :: l)) : n ≤ cap := by
  rcases h.row.2 with ⟨hv, h0⟩ | ⟨g, cap', cur, hv, _, _, h1, h2, _⟩
  · omega
  · obtain ⟨_, _, rfl⟩ := Value.slice.inj hv
    exact h1
set_option maxHeartbeats 16000000 in
theorem rused (w0 w : World) (l : List Thing) (ao : Option Addr) (cap : Nat) (L : List Spt) (h : Own w0 w (SRow ao cap L :: l)) (hl : L.length ≤ 10000) (hI : ∀ s ∈ L, I32 s.2.1 ∧ I32 s.2.2) :
    Calls Tryd.prog 19 #[.slice ao L.length cap] w fun e w' => e = .returned (.int .i64 (usedL L : Int)) ∧ Own w0 w' (SRow ao cap L :: l) := by
  have H : Hid (Own w0 w (SRow ao cap L :: l)) := h
  have HI : Hid (∀ s ∈ L, I32 s.2.1 ∧ I32 s.2.2) := hI
  have hcap : L.length ≤ cap := (Own.numsCap h)
  obtain ⟨n, hn⟩ : ∃ n, n = L.length := ⟨_, rfl⟩
  have HN : Hid (n = L.length) := hn
  have HU : Hid (usedL L = usedN L n) := by show _ = _; rw [hn]; rfl
  rw [← hn] at hl hcap ⊢
  rw [HU.out]
  clear h hn hI
  go_enter Tryd.func19, Tryd.ntmps19
  go_wp2
  go_loopw [3, 11] (fun vn vi wr => ∃ (j : Nat), vn = .int .i64 (usedN L j : Int) ∧ vi = .int .i64 (j : Int) ∧ j ≤ n ∧ Own w0 wr (SRow ao cap L :: l)) (fun _ vi _ => n - (iOf vi).toNat)
  case atStart => exact ⟨0, rfl, rfl, Nat.zero_le _, H.out⟩
  case round =>
    obtain ⟨j, rfl, rfl, hj, hOw⟩ := hrel
    have hun := usedN_le L j
    clear H
    by_cases hlt : j < n
    · have hlt' : (j : Int) < (n : Int) := by omega
      obtain ⟨s, hs⟩ : ∃ s, L[j]? = some s := ⟨_, List.getElem?_eq_getElem (by rw [← HN.out]; exact hlt)⟩
      obtain ⟨g, rfl, c0, c1, c2⟩ := hOw.spt hs
      have HUS : Hid (usedN L (j + 1) = usedN L j + (if frs L (scl s) j then 1 else 0)) := usedN_succ hs
      obtain ⟨hx32, hy32⟩ := HI.out s (List.mem_of_getElem? hs)
      obtain ⟨si, sx, sy⟩ := s
      simp only at c0 c1 c2 hx32 hy32
      obtain ⟨cx, hcx⟩ : ∃ cx, cx = cel sx := ⟨_, rfl⟩
      obtain ⟨cy, hcy⟩ : ∃ cy, cy = cel sy := ⟨_, rfl⟩
      have HX : Hid (∀ W, Calls Tryd.prog 10 #[.int .i32 sx] W fun e w' => e = .returned (.int .i64 cx) ∧ w' = W) := fun W => by rw [hcx]; exact rof_ok W sx hx32
      have HY : Hid (∀ W, Calls Tryd.prog 10 #[.int .i32 sy] W fun e w' => e = .returned (.int .i64 cy) ∧ w' = W) := fun W => by rw [hcy]; exact rof_ok W sy hy32
      have hsc : scl (si, sx, sy) = (cx, cy) := by unfold scl; rw [hcx, hcy]
      rw [hsc] at HUS
      have hA := hOw.allocC #[.int .u32 (si : Int), .int .i32 sx, .int .i32 sy] 42
      have HA : Hid (Own w0 _ _) := hA
      obtain ⟨un, hunn⟩ : ∃ un, un = usedN L j := ⟨_, rfl⟩
      rw [← hunn] at hun HUS ⊢
      clear hOw hA hcx hcy hx32 hy32 hsc hs hunn
      have hjc : (j : Int) ≤ (cap : Int) := by omega
      have hjc2 : j ≤ cap := by omega
      go_wp2
      generalize hWg : wr.alloc (.cells #[.int .u32 (si : Int), .int .i32 sx, .int .i32 sy] 42) = W0 at *
      generalize wr.heap.size = B at *
      clear hWg
      go_loopw [6, 20] (fun vf vi wr => ∃ (k : Nat), vf = .bool (frs L (cx, cy) k) ∧ vi = .int .i64 (k : Int) ∧ k ≤ j ∧ Own w0 wr (Cells B #[.int .u32 (si : Int), .int .i32 sx, .int .i32 sy] 42 :: SRow (some ⟨g, 0, none⟩) cap L :: l)) (fun _ vi _ => j - (iOf vi).toNat)
      case atStart => exact ⟨0, by rw [frs_zero], rfl, Nat.zero_le _, HA.out⟩
      case round =>
        obtain ⟨k, rfl, rfl, hk, hO2⟩ := hrel
        clear HA
        by_cases hkl : k < j
        · have hkl' : (k : Int) < (j : Int) := by omega
          obtain ⟨t, ht⟩ : ∃ t, L[k]? = some t := ⟨_, List.getElem?_eq_getElem (by rw [← HN.out]; omega)⟩
          obtain ⟨g2, hg2, d0, d1, d2⟩ := hO2.two.spt ht
          have hg : g2 = g := by simpa using hg2.symm
          subst g2
          have HFS : Hid (frs L (cx, cy) (k + 1) = (frs L (cx, cy) k && decide (scl t ≠ (cx, cy)))) := frs_succ ht
          obtain ⟨tx32, ty32⟩ := HI.out t (List.mem_of_getElem? ht)
          obtain ⟨ti, tx, ty⟩ := t
          simp only at d0 d1 d2 tx32 ty32
          obtain ⟨ux, hux⟩ : ∃ cx, cx = cel tx := ⟨_, rfl⟩
          obtain ⟨uy, huy⟩ : ∃ cy, cy = cel ty := ⟨_, rfl⟩
          have HTX : Hid (∀ W, Calls Tryd.prog 10 #[.int .i32 tx] W fun e w' => e = .returned (.int .i64 ux) ∧ w' = W) := fun W => by rw [hux]; exact rof_ok W tx tx32
          have HTY : Hid (∀ W, Calls Tryd.prog 10 #[.int .i32 ty] W fun e w' => e = .returned (.int .i64 uy) ∧ w' = W) := fun W => by rw [huy]; exact rof_ok W ty ty32
          have hsc : scl (ti, tx, ty) = (ux, uy) := by unfold scl; rw [hux, huy]
          rw [hsc] at HFS
          have HA2 : Hid (Own w0 _ _) := hO2.allocC #[.int .u32 (ti : Int), .int .i32 tx, .int .i32 ty] 42
          clear hO2 hux huy tx32 ty32 hsc ht hg2
          generalize frs L (cx, cy) k = ff at *
          go_wp2
          generalize hWg : wr.alloc (.cells #[.int .u32 (ti : Int), .int .i32 tx, .int .i32 ty] 42) = W1 at *
          generalize wr.heap.size = B2 at *
          clear hWg
          have q1 := HA2.out.cell 1
          have q2 := HA2.out.cell 2
          have p1 := HA2.out.two.cell 1
          have p2 := HA2.out.two.cell 2
          simp at q1 q2 p1 p2
          cases ff with
          | false =>
            go_quiet (first | (go_at_call 10; with_reducible refine Calls.quiet_of_same (HX.out _)) | (go_at_call 10; with_reducible refine Calls.quiet_of_same (HY.out _)) | (go_at_call 10; with_reducible refine Calls.quiet_of_same (HTX.out _)) | (go_at_call 10; with_reducible refine Calls.quiet_of_same (HTY.out _)))
            generalize hWg : W1.drewN nq = W2
            have hB2 := HA2.out.drewN nq
            rw [hWg] at hB2
            have HB2 : Hid (Own w0 W2 (Cells B #[.int .u32 (si : Int), .int .i32 sx, .int .i32 sy] 42 :: SRow (some ⟨g, 0, none⟩) cap L :: l)) := hB2.tail
            clear hWg hB2 HA2
            go_wp2
            go_roundw
            case rel => exact ⟨k + 1, by rw [HFS.out]; rfl, by go_num, by omega, HB2.out⟩
            case measure => simp [iOf]; omega
          | true =>
            by_cases hxx : ux = cx
            · subst hxx
              by_cases hyy : uy = cy
              · subst hyy
                go_quiet (first | (go_at_call 10; with_reducible refine Calls.quiet_of_same (HX.out _)) | (go_at_call 10; with_reducible refine Calls.quiet_of_same (HY.out _)) | (go_at_call 10; with_reducible refine Calls.quiet_of_same (HTX.out _)) | (go_at_call 10; with_reducible refine Calls.quiet_of_same (HTY.out _)))
                generalize hWg : W1.drewN nq = W2
                have hB2 := HA2.out.drewN nq
                rw [hWg] at hB2
                have HB2 : Hid (Own w0 W2 (Cells B #[.int .u32 (si : Int), .int .i32 sx, .int .i32 sy] 42 :: SRow (some ⟨g, 0, none⟩) cap L :: l)) := hB2.tail
                clear hWg hB2 HA2
                go_wp2
                go_roundw
                case rel => exact ⟨k + 1, by rw [HFS.out]; simp, by go_num, by omega, HB2.out⟩
                case measure => simp [iOf]; omega
              · have hyn : (uy != cy) = true := by simpa using hyy
                go_quiet (first | (go_at_call 10; with_reducible refine Calls.quiet_of_same (HX.out _)) | (go_at_call 10; with_reducible refine Calls.quiet_of_same (HY.out _)) | (go_at_call 10; with_reducible refine Calls.quiet_of_same (HTX.out _)) | (go_at_call 10; with_reducible refine Calls.quiet_of_same (HTY.out _)))
                generalize hWg : W1.drewN nq = W2
                have hB2 := HA2.out.drewN nq
                rw [hWg] at hB2
                have HB2 : Hid (Own w0 W2 (Cells B #[.int .u32 (si : Int), .int .i32 sx, .int .i32 sy] 42 :: SRow (some ⟨g, 0, none⟩) cap L :: l)) := hB2.tail
                clear hWg hB2 HA2
                go_wp2
                go_roundw
                case rel => exact ⟨k + 1, by rw [HFS.out]; simp [hyy], by go_num, by omega, HB2.out⟩
                case measure => simp [iOf]; omega
            · have hxn : (ux != cx) = true := by simpa using hxx
              go_quiet (first | (go_at_call 10; with_reducible refine Calls.quiet_of_same (HX.out _)) | (go_at_call 10; with_reducible refine Calls.quiet_of_same (HY.out _)) | (go_at_call 10; with_reducible refine Calls.quiet_of_same (HTX.out _)) | (go_at_call 10; with_reducible refine Calls.quiet_of_same (HTY.out _)))
              generalize hWg : W1.drewN nq = W2
              have hB2 := HA2.out.drewN nq
              rw [hWg] at hB2
              have HB2 : Hid (Own w0 W2 (Cells B #[.int .u32 (si : Int), .int .i32 sx, .int .i32 sy] 42 :: SRow (some ⟨g, 0, none⟩) cap L :: l)) := hB2.tail
              clear hWg hB2 HA2
              go_wp2
              go_roundw
              case rel => exact ⟨k + 1, by rw [HFS.out]; simp [hxx], by go_num, by omega, HB2.out⟩
              case measure => simp [iOf]; omega
        · have hkl' : ¬ (k : Int) < (j : Int) := by omega
          have hkj : k = j := by omega
          subst hkj
          have HO3 : Hid (Own w0 wr (SRow (some ⟨g, 0, none⟩) cap L :: l)) := hO2.tail
          clear hO2
          generalize frs L (cx, cy) k = ff at *
          cases ff with
          | true =>
            go_wp2
            go_roundw
            case rel => exact ⟨k + 1, by rw [HUS.out]; go_num, by go_num, by omega, HO3.out⟩
            case measure => simp [iOf]; omega
          | false =>
            go_wp2
            go_roundw
            case rel => exact ⟨k + 1, by rw [HUS.out]; rfl, by go_num, by omega, HO3.out⟩
            case measure => simp [iOf]; omega
    · have hlt' : ¬ (j : Int) < (n : Int) := by omega
      have hjn : j = n := by omega
      subst hjn
      have HW : Hid (Own w0 wr (SRow ao cap L :: l)) := hOw
      clear hOw
      obtain ⟨un, hun2⟩ : ∃ un, un = usedN L j := ⟨_, rfl⟩
      have HUN : Hid (un = usedN L j) := hun2
      rw [← hun2] at hun ⊢
      clear hun2
      go_wp2
      go_ret
      exact ⟨by rw [← HUN.out]; rfl, HW.out⟩
end Go.Proofs.YthokgjkgfolojaaDoor
