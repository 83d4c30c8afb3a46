/-
  Lists of IDs, changes, deltas: are they alike?
-/
import Derived.Test.YtkjanpjlpieaoaaDoorQd23
import Derived.Test.YtkjanpjlpieaoaaDoorQd14
namespace Go.Proofs.YtkjanpjlpieaoaaDoor
open Go.RowKit
set_option linter.unusedVariables false
set_option maxRecDepth 100000

instance : DecidableEq Chg := fun x y => decidable_of_iff (x.id = y.id ∧ x.lost = y.lost ∧ x.new = y.new ∧ x.set = y.set) (by cases x; cases y; simp)
instance : DecidableEq Dl := fun x y => decidable_of_iff (x.gone = y.gone ∧ x.come = y.come ∧ x.chg = y.chg) (by cases x; cases y; simp)
theorem Nums.at {k : IntKind} {w : World} {ao : Option Addr} {n cap : Nat} {X : List Nat} (h : Nums k w (.slice ao n cap) X) {j x : Nat} (hx : X[j]? = some x) : ∃ g o, ao = some ⟨g, o, none⟩ ∧ w.cell? ⟨g, o + j, none⟩ = some (.int k (x : Int)) := by
  obtain ⟨a, c, e, h⟩ := h
  simp only [Value.slice.injEq] at e
  rcases h with h | ⟨g, o, ha, hc⟩
  · rw [h] at hx; simp at hx
  · exact ⟨g, o, by rw [e.1, ha], hc j x hx⟩
theorem Nums.len {k : IntKind} {w : World} {ao : Option Addr} {n cap : Nat} {X : List Nat} (h : Nums k w (.slice ao n cap) X) : X.length = n := by
  obtain ⟨a, c, e, h⟩ := h
  simp only [Value.slice.injEq] at e
  exact e.2.1.symm
set_option maxHeartbeats 2000000 in
theorem eqIds_p (w : World) (a1 a2 : Option Addr) (n1 n2 c1 c2 : Nat) (A B : List Nat) (h1 : Nums .u32 w (.slice a1 n1 c1) A) (h2 : Nums .u32 w (.slice a2 n2 c2) B) (hm1 : n1 ≤ 2097152) (hm2 : n2 ≤ 2097152) :
    Calls Tryd.prog 37 #[.slice a1 n1 c1, .slice a2 n2 c2] w fun e w' => e = .returned (.bool (decide (A = B))) ∧ Fr Nobody w w' := by
  have hn1 := h1.len
  have hn2 := h2.len
  by_cases hne : n1 = n2
  · have H1 : Hid (Nums .u32 w (.slice a1 n1 c1) A ∧ Nums .u32 w (.slice a2 n2 c2) B ∧ A.length = n1 ∧ B.length = n1) := ⟨h1, h2, hn1, by rw [hn2, hne]⟩
    subst hne
    clear h1 h2 hn1 hn2 hm2
    have hne' : ((n1 : Int) != (n1 : Int)) = false := by simp
    go_enter Tryd.func37, Tryd.ntmps37
    go_wp2
    clear hne'
    go_loopw [13] (fun cc wr => ∃ k : Nat, k ≤ n1 ∧ cc = .int .i64 k ∧ Fr Nobody w wr ∧ A.take k = B.take k) (fun cc _ => n1 - (intOf cc).toNat)
    case atStart => exact ⟨0, Nat.zero_le _, rfl, Fr.refl _ _, by simp⟩
    case round =>
      obtain ⟨k, hk, rfl, hf, heq⟩ := hrel
      have HF : Hid (Fr Nobody w wr) := hf
      have HE : Hid (A.take k = B.take k) := heq
      clear hf heq
      by_cases hlt : k < n1
      · obtain ⟨x, hx⟩ : ∃ x, A[k]? = some x := ⟨_, List.getElem?_eq_getElem (by rw [H1.out.2.2.1]; exact hlt)⟩
        obtain ⟨y, hy⟩ : ∃ y, B[k]? = some y := ⟨_, List.getElem?_eq_getElem (by rw [H1.out.2.2.2]; exact hlt)⟩
        obtain ⟨g1, o1, hg1, p0⟩ := (H1.out.1.quiet HF.out).at hx
        obtain ⟨g2, o2, hg2, q0⟩ := (H1.out.2.1.quiet HF.out).at hy
        subst hg1 hg2
        have hlt' : (k : Int) < (n1 : Int) := by omega
        have HXY : Hid (A[k]? = some x ∧ B[k]? = some y) := ⟨hx, hy⟩
        clear hx hy
        by_cases hxy : x = y
        · have HN : Hid (A.take (k + 1) = B.take (k + 1)) := take_eq HXY.out.1 HXY.out.2 (decide_eq_true hxy) HE.out
          have e0 : ((x : Int) != (y : Int)) = false := by simp [hxy]
          clear hxy HXY
          go_wp2
          go_quiet (fail)
          go_wp2
          go_roundw
          case rel => exact ⟨k + 1, by omega, by go_num, HF.out.drewN _, HN.out⟩
          case measure => simp [intOf]; omega
        · have HN : Hid (decide (A = B) = false) := take_ne HXY.out.1 HXY.out.2 (decide_eq_false hxy)
          have e0 : ((x : Int) != (y : Int)) = true := by rw [bne_iff_ne]; omega
          clear hxy HXY
          go_wp2
          go_quiet (fail)
          go_wp2
          go_ret
          exact ⟨by rw [HN.out]; rfl, HF.out.drewN _⟩
      · have hlt' : ¬ (k : Int) < (n1 : Int) := by omega
        have HN : Hid (decide (A = B) = true) := take_all (by rw [H1.out.2.2.1]; omega) (by rw [H1.out.2.2.2]; omega) HE.out
        go_wp2
        go_ret
        exact ⟨by rw [HN.out]; rfl, HF.out⟩
  · have HN : Hid (decide (A = B) = false) := len_ne (by rw [hn1, hn2]; exact hne)
    have hne' : ((n1 : Int) != (n2 : Int)) = true := by rw [bne_iff_ne]; omega
    clear h1 h2 hn1 hn2 hne
    go_enter Tryd.func37, Tryd.ntmps37
    go_wp2
    go_ret
    exact ⟨by rw [HN.out]; rfl, Fr.refl _ _⟩
set_option maxHeartbeats 2000000 in
theorem eqIds_r (w : World) (a1 a2 : Option Addr) (n1 n2 c1 c2 : Nat) (A B : List Nat) (h1 : Nums .u32 w (.slice a1 n1 c1) A) (h2 : Nums .u32 w (.slice a2 n2 c2) B) (hm1 : n1 ≤ 2097152) (hm2 : n2 ≤ 2097152) :
    Calls Tryd.prog 26 #[.slice a1 n1 c1, .slice a2 n2 c2] w fun e w' => e = .returned (.bool (decide (A = B))) ∧ Fr Nobody w w' := by
  have hn1 := h1.len
  have hn2 := h2.len
  by_cases hne : n1 = n2
  · have H1 : Hid (Nums .u32 w (.slice a1 n1 c1) A ∧ Nums .u32 w (.slice a2 n2 c2) B ∧ A.length = n1 ∧ B.length = n1) := ⟨h1, h2, hn1, by rw [hn2, hne]⟩
    subst hne
    clear h1 h2 hn1 hn2 hm2
    have hne' : ((n1 : Int) != (n1 : Int)) = false := by simp
    go_enter Tryd.func26, Tryd.ntmps26
    go_wp2
    clear hne'
    go_loopw [13] (fun cc wr => ∃ k : Nat, k ≤ n1 ∧ cc = .int .i64 k ∧ Fr Nobody w wr ∧ A.take k = B.take k) (fun cc _ => n1 - (intOf cc).toNat)
    case atStart => exact ⟨0, Nat.zero_le _, rfl, Fr.refl _ _, by simp⟩
    case round =>
      obtain ⟨k, hk, rfl, hf, heq⟩ := hrel
      have HF : Hid (Fr Nobody w wr) := hf
      have HE : Hid (A.take k = B.take k) := heq
      clear hf heq
      by_cases hlt : k < n1
      · obtain ⟨x, hx⟩ : ∃ x, A[k]? = some x := ⟨_, List.getElem?_eq_getElem (by rw [H1.out.2.2.1]; exact hlt)⟩
        obtain ⟨y, hy⟩ : ∃ y, B[k]? = some y := ⟨_, List.getElem?_eq_getElem (by rw [H1.out.2.2.2]; exact hlt)⟩
        obtain ⟨g1, o1, hg1, p0⟩ := (H1.out.1.quiet HF.out).at hx
        obtain ⟨g2, o2, hg2, q0⟩ := (H1.out.2.1.quiet HF.out).at hy
        subst hg1 hg2
        have hlt' : (k : Int) < (n1 : Int) := by omega
        have HXY : Hid (A[k]? = some x ∧ B[k]? = some y) := ⟨hx, hy⟩
        clear hx hy
        by_cases hxy : x = y
        · have HN : Hid (A.take (k + 1) = B.take (k + 1)) := take_eq HXY.out.1 HXY.out.2 (decide_eq_true hxy) HE.out
          have e0 : ((x : Int) != (y : Int)) = false := by simp [hxy]
          clear hxy HXY
          go_wp2
          go_quiet (fail)
          go_wp2
          go_roundw
          case rel => exact ⟨k + 1, by omega, by go_num, HF.out.drewN _, HN.out⟩
          case measure => simp [intOf]; omega
        · have HN : Hid (decide (A = B) = false) := take_ne HXY.out.1 HXY.out.2 (decide_eq_false hxy)
          have e0 : ((x : Int) != (y : Int)) = true := by rw [bne_iff_ne]; omega
          clear hxy HXY
          go_wp2
          go_quiet (fail)
          go_wp2
          go_ret
          exact ⟨by rw [HN.out]; rfl, HF.out.drewN _⟩
      · have hlt' : ¬ (k : Int) < (n1 : Int) := by omega
        have HN : Hid (decide (A = B) = true) := take_all (by rw [H1.out.2.2.1]; omega) (by rw [H1.out.2.2.2]; omega) HE.out
        go_wp2
        go_ret
        exact ⟨by rw [HN.out]; rfl, HF.out⟩
  · have HN : Hid (decide (A = B) = false) := len_ne (by rw [hn1, hn2]; exact hne)
    have hne' : ((n1 : Int) != (n2 : Int)) = true := by rw [bne_iff_ne]; omega
    clear h1 h2 hn1 hn2 hne
    go_enter Tryd.func26, Tryd.ntmps26
    go_wp2
    go_ret
    exact ⟨by rw [HN.out]; rfl, Fr.refl _ _⟩
/-- a list of changes that can be read -/
def ChsAt (w : World) (ao : Option Addr) (L : List ChE) : Prop := (L = [] ∨ ∃ g o, ao = some ⟨g, o, none⟩ ∧ ∀ (j : Nat) x, L[j]? = some x → w.cell? ⟨g, o + j * 4, none⟩ = some (.int .u32 (x.id : Int)) ∧ w.cell? ⟨g, o + j * 4 + 1, none⟩ = some (.int .u8 (x.lost : Int)) ∧ w.cell? ⟨g, o + j * 4 + 2, none⟩ = some (.slice x.na x.N.length x.nc) ∧ w.cell? ⟨g, o + j * 4 + 3, none⟩ = some (.slice x.sa x.S.length x.sc)) ∧ ∀ x ∈ L, Cs w x.na x.N ∧ Cs w x.sa x.S
theorem ChsAt.quiet {w w' : World} {ao : Option Addr} {L : List ChE} (h : ChsAt w ao L) (hf : Fr Nobody w w') : ChsAt w' ao L := by
  refine ⟨?_, fun x hx => ⟨(h.2 x hx).1.quiet hf, (h.2 x hx).2.quiet hf⟩⟩
  rcases h.1 with h | ⟨g, o, ha, hc⟩
  · exact .inl h
  · refine .inr ⟨g, o, ha, fun j x hx => ?_⟩
    obtain ⟨h0, h1, h2, h3⟩ := hc j x hx
    have hb := World.block_lt_of_cell? w _ h0
    exact ⟨(hf.cell (p := ⟨g, o + j * 4, none⟩) hb id).trans h0, (hf.cell (p := ⟨g, o + j * 4 + 1, none⟩) hb id).trans h1, (hf.cell (p := ⟨g, o + j * 4 + 2, none⟩) hb id).trans h2, (hf.cell (p := ⟨g, o + j * 4 + 3, none⟩) hb id).trans h3⟩
theorem ChsAt.at {w : World} {ao : Option Addr} {L : List ChE} (h : ChsAt w ao L) {j : Nat} {x : ChE} (hx : L[j]? = some x) : ∃ g o, ao = some ⟨g, o, none⟩ ∧ (w.cell? ⟨g, o + j * 4, none⟩ = some (.int .u32 (x.id : Int)) ∧ w.cell? ⟨g, o + j * 4 + 1, none⟩ = some (.int .u8 (x.lost : Int)) ∧ w.cell? ⟨g, o + j * 4 + 2, none⟩ = some (.slice x.na x.N.length x.nc) ∧ w.cell? ⟨g, o + j * 4 + 3, none⟩ = some (.slice x.sa x.S.length x.sc)) ∧ Cs w x.na x.N ∧ Cs w x.sa x.S := by
  rcases h.1 with h0 | ⟨g, o, ha, hc⟩
  · subst h0; simp at hx
  · exact ⟨g, o, ha, hc j x hx, h.2 x (List.mem_of_getElem? hx)⟩
def chv (L : List ChE) : List Chg := L.map ChE.v
theorem chv_len (L : List ChE) : (chv L).length = L.length := by simp [chv]
theorem chv_at {L : List ChE} {j : Nat} {x : ChE} (h : L[j]? = some x) : (chv L)[j]? = some x.v := by simp [chv, h]
/-- how many components in changes -/
def hsz : List ChE → Nat
  | [] => 0
  | x :: t => x.N.length + x.S.length + hsz t
theorem hsz_mem {L : List ChE} {x : ChE} (h : x ∈ L) : x.N.length + x.S.length ≤ hsz L := by
  induction L with
  | nil => cases h
  | cons y t ih =>
    simp only [hsz]
    rcases List.mem_cons.1 h with rfl | h
    · omega
    · have := ih h; omega
theorem chg_dec (x y : ChE) : decide (x.v = y.v) = (decide (x.id = y.id) && decide (x.lost = y.lost) && decide (x.N = y.N) && decide (x.S = y.S)) := by
  unfold ChE.v
  rw [Bool.eq_iff_iff]
  simp
  constructor
  · rintro ⟨a, b, c, d⟩; exact ⟨⟨⟨a, b⟩, c⟩, d⟩
  · rintro ⟨⟨⟨a, b⟩, c⟩, d⟩; exact ⟨a, b, c, d⟩
set_option maxHeartbeats 2000000 in
theorem sameCh_any (w : World) (x y : ChE) (hx1 : Cs w x.na x.N) (hx2 : Cs w x.sa x.S) (hy1 : Cs w y.na y.N) (hy2 : Cs w y.sa y.S) (hxz : x.N.length + x.S.length ≤ 1000000) (hyz : y.N.length + y.S.length ≤ 1000000) (hxl : x.lost < 256) (hyl : y.lost < 256) :
    Calls Tryd.prog 40 #[.agg #[.int .u32 (x.id : Int), .int .u8 (x.lost : Int), .slice x.na x.N.length x.nc, .slice x.sa x.S.length x.sc], .agg #[.int .u32 (y.id : Int), .int .u8 (y.lost : Int), .slice y.na y.N.length y.nc, .slice y.sa y.S.length y.sc]] w fun e w' => e = .returned (.bool (decide (x.v = y.v))) ∧ Fr Nobody w w' := by
  have hal : Fr Nobody w ((w.alloc (.cells #[.int .u32 (x.id : Int), .int .u8 (x.lost : Int), .slice x.na x.N.length x.nc, .slice x.sa x.S.length x.sc] 51)).alloc (.cells #[.int .u32 (y.id : Int), .int .u8 (y.lost : Int), .slice y.na y.N.length y.nc, .slice y.sa y.S.length y.sc] 51)) := ((Fr.refl _ _).alloc _).alloc _
  have HAL : Hid (Fr Nobody w _) := hal
  have hOx := ((Own.start w).allocC #[.int .u32 (x.id : Int), .int .u8 (x.lost : Int), .slice x.na x.N.length x.nc, .slice x.sa x.S.length x.sc] 51).allocC #[.int .u32 (y.id : Int), .int .u8 (y.lost : Int), .slice y.na y.N.length y.nc, .slice y.sa y.S.length y.sc] 51
  have e1 : (w.alloc (.cells #[.int .u32 (x.id : Int), .int .u8 (x.lost : Int), .slice x.na x.N.length x.nc, .slice x.sa x.S.length x.sc] 51)).heap.size = w.heap.size + 1 := by simp
  rw [e1] at hOx
  have HN : Hid (Calls _ _ _ _ _) := eqCs_p _ x.na y.na x.N.length y.N.length x.nc y.nc x.N y.N (hx1.quiet hal) (hy1.quiet hal) rfl rfl (by omega) (by omega)
  have HS : Hid (∀ W, Fr Nobody w W → Calls Tryd.prog 62 #[.slice x.sa x.S.length x.sc, .slice y.sa y.S.length y.sc] W fun e w' => e = .returned (.bool (decide (x.S = y.S))) ∧ Fr Nobody W w') := fun W hW => eqCs_p W x.sa y.sa x.S.length y.S.length x.sc y.sc x.S y.S (hx2.quiet hW) (hy2.quiet hW) rfl rfl (by omega) (by omega)
  rw [chg_dec]
  have HOX : Hid (Own w _ _) := hOx
  clear hx1 hx2 hy1 hy2 hal hOx e1
  by_cases c0 : x.id = y.id
  · rw [decide_eq_true c0]
    have e0 : ((x.id : Int) == (y.id : Int)) = true := by simp [c0]
    by_cases c1 : x.lost = y.lost
    · rw [decide_eq_true c1]
      have e2 : ((x.lost : Int) == (y.lost : Int)) = true := by simp [c1]
      clear c0 c1
      generalize decide (x.N = y.N) = r1 at *
      generalize decide (x.S = y.S) = r2 at *
      obtain ⟨xi, xl, xN, xna, xnc, xS, xsa, xsc⟩ := x
      obtain ⟨yi, yl, yN, yna, ync, yS, ysa, ysc⟩ := y
      simp only at HN HS HAL HOX e0 e2 hxl hyl ⊢
      generalize xN.length = xnl at *
      generalize xS.length = xsl at *
      generalize yN.length = ynl at *
      generalize yS.length = ysl at *
      go_enter Tryd.func40, Tryd.ntmps40
      go_wp2_with fail
      refine HN.out.mono ?_
      rintro e w1 ⟨rfl, hf1⟩
      have hF1 := HAL.out.trans hf1
      have hO1 := HOX.out.quiet hf1
      have u3 := hO1.cell 3
      have v3 := hO1.two.cell 3
      simp at u3 v3
      cases r1
      · have HF1 : Hid (Fr Nobody w w1) := hF1
        clear hF1 hf1 HN HS hO1 HOX HAL u3 v3
        go_wp2
        go_ret
        exact ⟨by simp, HF1.out⟩
      · have HSS : Hid (Calls _ _ _ _ _) := HS.out w1 hF1
        have HF1 : Hid (Fr Nobody w w1) := hF1
        clear hF1 hf1 HN HS hO1 HOX HAL
        go_wp2_with fail
        refine HSS.out.mono ?_
        rintro e w2 ⟨rfl, hf2⟩
        have HF2 : Hid (Fr Nobody w w2) := HF1.out.trans hf2
        clear hf2 HSS HF1 u3 v3
        go_wp2
        go_ret
        exact ⟨by simp, HF2.out⟩
    · have e2 : ((x.lost : Int) == (y.lost : Int)) = false := by rw [beq_eq_false_iff_ne]; omega
      rw [decide_eq_false c1]
      clear c0 c1 HN HS HOX
      go_enter Tryd.func40, Tryd.ntmps40
      go_wp2
      go_ret
      exact ⟨by simp, HAL.out⟩
  · have e0 : ((x.id : Int) == (y.id : Int)) = false := by rw [beq_eq_false_iff_ne]; omega
    rw [decide_eq_false c0]
    clear c0 HN HS HOX
    go_enter Tryd.func40, Tryd.ntmps40
    go_wp2
    go_ret
    exact ⟨by simp, HAL.out⟩
end Go.Proofs.YtkjanpjlpieaoaaDoor

