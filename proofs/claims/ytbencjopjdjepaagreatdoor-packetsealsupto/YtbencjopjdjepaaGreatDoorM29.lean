/-
  Slices of numbers that can be read; Same of two lists of IDs.
-/
import Derived.Test.YtbencjopjdjepaaGreatDoorM14
import Derived.Test.YtbencjopjdjepaaGreatDoorM25
import Derived.Test.YtbencjopjdjepaaGreatDoorM24
import Derived.Test.YtbencjopjdjepaaGreatDoorM28
namespace Go.Proofs.YtbencjopjdjepaaGreatDoor
open Go.RowKit
set_option linter.unusedVariables false

/-- a slice that can be read: these numbers -/
def Nums (k : IntKind) (w : World) (v : Value) (X : List Nat) : Prop := ∃ ao cap, v = .slice ao X.length cap ∧ (X = [] ∨ ∃ g o, ao = some ⟨g, o, none⟩ ∧ ∀ (j x : Nat), X[j]? = some x → w.cell? ⟨g, o + j, none⟩ = some (.int k (x : Int)))
theorem Own.nums {w0 w : World} {l : List Thing} {e : TypeId} {k : IntKind} {v : Value} {X : List Nat} (h : Own w0 w (Row e 1 v X.length (irow k X) :: l)) : Nums k w v X := by
  have r := h.row
  obtain ⟨ao, cap, rfl⟩ := row_any r
  refine ⟨ao, cap, rfl, ?_⟩
  by_cases h0 : X.length = 0
  · exact .inl (List.eq_nil_of_length_eq_zero h0)
  · right
    obtain ⟨g, c, he, _⟩ := row_shape r (by omega)
    cases he
    refine ⟨g, 0, rfl, fun j x hx => ?_⟩
    have hj := (List.getElem?_eq_some_iff.1 hx).1
    rw [Nat.zero_add, r.cellAt _ (by omega), getElem?_irow, hx]; rfl
theorem Nums.quiet {k : IntKind} {w w' : World} {v : Value} {X : List Nat} (h : Nums k w v X) (hf : Fr Nobody w w') : Nums k w' v X := by
  obtain ⟨ao, cap, rfl, h⟩ := h
  refine ⟨ao, cap, rfl, ?_⟩
  rcases h with h | ⟨g, o, ha, hc⟩
  · exact .inl h
  · refine .inr ⟨g, o, ha, fun j x hx => ?_⟩
    have h1 := hc j x hx
    exact (hf.cell (p := ⟨g, o + j, none⟩) (World.block_lt_of_cell? w _ h1) id).trans h1

end Go.Proofs.YtbencjopjdjepaaGreatDoor


/-
  Lists of IDs, changes, deltas: are they alike?
-/
namespace Go.Proofs.YtbencjopjdjepaaGreatDoor
open Go.RowKit
set_option linter.unusedVariables false
set_option maxRecDepth 100000

instance : DecidableEq Chg := fun x y => decidable_of_iff (x.id = y.id ∧ x.lost = y.lost ∧ x.new = y.new ∧ x.set = y.set) (by cases x; cases y; simp)
instance : DecidableEq Dl := fun x y => decidable_of_iff (x.gone = y.gone ∧ x.come = y.come ∧ x.chg = y.chg) (by cases x; cases y; simp)
theorem Nums.at {k : IntKind} {w : World} {ao : Option Addr} {n cap : Nat} {X : List Nat} (h : Nums k w (.slice ao n cap) X) {j x : Nat} (hx : X[j]? = some x) : ∃ g o, ao = some ⟨g, o, none⟩ ∧ w.cell? ⟨g, o + j, none⟩ = some (.int k (x : Int)) := by
  obtain ⟨a, c, e, h⟩ := h
  simp only [Value.slice.injEq] at e
  rcases h with h | ⟨g, o, ha, hc⟩
  · rw [h] at hx; simp at hx
  · exact ⟨g, o, by rw [e.1, ha], hc j x hx⟩
theorem Nums.len {k : IntKind} {w : World} {ao : Option Addr} {n cap : Nat} {X : List Nat} (h : Nums k w (.slice ao n cap) X) : X.length = n := by
  obtain ⟨a, c, e, h⟩ := h
  simp only [Value.slice.injEq] at e
  exact e.2.1.symm
set_option maxHeartbeats 2000000 in
theorem eqIds_p (w : World) (a1 a2 : Option Addr) (n1 n2 c1 c2 : Nat) (A B : List Nat) (h1 : Nums .u32 w (.slice a1 n1 c1) A) (h2 : Nums .u32 w (.slice a2 n2 c2) B) (hm1 : n1 ≤ 2097152) (hm2 : n2 ≤ 2097152) :
    Calls Tryz.prog 207 #[.slice a1 n1 c1, .slice a2 n2 c2] w fun e w' => e = .returned (.bool (decide (A = B))) ∧ Fr Nobody w w' := by
  have hn1 := h1.len
  have hn2 := h2.len
  by_cases hne : n1 = n2
  · have H1 : Hid (Nums .u32 w (.slice a1 n1 c1) A ∧ Nums .u32 w (.slice a2 n2 c2) B ∧ A.length = n1 ∧ B.length = n1) := ⟨h1, h2, hn1, by rw [hn2, hne]⟩
    subst hne
    clear h1 h2 hn1 hn2 hm2
    have hne' : ((n1 : Int) != (n1 : Int)) = false := by simp
    go_enter Tryz.func207, Tryz.ntmps207
    go_wp2
    clear hne'
    go_loopw [13] (fun cc wr => ∃ k : Nat, k ≤ n1 ∧ cc = .int .i64 k ∧ Fr Nobody w wr ∧ A.take k = B.take k) (fun cc _ => n1 - (intOf cc).toNat)
    case atStart => exact ⟨0, Nat.zero_le _, rfl, Fr.refl _ _, by simp⟩
    case round =>
      obtain ⟨k, hk, rfl, hf, heq⟩ := hrel
      have HF : Hid (Fr Nobody w wr) := hf
      have HE : Hid (A.take k = B.take k) := heq
      clear hf heq
      by_cases hlt : k < n1
      · obtain ⟨x, hx⟩ : ∃ x, A[k]? = some x := ⟨_, List.getElem?_eq_getElem (by rw [H1.out.2.2.1]; exact hlt)⟩
        obtain ⟨y, hy⟩ : ∃ y, B[k]? = some y := ⟨_, List.getElem?_eq_getElem (by rw [H1.out.2.2.2]; exact hlt)⟩
        obtain ⟨g1, o1, hg1, p0⟩ := (H1.out.1.quiet HF.out).at hx
        obtain ⟨g2, o2, hg2, q0⟩ := (H1.out.2.1.quiet HF.out).at hy
        subst hg1 hg2
        have hlt' : (k : Int) < (n1 : Int) := by omega
        have HXY : Hid (A[k]? = some x ∧ B[k]? = some y) := ⟨hx, hy⟩
        clear hx hy
        by_cases hxy : x = y
        · have HN : Hid (A.take (k + 1) = B.take (k + 1)) := take_eq HXY.out.1 HXY.out.2 (decide_eq_true hxy) HE.out
          have e0 : ((x : Int) != (y : Int)) = false := by simp [hxy]
          clear hxy HXY
          go_wp2
          go_quiet (fail)
          go_wp2
          go_roundw
          case rel => exact ⟨k + 1, by omega, by go_num, HF.out.drewN _, HN.out⟩
          case measure => simp [intOf]; omega
        · have HN : Hid (decide (A = B) = false) := take_ne HXY.out.1 HXY.out.2 (decide_eq_false hxy)
          have e0 : ((x : Int) != (y : Int)) = true := by rw [bne_iff_ne]; omega
          clear hxy HXY
          go_wp2
          go_quiet (fail)
          go_wp2
          go_ret
          exact ⟨by rw [HN.out]; rfl, HF.out.drewN _⟩
      · have hlt' : ¬ (k : Int) < (n1 : Int) := by omega
        have HN : Hid (decide (A = B) = true) := take_all (by rw [H1.out.2.2.1]; omega) (by rw [H1.out.2.2.2]; omega) HE.out
        go_wp2
        go_ret
        exact ⟨by rw [HN.out]; rfl, HF.out⟩
  · have HN : Hid (decide (A = B) = false) := len_ne (by rw [hn1, hn2]; exact hne)
    have hne' : ((n1 : Int) != (n2 : Int)) = true := by rw [bne_iff_ne]; omega
    clear h1 h2 hn1 hn2 hne
    go_enter Tryz.func207, Tryz.ntmps207
    go_wp2
    go_ret
    exact ⟨by rw [HN.out]; rfl, Fr.refl _ _⟩
/-- a list of changes that can be read -/
def ChsAt (w : World) (ao : Option Addr) (L : List ChE) : Prop := (L = [] ∨ ∃ g o, ao = some ⟨g, o, none⟩ ∧ ∀ (j : Nat) x, L[j]? = some x → w.cell? ⟨g, o + j * 4, none⟩ = some (.int .u32 (x.id : Int)) ∧ w.cell? ⟨g, o + j * 4 + 1, none⟩ = some (.int .u8 (x.lost : Int)) ∧ w.cell? ⟨g, o + j * 4 + 2, none⟩ = some (.slice x.na x.N.length x.nc) ∧ w.cell? ⟨g, o + j * 4 + 3, none⟩ = some (.slice x.sa x.S.length x.sc)) ∧ ∀ x ∈ L, Cs w x.na x.N ∧ Cs w x.sa x.S
theorem ChsAt.quiet {w w' : World} {ao : Option Addr} {L : List ChE} (h : ChsAt w ao L) (hf : Fr Nobody w w') : ChsAt w' ao L := by
  refine ⟨?_, fun x hx => ⟨(h.2 x hx).1.quiet hf, (h.2 x hx).2.quiet hf⟩⟩
  rcases h.1 with h | ⟨g, o, ha, hc⟩
  · exact .inl h
  · refine .inr ⟨g, o, ha, fun j x hx => ?_⟩
    obtain ⟨h0, h1, h2, h3⟩ := hc j x hx
    have hb := World.block_lt_of_cell? w _ h0
    exact ⟨(hf.cell (p := ⟨g, o + j * 4, none⟩) hb id).trans h0, (hf.cell (p := ⟨g, o + j * 4 + 1, none⟩) hb id).trans h1, (hf.cell (p := ⟨g, o + j * 4 + 2, none⟩) hb id).trans h2, (hf.cell (p := ⟨g, o + j * 4 + 3, none⟩) hb id).trans h3⟩
theorem ChsAt.at {w : World} {ao : Option Addr} {L : List ChE} (h : ChsAt w ao L) {j : Nat} {x : ChE} (hx : L[j]? = some x) : ∃ g o, ao = some ⟨g, o, none⟩ ∧ (w.cell? ⟨g, o + j * 4, none⟩ = some (.int .u32 (x.id : Int)) ∧ w.cell? ⟨g, o + j * 4 + 1, none⟩ = some (.int .u8 (x.lost : Int)) ∧ w.cell? ⟨g, o + j * 4 + 2, none⟩ = some (.slice x.na x.N.length x.nc) ∧ w.cell? ⟨g, o + j * 4 + 3, none⟩ = some (.slice x.sa x.S.length x.sc)) ∧ Cs w x.na x.N ∧ Cs w x.sa x.S := by
  rcases h.1 with h0 | ⟨g, o, ha, hc⟩
  · subst h0; simp at hx
  · exact ⟨g, o, ha, hc j x hx, h.2 x (List.mem_of_getElem? hx)⟩
def chv (L : List ChE) : List Chg := L.map ChE.v
theorem chv_len (L : List ChE) : (chv L).length = L.length := by simp [chv]
theorem chv_at {L : List ChE} {j : Nat} {x : ChE} (h : L[j]? = some x) : (chv L)[j]? = some x.v := by simp [chv, h]
/-- how many components in changes -/
def hsz : List ChE → Nat
  | [] => 0
  | x :: t => x.N.length + x.S.length + hsz t
theorem hsz_mem {L : List ChE} {x : ChE} (h : x ∈ L) : x.N.length + x.S.length ≤ hsz L := by
  induction L with
  | nil => cases h
  | cons y t ih =>
    simp only [hsz]
    rcases List.mem_cons.1 h with rfl | h
    · omega
    · have := ih h; omega
theorem chg_dec (x y : ChE) : decide (x.v = y.v) = (decide (x.id = y.id) && decide (x.lost = y.lost) && decide (x.N = y.N) && decide (x.S = y.S)) := by
  unfold ChE.v
  rw [Bool.eq_iff_iff]
  simp
  constructor
  · rintro ⟨a, b, c, d⟩; exact ⟨⟨⟨a, b⟩, c⟩, d⟩
  · rintro ⟨⟨⟨a, b⟩, c⟩, d⟩; exact ⟨a, b, c, d⟩
set_option maxHeartbeats 2000000 in
theorem sameCh_any (w : World) (x y : ChE) (hx1 : Cs w x.na x.N) (hx2 : Cs w x.sa x.S) (hy1 : Cs w y.na y.N) (hy2 : Cs w y.sa y.S) (hxz : x.N.length + x.S.length ≤ 1000000) (hyz : y.N.length + y.S.length ≤ 1000000) (hxl : x.lost < 256) (hyl : y.lost < 256) :
    Calls Tryz.prog 210 #[.agg #[.int .u32 (x.id : Int), .int .u8 (x.lost : Int), .slice x.na x.N.length x.nc, .slice x.sa x.S.length x.sc], .agg #[.int .u32 (y.id : Int), .int .u8 (y.lost : Int), .slice y.na y.N.length y.nc, .slice y.sa y.S.length y.sc]] w fun e w' => e = .returned (.bool (decide (x.v = y.v))) ∧ Fr Nobody w w' := by
  have hal : Fr Nobody w ((w.alloc (.cells #[.int .u32 (x.id : Int), .int .u8 (x.lost : Int), .slice x.na x.N.length x.nc, .slice x.sa x.S.length x.sc] 109)).alloc (.cells #[.int .u32 (y.id : Int), .int .u8 (y.lost : Int), .slice y.na y.N.length y.nc, .slice y.sa y.S.length y.sc] 109)) := ((Fr.refl _ _).alloc _).alloc _
  have HAL : Hid (Fr Nobody w _) := hal
  have hOx := ((Own.start w).allocC #[.int .u32 (x.id : Int), .int .u8 (x.lost : Int), .slice x.na x.N.length x.nc, .slice x.sa x.S.length x.sc] 109).allocC #[.int .u32 (y.id : Int), .int .u8 (y.lost : Int), .slice y.na y.N.length y.nc, .slice y.sa y.S.length y.sc] 109
  have e1 : (w.alloc (.cells #[.int .u32 (x.id : Int), .int .u8 (x.lost : Int), .slice x.na x.N.length x.nc, .slice x.sa x.S.length x.sc] 109)).heap.size = w.heap.size + 1 := by simp
  rw [e1] at hOx
  have HN : Hid (Calls _ _ _ _ _) := eqCs_p _ x.na y.na x.N.length y.N.length x.nc y.nc x.N y.N (hx1.quiet hal) (hy1.quiet hal) rfl rfl (by omega) (by omega)
  have HS : Hid (∀ W, Fr Nobody w W → Calls Tryz.prog 233 #[.slice x.sa x.S.length x.sc, .slice y.sa y.S.length y.sc] W fun e w' => e = .returned (.bool (decide (x.S = y.S))) ∧ Fr Nobody W w') := fun W hW => eqCs_p W x.sa y.sa x.S.length y.S.length x.sc y.sc x.S y.S (hx2.quiet hW) (hy2.quiet hW) rfl rfl (by omega) (by omega)
  rw [chg_dec]
  have HOX : Hid (Own w _ _) := hOx
  clear hx1 hx2 hy1 hy2 hal hOx e1
  by_cases c0 : x.id = y.id
  · rw [decide_eq_true c0]
    have e0 : ((x.id : Int) == (y.id : Int)) = true := by simp [c0]
    by_cases c1 : x.lost = y.lost
    · rw [decide_eq_true c1]
      have e2 : ((x.lost : Int) == (y.lost : Int)) = true := by simp [c1]
      clear c0 c1
      generalize decide (x.N = y.N) = r1 at *
      generalize decide (x.S = y.S) = r2 at *
      obtain ⟨xi, xl, xN, xna, xnc, xS, xsa, xsc⟩ := x
      obtain ⟨yi, yl, yN, yna, ync, yS, ysa, ysc⟩ := y
      simp only at HN HS HAL HOX e0 e2 hxl hyl ⊢
      generalize xN.length = xnl at *
      generalize xS.length = xsl at *
      generalize yN.length = ynl at *
      generalize yS.length = ysl at *
      go_enter Tryz.func210, Tryz.ntmps210
      go_wp2_with fail
      refine HN.out.mono ?_
      rintro e w1 ⟨rfl, hf1⟩
      have hF1 := HAL.out.trans hf1
      have hO1 := HOX.out.quiet hf1
      have u3 := hO1.cell 3
      have v3 := hO1.two.cell 3
      simp at u3 v3
      cases r1
      · have HF1 : Hid (Fr Nobody w w1) := hF1
        clear hF1 hf1 HN HS hO1 HOX HAL u3 v3
        go_wp2
        go_ret
        exact ⟨by simp, HF1.out⟩
      · have HSS : Hid (Calls _ _ _ _ _) := HS.out w1 hF1
        have HF1 : Hid (Fr Nobody w w1) := hF1
        clear hF1 hf1 HN HS hO1 HOX HAL
        go_wp2_with fail
        refine HSS.out.mono ?_
        rintro e w2 ⟨rfl, hf2⟩
        have HF2 : Hid (Fr Nobody w w2) := HF1.out.trans hf2
        clear hf2 HSS HF1 u3 v3
        go_wp2
        go_ret
        exact ⟨by simp, HF2.out⟩
    · have e2 : ((x.lost : Int) == (y.lost : Int)) = false := by rw [beq_eq_false_iff_ne]; omega
      rw [decide_eq_false c1]
      clear c0 c1 HN HS HOX
      go_enter Tryz.func210, Tryz.ntmps210
      go_wp2
      go_ret
      exact ⟨by simp, HAL.out⟩
  · have e0 : ((x.id : Int) == (y.id : Int)) = false := by rw [beq_eq_false_iff_ne]; omega
    rw [decide_eq_false c0]
    clear c0 HN HS HOX
    go_enter Tryz.func210, Tryz.ntmps210
    go_wp2
    go_ret
    exact ⟨by simp, HAL.out⟩
end Go.Proofs.YtbencjopjdjepaaGreatDoor


/-
  Deltas held against each other: the program's same, the document's Same.
-/
namespace Go.Proofs.YtbencjopjdjepaaGreatDoor
open Go.RowKit
set_option linter.unusedVariables false
set_option maxRecDepth 100000

set_option maxHeartbeats 4000000 in
theorem equalChs_any (w : World) (a1 a2 : Option Addr) (n1 n2 c1 c2 : Nat) (L M : List ChE) (h1 : ChsAt w a1 L) (h2 : ChsAt w a2 M) (hn1 : L.length = n1) (hn2 : M.length = n2) (hz1 : L.length + hsz L ≤ 1000000) (hz2 : M.length + hsz M ≤ 1000000) (hl1 : ∀ x ∈ L, x.lost < 256) (hl2 : ∀ x ∈ M, x.lost < 256) :
    Calls Tryz.prog 209 #[.slice a1 n1 c1, .slice a2 n2 c2, .func (.func 210) #[] #[]] w fun e w' => e = .returned (.bool (decide (chv L = chv M))) ∧ Fr Nobody w w' := by
  have hm1 : n1 ≤ 2097152 := by omega
  have HZ : Hid ((∀ x ∈ L, x.N.length + x.S.length ≤ 1000000 ∧ x.lost < 256) ∧ ∀ x ∈ M, x.N.length + x.S.length ≤ 1000000 ∧ x.lost < 256) := ⟨fun x hx => ⟨by have := hsz_mem hx; omega, hl1 x hx⟩, fun x hx => ⟨by have := hsz_mem hx; omega, hl2 x hx⟩⟩
  have hlL := chv_len L
  have hlM := chv_len M
  by_cases hne : n1 = n2
  · have H1 : Hid (ChsAt w a1 L ∧ ChsAt w a2 M ∧ L.length = n1 ∧ M.length = n1) := ⟨h1, h2, hn1, by rw [hn2, hne]⟩
    have HLL : Hid ((chv L).length ≤ n1 ∧ (chv M).length ≤ n1) := ⟨by omega, by omega⟩
    rw [← hne]
    clear h1 h2 hn1 hn2 hne hz1 hz2 hlL hlM hl1 hl2
    have hne' : ((n1 : Int) != (n1 : Int)) = false := by simp
    go_enter Tryz.func209, Tryz.ntmps209
    go_wp2
    clear hne'
    go_loopw [17] (fun cc wr => ∃ k : Nat, k ≤ n1 ∧ cc = .int .i64 k ∧ Fr Nobody w wr ∧ (chv L).take k = (chv M).take k) (fun cc _ => n1 - (intOf cc).toNat)
    case atStart => exact ⟨0, Nat.zero_le _, rfl, Fr.refl _ _, by simp⟩
    case round =>
      obtain ⟨k, hk, rfl, hf, heq⟩ := hrel
      have HF : Hid (Fr Nobody w wr) := hf
      have HE : Hid ((chv L).take k = (chv M).take k) := heq
      clear hf heq
      by_cases hlt : k < n1
      · obtain ⟨x, hx⟩ : ∃ x, L[k]? = some x := ⟨_, List.getElem?_eq_getElem (by rw [H1.out.2.2.1]; exact hlt)⟩
        obtain ⟨y, hy⟩ : ∃ y, M[k]? = some y := ⟨_, List.getElem?_eq_getElem (by rw [H1.out.2.2.2]; exact hlt)⟩
        obtain ⟨g1, o1, hg1, ⟨r0, r1, r2, r3⟩, k1, k1'⟩ := (H1.out.1.quiet HF.out).at hx
        obtain ⟨g2, o2, hg2, ⟨s0, s1, s2, s3⟩, k2, k2'⟩ := (H1.out.2.1.quiet HF.out).at hy
        subst hg1 hg2
        have hb1 : g1 < wr.heap.size := World.block_lt_of_cell? wr _ r0
        have hb2 : g2 < wr.heap.size := World.block_lt_of_cell? wr _ s0
        have hb3 : wr.heap.size ≠ g1 := by omega
        have hb4 : wr.heap.size ≠ g2 := by omega
        have hlt' : (k : Int) < (n1 : Int) := by omega
        obtain ⟨r, hr⟩ : ∃ r, decide (x.v = y.v) = r := ⟨_, rfl⟩
        have hal : Fr Nobody wr ((wr.alloc (.cells #[.int .u32 (x.id : Int), .int .u8 (x.lost : Int), .slice x.na x.N.length x.nc, .slice x.sa x.S.length x.sc] 109)).alloc (.cells #[.int .u32 (y.id : Int), .int .u8 (y.lost : Int), .slice y.na y.N.length y.nc, .slice y.sa y.S.length y.sc] 109)) := ((Fr.refl _ _).alloc _).alloc _
        have hzx := HZ.out.1 x (List.mem_of_getElem? hx)
        have hzy := HZ.out.2 y (List.mem_of_getElem? hy)
        have CS : Hid (Calls _ _ _ _ _) := sameCh_any _ x y (k1.quiet hal) (k1'.quiet hal) (k2.quiet hal) (k2'.quiet hal) hzx.1 hzy.1 hzx.2 hzy.2
        rw [hr] at CS
        have HF1 : Hid (Fr Nobody w _) := HF.out.trans hal
        have HXY : Hid ((chv L)[k]? = some x.v ∧ (chv M)[k]? = some y.v) := ⟨chv_at hx, chv_at hy⟩
        have HR : Hid (decide (x.v = y.v) = r) := hr
        clear hx hy hr k1 k2 k1' k2' hal
        have hxl := hzx.2
        have hyl := hzy.2
        clear hzx hzy
        generalize x.v = xv at *
        generalize y.v = yv at *
        obtain ⟨xi, xl, xN, xna, xnc, xS, xsa, xsc⟩ := x
        obtain ⟨yi, yl, yN, yna, ync, yS, ysa, ysc⟩ := y
        simp only at r0 r1 r2 r3 s0 s1 s2 s3 CS HF1 hxl hyl
        generalize xN.length = xnl at *
        generalize xS.length = xsl at *
        generalize yN.length = ynl at *
        generalize yS.length = ysl at *
        go_wp2_with fail
        refine CS.out.mono ?_
        rintro e w' ⟨rfl, hf2⟩
        have HF2 : Hid (Fr Nobody w w') := HF1.out.trans hf2
        clear r0 r1 r2 r3 s0 s1 s2 s3 CS hf2 hb1 hb2 hb3 hb4
        cases r
        · have HN : Hid (decide (chv L = chv M) = false) := take_ne HXY.out.1 HXY.out.2 HR.out
          go_wp2
          go_ret
          exact ⟨by rw [HN.out]; rfl, HF2.out⟩
        · have HN : Hid ((chv L).take (k + 1) = (chv M).take (k + 1)) := take_eq HXY.out.1 HXY.out.2 HR.out HE.out
          go_wp2
          go_roundw
          case rel => exact ⟨k + 1, by omega, by go_num, HF2.out, HN.out⟩
          case measure => simp [intOf]; omega
      · have hlt' : ¬ (k : Int) < (n1 : Int) := by omega
        have HN : Hid (decide (chv L = chv M) = true) := take_all (by have := HLL.out.1; omega) (by have := HLL.out.2; omega) HE.out
        go_wp2
        go_ret
        exact ⟨by rw [HN.out]; rfl, HF.out⟩
  · have HN : Hid (decide (chv L = chv M) = false) := len_ne (by omega)
    have hne' : ((n1 : Int) != (n2 : Int)) = true := by rw [bne_iff_ne]; omega
    clear h1 h2 hn1 hn2 hne hlL hlM hz1 hz2
    go_enter Tryz.func209, Tryz.ntmps209
    go_wp2
    go_ret
    exact ⟨by rw [HN.out]; rfl, Fr.refl _ _⟩
/-- a delta that can be read -/
structure DlAt (w : World) (d : DlE) : Prop where
  g : Nums .u32 w (.slice d.ga d.G.length d.gc) d.G
  m : EntsAt w d.ma d.M
  h : ChsAt w d.ha d.H
theorem DlAt.quiet {w w' : World} {d : DlE} (h : DlAt w d) (hf : Fr Nobody w w') : DlAt w' d := ⟨h.g.quiet hf, h.m.quiet hf, h.h.quiet hf⟩
/-- not too much of it -/
structure DlIn (d : DlE) : Prop where
  g : d.G.length ≤ 1000000
  m : esz d.M ≤ 1000000
  h : d.H.length + hsz d.H ≤ 1000000
  l : ∀ x ∈ d.H, x.lost < 256
theorem dl_dec (a b : DlE) : decide (a.v = b.v) = (decide (a.G = b.G) && decide (evs a.M = evs b.M) && decide (chv a.H = chv b.H)) := by
  unfold DlE.v chv
  rw [Bool.eq_iff_iff]
  simp
  constructor
  · rintro ⟨a, b, c⟩; exact ⟨⟨a, b⟩, c⟩
  · rintro ⟨⟨a, b⟩, c⟩; exact ⟨a, b, c⟩
theorem hrows_in {H : List ChE} {x : ChE} (hx : x ∈ H) : ∃ A B, hrows H = A ++ (x.nrow :: x.srow :: B) := by
  obtain ⟨L1, L2, rfl⟩ := List.append_of_mem hx
  exact ⟨hrows L1, hrows L2, by simp [hrows, ChE.rows]⟩
theorem Own.dlAt {w0 w : World} {d : DlE} {l : List Thing} (h : Own w0 w (d.things ++ l)) : DlAt w d := by
  have h1 : Own w0 w (grow1 d.G d.ga d.gc :: EntsT d.ma d.mc d.M :: hrow1 d.H d.ha d.hc :: (hrows d.H ++ l)) := h
  refine ⟨Own.nums h1, h1.two.entsAt, ?_, fun x hx => ?_⟩
  · have hr := h1.three.row
    rcases Nat.eq_zero_or_pos d.H.length with h0 | h0
    · exact .inl (List.eq_nil_of_length_eq_zero h0)
    · obtain ⟨g, cp, hv, _⟩ := row_shape hr h0
      refine .inr ⟨g, 0, (Value.slice.inj hv).1, fun j x hx => ?_⟩
      have hva := (Value.slice.inj hv).1
      rw [hva] at hr
      have hj := (List.getElem?_eq_some_iff.1 hx).1
      rw [Nat.zero_add, hr.cellAt _ (by omega), hr.cellAt _ (by omega), hr.cellAt _ (by omega), hr.cellAt _ (by omega)]
      exact ⟨cat_at ChE.cs 4 (fun _ => rfl) d.H j 0 x hx (by decide), cat_at ChE.cs 4 (fun _ => rfl) d.H j 1 x hx (by decide), cat_at ChE.cs 4 (fun _ => rfl) d.H j 2 x hx (by decide), cat_at ChE.cs 4 (fun _ => rfl) d.H j 3 x hx (by decide)⟩
  · obtain ⟨A, B, e⟩ := hrows_in hx
    have h2 := h1.tail.tail.tail
    rw [e, List.append_assoc] at h2
    have h3 : Own w0 w (x.nrow :: x.srow :: (B ++ l)) := h2.dropA
    exact ⟨Own.cs (h3.view (by decide)) rfl, Own.cs (h3.two.view (by decide)) rfl⟩
set_option maxHeartbeats 4000000 in
theorem sameD_any (w : World) (a b : DlE) (ha : DlAt w a) (hb : DlAt w b) (hia : DlIn a) (hib : DlIn b) :
    Calls Tryz.prog 183 #[.agg a.vs, .agg b.vs] w fun e w' => e = .returned (.bool (decide (a.v = b.v))) ∧ Fr Nobody w w' := by
  have hal : Fr Nobody w ((w.alloc (.cells a.vs 102)).alloc (.cells b.vs 102)) := ((Fr.refl _ _).alloc _).alloc _
  have hO := ((Own.start w).allocC a.vs 102).allocC b.vs 102
  have e1 : (w.alloc (.cells a.vs 102)).heap.size = w.heap.size + 1 := by simp
  rw [e1] at hO
  have HG : Hid (Calls _ _ _ _ _) := eqIds_p _ a.ga b.ga a.G.length b.G.length a.gc b.gc a.G b.G (ha.g.quiet hal) (hb.g.quiet hal) (by have := hia.g; omega) (by have := hib.g; omega)
  have HM : Hid (∀ W, Fr Nobody w W → Calls Tryz.prog 208 #[.slice a.ma a.M.length a.mc, .slice b.ma b.M.length b.mc] W fun e w' => e = .returned (.bool (decide (evs a.M = evs b.M))) ∧ Fr Nobody W w') := fun W hW => snapSame_any W a.ma b.ma a.M.length b.M.length a.mc b.mc a.M b.M (ha.m.quiet hW) (hb.m.quiet hW) rfl rfl (by have := hia.m; omega) (by have := hib.m; omega)
  have HH : Hid (∀ W, Fr Nobody w W → Calls Tryz.prog 209 #[.slice a.ha a.H.length a.hc, .slice b.ha b.H.length b.hc, .func (.func 210) #[] #[]] W fun e w' => e = .returned (.bool (decide (chv a.H = chv b.H))) ∧ Fr Nobody W w') := fun W hW => equalChs_any W a.ha b.ha a.H.length b.H.length a.hc b.hc a.H b.H (ha.h.quiet hW) (hb.h.quiet hW) rfl rfl hia.h hib.h hia.l hib.l
  rw [dl_dec]
  have HAL : Hid (Fr Nobody w _) := hal
  have HO : Hid (Own w _ _) := hO
  clear ha hb hia hib hal hO e1
  generalize decide (a.G = b.G) = r0 at *
  generalize decide (evs a.M = evs b.M) = r1 at *
  generalize decide (chv a.H = chv b.H) = r2 at *
  obtain ⟨aG, aga, agc, aM, ama, amc, aH, aha, ahc⟩ := a
  obtain ⟨bG, bga, bgc, bM, bma, bmc, bH, bha, bhc⟩ := b
  simp only [DlE.vs] at HG HM HH HAL HO ⊢
  generalize aG.length = agl at *
  generalize aM.length = aml at *
  generalize aH.length = ahl at *
  generalize bG.length = bgl at *
  generalize bM.length = bml at *
  generalize bH.length = bhl at *
  go_enter Tryz.func183, Tryz.ntmps183
  go_wp2_with fail
  refine HG.out.mono ?_
  rintro e w1 ⟨rfl, hf1⟩
  have hF1 := HAL.out.trans hf1
  have hO1 := HO.out.quiet hf1
  have u1 := hO1.cell 1
  have u2 := hO1.cell 2
  have v1 := hO1.two.cell 1
  have v2 := hO1.two.cell 2
  simp at u1 u2 v1 v2
  cases r0
  · have HF1 : Hid (Fr Nobody w w1) := hF1
    clear hF1 hf1 HG HM HH hO1 HO HAL u1 u2 v1 v2
    go_wp2
    go_ret
    exact ⟨by simp, HF1.out⟩
  · have HMM : Hid (Calls _ _ _ _ _) := HM.out w1 hF1
    have HF1 : Hid (Fr Nobody w w1) := hF1
    have HO1 : Hid (Own w w1 _) := hO1
    clear hF1 hf1 HG HM HO HAL hO1
    go_wp2_with fail
    refine HMM.out.mono ?_
    rintro e w2 ⟨rfl, hf2⟩
    have hF2 := HF1.out.trans hf2
    have hO2 := HO1.out.quiet hf2
    have x2 := hO2.cell 2
    have y2 := hO2.two.cell 2
    simp at x2 y2
    cases r1
    · have HF2 : Hid (Fr Nobody w w2) := hF2
      clear hF2 hf2 HMM HH hO2 HO1 HF1 u1 u2 v1 v2 x2 y2
      go_wp2
      go_ret
      exact ⟨by simp, HF2.out⟩
    · have HHH : Hid (Calls _ _ _ _ _) := HH.out w2 hF2
      have HF2 : Hid (Fr Nobody w w2) := hF2
      clear hF2 hf2 HMM HH hO2 HO1 HF1 u1 u2 v1 v2
      go_wp2_with fail
      refine HHH.out.mono ?_
      rintro e w3 ⟨rfl, hf3⟩
      have HF3 : Hid (Fr Nobody w w3) := HF2.out.trans hf3
      clear hf3 HHH HF2 x2 y2
      go_wp2
      go_ret
      exact ⟨by simp, HF3.out⟩
end Go.Proofs.YtbencjopjdjepaaGreatDoor


/-
  The content of a Full and of a Step between snapshots.
-/
namespace Go.Proofs.YtbencjopjdjepaaGreatDoor
open Go.RowKit
set_option linter.unusedVariables false
set_option maxRecDepth 100000

theorem chz_of (W N : List En) : chz (N.filterMap (chgO W)) ≤ 2 * cszV N := by
  induction N with
  | nil => simp [chz]
  | cons e t ih =>
    rw [List.filterMap_cons]
    rcases hx : chgO W e with _ | c
    · simp only [cszV]; omega
    · obtain ⟨x, _, rfl⟩ := chgO_of hx
      have h1 := List.length_filter_le (isNew x.2) e.2
      have h2 := List.length_filter_le (isSet x.2) e.2
      have e1 : (chg1 x e).new.length = (e.2.filter (isNew x.2)).length := rfl
      have e2 : (chg1 x e).set.length = (e.2.filter (isSet x.2)).length := rfl
      simp only [chz, cszV]
      omega
theorem dsz_of {W N : List EnE} {d : DlE} (hW : fm 0 (evs W) = 0) (hN : fm 0 (evs N) = 0) (hd : d.v = btw (evs W) (evs N)) : dsz d ≤ esz W + 4 * esz N := by
  have sW := Snap.of hW
  have sN := Snap.of hN
  have hcs := come_sz (evs W) (evs N)
  rw [← hd] at hcs
  have hc2 : cszV (evs d.M) ≤ cszV (evs N) := hcs
  rw [cszV_evs, cszV_evs] at hc2
  rw [btw_dlt _ _ sW.up sN.up] at hd
  have hg : d.G.length = (((evs W).filter (fun e => (fstE (evs N) e.1).isNone)).map (·.1)).length := congrArg (fun x => x.gone.length) hd
  have hm : (evs d.M).length = ((evs N).filter (fun e => (fstE (evs W) e.1).isNone)).length := congrArg (fun x => x.come.length) hd
  have hh : d.H.map ChE.v = (evs N).filterMap (chgO (evs W)) := congrArg Dl.chg hd
  have h1 := List.length_filter_le (fun e => (fstE (evs N) e.1).isNone) (evs W)
  have h2 := List.length_filter_le (fun e => (fstE (evs W) e.1).isNone) (evs N)
  have h3 := List.length_filterMap_le (chgO (evs W)) (evs N)
  have h4 := chz_of (evs W) (evs N)
  rw [← hh] at h3 h4
  rw [List.length_map] at hg h3
  rw [evs_len] at hm h1 h2 h3
  rw [cszV_evs] at h4
  unfold dsz esz
  omega
set_option maxHeartbeats 1000000 in
theorem content_full (w0 w : World) (ht : Tab w0) (l : List Thing) (p b : Nat) (L : List Bool) (wv : Value) (h : Own w0 w (penC p b :: WrT b L :: l)) (an : Option Addr) (nn cn : Nat) (N : List EnE) (hQ : ∀ w', Own w0 w' l → EntsAt w' an N) (hN : N.length = nn) (hIN : EIn N) (hzN : esz N ≤ 400) (hf : fm 0 (evs N) = 0) (hl : L.length ≤ 1000) :
    Calls Tryz.prog 43 #[.pointer (some ⟨p, 0, none⟩), .int .u8 1, wv, .slice an nn cn] w fun e w' => e = .returned (.int .i64 0) ∧ Own w0 w' (penC p b :: WrT b (L ++ (var nn ++ entsB 0 (evs N))) :: l) := by
  have hF := form_any w (ht.quiet h.fr) an nn cn N (hQ w h.tail.tail) hN hIN (by omega)
  rw [hf] at hF
  have HF : Hid (Calls Tryz.prog 81 #[.slice an nn cn] w fun e w' => e = .returned (.int .i64 0) ∧ Fr Nobody w w') := hF
  have HP : Hid (∀ Z, Own w0 Z (penC p b :: WrT b L :: l) → Calls Tryz.prog 97 #[.pointer (some ⟨p, 0, none⟩), .slice an nn cn] Z fun e w' => e = .returned (.tuple #[]) ∧ Own w0 w' (penC p b :: WrT b ((L ++ var nn) ++ entsB 0 (evs N)) :: l)) := fun Z hZ => pents w0 Z ht l p b L an nn cn N hZ hQ hN hIN (Snap.of hf).up (fm_each hf) (by omega)
  have H : Hid (Own w0 w (penC p b :: WrT b L :: l)) := h
  have z0 : ((0 : Int) != 0) = false := rfl
  rw [← List.append_assoc]
  clear h hQ hN hIN hzN hf hl hF ht
  go_enter Tryz.func43, Tryz.ntmps43
  go_wp2_with fail
  refine HF.out.mono ?_
  rintro e w1 ⟨rfl, hf1⟩
  have HP1 : Hid (Calls _ _ _ _ _) := HP.out w1 (H.out.quiet hf1)
  clear hf1 HF HP H
  go_wp2_with fail
  refine HP1.out.mono ?_
  rintro e w2 ⟨rfl, h2⟩
  have H2 : Hid (Own w0 w2 _) := h2
  clear h2 HP1
  go_wp2
  go_ret
  exact ⟨rfl, by first | exact H2.out | (rw [← List.append_assoc]; exact H2.out)⟩
set_option maxHeartbeats 2000000 in
theorem content_step (w0 w : World) (ht : Tab w0) (l : List Thing) (p b : Nat) (L : List Bool) (h : Own w0 w (penC p b :: WrT b L :: l)) (aw an : Option Addr) (nw nn cw cn : Nat) (W N : List EnE) (hQ : ∀ w', Own w0 w' l → EntsAt w' aw W ∧ EntsAt w' an N) (hW : W.length = nw) (hN : N.length = nn) (hcw : nw ≤ cw) (hcn : nn ≤ cn) (hmw : cw ≤ 9223372036854775807) (hmn : cn ≤ 9223372036854775807) (hIW : EIn W) (hIN : EIn N) (hzW : esz W ≤ 400) (hzN : esz N ≤ 400) (hf : fm 0 (evs W) = 0) (hg : fm 0 (evs N) = 0) (hl : L.length ≤ 1000) :
    Calls Tryz.prog 43 #[.pointer (some ⟨p, 0, none⟩), .int .u8 2, .slice aw nw cw, .slice an nn cn] w fun e w' => e = .returned (.int .i64 0) ∧ Own w0 w' (penC p b :: WrT b (L ++ dltB (evs W) (btw (evs W) (evs N))) :: l) := by
  have HD : Hid (Calls _ _ _ _ _) := diff_any w0 w ht _ h aw an nw nn cw cn W N (fun w' hw => hQ w' hw.tail.tail) hW hN hcw hcn hmw hmn hIW hIN (by omega) (by omega)
  have hdc : dcode (evs W) (evs N) = 0 := by unfold dcode; simp [hf, hg]
  have hdv : dlv (evs W) (evs N) = btw (evs W) (evs N) := by unfold dlv; rw [if_pos hdc]
  rw [hdc, hdv] at HD
  have HPD : Hid (∀ Z (d : DlE) (X : Thing), d.v = btw (evs W) (evs N) → Own w0 Z (penC p b :: WrT b L :: X :: (d.things ++ l)) → Calls Tryz.prog 99 #[.pointer (some ⟨p, 0, none⟩), .slice aw nw cw, .agg #[.slice d.ga d.G.length d.gc, .slice d.ma d.M.length d.mc, .slice d.ha d.H.length d.hc]] Z fun e w' => e = .returned (.tuple #[]) ∧ Own w0 w' (penC p b :: WrT b (L ++ dltB (evs W) (btw (evs W) (evs N))) :: X :: (d.things ++ l))) := fun Z d X hd hZ => by
    have hds := dsz_of hf hg hd
    have h1 := pdelta w0 Z ht (X :: (d.things ++ l)) p b L aw nw cw W d hZ (fun w' hw => (hQ w' hw.tail.dropA).1) (fun w' hw j i hi => by
      obtain ⟨g, o, hga, hc⟩ := hw.tail.dlAt.g.at hi
      exact ⟨g, o, hga, hc⟩) (fun w' hw => hw.tail.dlAt.m) (fun w' hw j x hx => by
      obtain ⟨g, o, hga, hc, hn, hs⟩ := hw.tail.dlAt.h.at hx
      exact ⟨g, o, hga, hc, hn, hs⟩) hW (by omega) (Snap.of hf).up (dtOk_of hf hg hIW hIN hd) (by omega)
    rw [hd] at h1
    exact h1
  clear h hQ hW hN hcw hcn hmw hmn hIW hIN hzW hzN hf hg hdc hdv hl ht
  go_enter Tryz.func43, Tryz.ntmps43
  go_wp2_with fail
  refine HD.out.mono ?_
  rintro e w1 ⟨d, rfl, hd, h1⟩
  unfold DlE.vs
  have h2 := (h1.perm (List.perm_append_comm_assoc d.things [penC p b, WrT b L] l)).allocC #[.slice d.ga d.G.length d.gc, .slice d.ma d.M.length d.mc, .slice d.ha d.H.length d.hc] 102
  have q0 := h2.cell 0
  have q1 := h2.cell 1
  have q2 := h2.cell 2
  simp at q0 q1 q2
  have HP : Hid (Calls _ _ _ _ _) := HPD.out _ d _ hd h2.two.in23
  have z0 : ((0 : Int) != 0) = false := rfl
  clear h1 h2 hd HD HPD
  go_wp2_with fail
  refine HP.out.mono ?_
  rintro e w2 ⟨rfl, h3⟩
  have h4 := h3.three.tail
  have H3 : Hid (Own w0 w2 (penC p b :: WrT b (L ++ dltB (evs W) (btw (evs W) (evs N))) :: l)) := by
    have h5 := h4.perm ((List.perm_append_comm_assoc [penC p b, WrT b (L ++ dltB (evs W) (btw (evs W) (evs N)))] d.things l))
    exact h5.dropA
  clear h3 h4 HP q0 q1 q2
  go_wp2
  go_ret
  exact ⟨rfl, H3.out⟩
end Go.Proofs.YtbencjopjdjepaaGreatDoor

/-
  Bits that can be parted: numbers of a width, and Var.
-/
namespace Go.Proofs.YtbencjopjdjepaaGreatDoor
open Go.RowKit
set_option linter.unusedVariables false
set_option maxRecDepth 100000

theorem bits_cut {n v w : Nat} {r s : List Bool} (hv : v < 2 ^ n) (hw : w < 2 ^ n) (h : bitsN n v ++ r = bitsN n w ++ s) : v = w ∧ r = s := by
  have h1 := List.append_inj h (by rw [length_bitsN, length_bitsN])
  refine ⟨?_, h1.2⟩
  have h2 := congrArg num h1.1
  rw [num_bitsN, num_bitsN, Nat.mod_eq_of_lt hv, Nat.mod_eq_of_lt hw] at h2
  exact h2
theorem varTo_groups (v w n m : Nat) : ∀ k, varTo v n k = varTo w m k → ∀ i, i < k → grpAt v n i = grpAt w m i := by
  intro k
  induction k with
  | zero => intro _ i hi; omega
  | succ k ih =>
    intro h i hi
    rw [varTo, varTo] at h
    have h1 := List.append_inj h (by rw [length_varTo, length_varTo])
    rcases Nat.lt_or_ge i k with hk | hk
    · exact ih h1.1 i hk
    · have : i = k := by omega
      subst this
      have h2 : bitsN 5 (grpAt v n i) ++ [] = bitsN 5 (grpAt w m i) ++ [] := by rw [h1.2]
      exact (bits_cut (Nat.lt_of_lt_of_le (grpAt_lt v n i) (by decide)) (Nat.lt_of_lt_of_le (grpAt_lt w m i) (by decide)) h2).1
theorem varTo_split (w m n j : Nat) : ∃ t, varTo w m (n + j) = varTo w m n ++ t ∧ (j = 0 → t = []) := by
  induction j with
  | zero => exact ⟨[], by simp, fun _ => rfl⟩
  | succ j ih =>
    obtain ⟨t, ht, _⟩ := ih
    exact ⟨t ++ bitsN 5 (grpAt w m (n + j)), by rw [← Nat.add_assoc, varTo, ht, List.append_assoc], fun h => by omega⟩
theorem dig_eq : ∀ (n v w : Nat), v < 2 ^ (4 * n) → w < 2 ^ (4 * n) → (∀ i, i < n → v / 2 ^ (4 * i) % 16 = w / 2 ^ (4 * i) % 16) → v = w := by
  intro n
  induction n with
  | zero => intro v w hv hw _; simp at hv hw; omega
  | succ n ih =>
    intro v w hv hw h
    have h0 := h 0 (by omega)
    simp at h0
    have e : 2 ^ (4 * (n + 1)) = 16 * 2 ^ (4 * n) := by rw [Nat.mul_add, Nat.pow_add]; omega
    rw [e] at hv hw
    have h1 := ih (v / 16) (w / 16) (Nat.div_lt_of_lt_mul hv) (Nat.div_lt_of_lt_mul hw) (fun i hi => by
      have h2 := h (i + 1) (by omega)
      have e2 : 2 ^ (4 * (i + 1)) = 16 * 2 ^ (4 * i) := by rw [Nat.mul_add, Nat.pow_add]; omega
      rw [e2] at h2
      rw [Nat.div_div_eq_div_mul, Nat.div_div_eq_div_mul]
      exact h2)
    omega
theorem lt_grpP (v : Nat) (h : v < 18446744073709551616) : v < 2 ^ (4 * grp v) := by
  refine Nat.lt_of_lt_of_le (lt_bitLen v h) (Nat.pow_le_pow_right (by decide) ?_)
  unfold grp
  omega
theorem var_cut_le {v w : Nat} {r s : List Bool} (hv : v < 18446744073709551616) (hw : w < 18446744073709551616) (hle : grp v ≤ grp w) (h : var v ++ r = var w ++ s) : v = w ∧ r = s := by
  obtain ⟨j, hj⟩ : ∃ j, grp w = grp v + j := ⟨grp w - grp v, by omega⟩
  obtain ⟨t, ht, ht0⟩ := varTo_split w (grp w) (grp v) j
  have hb := grp_bd v hv
  unfold var at h
  have e : varTo w (grp w) (grp w) = varTo w (grp w) (grp v) ++ t := by rw [← ht, ← hj]
  rw [e, List.append_assoc] at h
  have h1 := List.append_inj h (by rw [length_varTo, length_varTo])
  have h2 := varTo_groups v w (grp v) (grp w) (grp v) h1.1
  have h3 := h2 (grp v - 1) (by omega)
  unfold grpAt at h3
  rw [if_neg (by omega)] at h3
  have hj0 : j = 0 := by
    rcases Nat.eq_zero_or_pos j with h0 | h0
    · exact h0
    · rw [if_pos (by omega)] at h3; omega
  have hg : grp w = grp v := by omega
  have hr : r = s := by rw [h1.2, ht0 hj0]; rfl
  refine ⟨?_, hr⟩
  refine dig_eq (grp v) v w (lt_grpP v hv) (by rw [← hg]; exact lt_grpP w hw) (fun i hi => ?_)
  have h4 := h2 i hi
  unfold grpAt at h4
  rw [hg] at h4
  omega
/-- Var can be parted from what follows -/
theorem var_cut {v w : Nat} {r s : List Bool} (hv : v < 18446744073709551616) (hw : w < 18446744073709551616) (h : var v ++ r = var w ++ s) : v = w ∧ r = s := by
  rcases Nat.le_total (grp v) (grp w) with hle | hle
  · exact var_cut_le hv hw hle h
  · obtain ⟨h1, h2⟩ := var_cut_le hw hv hle h.symm
    exact ⟨h1.symm, h2.symm⟩
theorem idB_cut {a i j : Nat} {r s : List Bool} (hi : a < i ∧ i < 4294967296) (hj : a < j ∧ j < 4294967296) (h : idB a i ++ r = idB a j ++ s) : i = j ∧ r = s := by
  unfold idB at h
  obtain ⟨h1, h2⟩ := var_cut (by omega) (by omega) h
  exact ⟨by omega, h2⟩
end Go.Proofs.YtbencjopjdjepaaGreatDoor

