/-
  A wider region about the same cell sees all that the narrower one sees: ViewWider returns true, whatever its arguments, where the table of the components lies as the program's text lays it, and changes nothing that was there.
-/
import Derived.Test.YthokgjkgfolojabDoorVim
import Derived.Test.YthokgjkgfolojabDoorVik
import Derived.Deep.RegionHeld3
import Derived.OpenShut
import Derived.SevenTiedAt
namespace Go.Proofs.YthokgjkgfolojabDoor
open Go.ChangeShapes Go.WideShapes Go.ChangeAt Go.RowKit
set_option linter.unusedVariables false
set_option maxRecDepth 100000

/-- those of a list that are meant, found one by one in a longer list -/
def cntP (p : Spt → Bool) (M : List Spt) (j : Nat) : Nat := ((M.take j).filter p).length
theorem cnt_zero (p : Spt → Bool) (M : List Spt) : cntP p M 0 = 0 := by simp [cntP]
theorem cnt_all (p : Spt → Bool) (M : List Spt) : cntP p M M.length = (M.filter p).length := by simp [cntP]
theorem cntP_le (p : Spt → Bool) (M : List Spt) (j : Nat) : cntP p M j ≤ (M.filter p).length := by
  unfold cntP
  have : M = M.take j ++ M.drop j := (List.take_append_drop j M).symm
  conv => rhs; rw [this, List.filter_append, List.length_append]
  omega
theorem cnt_succ {p : Spt → Bool} {M : List Spt} {j : Nat} {s : Spt} (h : M[j]? = some s) : cntP p M (j + 1) = cntP p M j + (if p s then 1 else 0) := by
  unfold cntP
  rw [List.take_add_one, h, List.filter_append, List.length_append]
  cases hp : p s <;> simp [hp]
theorem filter_at {p : Spt → Bool} {M : List Spt} {j : Nat} {s : Spt} (h : M[j]? = some s) (hp : p s = true) : (M.filter p)[cntP p M j]? = some s := by
  have e : M.filter p = (M.take j).filter p ++ (M.drop j).filter p := by rw [← List.filter_append, List.take_append_drop]
  have hj := (List.getElem?_eq_some_iff.1 h).1
  have hd : M.drop j = s :: M.drop (j + 1) := by
    have := List.drop_eq_getElem_cons hj
    rw [this]
    rw [(List.getElem?_eq_some_iff.1 h).2]
  unfold cntP
  rw [e, List.getElem?_append_right (Nat.le_refl _), Nat.sub_self, hd, List.filter_cons, if_pos hp]
  rfl
theorem filter_not {p : Spt → Bool} {M : List Spt} (hM : (M.map (·.1)).Nodup) {j : Nat} {s : Spt} (h : M[j]? = some s) (hp : p s = false) {k : Nat} {t : Spt} (ht : (M.filter p)[k]? = some t) : t.1 ≠ s.1 := by
  intro e
  have hm := List.mem_filter.1 (List.mem_of_getElem? ht)
  have hs := List.mem_of_getElem? h
  have : t = s := by
    have hpw : M.Pairwise (fun a b => a.1 ≠ b.1) := by
      have := hM
      unfold List.Nodup at this
      rw [List.pairwise_map] at this
      exact this
    by_cases hts : t = s
    · exact hts
    · exfalso
      obtain ⟨i1, h1, rfl⟩ := List.getElem_of_mem hm.1
      obtain ⟨i2, h2, rfl⟩ := List.getElem_of_mem hs
      have hne : i1 ≠ i2 := fun h => hts (by subst h; rfl)
      have hq := List.pairwise_iff_getElem.1 hpw
      rcases Nat.lt_or_gt_of_ne hne with h | h
      · exact hq i1 i2 h1 h2 h e
      · exact hq i2 i1 h2 h1 h e.symm
  rw [this, hp] at hm
  cases hm.2
theorem rise_nodup {L : List Spt} (h : Rise L) : (L.map (·.1)).Nodup := by
  unfold List.Nodup
  rw [List.pairwise_map]
  exact List.Pairwise.imp (fun {a b} hab => Nat.ne_of_lt hab) h
theorem filter_nodup {L : List Spt} (h : (L.map (·.1)).Nodup) (q : Spt → Bool) : ((L.filter q).map (·.1)).Nodup := h.sublist ((List.filter_sublist).map _)
theorem vis_sub {L : List Spt} {on : Bool} {x y r r2 : Int} (h : r ≤ r2) (h2 : r2 ≤ 8) : L.filter (visP on x y r) = (L.filter (visP on x y r2)).filter (visP on x y r) := by
  rw [List.filter_filter]
  apply List.filter_congr
  intro s _
  cases hp : visP on x y r s with
  | false => simp
  | true =>
    have : visP on x y r2 s = true := by
      unfold visP hasC hasR inR bw at *
      simp only [Bool.and_eq_true, decide_eq_true_eq] at *
      exact ⟨⟨⟨hp.1.1.1, by omega⟩, by omega⟩, by omega⟩
    rw [this]
    rfl
theorem Own.irow {w0 w : World} {l : List Thing} {ao : Option Addr} {cap n : Nat} {X : List Nat} (h : Own w0 w (Row 29 1 (.slice ao n cap) n (irow .u32 X) :: l)) {j : Nat} (hj : j < n) {v : Nat} (hv : X[j]? = some v) : ∃ g, ao = some ⟨g, 0, none⟩ ∧ w.cell? ⟨g, j, none⟩ = some (.int .u32 (v : Int)) := by
  obtain ⟨g, cp, hvv, _⟩ := row_shape h.row (by omega)
  have hva := (Value.slice.inj hvv).1
  subst hva
  refine ⟨g, rfl, ?_⟩
  rw [h.row.cellAt _ (by omega), getElem?_irow, hv]
  rfl
set_option maxHeartbeats 32000000 in
theorem viewWider_fr (w : World) (ht : Tab w) (ao : Option Addr) (len cap : Nat) (Q : List Opq) (hQ : IsOps w ao len cap Q) (on : Bool) (x y r : Int) (mo : Nat) (hmo : mo < 256) :
    Calls Tryd.prog 4 #[.slice ao len cap, .agg #[.bool on, .int .i64 x, .int .i64 y, .int .i64 r], .int .u8 (mo : Int)] w fun e w' => e = .returned (.bool true) ∧ Fr Nobody w w' := by
  have hlen : len ≤ 9223372036854775807 := by have h1 := hQ.2.1; have h2 := hQ.2.2.1; unfold maxLen at h2; omega
  have HT : Hid (Tab w) := ht
  have HQ : Hid (IsOps w ao len cap Q) := hQ
  have hA := (Own.start w).allocC #[.bool on, .int .i64 x, .int .i64 y, .int .i64 r] 24
  have HA : Hid (Own w _ _) := hA
  have HAW : Hid (Calls _ _ _ _ _) := awake17 (w.alloc (.cells #[.bool on, .int .i64 x, .int .i64 y, .int .i64 r] 24))
  clear ht hQ hA
  go_enter Tryd.func4, Tryd.ntmps4
  go_wp2_with fail
  refine HAW.out.mono ?_
  rintro e v1 ⟨rfl, hf⟩
  have H0 : Hid (Calls _ _ _ _ _) := gnew w v1 _ (HA.out.quiet hf) 1000
  clear hf HA HAW
  go_wp2_with fail
  refine H0.out.mono ?_
  rintro e v2 ⟨g, rfl, h1⟩
  generalize w.heap.size = B at *
  have H1 : Hid (Own w v2 (Grid g [] 1000 :: Cells B #[.bool on, .int .i64 x, .int .i64 y, .int .i64 r] 24 :: [])) := h1
  clear h1 H0
  go_wp2
  go_loopw [21] (fun vi wr => ∃ (j : Nat) (L : List Spt), j ≤ len ∧ vi = .int .i64 (j : Int) ∧ L = plays (Q.take (min j 60)) ∧ Own w wr (Grid g L 1000 :: Cells B #[.bool on, .int .i64 x, .int .i64 y, .int .i64 r] 24 :: []) ∧ GAll L 60) (fun vi _ => len - (iOf vi).toNat)
  case atStart => exact ⟨0, [], Nat.zero_le _, rfl, rfl, H1.out, GAll.nil.mono (by decide)⟩
  case round =>
    obtain ⟨j, L, hj, rfl, hL, hO, hGA⟩ := hrel
    clear H1
    by_cases hlt : j < len
    · have hlt' : (j : Int) < (len : Int) := by omega
      obtain ⟨gs, os, q, rfl, hq, d1, d2, d3, d4, c0, c1, c2⟩ := op_cells HQ.out hO.fr hlt
      by_cases hj80 : j < 60
      · have hj80' : (j : Int) < 60 := by omega
        have hST := take_step hq hj80
        rw [← hL] at hST
        have hGL : GAll L j := by
          rw [hL]
          exact plays_all HQ.out (by omega)
        have hG1' := (hGL.put q d2).mono (by omega : j + 1 ≤ 60)
        obtain ⟨qd, qi, qx, qy⟩ := q
        simp only at c0 c1 c2 d1 d2 d3 d4
        have hA := hO.allocC #[.int .u32 (qi : Int), .int .i32 qx, .int .i32 qy] 31
        obtain ⟨L1, hL1⟩ : ∃ L1, L1 = pstep L ⟨qd, qi, qx, qy⟩ := ⟨_, rfl⟩
        have hLg : L1 = (if putE qi qx qy = 0 then putL L (qi, qx, qy) else L) := by rw [hL1]; rfl
        rw [← hL1] at hG1' hST
        have HST : Hid (L1 = plays (Q.take (min (j + 1) 60))) := hST.symm
        obtain ⟨pe, hpe⟩ : ∃ pe, pe = putE qi qx qy := ⟨_, rfl⟩
        have HGP : Hid (Calls _ _ _ _ _) := gput_any w _ _ g 1000 L hA.two hGA.ok HT.out qi d2 qx qy (by have := hGA.len; omega) (by unfold maxLen; decide)
        rw [← hLg, ← hpe] at HGP
        have HG1 : Hid (GAll L1 60) := hG1'
        clear hA hO hq hL hGL hpe hGA d1 d2 d3 d4 hL1 hLg hST hG1'
        go_wp2_with fail
        refine HGP.out.mono ?_
        rintro e w2 ⟨rfl, h2⟩
        have H3 : Hid (Own w w2 (Grid g L1 1000 :: Cells B #[.bool on, .int .i64 x, .int .i64 y, .int .i64 r] 24 :: [])) := h2.two.tail
        clear HGP h2 c0 c1 c2
        go_wp2
        go_roundw
        case rel => exact ⟨j + 1, L1, by omega, by go_num, HST.out, H3.out, HG1.out⟩
        case measure => simp [iOf]; omega
      · have hj80' : ¬ (j : Int) < 60 := by omega
        have HST : Hid (L = plays (Q.take (min (j + 1) 60))) := by show _ = _; rw [take_stay hj80]; exact hL
        obtain ⟨qd, qi, qx, qy⟩ := q
        simp only at c0 c1 c2 d1 d2 d3 d4
        have hA := hO.alloc (.cells #[.int .u32 (qi : Int), .int .i32 qx, .int .i32 qy] 31)
        have HA : Hid (Own w _ _) := hA
        have HGA : Hid (GAll L 60) := hGA
        clear hA hO hGA hq d1 d2 d3 d4 hL
        go_wp2
        go_roundw
        case rel => exact ⟨j + 1, L, by omega, by go_num, HST.out, HA.out, HGA.out⟩
        case measure => simp [iOf]; omega
    · have hlt' : ¬ (j : Int) < (len : Int) := by omega
      have HG : Hid (GAll L 60) := hGA
      clear hGA hL hj HQ HT
      have CH : Hid (∀ W, Calls Tryd.prog 13 #[.agg #[.bool on, .int .i64 x, .int .i64 y, .int .i64 r]] W fun e w' => e = .returned (.int .i64 (erR x y r)) ∧ Fr Nobody W w') := fun W => check_ok W on x y r
      have p0 := hO.two.cell 0
      have p1 := hO.two.cell 1
      have p2 := hO.two.cell 2
      have p3 := hO.two.cell 3
      simp at p0 p1 p2 p3
      have HO : Hid (Own w wr _) := hO
      clear hO
      cases hi : inR x y r with
      | false =>
        have he : erR x y r = 1 := by unfold erR; rw [hi]; rfl
        rw [he] at CH
        have HV1 : Hid (∀ W l, Own w W (Grid g L 1000 :: l) → Calls Tryd.prog 11 #[.pointer (some ⟨g, 0, none⟩), .agg #[.bool on, .int .i64 x, .int .i64 y, .int .i64 r]] W fun e w' => ∃ (a : Option Addr) (c : Nat), e = .returned (.slice a 0 c) ∧ Own w w' (Grid g L 1000 :: l)) := fun W l h => (visible_ok w W _ g 1000 L h HG.out.ok HG.out.inn (by have := HG.out.len; omega) on x y r).mono (by
          rintro e w' ⟨a, c, rfl, h2⟩
          rw [vis_none (by unfold hasR; rw [hi]; simp)] at h2 ⊢
          exact ⟨a, c, rfl, h2.tail⟩)
        clear hi he HG
        go_wp2_with fail
        refine (CH.out _).mono ?_
        rintro e w2 ⟨rfl, hf⟩
        have h2 := HO.out.quiet hf
        clear p0 p1 p2 p3
        have p0 := h2.two.cell 0
        have p1 := h2.two.cell 1
        have p2 := h2.two.cell 2
        have p3 := h2.two.cell 3
        simp at p0 p1 p2 p3
        have H2 : Hid (Calls _ _ _ _ _) := HV1.out _ _ h2
        clear h2 hf HO CH HV1
        go_wp2_with fail
        refine H2.out.mono ?_
        rintro e w3 ⟨a, c, rfl, h3⟩
        have HF : Hid (Fr Nobody w w3) := h3.fr
        clear h3 H2
        go_wp2
        go_ret
        exact ⟨by simp, HF.out⟩
      | true =>
        have he : erR x y r = 0 := by unfold erR; rw [hi]; rfl
        rw [he] at CH
        obtain ⟨⟨bx1, bx2⟩, ⟨by1, by2⟩, br1, br2⟩ := inR_iff.1 hi
        have hw0 : IntKind.i64.wrap (mo : Int) = (mo : Int) := by simp only [IntKind.wrap_i64]; omega
        have hw1 : IntKind.i64.wrap (r + (mo : Int)) = r + (mo : Int) := by simp only [IntKind.wrap_i64]; omega
        obtain ⟨r2, hr2⟩ : ∃ r2, r2 = min (r + (mo : Int)) 8 := ⟨_, rfl⟩
        have hm2 : min (r + (mo : Int)) 8 = r2 := hr2.symm
        have b1 : r ≤ r2 := by omega
        have b2 : r2 ≤ 8 := by omega
        obtain ⟨M, hM⟩ : ∃ M, M = L.filter (visP on x y r2) := ⟨_, rfl⟩
        obtain ⟨A, hAe⟩ : ∃ A, A = visL L on x y r := ⟨_, rfl⟩
        obtain ⟨Bv, hBe⟩ : ∃ A, A = visL L on x y r2 := ⟨_, rfl⟩
        have hA2 : A = (M.filter (visP on x y r)).map (·.1) := by rw [hAe, hM]; unfold visL; rw [vis_sub b1 b2]
        have hB2 : Bv = M.map (·.1) := by rw [hBe, hM]; rfl
        have hMn : (M.map (·.1)).Nodup := by rw [hM]; exact filter_nodup (rise_nodup HG.out.ok.1) _
        obtain ⟨an, han⟩ : ∃ n, n = A.length := ⟨_, rfl⟩
        obtain ⟨bn, hbn⟩ : ∃ n, n = Bv.length := ⟨_, rfl⟩
        have ha60 : an ≤ 60 := by rw [han, hAe]; exact vis_short HG.out.len _ _ _ _
        have hb60 : bn ≤ 60 := by rw [hbn, hBe]; exact vis_short HG.out.len _ _ _ _
        have HV1 : Hid (∀ W l, Own w W (Grid g L 1000 :: l) → Calls Tryd.prog 11 #[.pointer (some ⟨g, 0, none⟩), .agg #[.bool on, .int .i64 x, .int .i64 y, .int .i64 r]] W fun e w' => ∃ (a : Option Addr) (c : Nat), e = .returned (.slice a an c) ∧ Own w w' (Row 29 1 (.slice a an c) an (irow .u32 A) :: Grid g L 1000 :: l)) := fun W l h => by
          have := visible_ok w W l g 1000 L h HG.out.ok HG.out.inn (by have := HG.out.len; omega) on x y r
          unfold IRow at this
          rw [← hAe, ← han] at this
          exact this
        have HV2 : Hid (∀ W l, Own w W (Grid g L 1000 :: l) → Calls Tryd.prog 11 #[.pointer (some ⟨g, 0, none⟩), .agg #[.bool on, .int .i64 x, .int .i64 y, .int .i64 r2]] W fun e w' => ∃ (a : Option Addr) (c : Nat), e = .returned (.slice a bn c) ∧ Own w w' (Row 29 1 (.slice a bn c) bn (irow .u32 Bv) :: Grid g L 1000 :: l)) := fun W l h => by
          have := visible_ok w W l g 1000 L h HG.out.ok HG.out.inn (by have := HG.out.len; omega) on x y r2
          unfold IRow at this
          rw [← hBe, ← hbn] at this
          exact this
        obtain ⟨P, hP⟩ : ∃ P, P = visP on x y r := ⟨_, rfl⟩
        rw [← hP] at hA2
        have HAL : Hid (an = (M.filter P).length) := by show _ = _; rw [han, hA2, List.length_map]
        have HBL : Hid (bn = M.length) := by show _ = _; rw [hbn, hB2, List.length_map]
        have HAA : Hid (∀ k, A[k]? = ((M.filter P)[k]?).map (fun s : Spt => s.1)) := fun k => by rw [hA2, List.getElem?_map]
        have HBA : Hid (∀ k, Bv[k]? = (M[k]?).map (fun s : Spt => s.1)) := fun k => by rw [hB2, List.getElem?_map]
        have HMN : Hid ((M.map (·.1)).Nodup) := hMn
        clear hi he HG hr2 hM hAe hBe hA2 hB2 hMn han hbn hP b1 b2 bx1 bx2 by1 by2
        go_wp2_with fail
        refine (CH.out _).mono ?_
        rintro e w2 ⟨rfl, hf⟩
        have h2 := HO.out.quiet hf
        clear p0 p1 p2 p3
        have p0 := h2.two.cell 0
        have p1 := h2.two.cell 1
        have p2 := h2.two.cell 2
        have p3 := h2.two.cell 3
        simp at p0 p1 p2 p3
        have hA := h2.allocC #[.bool on, .int .i64 x, .int .i64 y, .int .i64 r2] 24
        have s0 := hA.three.cell 0
        have s1 := hA.three.cell 1
        have s2 := hA.three.cell 2
        have s3 := hA.three.cell 3
        simp at s0 s1 s2 s3
        have hA0 := h2.allocC #[.bool on, .int .i64 x, .int .i64 y, .int .i64 r] 24
        have t3 := hA0.three.cell 3
        simp at t3
        have HA : Hid (Own w _ _) := hA
        clear hA h2 hf HO CH hA0
        go_wp2
        generalize hWg : w2.alloc (.cells #[.bool on, .int .i64 x, .int .i64 y, .int .i64 r2] 24) = W3 at *
        generalize w2.heap.size = B2 at *
        clear hWg p0 p1 p2 p3 t3
        have f0 := HA.out.three.cell 0
        have f1 := HA.out.three.cell 1
        have f2 := HA.out.three.cell 2
        have f3 := HA.out.three.cell 3
        have h0 := HA.out.cell 0
        have h1 := HA.out.cell 1
        have h2 := HA.out.cell 2
        have h3 := HA.out.cell 3
        simp at f0 f1 f2 f3 h0 h1 h2 h3
        have H0 : Hid (Own w W3.drew (Grid g L 1000 :: Cells B2 #[.bool on, .int .i64 x, .int .i64 y, .int .i64 r2] 24 :: Cells B #[.bool on, .int .i64 x, .int .i64 y, .int .i64 r] 24 :: [])) := HA.out.two.drew
        clear HA s0 s1 s2 s3
        go_region_held3 (fun w' => w'.cell? ⟨B, 0, none⟩ = some (.bool on) ∧ w'.cell? ⟨B, 1, none⟩ = some (.int .i64 x) ∧ w'.cell? ⟨B, 2, none⟩ = some (.int .i64 y) ∧ w'.cell? ⟨B, 3, none⟩ = some (.int .i64 r) ∧ w'.cell? ⟨B2, 0, none⟩ = some (.bool on) ∧ w'.cell? ⟨B2, 1, none⟩ = some (.int .i64 x) ∧ w'.cell? ⟨B2, 2, none⟩ = some (.int .i64 y) ∧ w'.cell? ⟨B2, 3, none⟩ = some (.int .i64 r2)) (go_keep)
            (first
              | (go_at_call 11; with_reducible refine (HV2.out _ _ H5.out.two).mono ?_; rintro e w6 ⟨a2, c2, rfl, hO6⟩
                 have l0 := hO6.tail.four.cell 0
                 have l1 := hO6.tail.four.cell 1
                 have l2 := hO6.tail.four.cell 2
                 have l3 := hO6.tail.four.cell 3
                 have m0 := hO6.four.cell 0
                 have m1 := hO6.four.cell 1
                 have m2 := hO6.four.cell 2
                 have m3 := hO6.four.cell 3
                 simp at l0 l1 l2 l3 m0 m1 m2 m3
                 have H6 : Hid (Own w w6 _) := hO6
                 clear hO6)
              | (go_at_call 11; with_reducible refine (HV1.out _ _ H0.out).mono ?_; rintro e w5 ⟨a1, c1, rfl, hO5⟩
                 have i0 := hO5.four.cell 0
                 have i1 := hO5.four.cell 1
                 have i2 := hO5.four.cell 2
                 have i3 := hO5.four.cell 3
                 have j0 := hO5.three.cell 0
                 have j1 := hO5.three.cell 1
                 have j2 := hO5.three.cell 2
                 have j3 := hO5.three.cell 3
                 simp at i0 i1 i2 i3 j0 j1 j2 j3
                 have H5 : Hid (Own w w5 _) := hO5
                 clear hO5))
        have H7 : Hid (Own w w6 (Row 29 1 (.slice a2 bn c2) bn (irow .u32 Bv) :: Row 29 1 (.slice a1 an c1) an (irow .u32 A) :: [])) := H6.out.two.tail.three.tail.three.tail
        clear H0 H5 H6 HV1 HV2 f0 f1 f2 f3 h0 h1 h2 h3 i0 i1 i2 i3 j0 j1 j2 j3 l0 l1 l2 l3 m0 m1 m2 m3
        go_wp2
        go_loopw [13, 61] (fun vk vi wr => ∃ (j k : Nat), j ≤ bn ∧ vi = .int .i64 (j : Int) ∧ vk = .int .i64 (k : Int) ∧ k = cntP P M j ∧ Own w wr (Row 29 1 (.slice a2 bn c2) bn (irow .u32 Bv) :: Row 29 1 (.slice a1 an c1) an (irow .u32 A) :: [])) (fun _ vi _ => bn - (iOf vi).toNat)
        case atStart => exact ⟨0, 0, Nat.zero_le _, rfl, rfl, (cnt_zero _ _).symm, H7.out⟩
        case round =>
          obtain ⟨j, k, hj, rfl, rfl, hk, hO⟩ := hrel
          have HK : Hid (k = cntP P M j) := hk
          have hkl : k ≤ an := by rw [hk, HAL.out]; exact cntP_le _ _ _
          have HO : Hid (Own w wr _) := hO
          clear hk H7
          by_cases hlt : j < bn
          · have hlt' : (j : Int) < (bn : Int) := by omega
            obtain ⟨s, hs⟩ : ∃ s, M[j]? = some s := ⟨_, List.getElem?_eq_getElem (by rw [← HBL.out]; exact hlt)⟩
            obtain ⟨g2, hg2, e0⟩ := hO.irow hlt (v := s.1) (by rw [HBA.out, hs]; rfl)
            have hcs := cnt_succ (p := P) hs
            rw [← HK.out] at hcs
            by_cases hka : k < an
            · have hka' : (k : Int) < (an : Int) := by omega
              obtain ⟨t, ht⟩ : ∃ t, (M.filter P)[k]? = some t := ⟨_, List.getElem?_eq_getElem (by rw [← HAL.out]; exact hka)⟩
              obtain ⟨g1, hg1, e1⟩ := hO.two.irow hka (v := t.1) (by rw [HAA.out, ht]; rfl)
              subst hg1 hg2
              cases hp : P s with
              | true =>
                have hts : t = s := by
                  have := filter_at hs hp
                  rw [← HK.out, ht] at this
                  exact Option.some.inj this
                rw [hts] at e1
                have HKN : Hid (k + 1 = cntP P M (j + 1)) := by show _ = _; rw [hcs, hp]; rfl
                clear hO hs ht hts hcs hp
                generalize s.1 = sv at *
                go_wp2
                go_roundw
                case rel => exact ⟨j + 1, k + 1, by omega, by go_num, by go_num, HKN.out, HO.out⟩
                case measure => simp [iOf]; omega
              | false =>
                have hne := filter_not HMN.out hs hp ht
                have HKN : Hid (k = cntP P M (j + 1)) := by show _ = _; rw [hcs, hp]; rfl
                clear hO hs ht hcs hp
                generalize s.1 = sv at *
                generalize t.1 = tv at *
                have hne' : ((tv : Int) == (sv : Int)) = false := by simp; omega
                clear hne
                go_wp2
                go_roundw
                case rel => exact ⟨j + 1, k, by omega, by go_num, by go_num, HKN.out, HO.out⟩
                case measure => simp [iOf]; omega
            · have hka' : ¬ (k : Int) < (an : Int) := by omega
              have hp : P s = false := by
                cases hp : P s with
                | false => rfl
                | true =>
                  exfalso
                  have := filter_at hs hp
                  rw [← HK.out] at this
                  have h3 := (List.getElem?_eq_some_iff.1 this).1
                  rw [← HAL.out] at h3
                  exact hka h3
              have HKN : Hid (k = cntP P M (j + 1)) := by show _ = _; rw [hcs, hp]; rfl
              subst hg2
              clear hO hs hcs hp
              generalize s.1 = sv at *
              go_wp2
              go_roundw
              case rel => exact ⟨j + 1, k, by omega, by go_num, by go_num, HKN.out, HO.out⟩
              case measure => simp [iOf]; omega
          · have hlt' : ¬ (j : Int) < (bn : Int) := by omega
            have hjb : j = bn := by omega
            have hkn : k = an := by rw [HK.out, hjb, HBL.out, cnt_all, HAL.out]
            have HF : Hid (Fr Nobody w wr) := hO.fr
            subst hkn
            clear hO HO hjb
            go_wp2
            go_ret
            exact ⟨by simp, HF.out⟩
theorem viewWider_walk (w : World) (ht : Tab w) (ao : Option Addr) (len cap : Nat) (Q : List Opq) (hQ : IsOps w ao len cap Q) (on : Bool) (x y r : Int) (h1 : ok64 x) (h2 : ok64 y) (h3 : ok64 r) (a2 : Int) (w2 : (Lit.int .u8 a2).wf = true) :
    Calls Tryd.prog 4 #[.slice ao len cap, .agg #[.bool on, .int .i64 x, .int .i64 y, .int .i64 r], .int .u8 a2] w fun e w' => e = .returned (.bool true) ∧ Below w.heap.size w w' := by
  have h4 : 0 ≤ a2 ∧ a2 ≤ 255 := by simpa [Lit.wf, IntKind.min, IntKind.max, IntKind.signed, IntKind.bits] using w2
  obtain ⟨mo, rfl⟩ := Int.eq_ofNat_of_zero_le h4.1
  have hmo : mo < 256 := by omega
  refine (viewWider_fr w ht ao len cap Q hQ on x y r mo hmo).mono ?_
  rintro e w' ⟨rfl, hf⟩
  exact ⟨rfl, hf.below (Nat.le_refl _) (fun _ _ h => h)⟩
theorem laidOut : laidOutB Tryd.prog = true := by kernel_rfl

set_option maxRecDepth 100000 in
theorem viewWider_lifted (os : Os) (started : os.Started) (H : Type) (enc : TypeId × Value → H) :
    ReturnsInHanded {} Tryd.checked os 4 .any (fun w args => (Rows.viewWiderSpec.pre enc Tryd.prog Tryd.f4 [] false w args ∧ laidMetH Tryd.prog laid1 w) ∧ sizedMet enc Tryd.prog Tryd.f4 (OpenSpec.ofChange Rows.viewWiderSpec) false w args) (Rows.viewWiderSpec.post enc Tryd.prog Tryd.f4 false true false false) := by
  refine returnsInHanded_of_change_and (C := Tryd.checked) (X := fun w _ => laidMetH Tryd.prog laid1 w) (fun _ _ _ hh h => h.of_heap hh) own started (by kernel_rfl) Tryd.func4
    (ChangeSpec.witness_shaped (enc := enc) (C := Tryd.checked) (os := os) (X := fun w _ => laidMetH Tryd.prog laid1 w) false (World.doorLaid Tryd.prog 400 os) #[.slice none 0 0, .agg #[.bool false, .int .i64 0, .int .i64 0, .int .i64 0], .int .u8 0] 8 rfl (World.shaped_of_RefB (by kernel_rfl) (by kernel_rfl)) (by kernel_rfl) (by kernel_rfl) (by kernel_rfl) (door_met os _)) ?_
  intro W base args ds gs before hval0 hW _ _ hL _
  have hval : ∀ (j : Nat) t v, Tryd.f4.params[j]? = some t → args[j]? = some v → Value.okWide Tryd.prog W .any base t v := hval0
  have hW' := hW
  obtain ⟨p, q, hA0, hV, rfl, hfz, hnd⟩ := hW
  have hA : DataW.TrodAll enc Tryd.prog W 0 (fun _ => true) true Tryd.f4.params.toList args.toList ds p := hA0
  rw [Tryd.params4] at hA hval
  obtain ⟨v0, vs0, d0, ds0, p0, q0, hargs, rfl, rfl, h0, r0⟩ := trodAll_cons hA
  obtain ⟨v1, vs1, d1, ds1, p1, q1, rfl, rfl, rfl, h1, r1⟩ := trodAll_cons r0
  obtain ⟨v2, vs2, d2, ds2, p2, q2, rfl, rfl, rfl, h2, r2⟩ := trodAll_cons r1
  obtain ⟨rfl, rfl, rfl⟩ := trodAll_nil r2
  obtain rfl : args = #[v0, v1, v2] := by cases args; simp_all
  obtain ⟨rfl, rfl⟩ := trodVars_none hV
  obtain ⟨a0, len0, cap0, rfl⟩ := okWide_slice Tryd.underlying22 (hval 0 22 v0 rfl rfl)
  have k0 := h0
  have lt0 : ∀ x ∈ p0, x.block < W.heap.size := by obtain ⟨m, hm⟩ := k0; exact DataW.trod_lt m _ _ _ hm
  obtain ⟨z0, w0⟩ := open_ops (hval 0 22 _ rfl rfl) h0
  obtain ⟨on1, x1, y1, rr1, rfl, rfl, rfl, wx1, wy1, wr1⟩ := open_region (hval 1 24 v1 rfl rfl) h1
  obtain ⟨a2, rfl, rfl, rfl, w2⟩ := open_int Tryd.underlying5 (hval 2 5 v2 rfl rfl) h2
  clear hA0 hval0
  refine (viewWider_walk W (of_laid hL) a0 len0 cap0 z0 w0 on1 x1 y1 rr1 wx1 wy1 wr1 a2 w2).mono fun e W' ⟨he, bel⟩ => ?_
  subst he
  exact ⟨_, rfl, _, _, _, [], _, [], hW', trodAll_mk1 (shut_bool Tryd.underlying4 _), (trodAll_cons_mk (Below.trod laidOut (by kernel_rfl) (of_decide_eq_true (by kernel_rfl)) k0 bel lt0) (trodAll_cons_mk (shut_region wx1 wy1 wr1) (trodAll_cons_mk (shut_int Tryd.underlying5 w2) trodAll_mk0))), rfl, bel.frame _, fun h => by cases h⟩

theorem viewWider_row : Rows.ViewWiderSaid :=
  OpenClaim.holds_of_wide 4 Tryd.f4 rfl rfl rfl rfl rfl rfl rfl ⟨rfl, rfl, rfl, rfl, rfl⟩ rfl rfl rfl rfl rfl (by kernel_rfl) Tryd.func4 (by kernel_rfl)
    (of_decide_eq_true (by kernel_rfl)) (by unfold Func.isWrapper; first | (rw [if_pos (by decide +kernel)]; kernel_rfl) | (rw [if_neg (by decide +kernel)]; exact ⟨rfl, rfl⟩))
    (fun os started H enc _ => viewWider_lifted os started H enc)

theorem viewWider_holds : Rows.ViewWiderCardSaid :=
  Claim7.holds_tied_plain_at .later [] [.data] true (true, "1cba1285d3d13900080f4e895c1d45178688ff316ec529ff7ce0543ce2837164") false
    viewWider_row (fun _ h => by cases h) (by kernel_rfl) (fun _ h => by cases h) viewWider_row_tie rfl ⟨rfl, rfl⟩ (by kernel_rfl) rfl
    (fun f fn hf hfn => by
      obtain rfl : f = 4 := Option.some.inj ((show Tryd.prog.funcNamed "pinnace/pinnacelaw17.ViewWider" = some 4 by kernel_rfl).symm.trans hf) |>.symm
      obtain rfl : fn = Tryd.f4 := (Option.some.inj (Tryd.func4.symm.trans hfn)).symm
      exact ⟨by kernel_rfl, fun j t ht => by
        rw [Tryd.params4] at ht
        have hm : t ∈ [22, 24, 5] := by simpa using Array.mem_of_getElem? ht
        have hall : ([22, 24, 5].all fun u => !Tryd.prog.wantsStandIn u) = true := by kernel_rfl
        exact (show Tryd.prog.wantsStandIn t = false by simpa using List.all_eq_true.1 hall t hm)⟩)
    (by kernel_rfl)

end Go.Proofs.YthokgjkgfolojabDoor
