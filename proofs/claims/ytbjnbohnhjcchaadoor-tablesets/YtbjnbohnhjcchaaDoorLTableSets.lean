/-
  What is set of one row is that row's alone: TableSets returns true, whatever its arguments, where the table of the components lies as the program's text lays it, and changes nothing that was there.
-/
import Derived.Test.YtbjnbohnhjcchaaDoorUj
namespace Go.Proofs.YtbjnbohnhjcchaaDoor
open Go.ChangeShapes Go.WideShapes Go.ChangeAt Go.RowKit
set_option linter.unusedVariables false
set_option maxRecDepth 100000

/-- what row i has at first -/
def cS (i : Nat) : List Cp := [⟨2, (i : Int), 0, 0⟩, ⟨4, 0, 0, 0⟩]
def eS (i : Nat) : Ent := (i + 1, cS i)
def lS (k : Nat) : List Ent := (List.range k).map eS
theorem lS_succ (k : Nat) : lS (k + 1) = lS k ++ [eS k] := by unfold lS; rw [List.range_succ, List.map_append]; rfl
theorem lS_at (k i : Nat) (h : i < k) : (lS k)[i]? = some (eS i) := by unfold lS; rw [List.getElem?_map, List.getElem?_range h]; rfl
theorem length_lS (k : Nat) : (lS k).length = k := by simp [lS]
theorem chk_life : ∀ y : Fin 20, chk 2 (f3 ((y.1 : Nat) : Int) 0 0) = 0 := by decide
theorem chk_tag : chk 4 (f3 0 0 0) = 0 := by decide
theorem cS_ok (i : Nat) (h : i < 20) : lst (-1) (cS i) = 0 ∧ msk (cS i) = 20 := by
  constructor
  · have h1 : (⟨2, (i : Int), 0, 0⟩ : Cp).chk = 0 := chk_life ⟨i, h⟩
    have h2 : (⟨4, 0, 0, 0⟩ : Cp).chk = 0 := chk_tag
    unfold cS
    rw [lst, if_neg (by simp [h1]), if_neg (by simp), lst, if_neg (by simp [h2]), if_neg (by simp), lst]
  · rfl
theorem lS_plc (k x : Nat) (h : k ≤ x) : plc (lS k) (x + 1) = none := by
  rw [plc_none]
  intro e he
  obtain ⟨i, hi, rfl⟩ := List.mem_map.1 he
  rw [List.mem_range] at hi
  show i + 1 ≠ x + 1
  omega
theorem lS_ok (k : Nat) (h : k ≤ 20) : TOk 20 (lS k) := by
  induction k with
  | zero => exact TOk.nil (by decide)
  | succ k ih =>
    rw [lS_succ]
    exact (ih (by omega)).snoc (eS k) (by show k + 1 < _; omega) (lS_plc k k (Nat.le_refl _)) (cS_ok k (by omega)).1 (cS_ok k (by omega)).2
theorem bt20 (k : Nat) : bt 20 k = decide (k = 2 ∨ k = 4) := by
  have h : k = 0 ∨ k = 1 ∨ k = 2 ∨ k = 3 ∨ k = 4 ∨ 5 ≤ k := by omega
  rcases h with rfl | rfl | rfl | rfl | rfl | h
  · rfl
  · rfl
  · rfl
  · rfl
  · rfl
  · rw [decide_eq_false (by omega)]
    unfold bt
    have a1 : 2 ^ 5 ≤ 2 ^ k := Nat.pow_le_pow_right (by decide) h
    rw [Nat.div_eq_of_lt (by omega)]
    rfl
/-- what row i has in the end -/
def dS (r : Nat) (ok : Bool) (c : Cp) (i : Nat) : List Cp := if i = r ∧ ok = true then insc (cS i) c else cS i
theorem set_sum (k r : Nat) (hr : r < k) (hk : k ≤ 20) (c : Cp) : ∃ (f : Nat) (L' : List Ent), tset 20 (lS k) (r + 1) c = (f, L') ∧ f ≤ 10 ∧ TOk 20 L' ∧ L'.length = k ∧ (∀ i, i < k → L'[i]? = some (i + 1, dS r (decide (f = 0)) c i)) ∧ (f = 0 ↔ c.chk = 0 ∧ (c.k = 2 ∨ c.k = 4)) := by
  have hok := lS_ok k hk
  have hc5 := chk_lt c
  have hp : plc (lS k) (r + 1) = some r := (plc_some hok.ap (r + 1) r).2 ⟨eS r, lS_at k r hr, rfl⟩
  have hsame : ∀ f : Nat, f ≠ 0 → ∀ i, i < k → (lS k)[i]? = some (i + 1, dS r (decide (f = 0)) c i) := by
    intro f hf i hi
    rw [lS_at k i hi]
    unfold dS
    rw [if_neg (by simp [hf])]; rfl
  unfold tset
  by_cases h1 : c.chk = 0
  · rw [if_neg (by simp [h1]), hp]
    simp only
    rw [bt20]
    by_cases h2 : c.k = 2 ∨ c.k = 4
    · rw [if_pos (by simpa using h2), lS_at k r hr]
      refine ⟨0, _, rfl, by decide, TOk.set (e := eS r) hok (lS_at k r hr) c h1, by rw [List.length_set, length_lS], ?_, by simp [h1, h2]⟩
      intro i hi
      rw [List.getElem?_set]
      by_cases hri : r = i
      · subst hri
        rw [if_pos rfl, if_pos (by rw [length_lS]; exact hr)]
        unfold dS
        rw [if_pos (by simp), insc_set (lst_ok (cS_ok r (by omega)).1).1 c (hasK_bt (cS_ok r (by omega)).2 (by decide) (by rw [bt20]; simpa using h2))]
        rfl
      · rw [if_neg hri, lS_at k i hi]
        unfold dS
        rw [if_neg (by intro q; exact hri q.1.symm)]; rfl
    · rw [if_neg (by simpa using h2)]
      exact ⟨10, _, rfl, by decide, hok, length_lS k, hsame 10 (by decide), by simp [h2]⟩
  · rw [if_pos h1]
    exact ⟨c.chk, _, rfl, by omega, hok, length_lS k, hsame c.chk h1, by simp [h1]⟩
theorem dS_len (r : Nat) (ok : Bool) (c : Cp) (i : Nat) : (dS r ok c i).length ≤ 3 := by
  unfold dS
  split
  · exact Nat.le_trans (insc_len _ _) (by show 2 + 1 ≤ 3; decide)
  · show 2 ≤ 3; decide

set_option maxHeartbeats 8000000 in
theorem tableSets_fr (w : World) (ht : Tab w) (n0 : Nat) (hn0 : n0 < 256) (at0 : Nat) (hat0 : at0 < 256) (c : Cp) (hck : c.k < 256) :
    Calls Tryd.prog 6 #[.int .u8 (n0 : Int), .int .u8 (at0 : Int), c.ag] w fun e w' => e = .returned (.bool true) ∧ Fr Nobody w w' := by
  have HT : Hid (Tab w) := ht
  clear ht
  obtain ⟨k0, hk0⟩ : ∃ k, k = n0 % 20 := ⟨_, rfl⟩
  have hk19 : k0 < 20 := by omega
  have hkm : (n0 : Int).tmod 20 = (k0 : Int) := by rw [hk0]; rfl
  clear hk0
  obtain ⟨k, hk⟩ : ∃ k, k = 1 + k0 := ⟨_, rfl⟩
  have hkk : (1 : Int) + (k0 : Int) = (k : Int) := by omega
  have hk20 : k ≤ 20 := by omega
  have hk1 : 1 ≤ k := by omega
  clear hk
  obtain ⟨r, hr⟩ : ∃ r, r = at0 % k := ⟨_, rfl⟩
  have hrk : r < k := by rw [hr]; exact Nat.mod_lt _ (by omega)
  have hrm : (at0 : Int).tmod (k : Int) = (r : Int) := by rw [hr]; rfl
  clear hr
  have hk0ne : ((k : Int) == 0) = false := by rw [beq_eq_false_iff_ne]; omega
  obtain ⟨f, L', hset, hf10, hTL, hLL, hLat, hfz⟩ := set_sum k r hrk hk20 c
  have HS : Hid (tset 20 (lS k) (r + 1) c = (f, L') ∧ TOk 20 L' ∧ L'.length = k ∧ (∀ i, i < k → L'[i]? = some (i + 1, dS r (decide (f = 0)) c i)) ∧ (f = 0 ↔ c.chk = 0 ∧ (c.k = 2 ∨ c.k = 4))) := ⟨hset, hTL, hLL, hLat, hfz⟩
  have HCE : Hid (c = c) := rfl
  clear hset hTL hLL hLat hfz
  obtain ⟨c0, hc0⟩ : ∃ c0, c0 = c := ⟨_, rfl⟩
  have HC0 : Hid (c0 = c) := hc0
  rw [← hc0] at HS
  unfold Cp.ag
  have hcb : c0.k = c.k ∧ c0.a = c.a ∧ c0.b = c.b ∧ c0.c = c.c := by rw [hc0]; exact ⟨rfl, rfl, rfl, rfl⟩
  clear hc0
  obtain ⟨ck, ca, cb, cc⟩ := c
  simp only at hck ⊢
  have HB : Hid (Own w (w.alloc (.cells #[.int .u8 (ck : Int), .int .i32 ca, .int .i32 cb, .int .i32 cc] 47)) [Cells w.heap.size #[.int .u8 (ck : Int), .int .i32 ca, .int .i32 cb, .int .i32 cc] 47]) := (Own.start w).allocC _ _
  clear hcb HCE
  go_enter Tryd.func6, Tryd.ntmps6
  go_wp2_with fail
  refine (awake10 w _ _ HT.out HB.out).mono ?_
  rintro e w1 ⟨rfl, hO1⟩
  have H1 : Hid (Own w w1 [Cells w.heap.size #[.int .u8 (ck : Int), .int .i32 ca, .int .i32 cb, .int .i32 cc] 47]) := hO1
  clear hO1 HB
  go_wp2_with fail
  refine (tnew w w1 _ 20 H1.out (by decide)).mono ?_
  rintro e w2 ⟨b, rfl, hO2⟩
  have H2 : Hid (Own w w2 [Table b 20 (lS 0) 0, Cells w.heap.size #[.int .u8 (ck : Int), .int .i32 ca, .int .i32 cb, .int .i32 cc] 47]) := hO2
  clear hO2 H1
  go_wp2
  go_loopw [30] (fun cv wr => ∃ j : Nat, j ≤ k ∧ cv = .int .i64 j ∧ ∃ cl, cl ≤ j ∧ Own w wr [Table b 20 (lS j) cl, Cells w.heap.size #[.int .u8 (ck : Int), .int .i32 ca, .int .i32 cb, .int .i32 cc] 47]) (fun cv _ => k - (intOf cv).toNat)
  case atStart => exact ⟨0, Nat.zero_le _, rfl, 0, Nat.le_refl _, H2.out⟩
  case round =>
    obtain ⟨j, hj, rfl, cl, hcl, hO⟩ := hrel
    have HO : Hid (Own w wr [Table b 20 (lS j) cl, Cells w.heap.size #[.int .u8 (ck : Int), .int .i32 ca, .int .i32 cb, .int .i32 cc] 47]) := hO
    clear hO H2
    by_cases hlt : j < k
    · have hlt' : (j : Int) < (k : Int) := by omega
      have hj1 : ((j + 1 : Nat) : Int) = (j : Int) + 1 := by omega
      have HL := (HO.out.litRow #[.int .u8 2, .int .i32 (j : Int), .int .i32 0, .int .i32 0, .int .u8 4, .int .i32 0, .int .i32 0, .int .i32 0] 47 4 2 (by decide) rfl).two
      have HC : Hid (Calls _ _ _ _ _) := taddC w _ [Row 47 4 (.slice (some ⟨wr.heap.size, 0, none⟩) 2 2) 2 (ccat (cS j)), Cells w.heap.size #[.int .u8 (ck : Int), .int .i32 ca, .int .i32 cb, .int .i32 cc] 47] b 20 _ cl HT.out HL (lS_ok j (by omega)) (j + 1) (by omega) (some ⟨wr.heap.size, 0, none⟩) 2 2 (cS j) rfl (fun w'' h'' => Own.rcs h'' rfl) (by simp [cS]) (by decide) (by rw [length_lS]; omega) (by omega)
      rw [tadd_ok (cS_ok j (by omega)).1 (cS_ok j (by omega)).2 (lS_plc j j (Nat.le_refl _)), hj1] at HC
      clear HL
      go_wp2_with fail
      refine HC.out.mono ?_
      rintro e w3 ⟨rfl, hO3⟩
      have H3 : Hid (Own w w3 [Table b 20 (lS (j + 1)) (cl + 1), Cells w.heap.size #[.int .u8 (ck : Int), .int .i32 ca, .int .i32 cb, .int .i32 cc] 47]) := by
        show Own _ _ _
        rw [lS_succ]
        exact hO3.two.tail
      clear hO3 HO HC
      go_wp2
      go_roundw
      case rel => exact ⟨j + 1, by omega, by go_num, _, by omega, H3.out⟩
      case measure => simp [intOf]; omega
    · have hjk : j = k := by omega
      subst hjk
      have hlt' : ¬ (j : Int) < (j : Int) := by omega
      have u0 := HO.out.two.cell 0
      have u1 := HO.out.two.cell 1
      have u2 := HO.out.two.cell 2
      have u3 := HO.out.two.cell 3
      simp at u0 u1 u2 u3
      have hr1 : ((r + 1 : Nat) : Int) = (r : Int) + 1 := by omega
      have HC : Hid (Calls _ _ _ _ _) := tsetC w wr _ b 20 (lS j) cl HT.out HO.out (lS_ok j hk20) (r + 1) (by omega) ⟨ck, ca, cb, cc⟩ hck (by rw [length_lS]; omega)
      rw [← HC0.out, HS.out.1, HC0.out, hr1] at HC
      simp only [Cp.ag] at HC
      have hrj : (r : Int) < (j : Int) := by omega
      go_wp2_with fail
      refine HC.out.mono ?_
      rintro e w4 ⟨rfl, hO4⟩
      have H4 : Hid (Own w w4 [Table b 20 L' cl, Cells w.heap.size #[.int .u8 (ck : Int), .int .i32 ca, .int .i32 cb, .int .i32 cc] 47]) := hO4
      clear hO4 HO HC u0 u1 u2 u3
      go_wp2
      go_loopw [57] (fun cv wr => ∃ i : Nat, i ≤ j ∧ cv = .int .i64 i ∧ Own w wr [Table b 20 L' cl, Cells w.heap.size #[.int .u8 (ck : Int), .int .i32 ca, .int .i32 cb, .int .i32 cc] 47]) (fun cv _ => j - (intOf cv).toNat)
      case atStart => exact ⟨0, Nat.zero_le _, rfl, H4.out⟩
      case round =>
        obtain ⟨i, hi, rfl, hO5⟩ := hrel
        have H5 : Hid (Own w wr [Table b 20 L' cl, Cells w.heap.size #[.int .u8 (ck : Int), .int .i32 ca, .int .i32 cb, .int .i32 cc] 47]) := hO5
        clear H4
        by_cases hij : i < j
        · have hij' : (i : Int) < (j : Int) := by omega
          have HAT : Hid (Calls _ _ _ _ _) := tatC w wr _ b 20 L' cl hO5 HS.out.2.1 i (i + 1, dS r (decide (f = 0)) c0 i) (HS.out.2.2.2.1 i hij) (by rw [HS.out.2.2.1]; omega)
          have hi1 : ((i + 1 : Nat) : Int) = (i : Int) + 1 := by omega
          simp only [hi1] at HAT
          have hdl := dS_len r (decide (f = 0)) c0 i
          obtain ⟨D, hD⟩ : ∃ D, D = dS r (decide (f = 0)) c0 i := ⟨_, rfl⟩
          rw [← hD] at HAT hdl
          have HD : Hid (D = dS r (decide (f = 0)) c0 i) := hD
          obtain ⟨dl, hdl2⟩ : ∃ dl, dl = D.length := ⟨_, rfl⟩
          rw [← hdl2] at HAT hdl
          have HDL : Hid (dl = D.length) := hdl2
          clear hO5 hD hdl2
          go_wp2_with fail
          refine HAT.out.mono ?_
          rintro e w6 ⟨a6, c6, rfl, hO6⟩
          have hX := hO6.allocC #[.int .u32 ((i : Int) + 1), .slice a6 dl c6] 66
          have hsz6 : (w6.alloc (.cells #[.int .u32 ((i : Int) + 1), .slice a6 dl c6] 66)).heap.size = w6.heap.size + 1 := by simp
          have hW := hX.litRow #[.int .u8 2, .int .i32 (i : Int), .int .i32 0, .int .i32 0, .int .u8 4, .int .i32 0, .int .i32 0, .int .i32 0] 47 4 2 (by decide) rfl
          rw [hsz6] at hW
          have HW : Hid (Own w _ (Row 47 4 (.slice (some ⟨w6.heap.size + 1, 0, none⟩) 2 2) 2 (ccat (cS i)) :: Cells w6.heap.size #[.int .u32 ((i : Int) + 1), .slice a6 dl c6] 66 :: Row 47 4 (.slice a6 dl c6) dl (ccat D) :: Table b 20 L' cl :: [Cells w.heap.size #[.int .u8 (ck : Int), .int .i32 ca, .int .i32 cb, .int .i32 cc] 47])) := hW
          have x0 := hW.two.cell 0
          have x1 := hW.two.cell 1
          simp at x0 x1
          have u0 := hO6.three.cell 0
          have u1 := hO6.three.cell 1
          have u2 := hO6.three.cell 2
          have u3 := hO6.three.cell 3
          simp at u0 u1 u2 u3
          have hbw := hO6.three.lt
          clear hX hW hO6 HAT H5
          by_cases hcond : i = r ∧ f = 0
          · obtain ⟨hir, hf0⟩ := hcond
            have HD2 : Hid (D = insc (cS i) ⟨ck, ca, cb, cc⟩) := by
              show _ = _
              rw [HD.out, ← HC0.out]
              unfold dS
              rw [if_pos ⟨hir, by simp [hf0]⟩]
            have HIR : Hid (i = r ∧ f = 0) := ⟨hir, hf0⟩
            have hii : (((i : Int) + 1) == ((r : Int) + 1)) = true := by rw [hir]; simp
            have hff : ((f : Int) == 0) = true := by rw [hf0]; rfl
            clear hir hf0
            have HWC : Hid (Calls _ _ _ _ _) := rwith_any w _ _ HW.out (some ⟨w6.heap.size + 1, 0, none⟩) 2 2 (cS i) rfl (fun w'' h'' => Own.rcs h'' rfl) (by simp [cS]) (by decide) ⟨ck, ca, cb, cc⟩ hck
            rw [← HD2.out, ← HDL.out] at HWC
            simp only [Cp.ag] at HWC
            have hii2 : (((i : Int) + 1) != ((i : Int) + 1)) = false := by simp
            go_wp2_with fail
            refine HWC.out.mono ?_
            rintro e w7 ⟨a7, c7, rfl, hO7⟩
            have x0 := hO7.three.cell 0
            have x1 := hO7.three.cell 1
            simp at x0 x1
            have HSM : Hid (Cs w7 a7 D ∧ Cs w7 a6 D) := ⟨Own.rcs hO7 HDL.out.symm, Own.rcs hO7.four HDL.out.symm⟩
            have H7 : Hid (Own w w7 [Table b 20 L' cl, Cells w.heap.size #[.int .u8 (ck : Int), .int .i32 ca, .int .i32 cb, .int .i32 cc] 47]) := hO7.tail.tail.tail.tail
            clear hO7 HWC HW
            go_wp2_with fail
            refine (same_cs w7 a6 a7 dl c6 c7 D HSM.out.2 HSM.out.1 HDL.out.symm (by omega)).mono ?_
            rintro e w8 ⟨rfl, hf8⟩
            have H8 : Hid (Own w w8 [Table b 20 L' cl, Cells w.heap.size #[.int .u8 (ck : Int), .int .i32 ca, .int .i32 cb, .int .i32 cc] 47]) := H7.out.quiet hf8
            clear hf8 H7
            go_wp2
            go_roundw
            case rel => exact ⟨i + 1, by omega, by go_num, H8.out⟩
            case measure => simp [intOf]; omega
          · have HD2 : Hid (D = cS i) := by
              show _ = _
              rw [HD.out]
              unfold dS
              rw [if_neg (by simpa using hcond)]
            have hdl2 : dl = 2 := by rw [HDL.out, HD2.out]; rfl
            subst hdl2
            have HSM : Hid (Cs (_ : World) (some ⟨w6.heap.size + 1, 0, none⟩) (cS i) ∧ Cs (_ : World) a6 (cS i)) := ⟨Own.rcs HW.out rfl, by have := Own.rcs HW.out.three HDL.out.symm; rw [HD2.out] at this; exact this⟩
            have H7 : Hid (Own w _ [Table b 20 L' cl, Cells w.heap.size #[.int .u8 (ck : Int), .int .i32 ca, .int .i32 cb, .int .i32 cc] 47]) := HW.out.tail.tail.tail
            have hii2 : (((i : Int) + 1) != ((i : Int) + 1)) = false := by simp
            by_cases hir : i = r
            · have hf0 : ¬ f = 0 := fun q => hcond ⟨hir, q⟩
              have hf1 : ((f : Int) == 0) = false := by rw [beq_eq_false_iff_ne]; omega
              have hii : (((i : Int) + 1) == ((r : Int) + 1)) = true := by rw [hir]; simp
              clear hir hcond HW
              go_wp2_with fail
              refine (same_cs _ a6 _ 2 c6 2 (cS i) HSM.out.2 HSM.out.1 rfl (by decide)).mono ?_
              rintro e w8 ⟨rfl, hf8⟩
              have H8 : Hid (Own w w8 [Table b 20 L' cl, Cells w.heap.size #[.int .u8 (ck : Int), .int .i32 ca, .int .i32 cb, .int .i32 cc] 47]) := H7.out.quiet hf8
              clear hf8 H7
              go_wp2
              go_roundw
              case rel => exact ⟨i + 1, by omega, by go_num, H8.out⟩
              case measure => simp [intOf]; omega
            · have hir' : (((i : Int) + 1) == ((r : Int) + 1)) = false := by rw [beq_eq_false_iff_ne]; omega
              clear hcond HW
              go_wp2_with fail
              refine (same_cs _ a6 _ 2 c6 2 (cS i) HSM.out.2 HSM.out.1 rfl (by decide)).mono ?_
              rintro e w8 ⟨rfl, hf8⟩
              have H8 : Hid (Own w w8 [Table b 20 L' cl, Cells w.heap.size #[.int .u8 (ck : Int), .int .i32 ca, .int .i32 cb, .int .i32 cc] 47]) := H7.out.quiet hf8
              clear hf8 H7
              go_wp2
              go_roundw
              case rel => exact ⟨i + 1, by omega, by go_num, H8.out⟩
              case measure => simp [intOf]; omega
        · have hij' : ¬ (i : Int) < (j : Int) := by omega
          have u0 := hO5.two.cell 0
          have u1 := hO5.two.cell 1
          have u2 := hO5.two.cell 2
          have u3 := hO5.two.cell 3
          simp at u0 u1 u2 u3
          have HCK : Hid (∀ w', Calls Tryd.prog 29 #[.agg #[.int .u8 (ck : Int), .int .i32 ca, .int .i32 cb, .int .i32 cc]] w' fun e w'' => e = .returned (.int .i64 ((c0.chk : Nat) : Int)) ∧ Fr Nobody w' w'') := by
            intro w'
            rw [HC0.out]
            exact rcheck3 w' ck hck ca cb cc
          obtain ⟨x, hx⟩ : ∃ x, x = c0.chk := ⟨_, rfl⟩
          rw [← hx] at HCK
          have hz : f = 0 ↔ x = 0 ∧ (ck = 2 ∨ ck = 4) := by
            rw [hx]
            have := HS.out.2.2.2.2
            rw [HC0.out] at this
            rw [HC0.out]; exact this
          have HY : Hid (∀ w', Fr Nobody wr w' → w'.cell? ⟨w.heap.size, 0, none⟩ = some (.int .u8 (ck : Int)) ∧ Fr Nobody w w') := by
            intro w' hf
            have h' := hO5.quiet hf
            have y := h'.two.cell 0
            simp at y
            exact ⟨y, h'.fr⟩
          clear hx hO5
          by_cases hx0 : x = 0
          · subst hx0
            by_cases h2 : ck = 2
            · have hf0 : f = 0 := hz.2 ⟨rfl, .inl h2⟩
              subst h2 hf0
              clear hz
              go_wp2_with fail
              refine (HCK.out _).mono ?_
              rintro e w8 ⟨rfl, hf8⟩
              obtain ⟨y0, y1⟩ := HY.out _ hf8
              have HY1 : Hid (Fr Nobody w w8) := y1
              clear y1 hf8
              go_wp2
              go_ret
              exact ⟨rfl, HY1.out⟩
            · have h2' : ((ck : Int) == 2) = false := by rw [beq_eq_false_iff_ne]; omega
              by_cases h4 : ck = 4
              · have hf0 : f = 0 := hz.2 ⟨rfl, .inr h4⟩
                subst h4 hf0
                clear hz
                go_wp2_with fail
                refine (HCK.out _).mono ?_
                rintro e w8 ⟨rfl, hf8⟩
                obtain ⟨y0, y1⟩ := HY.out _ hf8
                have HY1 : Hid (Fr Nobody w w8) := y1
                clear y1 hf8
                go_wp2
                go_ret
                exact ⟨rfl, HY1.out⟩
              · have h4' : ((ck : Int) == 4) = false := by rw [beq_eq_false_iff_ne]; omega
                have hf0 : ¬ f = 0 := fun q => by rcases (hz.1 q).2 with q | q <;> contradiction
                have hf1 : ((f : Int) == 0) = false := by rw [beq_eq_false_iff_ne]; omega
                clear hz
                go_wp2_with fail
                refine (HCK.out _).mono ?_
                rintro e w8 ⟨rfl, hf8⟩
                obtain ⟨y0, y1⟩ := HY.out _ hf8
                have HY1 : Hid (Fr Nobody w w8) := y1
                clear y1 hf8
                go_wp2
                go_ret
                exact ⟨rfl, HY1.out⟩
          · have hx1 : ((x : Int) == 0) = false := by rw [beq_eq_false_iff_ne]; omega
            have hf0 : ¬ f = 0 := fun q => hx0 (hz.1 q).1
            have hf1 : ((f : Int) == 0) = false := by rw [beq_eq_false_iff_ne]; omega
            clear hz
            go_wp2_with fail
            refine (HCK.out _).mono ?_
            rintro e w8 ⟨rfl, hf8⟩
            obtain ⟨y0, y1⟩ := HY.out _ hf8
            have HY1 : Hid (Fr Nobody w w8) := y1
            clear y1 hf8
            go_wp2
            go_ret
            exact ⟨rfl, HY1.out⟩
theorem tableSets_walk (w : World) (ht : Tab w) (a0 : Int) (w0 : (Lit.int .u8 a0).wf = true) (a1 : Int) (w1 : (Lit.int .u8 a1).wf = true) (k2 : Int) (wk2 : ok8 k2) (x2 : Int) (wx2 : ok32 x2) (y2 : Int) (wy2 : ok32 y2) (z2 : Int) (wz2 : ok32 z2) :
    Calls Tryd.prog 6 #[.int .u8 a0, .int .u8 a1, .agg #[.int .u8 k2, .int .i32 x2, .int .i32 y2, .int .i32 z2]] w fun e w' => e = .returned (.bool true) ∧ Below w.heap.size w w' := by
  obtain ⟨m, rfl, hm⟩ := ok8_nat w0
  obtain ⟨a, rfl, ha⟩ := ok8_nat w1
  obtain ⟨k, rfl, hk⟩ := ok8_nat wk2
  refine (tableSets_fr w ht m hm a ha ⟨k, x2, y2, z2⟩ hk).mono ?_
  rintro e w' ⟨rfl, hf⟩
  exact ⟨rfl, hf.below (Nat.le_refl _) (fun _ _ h => h)⟩
theorem tableSets_lifted (os : Os) (started : os.Started) (H : Type) (enc : TypeId × Value → H) :
    ReturnsInHanded {} Tryd.checked os 6 .any (fun w args => (Rows.tableSetsSpec.pre enc Tryd.prog Tryd.f6 [] false w args ∧ laidMetH Tryd.prog laid1 w) ∧ sizedMet enc Tryd.prog Tryd.f6 (OpenSpec.ofChange Rows.tableSetsSpec) false w args) (Rows.tableSetsSpec.post enc Tryd.prog Tryd.f6 false true false false) := by
  refine returnsInHanded_of_change_and (C := Tryd.checked) (X := fun w _ => laidMetH Tryd.prog laid1 w) (fun _ _ _ hh h => h.of_heap hh) own started (by kernel_rfl) Tryd.func6
    (ChangeSpec.witness_shaped (enc := enc) (C := Tryd.checked) (os := os) (X := fun w _ => laidMetH Tryd.prog laid1 w) false (World.doorLaid Tryd.prog 400 os) #[.int .u8 0, .int .u8 0, .agg #[.int .u8 0, .int .i32 0, .int .i32 0, .int .i32 0]] 8 rfl (World.shaped_of_RefB (by kernel_rfl) (by kernel_rfl)) (by kernel_rfl) (by kernel_rfl) (by kernel_rfl) (door_met os _)) ?_
  intro W base args ds gs before hval0 hW _ _ hL _
  have hval : ∀ (j : Nat) t v, Tryd.f6.params[j]? = some t → args[j]? = some v → Value.okWide Tryd.prog W .any base t v := hval0
  have hW' := hW
  obtain ⟨p, q, hA0, hV, rfl, hfz, hnd⟩ := hW
  have hA : DataW.TrodAll enc Tryd.prog W 0 (fun _ => true) true Tryd.f6.params.toList args.toList ds p := hA0
  rw [Tryd.params6] at hA hval
  obtain ⟨v0, vs0, d0, ds0, p0, q0, hargs, rfl, rfl, h0, r0⟩ := trodAll_cons hA
  obtain ⟨v1, vs1, d1, ds1, p1, q1, rfl, rfl, rfl, h1, r1⟩ := trodAll_cons r0
  obtain ⟨v2, vs2, d2, ds2, p2, q2, rfl, rfl, rfl, h2, r2⟩ := trodAll_cons r1
  obtain ⟨rfl, rfl, rfl⟩ := trodAll_nil r2
  obtain rfl : args = #[v0, v1, v2] := by cases args; simp_all
  obtain ⟨rfl, rfl⟩ := trodVars_none hV
  obtain ⟨a0, rfl, rfl, rfl, w0⟩ := open_int Tryd.underlying5 (hval 0 5 v0 rfl rfl) h0
  obtain ⟨a1, rfl, rfl, rfl, w1⟩ := open_int Tryd.underlying5 (hval 1 5 v1 rfl rfl) h1
  obtain ⟨k2, x2, y2, z2, rfl, rfl, rfl, wk2, wx2, wy2, wz2⟩ := open_comp (hval 2 47 v2 rfl rfl) h2
  clear hA0 hval0
  refine (tableSets_walk W (of_laid hL) a0 w0 a1 w1 k2 wk2 x2 wx2 y2 wy2 z2 wz2).mono fun e W' ⟨he, bel⟩ => ?_
  subst he
  exact ⟨_, rfl, _, _, _, [], _, [], hW', trodAll_mk1 (shut_bool Tryd.underlying4 _), (trodAll_cons_mk (shut_int Tryd.underlying5 w0) (trodAll_cons_mk (shut_int Tryd.underlying5 w1) (trodAll_cons_mk (shut_comp wk2 wx2 wy2 wz2) trodAll_mk0))), rfl, bel.frame _, fun h => by cases h⟩

theorem tableSets_row : Rows.TableSetsSaid :=
  OpenClaim.holds_of_wide 6 Tryd.f6 rfl rfl rfl rfl rfl rfl rfl ⟨rfl, rfl, rfl, rfl, rfl⟩ rfl rfl rfl rfl rfl (by kernel_rfl) Tryd.func6 (by kernel_rfl)
    (of_decide_eq_true (by kernel_rfl)) (by unfold Func.isWrapper; first | (rw [if_pos (by decide +kernel)]; kernel_rfl) | (rw [if_neg (by decide +kernel)]; exact ⟨rfl, rfl⟩))
    (fun os started H enc _ => tableSets_lifted os started H enc)

theorem tableSets_holds : Rows.TableSetsCardSaid :=
  Claim7.holds_tied_plain_at .later [] [.data] true (true, "baab6a04025cfc0458c5c408f8e797469d3242c3e09fe5a3ecbb22faa267c6a4") false
    tableSets_row (fun _ h => by cases h) (by kernel_rfl) (fun _ h => by cases h) tableSets_row_tie rfl ⟨rfl, rfl⟩ (by kernel_rfl) rfl
    (fun f fn hf hfn => by
      obtain rfl : f = 6 := Option.some.inj ((show Tryd.prog.funcNamed "pinnace/pinnacelaw10.TableSets" = some 6 by kernel_rfl).symm.trans hf) |>.symm
      obtain rfl : fn = Tryd.f6 := (Option.some.inj (Tryd.func6.symm.trans hfn)).symm
      exact ⟨by kernel_rfl, fun j t ht => by
        rw [Tryd.params6] at ht
        have hm : t ∈ [5, 5, 47] := by simpa using Array.mem_of_getElem? ht
        have hall : ([5, 5, 47].all fun u => !Tryd.prog.wantsStandIn u) = true := by kernel_rfl
        exact (show Tryd.prog.wantsStandIn t = false by simpa using List.all_eq_true.1 hall t hm)⟩)
    (by kernel_rfl)

end Go.Proofs.YtbjnbohnhjcchaaDoor
