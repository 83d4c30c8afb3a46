/-
  Every script on one table has the document's answers, of a nil table too: TablePlays returns true, whatever its arguments, where the table of the components lies as the program's text lays it, and changes nothing that was there.
-/
import Derived.Test.YtmfdeaaemngbpaaDoorUt
namespace Go.Proofs.YtmfdeaaemngbpaaDoor
open Go.ChangeShapes Go.WideShapes Go.ChangeAt Go.RowKit
set_option linter.unusedVariables false
set_option maxRecDepth 100000

theorem fld0 (a b c d : Value) (w : World) : (Instr.field 47 (.agg #[a, b, c, d]) 0).run Tryd.prog w = .ok a w := by kernel_rfl
theorem Own.neC {w0 w : World} {b b2 : Nat} {cur cur2 : Array Value} {t t2 : TypeId} {l : List Thing} (h : Own w0 w (Cells b cur t :: Cells b2 cur2 t2 :: l)) : b ≠ b2 := by
  obtain ⟨A, ⟨B, C, hB, ⟨D, E, hD, hE, hde, hc⟩, hbc, hA⟩, hF, hlo⟩ := h
  exact fun hk => hbc b ((hB.2 b).2 rfl) ((hc b).2 (.inl ((hD.2 b).2 hk)))
theorem tp_none (p : Option Nat) : (tp p).isNone = p.isNone := by cases p <;> rfl
theorem Own.five {w0 w : World} {P Q R S T : Thing} {l : List Thing} (h : Own w0 w (P :: Q :: R :: S :: T :: l)) : Own w0 w (T :: P :: Q :: R :: S :: l) := (h.perm ((List.perm_middle (l₁ := [P, Q, R, S]) (a := T) (l₂ := l)))) 
theorem Own.six {w0 w : World} {P Q R S T U : Thing} {l : List Thing} (h : Own w0 w (P :: Q :: R :: S :: T :: U :: l)) : Own w0 w (U :: P :: Q :: R :: S :: T :: l) := (h.perm ((List.perm_middle (l₁ := [P, Q, R, S, T]) (a := U) (l₂ := l))))
theorem Own.end4 {w0 w : World} {P Q R S : Thing} (h : Own w0 w [P, Q, R, S]) : Own w0 w [R, S, Q, P] := h.three.four.two.four.back3
theorem mC_le {m : Nat} {L : List Ent} (h : TOk m L) (z : Bool) (id : Nat) : (mC z L id).length ≤ 6 := by
  unfold mC
  split
  · simp
  · unfold trem
    cases hp : plc L id with
    | none => simp
    | some r =>
      obtain ⟨e, he, _⟩ := (plc_some h.ap id r).1 hp
      simp only [he, Option.map_some, Option.getD_some]
      exact h.c6 he
theorem aL_tok {m : Nat} {L : List Ent} (h : TOk m L) (z : Bool) (id : Nat) (hid : id < 4294967296) (C : List Cp) : TOk m (aL z m L id C) ∧ (aL z m L id C).length ≤ L.length + 1 := by
  unfold aL; split
  · exact ⟨h, Nat.le_succ _⟩
  · exact tadd_tok h id hid C
theorem mL_tok {m : Nat} {L : List Ent} (h : TOk m L) (z : Bool) (id : Nat) : TOk m (mL z L id) ∧ (mL z L id).length ≤ L.length + 1 := by
  unfold mL; split
  · exact ⟨h, Nat.le_succ _⟩
  · exact trem_tok h id
theorem sL_tok {m : Nat} {L : List Ent} (h : TOk m L) (z : Bool) (id : Nat) (x : Cp) : TOk m (sL z m L id x) ∧ (sL z m L id x).length ≤ L.length + 1 := by
  unfold sL; split
  · exact ⟨h, Nat.le_succ _⟩
  · exact tset_tok h id x
theorem fst1_k {C : List Cp} (h : ∀ q ∈ C, q.k < 256) : (fst1 C).k < 256 := by
  cases C with
  | nil => decide
  | cons y C => exact h y (by simp)

set_option maxHeartbeats 8000000 in
theorem tablePlays_fr (w : World) (ht : Tab w) (mm : Nat) (hmm : mm < 256) (ao : Option Addr) (len cap : Nat) (Q : List (Nat × Nat × List Cp)) (hmax : len ≤ maxLen) (hQl : Q.length = len) (hQa : RowsAt (OpT w) 3 w ao Q) :
    Calls Tryd.prog 3 #[.int .u8 (mm : Int), .slice ao len cap] w fun e w' => e = .returned (.bool true) ∧ Fr Nobody w w' := by
  unfold maxLen at hmax
  have HT : Hid (Tab w) := ht
  have HZ : Hid (Q.length = len ∧ RowsAt (OpT w) 3 w ao Q) := ⟨hQl, hQa⟩
  clear ht hQl hQa
  go_enter Tryd.func3, Tryd.ntmps3
  go_wp2_with fail
  refine (awake10 w w [] HT.out (Own.start _)).mono ?_
  rintro e w1 ⟨rfl, hO⟩
  obtain ⟨z, m, hB0, hN, hR⟩ := tnew_o w w1 [] mm hO
  have HB0 : Hid (TOk m []) := hB0
  have HN : Hid (Calls _ _ _ _ _) := hN
  have HR : Hid (∀ w' l', Own w w' l' → Calls Tryd.prog 6 #[.int .u8 (mm : Int)] w' fun e w'' => ∃ q, e = .returned (.tuple #[.pointer (tp q), .int .i64 (if z then 1 else 0)]) ∧ q.isNone = z ∧ Own w w'' (RTbO q m [] :: l')) := hR
  clear hO hB0 hN hR
  generalize (if z = true then (1 : Int) else 0) = ez at *
  go_wp2_with fail
  refine HN.out.mono ?_
  rintro e w2 ⟨p, rfl, hp, hO⟩
  have H2 : Hid (Own w w2 [TbO p m [] 0]) := hO
  have HP : Hid (p.isNone = z) := hp
  clear hO HN hp
  go_wp2_with fail
  refine (HR.out w2 _ H2.out).mono ?_
  rintro e w3 ⟨q, rfl, hq, hO⟩
  have H3 : Hid (Own w w3 [TbO p m [] 0, RTbO q m []]) := hO.two
  have HQ : Hid (q.isNone = z) := hq
  have hpn : (tp p).isNone = z := by rw [tp_none]; exact HP.out
  have hqn : (tp q).isNone = z := by rw [tp_none]; exact HQ.out
  have hez : (ez != ez) = false := by simp
  clear hO H2 HR hq
  go_wp2
  clear hpn hqn hez
  go_loopw [46] (fun cv wr => ∃ k : Nat, k ≤ len ∧ cv = .int .i64 k ∧ ∃ L c, TOk m L ∧ L.length ≤ k ∧ c ≤ k ∧ Own w wr [TbO p m L c, RTbO q m L]) (fun cv _ => len - (intOf cv).toNat)
  case atStart => exact ⟨0, Nat.zero_le _, rfl, [], 0, HB0.out, Nat.le_refl _, Nat.le_refl _, H3.out⟩
  case round =>
    obtain ⟨k, hk, rfl, L, c, hTk, hLk, hck, hO⟩ := hrel
    have HO : Hid (Own w wr [TbO p m L c, RTbO q m L]) := hO
    have HTk : Hid (TOk m L) := hTk
    have HLk : Hid (L.length ≤ k) := hLk
    clear hO H3 hTk hLk HB0
    by_cases hlt : k < len
    · obtain ⟨g, o0, hao, od, oi, a, l2, c2, M0, hod, hoi, q0, q1, q2, hM0, hl2, hc2, hcs, hk6⟩ := op_at (HZ.out.2.quiet HO.out.fr) k (by rw [HZ.out.1]; exact hlt)
      subst hao
      unfold maxLen at hc2
      have hlt' : (k : Int) < (len : Int) := by omega
      have H4 : Hid (Own w (wr.alloc (.cells #[.int .u8 (od : Int), .int .u32 (oi : Int), .slice a l2 c2] 35)) [Cells wr.heap.size #[.int .u8 (od : Int), .int .u32 (oi : Int), .slice a l2 c2] 35, TbO p m L c, RTbO q m L]) := HO.out.allocC _ _
      by_cases h60 : k < 60
      · have h60' : (k : Int) < 60 := by omega
        obtain ⟨n, hn⟩ : ∃ n, n = min l2 20 := ⟨_, rfl⟩
        have hmin : min (l2 : Int) 20 = (n : Int) := by omega
        have hn1 : n ≤ 20 := by omega
        have hn2 : n ≤ l2 := by omega
        clear hn
        obtain ⟨M, hM⟩ : ∃ M, M = M0.take n := ⟨_, rfl⟩
        have HM : Hid (M.length = n ∧ Cs w a M ∧ ∀ q ∈ M, q.k < 256) := by
          rw [hM]; exact ⟨by rw [List.length_take, hM0]; omega, hcs.take n, fun q hq => hk6 q (List.mem_of_mem_take hq)⟩
        clear hM hM0 hcs hk6
        have H4b := HO.out.allocC #[.int .u8 (od : Int), .int .u32 (oi : Int), .slice a n c2] 35
        have HTW : Hid (Calls _ _ _ _ _) := twin_any w _ _ H4b a n c2 M HM.out.1 (HM.out.2.1.quiet H4b.fr) (by omega)
        clear H4b
        go_wp2_with fail
        refine HTW.out.mono ?_
        rintro e w5 ⟨a5, c5, rfl, hO5⟩
        generalize wr.heap.size = B at *
        have H5 : Hid (Own w w5 [Row 47 4 (.slice a5 n c5) n (ccat M), Cells B #[.int .u8 (od : Int), .int .u32 (oi : Int), .slice a n c2] 35, TbO p m L c, RTbO q m L]) := hO5
        clear hO5 HTW H4 HO q0 q1 q2
        have b0 := H5.out.two.cell 0
        have b1 := H5.out.two.cell 1
        have b2 := H5.out.two.cell 2
        simp at b0 b1 b2
        by_cases hd : od = 0
        · as_aux_lemma =>
            subst hd
            have HQ5 : Hid (Own w w5 [Row 47 4 (.slice a5 n c5) n (ccat M), Cells B #[.int .u8 (0 : Int), .int .u32 (oi : Int), .slice a n c2] 35, TbO p m L c, RTbO q m L]) := H5.out
            clear H5
            have H5 := HQ5
            clear HQ5
            have HC1 : Hid (Calls _ _ _ _ _) := add_o w w5.drew _ p m L c z HT.out H5.out.three.drew HTk.out HP.out oi hoi a5 n c5 M HM.out.1 (fun w' h' => Own.rcs h' HM.out.1) HM.out.2.2 (by omega) (by have := HLk.out; omega) (by omega)
            have HC2 : Hid (∀ w' L' c', Own w w' [TbO p m L' c', Row 47 4 (.slice a5 n c5) n (ccat M), Cells B #[.int .u8 (0 : Int), .int .u32 (oi : Int), .slice a n c2] 35, RTbO q m L] → Calls Tryd.prog 9 #[.pointer (tp q), .int .u32 (oi : Int), .slice a n c2] w' fun e w'' => e = .returned (.int .i64 (aE z m L oi M : Int)) ∧ Own w w'' [RTbO q m (aL z m L oi M), TbO p m L' c', Row 47 4 (.slice a5 n c5) n (ccat M), Cells B #[.int .u8 (0 : Int), .int .u32 (oi : Int), .slice a n c2] 35]) := fun w' L' c' h' => radd_o w w' _ q m L z h'.four HTk.out HQ.out oi hoi a n c2 M HM.out.1 (fun w' h' => HM.out.2.1.quiet h'.fr) HM.out.2.2 (by omega) (by have := HLk.out; omega)
            have HT2 : Hid (TOk m (aL z m L oi M)) := (aL_tok HTk.out z oi hoi M).1
            have HT3 : Hid ((aL z m L oi M).length ≤ k + 1) := by have := (aL_tok HTk.out z oi hoi M).2; have := HLk.out; show _ ≤ _; omega
            generalize aL z m L oi M = L' at *
            generalize aE z m L oi M = ae at *
            have hee : ((ae : Int) == (ae : Int)) = true := by simp
            clear HTk HLk
            go_wp2_with fail
            go_region_held3 (fun w' => w'.cell? ⟨B, 1, none⟩ = some (.int .u32 (oi : Int)) ∧ w'.cell? ⟨B, 2, none⟩ = some (.slice a n c2)) (go_keep)
              (first
                | (go_at_call 8; refine HC1.out.mono ?_; rintro e w6 ⟨rfl, hO6⟩
                   have d1 := hO6.three.cell 1
                   have d2 := hO6.three.cell 2
                   simp at d1 d2
                   have H6 : Hid (Own w w6 [TbO p m L' (c + 1), Row 47 4 (.slice a5 n c5) n (ccat M), Cells B #[.int .u8 (0 : Int), .int .u32 (oi : Int), .slice a n c2] 35, RTbO q m L]) := hO6
                   clear hO6)
                | (go_at_call 9; refine (HC2.out _ _ _ H6.out).mono ?_; rintro e w8 ⟨rfl, hO8⟩
                   have d1 := hO8.four.cell 1
                   have d2 := hO8.four.cell 2
                   simp at d1 d2
                   have HX : Hid (Own w w8 [Row 47 4 (.slice a5 n c5) n (ccat M), Cells B #[.int .u8 (0 : Int), .int .u32 (oi : Int), .slice a n c2] 35, TbO p m L' (c + 1), RTbO q m L']) := hO8.end4
                   clear hO8))
            all_goals
              have ht0 := HX.out.two.cell 2
              simp at ht0
              go_wp2_with fail
              refine (same_cs _ a5 a n c5 c2 M (Own.rcs HX.out HM.out.1) (HM.out.2.1.quiet HX.out.fr) HM.out.1 (by omega)).mono ?_
              rintro e w7 ⟨rfl, hf7⟩
              have H7 : Hid (Own w w7 [Row 47 4 (.slice a5 n c5) n (ccat M), Cells B #[.int .u8 (0 : Int), .int .u32 (oi : Int), .slice a n c2] 35, TbO p m L' (c + 1), RTbO q m L']) := HX.out.quiet hf7
              clear hf7 ht0 HX
              go_wp2
              go_loopw [165] (fun cv3 wr3 => ∃ j : Nat, j ≤ n ∧ cv3 = .int .i64 j ∧ ∃ C' : List Cp, C'.length = n ∧ Own w wr3 [Row 47 4 (.slice a5 n c5) n (ccat C'), Cells B #[.int .u8 (0 : Int), .int .u32 (oi : Int), .slice a n c2] 35, TbO p m L' (c + 1), RTbO q m L']) (fun cv3 _ => n - (intOf cv3).toNat)
              case atStart => exact ⟨0, Nat.zero_le _, rfl, M, HM.out.1, H7.out⟩
              case round =>
                obtain ⟨j, hj, rfl, C', hC', hO8⟩ := hrel
                have H8 : Hid (Own w _ [Row 47 4 (.slice a5 n c5) n (ccat C'), Cells B #[.int .u8 (0 : Int), .int .u32 (oi : Int), .slice a n c2] 35, TbO p m L' (c + 1), RTbO q m L']) := hO8
                clear H7
                by_cases hjn : j < n
                · have hjn' : (j : Int) < (n : Int) := by omega
                  obtain ⟨y, hy⟩ : ∃ y, C'[j]? = some y := ⟨_, List.getElem?_eq_getElem (by omega)⟩
                  obtain ⟨gl, cl', hvl, _⟩ := row_shape hO8.row (by omega)
                  have hgl := (Value.slice.inj hvl).1
                  subst hgl
                  have f1 := hO8.row.cellAt (j * 4 + 1) (by omega)
                  rw [ccat_at C' j y hy 1 (by decide)] at f1
                  have f1' : World.cell? wr ⟨gl, j * 4 + 1, none⟩ = some (.int .i32 y.a) := f1
                  have f2 := hO8.row.frozenAt (j * 4 + 1)
                  obtain ⟨nv, hnv⟩ : ∃ nv, nv = bits .xor .i32 y.a 1 := ⟨_, rfl⟩
                  have HN : Hid (Own w (World.setCell wr ⟨gl, j * 4 + 1, none⟩ (.int .i32 nv)) [Row 47 4 (.slice (some ⟨gl, 0, none⟩) n c5) n (ccat (C'.set j ⟨y.k, nv, y.b, y.c⟩)), Cells B #[.int .u8 (0 : Int), .int .u32 (oi : Int), .slice a n c2] 35, TbO p m L' (c + 1), RTbO q m L']) := by
                    have := hO8.setR (j * 4 + 1) (.int .i32 nv)
                    rw [ccat_set1 C' j y nv hy]
                    exact this
                  have HCL : Hid ((C'.set j ⟨y.k, nv, y.b, y.c⟩).length = n) := by show _ = _; rw [List.length_set, hC']
                  clear hO8 hvl hy f1
                  generalize y.a = ya at *
                  have hnv' := hnv.symm
                  clear hnv
                  go_wp2
                  go_region
                  all_goals
                    go_wp2
                    go_roundw
                    case rel => exact ⟨j + 1, by omega, by go_num, _, HCL.out, HN.out.drew⟩
                    case measure => simp [intOf]; omega
                · have hjn' : ¬ (j : Int) < (n : Int) := by omega
                  have HAL : Hid (Calls _ _ _ _ _) := alike_o w wr _ p q m L' (c + 1) z hO8.tail.tail HT2.out HP.out HQ.out (by have := HT3.out; omega)
                  clear hO8
                  go_wp2_with fail
                  refine HAL.out.mono ?_
                  rintro e w9 ⟨rfl, hO9⟩
                  have H9 : Hid (Own w w9 [TbO p m L' (c + 1), RTbO q m L']) := hO9
                  clear hO9 HAL
                  go_wp2
                  go_roundw
                  case rel => exact ⟨k + 1, by omega, by go_num, L', (c + 1), HT2.out, by have := HT3.out; omega, by omega, H9.out⟩
                  case measure => simp [intOf]; omega
        · have n0 : ¬ od = 0 := hd
          clear hd
          by_cases hd : od = 1
          · as_aux_lemma =>
              subst hd
              have HQ5 : Hid (Own w w5 [Row 47 4 (.slice a5 n c5) n (ccat M), Cells B #[.int .u8 (1 : Int), .int .u32 (oi : Int), .slice a n c2] 35, TbO p m L c, RTbO q m L]) := H5.out
              clear H5
              have H5 := HQ5
              clear HQ5
              have hd0 : (((1 : Nat) : Int) == 0) = false := by decide
              have HC1 : Hid (Calls _ _ _ _ _) := add_o w w5.drew _ p m L c z HT.out H5.out.three.drew HTk.out HP.out oi hoi a5 n c5 M HM.out.1 (fun w' h' => Own.rcs h' HM.out.1) HM.out.2.2 (by omega) (by have := HLk.out; omega) (by omega)
              have HC2 : Hid (∀ w' L' c', Own w w' [TbO p m L' c', Row 47 4 (.slice a5 n c5) n (ccat M), Cells B #[.int .u8 (1 : Int), .int .u32 (oi : Int), .slice a n c2] 35, RTbO q m L] → Calls Tryd.prog 9 #[.pointer (tp q), .int .u32 (oi : Int), .slice a n c2] w' fun e w'' => e = .returned (.int .i64 (aE z m L oi M : Int)) ∧ Own w w'' [RTbO q m (aL z m L oi M), TbO p m L' c', Row 47 4 (.slice a5 n c5) n (ccat M), Cells B #[.int .u8 (1 : Int), .int .u32 (oi : Int), .slice a n c2] 35]) := fun w' L' c' h' => radd_o w w' _ q m L z h'.four HTk.out HQ.out oi hoi a n c2 M HM.out.1 (fun w' h' => HM.out.2.1.quiet h'.fr) HM.out.2.2 (by omega) (by have := HLk.out; omega)
              have HT2 : Hid (TOk m (aL z m L oi M)) := (aL_tok HTk.out z oi hoi M).1
              have HT3 : Hid ((aL z m L oi M).length ≤ k + 1) := by have := (aL_tok HTk.out z oi hoi M).2; have := HLk.out; show _ ≤ _; omega
              generalize aL z m L oi M = L' at *
              generalize aE z m L oi M = ae at *
              have hee : ((ae : Int) == (ae : Int)) = true := by simp
              clear HTk HLk
              go_wp2_with fail
              go_region_held3 (fun w' => w'.cell? ⟨B, 1, none⟩ = some (.int .u32 (oi : Int)) ∧ w'.cell? ⟨B, 2, none⟩ = some (.slice a n c2)) (go_keep)
                (first
                  | (go_at_call 8; refine HC1.out.mono ?_; rintro e w6 ⟨rfl, hO6⟩
                     have d1 := hO6.three.cell 1
                     have d2 := hO6.three.cell 2
                     simp at d1 d2
                     have H6 : Hid (Own w w6 [TbO p m L' (c + 1), Row 47 4 (.slice a5 n c5) n (ccat M), Cells B #[.int .u8 (1 : Int), .int .u32 (oi : Int), .slice a n c2] 35, RTbO q m L]) := hO6
                     clear hO6)
                  | (go_at_call 9; refine (HC2.out _ _ _ H6.out).mono ?_; rintro e w8 ⟨rfl, hO8⟩
                     have d1 := hO8.four.cell 1
                     have d2 := hO8.four.cell 2
                     simp at d1 d2
                     have HX : Hid (Own w w8 [Row 47 4 (.slice a5 n c5) n (ccat M), Cells B #[.int .u8 (1 : Int), .int .u32 (oi : Int), .slice a n c2] 35, TbO p m L' (c + 1), RTbO q m L']) := hO8.end4
                     clear hO8))
              all_goals
                have ht0 := HX.out.two.cell 2
                simp at ht0
                go_wp2_with fail
                refine (same_cs _ a5 a n c5 c2 M (Own.rcs HX.out HM.out.1) (HM.out.2.1.quiet HX.out.fr) HM.out.1 (by omega)).mono ?_
                rintro e w7 ⟨rfl, hf7⟩
                have H7 : Hid (Own w w7 [Row 47 4 (.slice a5 n c5) n (ccat M), Cells B #[.int .u8 (1 : Int), .int .u32 (oi : Int), .slice a n c2] 35, TbO p m L' (c + 1), RTbO q m L']) := HX.out.quiet hf7
                clear hf7 ht0 HX
                go_wp2
                go_loopw [165] (fun cv3 wr3 => ∃ j : Nat, j ≤ n ∧ cv3 = .int .i64 j ∧ ∃ C' : List Cp, C'.length = n ∧ Own w wr3 [Row 47 4 (.slice a5 n c5) n (ccat C'), Cells B #[.int .u8 (1 : Int), .int .u32 (oi : Int), .slice a n c2] 35, TbO p m L' (c + 1), RTbO q m L']) (fun cv3 _ => n - (intOf cv3).toNat)
                case atStart => exact ⟨0, Nat.zero_le _, rfl, M, HM.out.1, H7.out⟩
                case round =>
                  obtain ⟨j, hj, rfl, C', hC', hO8⟩ := hrel
                  have H8 : Hid (Own w _ [Row 47 4 (.slice a5 n c5) n (ccat C'), Cells B #[.int .u8 (1 : Int), .int .u32 (oi : Int), .slice a n c2] 35, TbO p m L' (c + 1), RTbO q m L']) := hO8
                  clear H7
                  by_cases hjn : j < n
                  · have hjn' : (j : Int) < (n : Int) := by omega
                    obtain ⟨y, hy⟩ : ∃ y, C'[j]? = some y := ⟨_, List.getElem?_eq_getElem (by omega)⟩
                    obtain ⟨gl, cl', hvl, _⟩ := row_shape hO8.row (by omega)
                    have hgl := (Value.slice.inj hvl).1
                    subst hgl
                    have f1 := hO8.row.cellAt (j * 4 + 1) (by omega)
                    rw [ccat_at C' j y hy 1 (by decide)] at f1
                    have f1' : World.cell? wr ⟨gl, j * 4 + 1, none⟩ = some (.int .i32 y.a) := f1
                    have f2 := hO8.row.frozenAt (j * 4 + 1)
                    obtain ⟨nv, hnv⟩ : ∃ nv, nv = bits .xor .i32 y.a 1 := ⟨_, rfl⟩
                    have HN : Hid (Own w (World.setCell wr ⟨gl, j * 4 + 1, none⟩ (.int .i32 nv)) [Row 47 4 (.slice (some ⟨gl, 0, none⟩) n c5) n (ccat (C'.set j ⟨y.k, nv, y.b, y.c⟩)), Cells B #[.int .u8 (1 : Int), .int .u32 (oi : Int), .slice a n c2] 35, TbO p m L' (c + 1), RTbO q m L']) := by
                      have := hO8.setR (j * 4 + 1) (.int .i32 nv)
                      rw [ccat_set1 C' j y nv hy]
                      exact this
                    have HCL : Hid ((C'.set j ⟨y.k, nv, y.b, y.c⟩).length = n) := by show _ = _; rw [List.length_set, hC']
                    clear hO8 hvl hy f1
                    generalize y.a = ya at *
                    have hnv' := hnv.symm
                    clear hnv
                    go_wp2
                    go_region
                    all_goals
                      go_wp2
                      go_roundw
                      case rel => exact ⟨j + 1, by omega, by go_num, _, HCL.out, HN.out.drew⟩
                      case measure => simp [intOf]; omega
                  · have hjn' : ¬ (j : Int) < (n : Int) := by omega
                    have HAL : Hid (Calls _ _ _ _ _) := alike_o w wr _ p q m L' (c + 1) z hO8.tail.tail HT2.out HP.out HQ.out (by have := HT3.out; omega)
                    clear hO8
                    go_wp2_with fail
                    refine HAL.out.mono ?_
                    rintro e w9 ⟨rfl, hO9⟩
                    have H9 : Hid (Own w w9 [TbO p m L' (c + 1), RTbO q m L']) := hO9
                    clear hO9 HAL
                    go_wp2
                    go_roundw
                    case rel => exact ⟨k + 1, by omega, by go_num, L', (c + 1), HT2.out, by have := HT3.out; omega, by omega, H9.out⟩
                    case measure => simp [intOf]; omega
          · have n1 : ¬ od = 1 := hd
            clear hd
            by_cases hd : od = 2
            · as_aux_lemma =>
                subst hd
                have HQ5 : Hid (Own w w5 [Row 47 4 (.slice a5 n c5) n (ccat M), Cells B #[.int .u8 (2 : Int), .int .u32 (oi : Int), .slice a n c2] 35, TbO p m L c, RTbO q m L]) := H5.out
                clear H5
                have H5 := HQ5
                clear HQ5
                have HC1 : Hid (Calls _ _ _ _ _) := rem_o w w5 _ p m L c z H5.out.three HTk.out HP.out oi hoi (by have := HLk.out; omega) (by omega)
                have HC2 : Hid (∀ w' T L' c', Own w w' [T, TbO p m L' c', Row 47 4 (.slice a5 n c5) n (ccat M), Cells B #[.int .u8 (2 : Int), .int .u32 (oi : Int), .slice a n c2] 35, RTbO q m L] → Calls Tryd.prog 11 #[.pointer (tp q), .int .u32 (oi : Int)] w' fun e w'' => ∃ ao cap, e = .returned (.tuple #[.slice ao (mC z L oi).length cap, .int .i64 (mE z L oi : Int)]) ∧ Own w w'' [Row 47 4 (.slice ao (mC z L oi).length cap) (mC z L oi).length (ccat (mC z L oi)), RTbO q m (mL z L oi), T, TbO p m L' c', Row 47 4 (.slice a5 n c5) n (ccat M), Cells B #[.int .u8 (2 : Int), .int .u32 (oi : Int), .slice a n c2] 35]) := fun w' T L' c' h' => rrem_o w w' _ q m L z h'.five HTk.out HQ.out oi (by have := HLk.out; omega)
                have HT2 : Hid (TOk m (mL z L oi)) := (mL_tok HTk.out z oi).1
                have HT3 : Hid ((mL z L oi).length ≤ k + 1) := by have := (mL_tok HTk.out z oi).2; have := HLk.out; show _ ≤ _; omega
                have HC6 : Hid ((mC z L oi).length ≤ 6) := mC_le HTk.out z oi
                generalize mL z L oi = L' at *
                generalize mE z L oi = me at *
                generalize mC z L oi = mc at *
                obtain ⟨ml, hml⟩ : ∃ ml, ml = mc.length := ⟨_, rfl⟩
                rw [← hml] at HC1 HC2 HC6
                have HML : Hid (mc.length = ml) := hml.symm
                have hee : ((me : Int) == (me : Int)) = true := by simp
                clear HTk HLk hml
                go_wp2_with fail
                refine HC1.out.mono ?_
                rintro e w6 ⟨a6, c6, rfl, hO6⟩
                have d1 := hO6.four.cell 1
                simp at d1
                have HCR : Hid (Calls _ _ _ _ _) := HC2.out _ _ _ _ hO6
                clear hO6 HC1 HC2 H5 b0 b1 b2
                go_wp2_with fail
                refine HCR.out.mono ?_
                rintro e w8 ⟨a8, c8, rfl, hO8⟩
                have HSM : Hid (Calls _ _ _ _ _) := same_cs w8 a6 a8 ml c6 c8 mc (Own.rcs hO8.three HML.out) (Own.rcs hO8 HML.out) HML.out (by have := HC6.out; omega)
                have HX0 : Hid (Own w w8 [Row 47 4 (.slice a5 n c5) n (ccat M), Cells B #[.int .u8 (2 : Int), .int .u32 (oi : Int), .slice a n c2] 35, TbO p m L' (c + 1), RTbO q m L']) := (hO8.tail.two.tail).end4
                clear hO8 HCR d1
                go_wp2_with fail
                refine HSM.out.mono ?_
                rintro e w10 ⟨rfl, hf10⟩
                have HX : Hid (Own w w10 [Row 47 4 (.slice a5 n c5) n (ccat M), Cells B #[.int .u8 (2 : Int), .int .u32 (oi : Int), .slice a n c2] 35, TbO p m L' (c + 1), RTbO q m L']) := HX0.out.quiet hf10
                clear hf10 HX0 HSM
                have ht0 := HX.out.two.cell 2
                simp at ht0
                go_wp2_with fail
                refine (same_cs _ a5 a n c5 c2 M (Own.rcs HX.out HM.out.1) (HM.out.2.1.quiet HX.out.fr) HM.out.1 (by omega)).mono ?_
                rintro e w7 ⟨rfl, hf7⟩
                have H7 : Hid (Own w w7 [Row 47 4 (.slice a5 n c5) n (ccat M), Cells B #[.int .u8 (2 : Int), .int .u32 (oi : Int), .slice a n c2] 35, TbO p m L' (c + 1), RTbO q m L']) := HX.out.quiet hf7
                clear hf7 ht0 HX
                go_wp2
                go_loopw [165] (fun cv3 wr3 => ∃ j : Nat, j ≤ n ∧ cv3 = .int .i64 j ∧ ∃ C' : List Cp, C'.length = n ∧ Own w wr3 [Row 47 4 (.slice a5 n c5) n (ccat C'), Cells B #[.int .u8 (2 : Int), .int .u32 (oi : Int), .slice a n c2] 35, TbO p m L' (c + 1), RTbO q m L']) (fun cv3 _ => n - (intOf cv3).toNat)
                case atStart => exact ⟨0, Nat.zero_le _, rfl, M, HM.out.1, H7.out⟩
                case round =>
                  obtain ⟨j, hj, rfl, C', hC', hO8⟩ := hrel
                  have H8 : Hid (Own w _ [Row 47 4 (.slice a5 n c5) n (ccat C'), Cells B #[.int .u8 (2 : Int), .int .u32 (oi : Int), .slice a n c2] 35, TbO p m L' (c + 1), RTbO q m L']) := hO8
                  clear H7
                  by_cases hjn : j < n
                  · have hjn' : (j : Int) < (n : Int) := by omega
                    obtain ⟨y, hy⟩ : ∃ y, C'[j]? = some y := ⟨_, List.getElem?_eq_getElem (by omega)⟩
                    obtain ⟨gl, cl', hvl, _⟩ := row_shape hO8.row (by omega)
                    have hgl := (Value.slice.inj hvl).1
                    subst hgl
                    have f1 := hO8.row.cellAt (j * 4 + 1) (by omega)
                    rw [ccat_at C' j y hy 1 (by decide)] at f1
                    have f1' : World.cell? wr ⟨gl, j * 4 + 1, none⟩ = some (.int .i32 y.a) := f1
                    have f2 := hO8.row.frozenAt (j * 4 + 1)
                    obtain ⟨nv, hnv⟩ : ∃ nv, nv = bits .xor .i32 y.a 1 := ⟨_, rfl⟩
                    have HN : Hid (Own w (World.setCell wr ⟨gl, j * 4 + 1, none⟩ (.int .i32 nv)) [Row 47 4 (.slice (some ⟨gl, 0, none⟩) n c5) n (ccat (C'.set j ⟨y.k, nv, y.b, y.c⟩)), Cells B #[.int .u8 (2 : Int), .int .u32 (oi : Int), .slice a n c2] 35, TbO p m L' (c + 1), RTbO q m L']) := by
                      have := hO8.setR (j * 4 + 1) (.int .i32 nv)
                      rw [ccat_set1 C' j y nv hy]
                      exact this
                    have HCL : Hid ((C'.set j ⟨y.k, nv, y.b, y.c⟩).length = n) := by show _ = _; rw [List.length_set, hC']
                    clear hO8 hvl hy f1
                    generalize y.a = ya at *
                    have hnv' := hnv.symm
                    clear hnv
                    go_wp2
                    go_region
                    all_goals
                      go_wp2
                      go_roundw
                      case rel => exact ⟨j + 1, by omega, by go_num, _, HCL.out, HN.out.drew⟩
                      case measure => simp [intOf]; omega
                  · have hjn' : ¬ (j : Int) < (n : Int) := by omega
                    have HAL : Hid (Calls _ _ _ _ _) := alike_o w wr _ p q m L' (c + 1) z hO8.tail.tail HT2.out HP.out HQ.out (by have := HT3.out; omega)
                    clear hO8
                    go_wp2_with fail
                    refine HAL.out.mono ?_
                    rintro e w9 ⟨rfl, hO9⟩
                    have H9 : Hid (Own w w9 [TbO p m L' (c + 1), RTbO q m L']) := hO9
                    clear hO9 HAL
                    go_wp2
                    go_roundw
                    case rel => exact ⟨k + 1, by omega, by go_num, L', (c + 1), HT2.out, by have := HT3.out; omega, by omega, H9.out⟩
                    case measure => simp [intOf]; omega
            · have n2 : ¬ od = 2 := hd
              clear hd
              by_cases hd : od = 3
              · as_aux_lemma =>
                  subst hd
                  have HQ5 : Hid (Own w w5 [Row 47 4 (.slice a5 n c5) n (ccat M), Cells B #[.int .u8 (3 : Int), .int .u32 (oi : Int), .slice a n c2] 35, TbO p m L c, RTbO q m L]) := H5.out
                  clear H5
                  have H5 := HQ5
                  clear HQ5
                  obtain ⟨x, hx⟩ : ∃ x, x = fst1 M := ⟨_, rfl⟩
                  have hxk : x.k < 256 := by rw [hx]; exact fst1_k HM.out.2.2
                  obtain ⟨xk, xa, xb, xc⟩ := x
                  simp only at hxk
                  have HF : Hid (∀ w' l', Own w w' l' → Calls Tryd.prog 14 #[.slice a n c2] w' fun e w'' => e = .returned (.agg #[.int .u8 (xk : Int), .int .i32 xa, .int .i32 xb, .int .i32 xc]) ∧ Own w w'' l') := fun w' l' h' => by
                    have h1 := first_any w' a n c2 M HM.out.1 (HM.out.2.1.quiet h'.fr)
                    rw [← hx] at h1
                    exact h1.mono (fun e w'' he => ⟨he.1, h'.quiet he.2⟩)
                  clear hx
                  have HC1 : Hid (∀ w', Own w w' [Row 47 4 (.slice a5 n c5) n (ccat M), Cells B #[.int .u8 (3 : Int), .int .u32 (oi : Int), .slice a n c2] 35, TbO p m L c, RTbO q m L] → Calls Tryd.prog 13 #[.pointer (tp p), .int .u32 (oi : Int), .agg #[.int .u8 (xk : Int), .int .i32 xa, .int .i32 xb, .int .i32 xc]] w' fun e w'' => e = .returned (.int .i64 (sE z m L oi ⟨xk, xa, xb, xc⟩ : Int)) ∧ Own w w'' [TbO p m (sL z m L oi ⟨xk, xa, xb, xc⟩) c, Row 47 4 (.slice a5 n c5) n (ccat M), Cells B #[.int .u8 (3 : Int), .int .u32 (oi : Int), .slice a n c2] 35, RTbO q m L]) := fun w' h' => set_o w w' _ p m L c z HT.out h'.three HTk.out HP.out oi hoi ⟨xk, xa, xb, xc⟩ hxk (by have := HLk.out; omega)
                  have HC2 : Hid (∀ w' L', Own w w' [TbO p m L' c, Row 47 4 (.slice a5 n c5) n (ccat M), Cells B #[.int .u8 (3 : Int), .int .u32 (oi : Int), .slice a n c2] 35, RTbO q m L] → Calls Tryd.prog 15 #[.pointer (tp q), .int .u32 (oi : Int), .agg #[.int .u8 (xk : Int), .int .i32 xa, .int .i32 xb, .int .i32 xc]] w' fun e w'' => e = .returned (.int .i64 (sE z m L oi ⟨xk, xa, xb, xc⟩ : Int)) ∧ Own w w'' [RTbO q m (sL z m L oi ⟨xk, xa, xb, xc⟩), TbO p m L' c, Row 47 4 (.slice a5 n c5) n (ccat M), Cells B #[.int .u8 (3 : Int), .int .u32 (oi : Int), .slice a n c2] 35]) := fun w' L' h' => rset_o w w' _ q m L z h'.four HTk.out HQ.out oi hoi ⟨xk, xa, xb, xc⟩ hxk (by have := HLk.out; omega)
                  have HT2 : Hid (TOk m (sL z m L oi ⟨xk, xa, xb, xc⟩)) := (sL_tok HTk.out z oi ⟨xk, xa, xb, xc⟩).1
                  have HT3 : Hid ((sL z m L oi ⟨xk, xa, xb, xc⟩).length ≤ k + 1) := by have := (sL_tok HTk.out z oi ⟨xk, xa, xb, xc⟩).2; have := HLk.out; show _ ≤ _; omega
                  generalize sL z m L oi ⟨xk, xa, xb, xc⟩ = L' at *
                  generalize sE z m L oi ⟨xk, xa, xb, xc⟩ = se at *
                  have hee : ((se : Int) == (se : Int)) = true := by simp
                  have HF1 : Hid (Calls _ _ _ _ _) := HF.out w5.drew _ H5.out.drew
                  clear HTk HLk
                  go_wp2_with fail
                  go_region_held3 (fun w' => w'.cell? ⟨B, 1, none⟩ = some (.int .u32 (oi : Int)) ∧ w'.cell? ⟨B, 2, none⟩ = some (.slice a n c2)) (go_keep)
                    (first
                      | (go_at_call 14; refine HF1.out.mono ?_; rintro e w6 ⟨rfl, hO6⟩
                         have d1 := hO6.two.cell 1
                         have d2 := hO6.two.cell 2
                         simp at d1 d2
                         have H6 : Hid (Own w w6 [Row 47 4 (.slice a5 n c5) n (ccat M), Cells B #[.int .u8 (3 : Int), .int .u32 (oi : Int), .slice a n c2] 35, TbO p m L c, RTbO q m L]) := hO6
                         clear hO6)
                      | (go_at_call 13; refine (HC1.out _ H6.out).mono ?_; rintro e w8 ⟨rfl, hO8⟩
                         have d1 := hO8.three.cell 1
                         have d2 := hO8.three.cell 2
                         simp at d1 d2
                         have H8 : Hid (Own w w8 [TbO p m L' c, Row 47 4 (.slice a5 n c5) n (ccat M), Cells B #[.int .u8 (3 : Int), .int .u32 (oi : Int), .slice a n c2] 35, RTbO q m L]) := hO8
                         clear hO8)
                      | (go_at_call 14; refine (HF.out _ _ H8.out).mono ?_; rintro e w10 ⟨rfl, hO10⟩
                         have d1 := hO10.three.cell 1
                         have d2 := hO10.three.cell 2
                         simp at d1 d2
                         have H10 : Hid (Own w w10 [TbO p m L' c, Row 47 4 (.slice a5 n c5) n (ccat M), Cells B #[.int .u8 (3 : Int), .int .u32 (oi : Int), .slice a n c2] 35, RTbO q m L]) := hO10
                         clear hO10)
                      | (go_at_call 15; refine (HC2.out _ _ H10.out).mono ?_; rintro e w12 ⟨rfl, hO12⟩
                         have d1 := hO12.four.cell 1
                         have d2 := hO12.four.cell 2
                         simp at d1 d2
                         have HX : Hid (Own w w12 [Row 47 4 (.slice a5 n c5) n (ccat M), Cells B #[.int .u8 (3 : Int), .int .u32 (oi : Int), .slice a n c2] 35, TbO p m L' c, RTbO q m L']) := hO12.end4
                         clear hO12))
                  all_goals
                    have ht0 := HX.out.two.cell 2
                    simp at ht0
                    go_wp2_with fail
                    refine (same_cs _ a5 a n c5 c2 M (Own.rcs HX.out HM.out.1) (HM.out.2.1.quiet HX.out.fr) HM.out.1 (by omega)).mono ?_
                    rintro e w7 ⟨rfl, hf7⟩
                    have H7 : Hid (Own w w7 [Row 47 4 (.slice a5 n c5) n (ccat M), Cells B #[.int .u8 (3 : Int), .int .u32 (oi : Int), .slice a n c2] 35, TbO p m L' c, RTbO q m L']) := HX.out.quiet hf7
                    clear hf7 ht0 HX
                    go_wp2
                    go_loopw [165] (fun cv3 wr3 => ∃ j : Nat, j ≤ n ∧ cv3 = .int .i64 j ∧ ∃ C' : List Cp, C'.length = n ∧ Own w wr3 [Row 47 4 (.slice a5 n c5) n (ccat C'), Cells B #[.int .u8 (3 : Int), .int .u32 (oi : Int), .slice a n c2] 35, TbO p m L' c, RTbO q m L']) (fun cv3 _ => n - (intOf cv3).toNat)
                    case atStart => exact ⟨0, Nat.zero_le _, rfl, M, HM.out.1, H7.out⟩
                    case round =>
                      obtain ⟨j, hj, rfl, C', hC', hO8⟩ := hrel
                      have H8 : Hid (Own w _ [Row 47 4 (.slice a5 n c5) n (ccat C'), Cells B #[.int .u8 (3 : Int), .int .u32 (oi : Int), .slice a n c2] 35, TbO p m L' c, RTbO q m L']) := hO8
                      clear H7
                      by_cases hjn : j < n
                      · have hjn' : (j : Int) < (n : Int) := by omega
                        obtain ⟨y, hy⟩ : ∃ y, C'[j]? = some y := ⟨_, List.getElem?_eq_getElem (by omega)⟩
                        obtain ⟨gl, cl', hvl, _⟩ := row_shape hO8.row (by omega)
                        have hgl := (Value.slice.inj hvl).1
                        subst hgl
                        have f1 := hO8.row.cellAt (j * 4 + 1) (by omega)
                        rw [ccat_at C' j y hy 1 (by decide)] at f1
                        have f1' : World.cell? wr ⟨gl, j * 4 + 1, none⟩ = some (.int .i32 y.a) := f1
                        have f2 := hO8.row.frozenAt (j * 4 + 1)
                        obtain ⟨nv, hnv⟩ : ∃ nv, nv = bits .xor .i32 y.a 1 := ⟨_, rfl⟩
                        have HN : Hid (Own w (World.setCell wr ⟨gl, j * 4 + 1, none⟩ (.int .i32 nv)) [Row 47 4 (.slice (some ⟨gl, 0, none⟩) n c5) n (ccat (C'.set j ⟨y.k, nv, y.b, y.c⟩)), Cells B #[.int .u8 (3 : Int), .int .u32 (oi : Int), .slice a n c2] 35, TbO p m L' c, RTbO q m L']) := by
                          have := hO8.setR (j * 4 + 1) (.int .i32 nv)
                          rw [ccat_set1 C' j y nv hy]
                          exact this
                        have HCL : Hid ((C'.set j ⟨y.k, nv, y.b, y.c⟩).length = n) := by show _ = _; rw [List.length_set, hC']
                        clear hO8 hvl hy f1
                        generalize y.a = ya at *
                        have hnv' := hnv.symm
                        clear hnv
                        go_wp2
                        go_region
                        all_goals
                          go_wp2
                          go_roundw
                          case rel => exact ⟨j + 1, by omega, by go_num, _, HCL.out, HN.out.drew⟩
                          case measure => simp [intOf]; omega
                      · have hjn' : ¬ (j : Int) < (n : Int) := by omega
                        have HAL : Hid (Calls _ _ _ _ _) := alike_o w wr _ p q m L' c z hO8.tail.tail HT2.out HP.out HQ.out (by have := HT3.out; omega)
                        clear hO8
                        go_wp2_with fail
                        refine HAL.out.mono ?_
                        rintro e w9 ⟨rfl, hO9⟩
                        have H9 : Hid (Own w w9 [TbO p m L' c, RTbO q m L']) := hO9
                        clear hO9 HAL
                        go_wp2
                        go_roundw
                        case rel => exact ⟨k + 1, by omega, by go_num, L', c, HT2.out, by have := HT3.out; omega, by omega, H9.out⟩
                        case measure => simp [intOf]; omega
              · have n3 : ¬ od = 3 := hd
                clear hd
                by_cases hd : od = 4
                · as_aux_lemma =>
                    subst hd
                    have HQ5 : Hid (Own w w5 [Row 47 4 (.slice a5 n c5) n (ccat M), Cells B #[.int .u8 (4 : Int), .int .u32 (oi : Int), .slice a n c2] 35, TbO p m L c, RTbO q m L]) := H5.out
                    clear H5
                    have H5 := HQ5
                    clear HQ5
                    obtain ⟨x, hx⟩ : ∃ x, x = fst1 M := ⟨_, rfl⟩
                    have hxk : x.k < 256 := by rw [hx]; exact fst1_k HM.out.2.2
                    obtain ⟨xk, xa, xb, xc⟩ := x
                    simp only at hxk
                    have HF : Hid (∀ w' l', Own w w' l' → Calls Tryd.prog 14 #[.slice a n c2] w' fun e w'' => e = .returned (.agg #[.int .u8 (xk : Int), .int .i32 xa, .int .i32 xb, .int .i32 xc]) ∧ Own w w'' l') := fun w' l' h' => by
                      have h1 := first_any w' a n c2 M HM.out.1 (HM.out.2.1.quiet h'.fr)
                      rw [← hx] at h1
                      exact h1.mono (fun e w'' he => ⟨he.1, h'.quiet he.2⟩)
                    clear hx
                    obtain ⟨y, hy⟩ : ∃ y, y = gC z m L oi xk := ⟨_, rfl⟩
                    obtain ⟨ge, hge⟩ : ∃ ge, ge = gE z m L oi xk := ⟨_, rfl⟩
                    obtain ⟨gk, ga, gb, gc⟩ := y
                    have HG : Hid (∀ w' l', Own w w' (TbO p m L c :: l') → Calls Tryd.prog 16 #[.pointer (tp p), .int .u32 (oi : Int), .int .u8 (xk : Int)] w' fun e w'' => e = .returned (.tuple #[.agg #[.int .u8 (gk : Int), .int .i32 ga, .int .i32 gb, .int .i32 gc], .int .i64 (ge : Int)]) ∧ Own w w'' (TbO p m L c :: l')) := fun w' l' h' => by
                      have h1 := get_o w w' l' p m L c z h' HTk.out HP.out oi hoi xk hxk
                      rw [← hy, ← hge] at h1
                      exact h1
                    have HRG : Hid (∀ w' l', Own w w' (RTbO q m L :: l') → Calls Tryd.prog 17 #[.pointer (tp q), .int .u32 (oi : Int), .int .u8 (xk : Int)] w' fun e w'' => e = .returned (.tuple #[.agg #[.int .u8 (gk : Int), .int .i32 ga, .int .i32 gb, .int .i32 gc], .int .i64 (ge : Int)]) ∧ Own w w'' (RTbO q m L :: l')) := fun w' l' h' => by
                      have h1 := rget_o w w' l' q m L z h' HTk.out HQ.out oi xk hxk (by have := HLk.out; omega)
                      rw [← hy, ← hge] at h1
                      exact h1
                    clear hy hge
                    have HT2 : Hid (TOk m L) := HTk.out
                    have HT3 : Hid (L.length ≤ k + 1) := by have := HLk.out; show _ ≤ _; omega
                    have hee : ((ge : Int) == (ge : Int)) = true := by simp
                    have hfl := fld0
                    have H5d : Hid (Own w w5.drew [Row 47 4 (.slice a5 n c5) n (ccat M), Cells B #[.int .u8 (4 : Int), .int .u32 (oi : Int), .slice a n c2] 35, TbO p m L c, RTbO q m L]) := H5.out.drew
                    have H5e : Hid (Own w (w5.drew.alloc (.cells #[.int .u8 0, .int .i32 0, .int .i32 0, .int .i32 0] 47)) [Cells w5.heap.size #[.int .u8 0, .int .i32 0, .int .i32 0, .int .i32 0] 47, Row 47 4 (.slice a5 n c5) n (ccat M), Cells B #[.int .u8 (4 : Int), .int .u32 (oi : Int), .slice a n c2] 35, TbO p m L c, RTbO q m L]) := H5.out.drew.allocC _ _
                    clear HTk HLk
                    go_wp2_with fail
                    go_region_held3 (fun w' => w'.cell? ⟨B, 1, none⟩ = some (.int .u32 (oi : Int)) ∧ w'.cell? ⟨B, 2, none⟩ = some (.slice a n c2)) (go_keep)
                      (first
                        | (go_at_call 14; refine (HF.out _ _ H5d.out).mono ?_; rintro e w6 ⟨rfl, hO6⟩
                           have d1 := hO6.two.cell 1
                           have d2 := hO6.two.cell 2
                           simp at d1 d2
                           have H6 : Hid (Own w w6 [Row 47 4 (.slice a5 n c5) n (ccat M), Cells B #[.int .u8 (4 : Int), .int .u32 (oi : Int), .slice a n c2] 35, TbO p m L c, RTbO q m L]) := hO6
                           clear hO6)
                        | (go_at_call 14; refine (HF.out _ _ H5e.out).mono ?_; rintro e w6 ⟨rfl, hO6⟩
                           have d1 := hO6.three.cell 1
                           have d2 := hO6.three.cell 2
                           simp at d1 d2
                           have H6e : Hid (Own w w6 [Cells w5.heap.size #[.int .u8 0, .int .i32 0, .int .i32 0, .int .i32 0] 47, Row 47 4 (.slice a5 n c5) n (ccat M), Cells B #[.int .u8 (4 : Int), .int .u32 (oi : Int), .slice a n c2] 35, TbO p m L c, RTbO q m L]) := hO6
                           clear hO6)
                        | (go_at_call 16; refine (HG.out _ _ H6.out.three).mono ?_; rintro e w8 ⟨rfl, hO8⟩
                           have d1 := hO8.three.cell 1
                           have d2 := hO8.three.cell 2
                           simp at d1 d2
                           have H8 : Hid (Own w w8 [TbO p m L c, Row 47 4 (.slice a5 n c5) n (ccat M), Cells B #[.int .u8 (4 : Int), .int .u32 (oi : Int), .slice a n c2] 35, RTbO q m L]) := hO8
                           clear hO8)
                        | (go_at_call 16; refine (HG.out _ _ H6e.out.four).mono ?_; rintro e w8 ⟨rfl, hO8⟩
                           have d1 := hO8.four.cell 1
                           have d2 := hO8.four.cell 2
                           simp at d1 d2
                           have nb1 := hO8.four.three.neC
                           have nb2 := fun e => nb1 (Eq.symm e)
                           have z0 := hO8.two.cell 0
                           have z1 := hO8.two.cell 1
                           have z2 := hO8.two.cell 2
                           have z3 := hO8.two.cell 3
                           have y0 := hO8.two.froz 0
                           have y1 := hO8.two.froz 1
                           have y2 := hO8.two.froz 2
                           have y3 := hO8.two.froz 3
                           simp at z0 z1 z2 z3 y0 y1 y2 y3
                           have H8e : Hid (Own w w8 [TbO p m L c, Cells w5.heap.size #[.int .u8 0, .int .i32 0, .int .i32 0, .int .i32 0] 47, Row 47 4 (.slice a5 n c5) n (ccat M), Cells B #[.int .u8 (4 : Int), .int .u32 (oi : Int), .slice a n c2] 35, RTbO q m L]) := hO8
                           clear hO8)
                        | (go_at_call 16; refine (HG.out _ _ (H6.out.allocC #[.int .u8 0, .int .i32 0, .int .i32 0, .int .i32 0] 47).four).mono ?_; rintro e w8 ⟨rfl, hO8⟩
                           have d1 := hO8.four.cell 1
                           have d2 := hO8.four.cell 2
                           simp at d1 d2
                           have nb1 := hO8.four.three.neC
                           have nb2 := fun e => nb1 (Eq.symm e)
                           have z0 := hO8.two.cell 0
                           have z1 := hO8.two.cell 1
                           have z2 := hO8.two.cell 2
                           have z3 := hO8.two.cell 3
                           have y0 := hO8.two.froz 0
                           have y1 := hO8.two.froz 1
                           have y2 := hO8.two.froz 2
                           have y3 := hO8.two.froz 3
                           simp at z0 z1 z2 z3 y0 y1 y2 y3
                           have H8e : Hid (Own w w8 [TbO p m L c, Cells w6.heap.size #[.int .u8 0, .int .i32 0, .int .i32 0, .int .i32 0] 47, Row 47 4 (.slice a5 n c5) n (ccat M), Cells B #[.int .u8 (4 : Int), .int .u32 (oi : Int), .slice a n c2] 35, RTbO q m L]) := hO8
                           clear hO8))
                    all_goals (go_wp2_with fail)
                    all_goals
                      first
                        | (have HY : Hid (Own w (w8.alloc (.cells #[.int .u8 (gk : Int), .int .i32 ga, .int .i32 gb, .int .i32 gc] 47)) [Cells w8.heap.size #[.int .u8 (gk : Int), .int .i32 ga, .int .i32 gb, .int .i32 gc] 47, TbO p m L c, Row 47 4 (.slice a5 n c5) n (ccat M), Cells B #[.int .u8 (4 : Int), .int .u32 (oi : Int), .slice a n c2] 35, RTbO q m L]) := H8.out.allocC _ _
                           clear d1 d2 H8 H6
                           generalize w8.alloc (.cells #[.int .u8 (gk : Int), .int .i32 ga, .int .i32 gb, .int .i32 gc] 47) = W at *
                           generalize w8.heap.size = X at *)
                        | (have HY : Hid (Own w ((((w8.setCell ⟨w6.heap.size, 0, none⟩ (.int .u8 (gk : Int))).setCell ⟨w6.heap.size, 1, none⟩ (.int .i32 ga)).setCell ⟨w6.heap.size, 2, none⟩ (.int .i32 gb)).setCell ⟨w6.heap.size, 3, none⟩ (.int .i32 gc)) [Cells w6.heap.size #[.int .u8 (gk : Int), .int .i32 ga, .int .i32 gb, .int .i32 gc] 47, TbO p m L c, Row 47 4 (.slice a5 n c5) n (ccat M), Cells B #[.int .u8 (4 : Int), .int .u32 (oi : Int), .slice a n c2] 35, RTbO q m L]) := (((H8e.out.two.setC 0 _).setC 1 _).setC 2 _).setC 3 _
                           clear d1 d2 H8e H6 z0 z1 z2 z3 y0 y1 y2 y3 nb1 nb2
                           generalize ((((w8.setCell ⟨w6.heap.size, 0, none⟩ (.int .u8 (gk : Int))).setCell ⟨w6.heap.size, 1, none⟩ (.int .i32 ga)).setCell ⟨w6.heap.size, 2, none⟩ (.int .i32 gb)).setCell ⟨w6.heap.size, 3, none⟩ (.int .i32 gc)) = W at *
                           generalize w6.heap.size = X at *)
                        | (have HY : Hid (Own w ((((w8.setCell ⟨w5.heap.size, 0, none⟩ (.int .u8 (gk : Int))).setCell ⟨w5.heap.size, 1, none⟩ (.int .i32 ga)).setCell ⟨w5.heap.size, 2, none⟩ (.int .i32 gb)).setCell ⟨w5.heap.size, 3, none⟩ (.int .i32 gc)) [Cells w5.heap.size #[.int .u8 (gk : Int), .int .i32 ga, .int .i32 gb, .int .i32 gc] 47, TbO p m L c, Row 47 4 (.slice a5 n c5) n (ccat M), Cells B #[.int .u8 (4 : Int), .int .u32 (oi : Int), .slice a n c2] 35, RTbO q m L]) := (((H8e.out.two.setC 0 _).setC 1 _).setC 2 _).setC 3 _
                           clear d1 d2 H8e H6e z0 z1 z2 z3 y0 y1 y2 y3 nb1 nb2
                           generalize ((((w8.setCell ⟨w5.heap.size, 0, none⟩ (.int .u8 (gk : Int))).setCell ⟨w5.heap.size, 1, none⟩ (.int .i32 ga)).setCell ⟨w5.heap.size, 2, none⟩ (.int .i32 gb)).setCell ⟨w5.heap.size, 3, none⟩ (.int .i32 gc)) = W at *
                           generalize w5.heap.size = X at *)
                      clear H5d H5e HG
                      have b3 := HY.out.four.cell 1
                      have b4 := HY.out.four.cell 2
                      simp at b3 b4
                      have HYd : Hid (Own w W.drew [Cells X #[.int .u8 (gk : Int), .int .i32 ga, .int .i32 gb, .int .i32 gc] 47, TbO p m L c, Row 47 4 (.slice a5 n c5) n (ccat M), Cells B #[.int .u8 (4 : Int), .int .u32 (oi : Int), .slice a n c2] 35, RTbO q m L]) := HY.out.drew
                      have HYe : Hid (Own w (W.drew.alloc (.cells #[.int .u8 0, .int .i32 0, .int .i32 0, .int .i32 0] 47)) [Cells W.heap.size #[.int .u8 0, .int .i32 0, .int .i32 0, .int .i32 0] 47, Cells X #[.int .u8 (gk : Int), .int .i32 ga, .int .i32 gb, .int .i32 gc] 47, TbO p m L c, Row 47 4 (.slice a5 n c5) n (ccat M), Cells B #[.int .u8 (4 : Int), .int .u32 (oi : Int), .slice a n c2] 35, RTbO q m L]) := HY.out.drew.allocC _ _
                      go_region_held3 (fun w' => w'.cell? ⟨B, 1, none⟩ = some (.int .u32 (oi : Int)) ∧ w'.cell? ⟨B, 2, none⟩ = some (.slice a n c2)) (go_keep)
                        (first
                          | (go_at_call 14; refine (HF.out _ _ HYd.out).mono ?_; rintro e w9 ⟨rfl, hO9⟩
                             have d1 := hO9.four.cell 1
                             have d2 := hO9.four.cell 2
                             simp at d1 d2
                             have K9 : Hid (Own w w9 [Cells X #[.int .u8 (gk : Int), .int .i32 ga, .int .i32 gb, .int .i32 gc] 47, TbO p m L c, Row 47 4 (.slice a5 n c5) n (ccat M), Cells B #[.int .u8 (4 : Int), .int .u32 (oi : Int), .slice a n c2] 35, RTbO q m L]) := hO9
                             clear hO9)
                          | (go_at_call 14; refine (HF.out _ _ HYe.out).mono ?_; rintro e w9 ⟨rfl, hO9⟩
                             have d1 := hO9.five.cell 1
                             have d2 := hO9.five.cell 2
                             simp at d1 d2
                             have K9e : Hid (Own w w9 [Cells W.heap.size #[.int .u8 0, .int .i32 0, .int .i32 0, .int .i32 0] 47, Cells X #[.int .u8 (gk : Int), .int .i32 ga, .int .i32 gb, .int .i32 gc] 47, TbO p m L c, Row 47 4 (.slice a5 n c5) n (ccat M), Cells B #[.int .u8 (4 : Int), .int .u32 (oi : Int), .slice a n c2] 35, RTbO q m L]) := hO9
                             clear hO9)
                          | (go_at_call 17; refine (HRG.out _ _ K9.out.five).mono ?_; rintro e w11 ⟨rfl, hO11⟩
                             have d1 := hO11.five.cell 1
                             have d2 := hO11.five.cell 2
                             have p0 := hO11.two.cell 0
                             have p1 := hO11.two.cell 1
                             have p2 := hO11.two.cell 2
                             have p3 := hO11.two.cell 3
                             have px := hO11.two.lt
                             have py : X ≠ w11.heap.size := Nat.ne_of_lt px
                             have pz : w11.heap.size ≠ X := fun e => py e.symm
                             simp at d1 d2 p0 p1 p2 p3
                             have K11 : Hid (Own w w11 [RTbO q m L, Cells X #[.int .u8 (gk : Int), .int .i32 ga, .int .i32 gb, .int .i32 gc] 47, TbO p m L c, Row 47 4 (.slice a5 n c5) n (ccat M), Cells B #[.int .u8 (4 : Int), .int .u32 (oi : Int), .slice a n c2] 35]) := hO11
                             clear hO11)
                          | (go_at_call 17; refine (HRG.out _ _ K9e.out.six).mono ?_; rintro e w11 ⟨rfl, hO11⟩
                             have d1 := hO11.six.cell 1
                             have d2 := hO11.six.cell 2
                             have nb1 := hO11.six.three.neC
                             have nb2 := fun e => nb1 (Eq.symm e)
                             have nx1 := hO11.three.three.neC
                             have nx2 := fun e => nx1 (Eq.symm e)
                             have p0 := hO11.three.cell 0
                             have p1 := hO11.three.cell 1
                             have p2 := hO11.three.cell 2
                             have p3 := hO11.three.cell 3
                             have z0 := hO11.two.cell 0
                             have z1 := hO11.two.cell 1
                             have z2 := hO11.two.cell 2
                             have z3 := hO11.two.cell 3
                             have y0 := hO11.two.froz 0
                             have y1 := hO11.two.froz 1
                             have y2 := hO11.two.froz 2
                             have y3 := hO11.two.froz 3
                             simp at d1 d2 p0 p1 p2 p3 z0 z1 z2 z3 y0 y1 y2 y3
                             have K11e : Hid (Own w w11 [RTbO q m L, Cells W.heap.size #[.int .u8 0, .int .i32 0, .int .i32 0, .int .i32 0] 47, Cells X #[.int .u8 (gk : Int), .int .i32 ga, .int .i32 gb, .int .i32 gc] 47, TbO p m L c, Row 47 4 (.slice a5 n c5) n (ccat M), Cells B #[.int .u8 (4 : Int), .int .u32 (oi : Int), .slice a n c2] 35]) := hO11
                             clear hO11)
                          | (go_at_call 17; refine (HRG.out _ _ (K9.out.allocC #[.int .u8 0, .int .i32 0, .int .i32 0, .int .i32 0] 47).six).mono ?_; rintro e w11 ⟨rfl, hO11⟩
                             have d1 := hO11.six.cell 1
                             have d2 := hO11.six.cell 2
                             have nb1 := hO11.six.three.neC
                             have nb2 := fun e => nb1 (Eq.symm e)
                             have nx1 := hO11.three.three.neC
                             have nx2 := fun e => nx1 (Eq.symm e)
                             have p0 := hO11.three.cell 0
                             have p1 := hO11.three.cell 1
                             have p2 := hO11.three.cell 2
                             have p3 := hO11.three.cell 3
                             have z0 := hO11.two.cell 0
                             have z1 := hO11.two.cell 1
                             have z2 := hO11.two.cell 2
                             have z3 := hO11.two.cell 3
                             have y0 := hO11.two.froz 0
                             have y1 := hO11.two.froz 1
                             have y2 := hO11.two.froz 2
                             have y3 := hO11.two.froz 3
                             simp at d1 d2 p0 p1 p2 p3 z0 z1 z2 z3 y0 y1 y2 y3
                             have K11e : Hid (Own w w11 [RTbO q m L, Cells w9.heap.size #[.int .u8 0, .int .i32 0, .int .i32 0, .int .i32 0] 47, Cells X #[.int .u8 (gk : Int), .int .i32 ga, .int .i32 gb, .int .i32 gc] 47, TbO p m L c, Row 47 4 (.slice a5 n c5) n (ccat M), Cells B #[.int .u8 (4 : Int), .int .u32 (oi : Int), .slice a n c2] 35]) := hO11
                             clear hO11))
                      all_goals
                        first
                          | (have HX : Hid (Own w _ [Row 47 4 (.slice a5 n c5) n (ccat M), Cells B #[.int .u8 (4 : Int), .int .u32 (oi : Int), .slice a n c2] 35, TbO p m L c, RTbO q m L]) := ((K11.out.allocC #[.int .u8 (gk : Int), .int .i32 ga, .int .i32 gb, .int .i32 gc] 47).tail.two.tail).end4
                             clear K11 K9)
                          | (have HX : Hid (Own w _ [Row 47 4 (.slice a5 n c5) n (ccat M), Cells B #[.int .u8 (4 : Int), .int .u32 (oi : Int), .slice a n c2] 35, TbO p m L c, RTbO q m L]) := (((((K11e.out.two.setC 0 (.int .u8 (gk : Int))).setC 1 (.int .i32 ga)).setC 2 (.int .i32 gb)).setC 3 (.int .i32 gc)).tail.two.tail).end4
                             clear K11e)
                        clear HYd HYe HY HF HRG
                        have eqa := eq_a3 9997
                        have g0 : ((gk : Int) == (gk : Int)) = true := by simp
                        have g1 : (ga == ga) = true := by simp
                        have g2 : (gb == gb) = true := by simp
                        have g3 : (gc == gc) = true := by simp
                        have ht0 := HX.out.two.cell 2
                        simp at ht0
                        go_wp2_with fail
                        refine (same_cs _ a5 a n c5 c2 M (Own.rcs HX.out HM.out.1) (HM.out.2.1.quiet HX.out.fr) HM.out.1 (by omega)).mono ?_
                        rintro e w7 ⟨rfl, hf7⟩
                        have H7 : Hid (Own w w7 [Row 47 4 (.slice a5 n c5) n (ccat M), Cells B #[.int .u8 (4 : Int), .int .u32 (oi : Int), .slice a n c2] 35, TbO p m L c, RTbO q m L]) := HX.out.quiet hf7
                        clear hf7 ht0 HX
                        go_wp2
                        go_loopw [165] (fun cv3 wr3 => ∃ j : Nat, j ≤ n ∧ cv3 = .int .i64 j ∧ ∃ C' : List Cp, C'.length = n ∧ Own w wr3 [Row 47 4 (.slice a5 n c5) n (ccat C'), Cells B #[.int .u8 (4 : Int), .int .u32 (oi : Int), .slice a n c2] 35, TbO p m L c, RTbO q m L]) (fun cv3 _ => n - (intOf cv3).toNat)
                        case atStart => exact ⟨0, Nat.zero_le _, rfl, M, HM.out.1, H7.out⟩
                        case round =>
                          obtain ⟨j, hj, rfl, C', hC', hO8⟩ := hrel
                          have H8 : Hid (Own w _ [Row 47 4 (.slice a5 n c5) n (ccat C'), Cells B #[.int .u8 (4 : Int), .int .u32 (oi : Int), .slice a n c2] 35, TbO p m L c, RTbO q m L]) := hO8
                          clear H7
                          by_cases hjn : j < n
                          · have hjn' : (j : Int) < (n : Int) := by omega
                            obtain ⟨y, hy⟩ : ∃ y, C'[j]? = some y := ⟨_, List.getElem?_eq_getElem (by omega)⟩
                            obtain ⟨gl, cl', hvl, _⟩ := row_shape hO8.row (by omega)
                            have hgl := (Value.slice.inj hvl).1
                            subst hgl
                            have f1 := hO8.row.cellAt (j * 4 + 1) (by omega)
                            rw [ccat_at C' j y hy 1 (by decide)] at f1
                            have f1' : World.cell? wr ⟨gl, j * 4 + 1, none⟩ = some (.int .i32 y.a) := f1
                            have f2 := hO8.row.frozenAt (j * 4 + 1)
                            obtain ⟨nv, hnv⟩ : ∃ nv, nv = bits .xor .i32 y.a 1 := ⟨_, rfl⟩
                            have HN : Hid (Own w (World.setCell wr ⟨gl, j * 4 + 1, none⟩ (.int .i32 nv)) [Row 47 4 (.slice (some ⟨gl, 0, none⟩) n c5) n (ccat (C'.set j ⟨y.k, nv, y.b, y.c⟩)), Cells B #[.int .u8 (4 : Int), .int .u32 (oi : Int), .slice a n c2] 35, TbO p m L c, RTbO q m L]) := by
                              have := hO8.setR (j * 4 + 1) (.int .i32 nv)
                              rw [ccat_set1 C' j y nv hy]
                              exact this
                            have HCL : Hid ((C'.set j ⟨y.k, nv, y.b, y.c⟩).length = n) := by show _ = _; rw [List.length_set, hC']
                            clear hO8 hvl hy f1
                            generalize y.a = ya at *
                            have hnv' := hnv.symm
                            clear hnv
                            go_wp2
                            go_region
                            all_goals
                              go_wp2
                              go_roundw
                              case rel => exact ⟨j + 1, by omega, by go_num, _, HCL.out, HN.out.drew⟩
                              case measure => simp [intOf]; omega
                          · have hjn' : ¬ (j : Int) < (n : Int) := by omega
                            have HAL : Hid (Calls _ _ _ _ _) := alike_o w wr _ p q m L c z hO8.tail.tail HT2.out HP.out HQ.out (by have := HT3.out; omega)
                            clear hO8
                            go_wp2_with fail
                            refine HAL.out.mono ?_
                            rintro e w9 ⟨rfl, hO9⟩
                            have H9 : Hid (Own w w9 [TbO p m L c, RTbO q m L]) := hO9
                            clear hO9 HAL
                            go_wp2
                            go_roundw
                            case rel => exact ⟨k + 1, by omega, by go_num, L, c, HT2.out, by have := HT3.out; omega, by omega, H9.out⟩
                            case measure => simp [intOf]; omega
                · have n4 : ¬ od = 4 := hd
                  clear hd
                  as_aux_lemma =>
                    have e0 : ((od : Int) == 0) = false := by rw [beq_eq_false_iff_ne]; omega
                    have e1 : ((od : Int) == 1) = false := by rw [beq_eq_false_iff_ne]; omega
                    have e2 : ((od : Int) == 2) = false := by rw [beq_eq_false_iff_ne]; omega
                    have e3 : ((od : Int) == 3) = false := by rw [beq_eq_false_iff_ne]; omega
                    have e4 : ((od : Int) == 4) = false := by rw [beq_eq_false_iff_ne]; omega
                    have HT2 : Hid (TOk m L) := HTk.out
                    have HT3 : Hid (L.length ≤ k + 1) := by have := HLk.out; show _ ≤ _; omega
                    clear HTk HLk
                    have ht0 := H5.out.two.cell 2
                    simp at ht0
                    go_wp2_with fail
                    refine (same_cs _ a5 a n c5 c2 M (Own.rcs H5.out HM.out.1) (HM.out.2.1.quiet H5.out.fr) HM.out.1 (by omega)).mono ?_
                    rintro e w7 ⟨rfl, hf7⟩
                    have H7 : Hid (Own w w7 [Row 47 4 (.slice a5 n c5) n (ccat M), Cells B #[.int .u8 (od : Int), .int .u32 (oi : Int), .slice a n c2] 35, TbO p m L c, RTbO q m L]) := H5.out.quiet hf7
                    clear hf7 ht0 H5
                    go_wp2
                    go_loopw [165] (fun cv3 wr3 => ∃ j : Nat, j ≤ n ∧ cv3 = .int .i64 j ∧ ∃ C' : List Cp, C'.length = n ∧ Own w wr3 [Row 47 4 (.slice a5 n c5) n (ccat C'), Cells B #[.int .u8 (od : Int), .int .u32 (oi : Int), .slice a n c2] 35, TbO p m L c, RTbO q m L]) (fun cv3 _ => n - (intOf cv3).toNat)
                    case atStart => exact ⟨0, Nat.zero_le _, rfl, M, HM.out.1, H7.out⟩
                    case round =>
                      obtain ⟨j, hj, rfl, C', hC', hO8⟩ := hrel
                      have H8 : Hid (Own w _ [Row 47 4 (.slice a5 n c5) n (ccat C'), Cells B #[.int .u8 (od : Int), .int .u32 (oi : Int), .slice a n c2] 35, TbO p m L c, RTbO q m L]) := hO8
                      clear H7
                      by_cases hjn : j < n
                      · have hjn' : (j : Int) < (n : Int) := by omega
                        obtain ⟨y, hy⟩ : ∃ y, C'[j]? = some y := ⟨_, List.getElem?_eq_getElem (by omega)⟩
                        obtain ⟨gl, cl', hvl, _⟩ := row_shape hO8.row (by omega)
                        have hgl := (Value.slice.inj hvl).1
                        subst hgl
                        have f1 := hO8.row.cellAt (j * 4 + 1) (by omega)
                        rw [ccat_at C' j y hy 1 (by decide)] at f1
                        have f1' : World.cell? wr ⟨gl, j * 4 + 1, none⟩ = some (.int .i32 y.a) := f1
                        have f2 := hO8.row.frozenAt (j * 4 + 1)
                        obtain ⟨nv, hnv⟩ : ∃ nv, nv = bits .xor .i32 y.a 1 := ⟨_, rfl⟩
                        have HN : Hid (Own w (World.setCell wr ⟨gl, j * 4 + 1, none⟩ (.int .i32 nv)) [Row 47 4 (.slice (some ⟨gl, 0, none⟩) n c5) n (ccat (C'.set j ⟨y.k, nv, y.b, y.c⟩)), Cells B #[.int .u8 (od : Int), .int .u32 (oi : Int), .slice a n c2] 35, TbO p m L c, RTbO q m L]) := by
                          have := hO8.setR (j * 4 + 1) (.int .i32 nv)
                          rw [ccat_set1 C' j y nv hy]
                          exact this
                        have HCL : Hid ((C'.set j ⟨y.k, nv, y.b, y.c⟩).length = n) := by show _ = _; rw [List.length_set, hC']
                        clear hO8 hvl hy f1
                        generalize y.a = ya at *
                        have hnv' := hnv.symm
                        clear hnv
                        go_wp2
                        go_region
                        all_goals
                          go_wp2
                          go_roundw
                          case rel => exact ⟨j + 1, by omega, by go_num, _, HCL.out, HN.out.drew⟩
                          case measure => simp [intOf]; omega
                      · have hjn' : ¬ (j : Int) < (n : Int) := by omega
                        have HAL : Hid (Calls _ _ _ _ _) := alike_o w wr _ p q m L c z hO8.tail.tail HT2.out HP.out HQ.out (by have := HT3.out; omega)
                        clear hO8
                        go_wp2_with fail
                        refine HAL.out.mono ?_
                        rintro e w9 ⟨rfl, hO9⟩
                        have H9 : Hid (Own w w9 [TbO p m L c, RTbO q m L]) := hO9
                        clear hO9 HAL
                        go_wp2
                        go_roundw
                        case rel => exact ⟨k + 1, by omega, by go_num, L, c, HT2.out, by have := HT3.out; omega, by omega, H9.out⟩
                        case measure => simp [intOf]; omega
      · have h60' : (60 : Int) ≤ (k : Int) := by omega
        go_wp2
        go_ret
        exact ⟨rfl, HO.out.fr.alloc _⟩
    · have hlt' : ¬ (k : Int) < (len : Int) := by omega
      go_wp2
      go_ret
      exact ⟨rfl, HO.out.fr⟩
theorem tablePlays_walk (w : World) (ht : Tab w) (a0 : Int) (w0 : (Lit.int .u8 a0).wf = true) (a1 : Option Addr) (len1 cap1 : Nat) (z1 : List (Nat × Nat × List Cp)) (w1 : IsOps w a1 len1 cap1 z1) :
    Calls Tryd.prog 3 #[.int .u8 a0, .slice a1 len1 cap1] w fun e w' => e = .returned (.bool true) ∧ Below w.heap.size w w' := by
  obtain ⟨m, rfl, hm⟩ := ok8_nat w0
  refine (tablePlays_fr w ht m hm a1 len1 cap1 z1 (Nat.le_trans w1.2.1 w1.2.2.1) w1.1 w1.2.2.2).mono ?_
  rintro e w' ⟨rfl, hf⟩
  exact ⟨rfl, hf.below (Nat.le_refl _) (fun _ _ h => h)⟩
theorem laidOut : laidOutB Tryd.prog = true := by kernel_rfl

set_option maxRecDepth 100000 in
theorem tablePlays_lifted (os : Os) (started : os.Started) (H : Type) (enc : TypeId × Value → H) :
    ReturnsInHanded {} Tryd.checked os 3 .any (fun w args => (Rows.tablePlaysSpec.pre enc Tryd.prog Tryd.f3 [] false w args ∧ laidMetH Tryd.prog laid1 w) ∧ sizedMet enc Tryd.prog Tryd.f3 (OpenSpec.ofChange Rows.tablePlaysSpec) false w args) (Rows.tablePlaysSpec.post enc Tryd.prog Tryd.f3 false true false false) := by
  refine returnsInHanded_of_change_and (C := Tryd.checked) (X := fun w _ => laidMetH Tryd.prog laid1 w) (fun _ _ _ hh h => h.of_heap hh) own started (by kernel_rfl) Tryd.func3
    (ChangeSpec.witness_shaped (enc := enc) (C := Tryd.checked) (os := os) (X := fun w _ => laidMetH Tryd.prog laid1 w) false (World.doorLaid Tryd.prog 400 os) #[.int .u8 0, .slice none 0 0] 8 rfl (World.shaped_of_RefB (by kernel_rfl) (by kernel_rfl)) (by kernel_rfl) (by kernel_rfl) (by kernel_rfl) (door_met os _)) ?_
  intro W base args ds gs before hval0 hW _ _ hL _
  have hval : ∀ (j : Nat) t v, Tryd.f3.params[j]? = some t → args[j]? = some v → Value.okWide Tryd.prog W .any base t v := hval0
  have hW' := hW
  obtain ⟨p, q, hA0, hV, rfl, hfz, hnd⟩ := hW
  have hA : DataW.TrodAll enc Tryd.prog W 0 (fun _ => true) true Tryd.f3.params.toList args.toList ds p := hA0
  rw [Tryd.params3] at hA hval
  obtain ⟨v0, vs0, d0, ds0, p0, q0, hargs, rfl, rfl, h0, r0⟩ := trodAll_cons hA
  obtain ⟨v1, vs1, d1, ds1, p1, q1, rfl, rfl, rfl, h1, r1⟩ := trodAll_cons r0
  obtain ⟨rfl, rfl, rfl⟩ := trodAll_nil r1
  obtain rfl : args = #[v0, v1] := by cases args; simp_all
  obtain ⟨rfl, rfl⟩ := trodVars_none hV
  obtain ⟨a0, rfl, rfl, rfl, w0⟩ := open_int Tryd.underlying5 (hval 0 5 v0 rfl rfl) h0
  obtain ⟨a1, len1, cap1, rfl⟩ := okWide_slice Tryd.underlying22 (hval 1 22 v1 rfl rfl)
  have k1 := h1
  have lt1 : ∀ x ∈ p1, x.block < W.heap.size := by obtain ⟨m, hm⟩ := k1; exact DataW.trod_lt m _ _ _ hm
  obtain ⟨z1, w1⟩ := open_ops (hval 1 22 _ rfl rfl) h1
  clear hA0 hval0
  refine (tablePlays_walk W (of_laid hL) a0 w0 a1 len1 cap1 z1 w1).mono fun e W' ⟨he, bel⟩ => ?_
  subst he
  exact ⟨_, rfl, _, _, _, [], _, [], hW', trodAll_mk1 (shut_bool Tryd.underlying4 _), (trodAll_cons_mk (shut_int Tryd.underlying5 w0) (trodAll_cons_mk (Below.trod laidOut (by kernel_rfl) (of_decide_eq_true (by kernel_rfl)) k1 bel lt1) trodAll_mk0)), rfl, bel.frame _, fun h => by cases h⟩

theorem tablePlays_row : Rows.TablePlaysSaid :=
  OpenClaim.holds_of_wide 3 Tryd.f3 rfl rfl rfl rfl rfl rfl rfl ⟨rfl, rfl, rfl, rfl, rfl⟩ rfl rfl rfl rfl rfl (by kernel_rfl) Tryd.func3 (by kernel_rfl)
    (of_decide_eq_true (by kernel_rfl)) (by unfold Func.isWrapper; first | (rw [if_pos (by decide +kernel)]; kernel_rfl) | (rw [if_neg (by decide +kernel)]; exact ⟨rfl, rfl⟩))
    (fun os started H enc _ => tablePlays_lifted os started H enc)

theorem tablePlays_holds : Rows.TablePlaysCardSaid :=
  Claim7.holds_tied_plain_at .later [] [.data] true (true, "ec7ac376bd46ffc5ae93e9a2483758c2c60eee6ca9757e115a8aebe9641a6eee") false
    tablePlays_row (fun _ h => by cases h) (by kernel_rfl) (fun _ h => by cases h) tablePlays_row_tie rfl ⟨rfl, rfl⟩ (by kernel_rfl) rfl
    (fun f fn hf hfn => by
      obtain rfl : f = 3 := Option.some.inj ((show Tryd.prog.funcNamed "pinnace/pinnacelaw10.TablePlays" = some 3 by kernel_rfl).symm.trans hf) |>.symm
      obtain rfl : fn = Tryd.f3 := (Option.some.inj (Tryd.func3.symm.trans hfn)).symm
      exact ⟨by kernel_rfl, fun j t ht => by
        rw [Tryd.params3] at ht
        have hm : t ∈ [5, 22] := by simpa using Array.mem_of_getElem? ht
        have hall : ([5, 22].all fun u => !Tryd.prog.wantsStandIn u) = true := by kernel_rfl
        exact (show Tryd.prog.wantsStandIn t = false by simpa using List.all_eq_true.1 hall t hm)⟩)
    (by kernel_rfl)

end Go.Proofs.YtmfdeaaemngbpaaDoor
