/-
  Every script of entities that come, change their make and go has the document's answers, numbers and rows; a nil store's, too; components come back untouched: StorePlays returns true, whatever its arguments, where the table of the components lies as the program's text lays it, and changes nothing that was there.
-/
import Derived.Test.YtibdgdbkdnifbaaGreatDoorEeg
import Derived.OpenShut
import Derived.SevenTiedAt
namespace Go.Proofs.YtibdgdbkdnifbaaGreatDoor
open Go.ChangeShapes Go.WideShapes Go.ChangeAt Go.RowKit
set_option linter.unusedVariables false
set_option maxRecDepth 100000

theorem fld0 (a b c d : Value) (w : World) : (Instr.field 48 (.agg #[a, b, c, d]) 0).run Tryz.prog w = .ok a w := by kernel_rfl
theorem Own.six {w0 w : World} {P Q R S T U : Thing} {l : List Thing} (h : Own w0 w (P :: Q :: R :: S :: T :: U :: l)) : Own w0 w (U :: P :: Q :: R :: S :: T :: l) := h.perm (List.perm_middle (l₁ := [P, Q, R, S, T]) (a := U) (l₂ := l))
theorem fst1_k {C : List Cp} (h : ∀ q ∈ C, q.k < 256) : (fst1 C).k < 256 := by
  cases C with
  | nil => decide
  | cons y C => exact h y (by simp)
theorem pp_isN (p : Option Nat) : (pp p).isNone = p.isNone := by cases p <;> rfl
def ofI (n : Int) : Nat := (n % 18446744073709551616).toNat
theorem ofI_lt (n : Int) : ofI n < 18446744073709551616 := by unfold ofI; omega
theorem ofI_wrap (n : Int) : IntKind.u64.wrap n = (ofI n : Int) := by
  have : IntKind.u64.wrap n = n % 18446744073709551616 := by simp [IntKind.wrap, IntKind.signed, IntKind.bits]
  rw [this]; unfold ofI; omega

set_option maxHeartbeats 8000000 in
theorem storePlays_fr (w : World) (ht : Tab w) (nA fA : Int) (ao : Option Addr) (len cap : Nat) (Q : List (Nat × Int × List Cp)) (hmax : len ≤ maxLen) (hQl : Q.length = len) (hQa : RowsAt (OpT w) 3 w ao Q) :
    Calls Tryz.prog 3 #[.int .i64 nA, .int .i64 fA, .slice ao len cap] w fun e w' => e = .returned (.bool true) ∧ Fr Nobody w w' := by
  unfold maxLen at hmax
  obtain ⟨i0, hi, hz0, hz1, hz2⟩ := info_parts Tryz.infoID2
  have HT : Hid (Tab w) := ht
  have HZ : Hid (Q.length = len ∧ RowsAt (OpT w) 3 w ao Q) := ⟨hQl, hQa⟩
  clear ht hQl hQa
  go_enter Tryz.func3, Tryz.ntmps3
  go_wp2_with fail
  refine (awake11 w w [] HT.out (Own.start _)).mono ?_
  rintro e w1 ⟨rfl, hO⟩
  obtain ⟨z, σ0, hB0, hN, hR⟩ := snew_o w w1 [] nA fA hO
  have HB0 : Hid (σ0.Ok) := hB0
  have HN : Hid (Calls _ _ _ _ _) := hN
  have HR : Hid (∀ w' l', Own w w' l' → Calls Tryz.prog 6 #[.int .i64 nA, .int .i64 fA] w' fun e w'' => ∃ q : Option Nat, e = .returned (.tuple #[.pointer (pp q), .int .i64 (if z then 1 else 0)]) ∧ q.isNone = z ∧ Own w w'' (RSO q σ0 0 :: l')) := hR
  clear hO hB0 hN hR
  generalize (if z = true then (1 : Int) else 0) = ez at *
  go_wp2_with fail
  refine HN.out.mono ?_
  rintro e w2 ⟨p, rfl, hp, hO⟩
  have H2 : Hid (Own w w2 [StO p σ0 0]) := hO
  have HP : Hid (p.isNone = z) := hp
  clear hO HN hp
  go_wp2_with fail
  refine (HR.out w2 _ H2.out).mono ?_
  rintro e w3 ⟨q, rfl, hq, hO⟩
  have H3 : Hid (Own w (w3.alloc (.cells #[.int .u32 0] 32)) [Row 32 1 (.slice (some ⟨w3.heap.size, 0, none⟩) 1 1) 1 (irow .u32 [0]), RSO q σ0 0, StO p σ0 0]) := hO.litRow #[.int .u32 0] 32 1 1 (by decide) rfl
  have HQ : Hid (q.isNone = z) := hq
  have hpn : (pp p).isNone = z := by rw [pp_isN]; exact HP.out
  have hqn : (pp q).isNone = z := by rw [pp_isN]; exact HQ.out
  have hez : (ez != ez) = false := by simp
  clear hO H2 HR hq
  go_wp2
  clear hpn hqn hez
  go_loopw [11, 53] (fun v11 v53 wr => ∃ k : Nat, k ≤ len ∧ v53 = .int .i64 k ∧ ∃ σ Hd ha hc Kc, σ.Ok ∧ (∀ x ∈ Hd, x < 4294967296) ∧ 0 < Hd.length ∧ Hd.length ≤ k + 1 ∧ Kc ≤ 2 * k ∧ v11 = .slice ha Hd.length hc ∧ Own w wr [Row 32 1 (.slice ha Hd.length hc) Hd.length (irow .u32 Hd), RSO q σ Kc, StO p σ Kc]) (fun _ v53 _ => len - (intOf v53).toNat)
  case atStart => exact ⟨0, Nat.zero_le _, rfl, σ0, [0], some ⟨w3.heap.size, 0, none⟩, 1, 0, HB0.out, by simp, by decide, by decide, by decide, rfl, H3.out⟩
  case round =>
    obtain ⟨k, hk, rfl, σ, Hd, ha, hc, Kc, hσ, hhd, hh0, hh1, hKk, rfl, hO⟩ := hrel
    have HS : Hid (σ.Ok) := hσ
    have HHD : Hid (∀ x ∈ Hd, x < 4294967296) := hhd
    generalize hhl : Hd.length = hl at *
    have HHL : Hid (Hd.length = hl) := hhl
    have HO : Hid (Own w wr _) := hO
    clear hO H3 hσ hhd HB0 hhl
    by_cases hlt : k < len
    · obtain ⟨g, o0', hao, od, oi, a, l2, c2, M0, hod, hoi, q0, q1, q2, hM0, hl2, hc2, hcs, hk6⟩ := op_at (HZ.out.2.quiet HO.out.fr) k (by rw [HZ.out.1]; exact hlt)
      subst hao
      unfold maxLen at hc2
      have hlt' : (k : Int) < (len : Int) := by omega
      by_cases h60 : k < 60
      · have h60' : (k : Int) < 60 := by omega
        obtain ⟨n, hn⟩ : ∃ n, n = min l2 20 := ⟨_, rfl⟩
        have hmin : min (l2 : Int) 20 = (n : Int) := by omega
        have hn1 : n ≤ 20 := by omega
        have hn2 : n ≤ l2 := by omega
        clear hn
        obtain ⟨M, hM⟩ : ∃ M, M = M0.take n := ⟨_, rfl⟩
        have HM : Hid (M.length = n ∧ Cs w a M ∧ ∀ q ∈ M, q.k < 256) := by
          rw [hM]; exact ⟨by rw [List.length_take, hM0]; omega, hcs.take n, fun q hq => hk6 q (List.mem_of_mem_take hq)⟩
        clear hM hM0 hcs hk6
        have H4b := HO.out.allocC #[.int .u8 (od : Int), .int .i64 oi, .slice a n c2] 36
        have HTW : Hid (Calls _ _ _ _ _) := twin_any w _ _ H4b a n c2 M HM.out.1 (HM.out.2.1.quiet H4b.fr) (by omega)
        clear H4b
        go_wp2_with fail
        refine HTW.out.mono ?_
        rintro e w5 ⟨a5, c5, rfl, hO5⟩
        generalize wr.heap.size = B at *
        have H5 : Hid (Own w w5 [Row 48 4 (.slice a5 n c5) n (ccat M), Cells B #[.int .u8 (od : Int), .int .i64 oi, .slice a n c2] 36, Row 32 1 (.slice ha hl hc) hl (irow .u32 Hd), RSO q σ Kc, StO p σ Kc]) := hO5
        clear hO5 HTW HO q0 q1 q2
        have b0 := H5.out.two.cell 0
        have b1 := H5.out.two.cell 1
        have b2 := H5.out.two.cell 2
        simp at b0 b1 b2
        obtain ⟨u, hu⟩ : ∃ u, u = ofI oi := ⟨_, rfl⟩
        have huw : IntKind.u64.wrap oi = (u : Int) := by rw [hu]; exact ofI_wrap oi
        have hul : u < 18446744073709551616 := by rw [hu]; exact ofI_lt oi
        obtain ⟨jj, hjj⟩ : ∃ jj : Nat, jj = u % hl := ⟨_, rfl⟩
        have hjl : jj < hl := by rw [hjj]; exact Nat.mod_lt _ hh0
        have ej : (u : Int) % (hl : Int) = (jj : Int) := by rw [hjj]; simp
        obtain ⟨x, hx⟩ : ∃ x, Hd[jj]? = some x := ⟨_, List.getElem?_eq_getElem (by rw [HHL.out]; exact hjl)⟩
        have hxl := HHD.out x (List.mem_of_getElem? hx)
        obtain ⟨g5, cp5, he5, _⟩ := row_shape H5.out.three.row (by omega)
        have hha := (Value.slice.inj he5).1
        subst hha
        have cy : w5.cell? ⟨g5, jj, none⟩ = some (.int .u32 (x : Int)) := by rw [H5.out.three.row.cellAt _ (by omega), getElem?_irow, hx]; rfl
        have hjl' : (jj : Int) < (hl : Int) := by omega
        have hl0 : ((hl : Int) == 0) = false := by rw [beq_eq_false_iff_ne]; omega
        obtain ⟨ho1, ho2⟩ := hoi
        clear hx hjj hu he5
        by_cases hd : od = 0
        · as_aux_lemma =>
            subst hd
            have HQ5 : Hid (Own w w5 [Row 48 4 (.slice a5 n c5) n (ccat M), Cells B #[.int .u8 (0 : Int), .int .i64 oi, .slice a n c2] 36, Row 32 1 (.slice (some ⟨g5, 0, none⟩) hl hc) hl (irow .u32 Hd), RSO q σ Kc, StO p σ Kc]) := H5.out
            clear H5
            have H5 := HQ5
            clear HQ5
            have HC1 : Hid (Calls _ _ _ _ _) := so_0 w w5 _ p σ Kc z H5.out.five HS.out HP.out (by omega) HT.out a5 n c5 M HM.out.1 (fun w' h' => Own.rcs h' HM.out.1) HM.out.2.2 (by omega)
            have HC2 : Hid (∀ w' σ' K', Own w w' [RSO q σ Kc, StO p σ' K', Row 48 4 (.slice a5 n c5) n (ccat M), Cells B #[.int .u8 (0 : Int), .int .i64 oi, .slice a n c2] 36, Row 32 1 (.slice (some ⟨g5, 0, none⟩) hl hc) hl (irow .u32 Hd)] → Calls Tryz.prog 9 #[.pointer (pp q), .slice a n c2] w' fun e w'' => e = .returned (.tuple #[.int .u32 ((o0 z σ M).1 : Int), .int .i64 (o0 z σ M).2.1]) ∧ Own w w'' [RSO q (o0 z σ M).2.2 (Kc + 2), StO p σ' K', Row 48 4 (.slice a5 n c5) n (ccat M), Cells B #[.int .u8 (0 : Int), .int .i64 oi, .slice a n c2] 36, Row 32 1 (.slice (some ⟨g5, 0, none⟩) hl hc) hl (irow .u32 Hd)]) := fun w' σ' K' h' => ro_0 w w' _ q σ Kc z h' HS.out HQ.out (by omega) a n c2 M HM.out.1 (fun w'' h'' => HM.out.2.1.quiet h''.fr) HM.out.2.2 (by omega)
            have hok := o0_ok HS.out z M
            generalize o0 z σ M = rr0 at *
            obtain ⟨A, er, σ'⟩ := rr0
            simp only at HC1 HC2 hok
            have HOK : Hid (σ'.Ok) := hok.1
            have hAA : ((A : Int) == (A : Int)) = true := by simp
            have hee : (er == er) = true := by simp
            obtain ⟨Hd2, hHd2⟩ : ∃ Hd2, Hd2 = Hd ++ [A] := ⟨_, rfl⟩
            have HD2 : Hid ((∀ x ∈ Hd2, x < 4294967296) ∧ Hd2.length = hl + 1) := by
              rw [hHd2]
              exact ⟨fun x hx => by rcases List.mem_append.1 hx with h | h; exact HHD.out x h; rw [List.mem_singleton.1 h]; exact hok.2, by rw [List.length_append, HHL.out]; rfl⟩
            have HD3 : Hid (irow .u32 Hd2 = irow .u32 Hd ++ [.int .u32 (A : Int)]) := by show _ = _; rw [hHd2]; simp [irow]
            clear hok hHd2
            go_wp2_with fail
            refine HC1.out.mono ?_
            rintro e w6 ⟨rfl, hO6⟩
            have b2' := hO6.three.cell 2
            simp at b2'
            have HCR : Hid (Calls _ _ _ _ _) := HC2.out _ _ _ hO6.five
            clear hO6 HC1 HC2 H5 b0 b1 b2 cy
            go_wp2_with fail
            refine HCR.out.mono ?_
            rintro e w8 ⟨rfl, hO8⟩
            have H8 : Hid (Own w w8 [Row 32 1 (.slice (some ⟨g5, 0, none⟩) hl hc) hl (irow .u32 Hd), RSO q σ' (Kc + 2), StO p σ' (Kc + 2), Row 48 4 (.slice a5 n c5) n (ccat M), Cells B #[.int .u8 (0 : Int), .int .i64 oi, .slice a n c2] 36]) := hO8.five
            clear hO8 HCR b2'
            go_wp2_with (at_builtin; refine append1_own rfl _ _ 33 rfl 32 i0 (.int .u32 0) 1 4 Tryz.underlying33 hi hz0 hz1 hz2 rfl (by decide) _ _ _ rfl H8.out _ _ (by simp) rfl rfl (one_int _ _) (by unfold maxLen; omega) (by omega) ?_)
            intro g9 c9 w9 hO9 hsz9
            have HX : Hid (Own w w9 [Row 48 4 (.slice a5 n c5) n (ccat M), Cells B #[.int .u8 (0 : Int), .int .i64 oi, .slice a n c2] 36, Row 32 1 (.slice (some ⟨g9, 0, none⟩) (hl + 1) c9) (hl + 1) (irow .u32 Hd2), RSO q σ' (Kc + 2), StO p σ' (Kc + 2)]) := by
              show Own _ _ _
              rw [HD3.out]
              exact hO9.five.five
            clear hO9 hsz9 H8
            have ht0 := HX.out.two.cell 2
            simp at ht0
            go_wp2_with fail
            refine (same_cs _ a5 a n c5 c2 M (Own.rcs HX.out HM.out.1) (HM.out.2.1.quiet HX.out.fr) HM.out.1 (by omega)).mono ?_
            rintro e w7 ⟨rfl, hf7⟩
            have H7 : Hid (Own w w7 [Row 48 4 (.slice a5 n c5) n (ccat M), Cells B #[.int .u8 (0 : Int), .int .i64 oi, .slice a n c2] 36, Row 32 1 (.slice (some ⟨g9, 0, none⟩) (hl + 1) c9) (hl + 1) (irow .u32 Hd2), RSO q σ' (Kc + 2), StO p σ' (Kc + 2)]) := HX.out.quiet hf7
            clear hf7 ht0 HX
            go_wp2
            go_loopw [209] (fun cv3 wr3 => ∃ j : Nat, j ≤ n ∧ cv3 = .int .i64 j ∧ ∃ C' : List Cp, C'.length = n ∧ Own w wr3 [Row 48 4 (.slice a5 n c5) n (ccat C'), Cells B #[.int .u8 (0 : Int), .int .i64 oi, .slice a n c2] 36, Row 32 1 (.slice (some ⟨g9, 0, none⟩) (hl + 1) c9) (hl + 1) (irow .u32 Hd2), RSO q σ' (Kc + 2), StO p σ' (Kc + 2)]) (fun cv3 _ => n - (intOf cv3).toNat)
            case atStart => exact ⟨0, Nat.zero_le _, rfl, M, HM.out.1, H7.out⟩
            case round =>
              obtain ⟨j, hj, rfl, C', hC', hO8⟩ := hrel
              clear H7
              by_cases hjn : j < n
              · have hjn' : (j : Int) < (n : Int) := by omega
                obtain ⟨y, hy⟩ : ∃ y, C'[j]? = some y := ⟨_, List.getElem?_eq_getElem (by omega)⟩
                obtain ⟨gl, cl', hvl, _⟩ := row_shape hO8.row (by omega)
                have hgl := (Value.slice.inj hvl).1
                subst hgl
                have f1 := hO8.row.cellAt (j * 4 + 1) (by omega)
                rw [ccat_at C' j y hy 1 (by decide)] at f1
                have f1' : World.cell? wr ⟨gl, j * 4 + 1, none⟩ = some (.int .i32 y.a) := f1
                have f2 := hO8.row.frozenAt (j * 4 + 1)
                obtain ⟨nv, hnv⟩ : ∃ nv, nv = bits .xor .i32 y.a 1 := ⟨_, rfl⟩
                have HN : Hid (Own w (World.setCell wr ⟨gl, j * 4 + 1, none⟩ (.int .i32 nv)) _) := hO8.setR (j * 4 + 1) (.int .i32 nv)
                rw [← ccat_set1 C' j y nv hy] at HN
                have HCL : Hid ((C'.set j ⟨y.k, nv, y.b, y.c⟩).length = n) := by show _ = _; rw [List.length_set, hC']
                clear hO8 hvl hy f1
                generalize C'.set j ⟨y.k, nv, y.b, y.c⟩ = C2 at *
                generalize y.a = ya at *
                have hnv' := hnv.symm
                clear hnv
                go_wp2
                go_region
                all_goals
                  go_wp2
                  go_roundw
                  case rel => exact ⟨j + 1, by omega, by go_num, C2, HCL.out, HN.out.drew⟩
                  case measure => simp [intOf]; omega
              · have hjn' : ¬ (j : Int) < (n : Int) := by omega
                have HAL : Hid (Calls _ _ _ _ _) := alike_o w wr _ p q σ' (Kc + 2) z hO8.tail.tail.three.in23 HOK.out HP.out HQ.out (by omega)
                clear hO8
                go_wp2_with fail
                refine HAL.out.mono ?_
                rintro e w9 ⟨rfl, hO9⟩
                have H9 : Hid (Own w w9 [Row 32 1 (.slice (some ⟨g9, 0, none⟩) (hl + 1) c9) (hl + 1) (irow .u32 Hd2), RSO q σ' (Kc + 2), StO p σ' (Kc + 2)]) := hO9.three.in23
                clear hO9 HAL
                go_wp2
                go_roundw
                case rel => exact ⟨k + 1, by omega, by go_num, σ', Hd2, some ⟨g9, 0, none⟩, c9, Kc + 2, HOK.out, HD2.out.1, by rw [HD2.out.2]; omega, by rw [HD2.out.2]; omega, by omega, by rw [HD2.out.2], by rw [HD2.out.2]; exact H9.out⟩
                case measure => simp [intOf]; omega
        · have n0 : ¬ od = 0 := hd
          clear hd
          by_cases hd : od = 1
          · as_aux_lemma =>
              subst hd
              have HQ5 : Hid (Own w w5 [Row 48 4 (.slice a5 n c5) n (ccat M), Cells B #[.int .u8 (1 : Int), .int .i64 oi, .slice a n c2] 36, Row 32 1 (.slice (some ⟨g5, 0, none⟩) hl hc) hl (irow .u32 Hd), RSO q σ Kc, StO p σ Kc]) := H5.out
              clear H5
              have H5 := HQ5
              clear HQ5
              have hd0 : (((1 : Nat) : Int) == 0) = false := by decide
              have HC1 : Hid (Calls _ _ _ _ _) := so_0 w w5 _ p σ Kc z H5.out.five HS.out HP.out (by omega) HT.out a5 n c5 M HM.out.1 (fun w' h' => Own.rcs h' HM.out.1) HM.out.2.2 (by omega)
              have HC2 : Hid (∀ w' σ' K', Own w w' [RSO q σ Kc, StO p σ' K', Row 48 4 (.slice a5 n c5) n (ccat M), Cells B #[.int .u8 (1 : Int), .int .i64 oi, .slice a n c2] 36, Row 32 1 (.slice (some ⟨g5, 0, none⟩) hl hc) hl (irow .u32 Hd)] → Calls Tryz.prog 9 #[.pointer (pp q), .slice a n c2] w' fun e w'' => e = .returned (.tuple #[.int .u32 ((o0 z σ M).1 : Int), .int .i64 (o0 z σ M).2.1]) ∧ Own w w'' [RSO q (o0 z σ M).2.2 (Kc + 2), StO p σ' K', Row 48 4 (.slice a5 n c5) n (ccat M), Cells B #[.int .u8 (1 : Int), .int .i64 oi, .slice a n c2] 36, Row 32 1 (.slice (some ⟨g5, 0, none⟩) hl hc) hl (irow .u32 Hd)]) := fun w' σ' K' h' => ro_0 w w' _ q σ Kc z h' HS.out HQ.out (by omega) a n c2 M HM.out.1 (fun w'' h'' => HM.out.2.1.quiet h''.fr) HM.out.2.2 (by omega)
              have hok := o0_ok HS.out z M
              generalize o0 z σ M = rr0 at *
              obtain ⟨A, er, σ'⟩ := rr0
              simp only at HC1 HC2 hok
              have HOK : Hid (σ'.Ok) := hok.1
              have hAA : ((A : Int) == (A : Int)) = true := by simp
              have hee : (er == er) = true := by simp
              obtain ⟨Hd2, hHd2⟩ : ∃ Hd2, Hd2 = Hd ++ [A] := ⟨_, rfl⟩
              have HD2 : Hid ((∀ x ∈ Hd2, x < 4294967296) ∧ Hd2.length = hl + 1) := by
                rw [hHd2]
                exact ⟨fun x hx => by rcases List.mem_append.1 hx with h | h; exact HHD.out x h; rw [List.mem_singleton.1 h]; exact hok.2, by rw [List.length_append, HHL.out]; rfl⟩
              have HD3 : Hid (irow .u32 Hd2 = irow .u32 Hd ++ [.int .u32 (A : Int)]) := by show _ = _; rw [hHd2]; simp [irow]
              clear hok hHd2
              go_wp2_with fail
              refine HC1.out.mono ?_
              rintro e w6 ⟨rfl, hO6⟩
              have b2' := hO6.three.cell 2
              simp at b2'
              have HCR : Hid (Calls _ _ _ _ _) := HC2.out _ _ _ hO6.five
              clear hO6 HC1 HC2 H5 b0 b1 b2 cy
              go_wp2_with fail
              refine HCR.out.mono ?_
              rintro e w8 ⟨rfl, hO8⟩
              have H8 : Hid (Own w w8 [Row 32 1 (.slice (some ⟨g5, 0, none⟩) hl hc) hl (irow .u32 Hd), RSO q σ' (Kc + 2), StO p σ' (Kc + 2), Row 48 4 (.slice a5 n c5) n (ccat M), Cells B #[.int .u8 (1 : Int), .int .i64 oi, .slice a n c2] 36]) := hO8.five
              clear hO8 HCR b2'
              go_wp2_with (at_builtin; refine append1_own rfl _ _ 33 rfl 32 i0 (.int .u32 0) 1 4 Tryz.underlying33 hi hz0 hz1 hz2 rfl (by decide) _ _ _ rfl H8.out _ _ (by simp) rfl rfl (one_int _ _) (by unfold maxLen; omega) (by omega) ?_)
              intro g9 c9 w9 hO9 hsz9
              have HX : Hid (Own w w9 [Row 48 4 (.slice a5 n c5) n (ccat M), Cells B #[.int .u8 (1 : Int), .int .i64 oi, .slice a n c2] 36, Row 32 1 (.slice (some ⟨g9, 0, none⟩) (hl + 1) c9) (hl + 1) (irow .u32 Hd2), RSO q σ' (Kc + 2), StO p σ' (Kc + 2)]) := by
                show Own _ _ _
                rw [HD3.out]
                exact hO9.five.five
              clear hO9 hsz9 H8
              have ht0 := HX.out.two.cell 2
              simp at ht0
              go_wp2_with fail
              refine (same_cs _ a5 a n c5 c2 M (Own.rcs HX.out HM.out.1) (HM.out.2.1.quiet HX.out.fr) HM.out.1 (by omega)).mono ?_
              rintro e w7 ⟨rfl, hf7⟩
              have H7 : Hid (Own w w7 [Row 48 4 (.slice a5 n c5) n (ccat M), Cells B #[.int .u8 (1 : Int), .int .i64 oi, .slice a n c2] 36, Row 32 1 (.slice (some ⟨g9, 0, none⟩) (hl + 1) c9) (hl + 1) (irow .u32 Hd2), RSO q σ' (Kc + 2), StO p σ' (Kc + 2)]) := HX.out.quiet hf7
              clear hf7 ht0 HX
              go_wp2
              go_loopw [209] (fun cv3 wr3 => ∃ j : Nat, j ≤ n ∧ cv3 = .int .i64 j ∧ ∃ C' : List Cp, C'.length = n ∧ Own w wr3 [Row 48 4 (.slice a5 n c5) n (ccat C'), Cells B #[.int .u8 (1 : Int), .int .i64 oi, .slice a n c2] 36, Row 32 1 (.slice (some ⟨g9, 0, none⟩) (hl + 1) c9) (hl + 1) (irow .u32 Hd2), RSO q σ' (Kc + 2), StO p σ' (Kc + 2)]) (fun cv3 _ => n - (intOf cv3).toNat)
              case atStart => exact ⟨0, Nat.zero_le _, rfl, M, HM.out.1, H7.out⟩
              case round =>
                obtain ⟨j, hj, rfl, C', hC', hO8⟩ := hrel
                clear H7
                by_cases hjn : j < n
                · have hjn' : (j : Int) < (n : Int) := by omega
                  obtain ⟨y, hy⟩ : ∃ y, C'[j]? = some y := ⟨_, List.getElem?_eq_getElem (by omega)⟩
                  obtain ⟨gl, cl', hvl, _⟩ := row_shape hO8.row (by omega)
                  have hgl := (Value.slice.inj hvl).1
                  subst hgl
                  have f1 := hO8.row.cellAt (j * 4 + 1) (by omega)
                  rw [ccat_at C' j y hy 1 (by decide)] at f1
                  have f1' : World.cell? wr ⟨gl, j * 4 + 1, none⟩ = some (.int .i32 y.a) := f1
                  have f2 := hO8.row.frozenAt (j * 4 + 1)
                  obtain ⟨nv, hnv⟩ : ∃ nv, nv = bits .xor .i32 y.a 1 := ⟨_, rfl⟩
                  have HN : Hid (Own w (World.setCell wr ⟨gl, j * 4 + 1, none⟩ (.int .i32 nv)) _) := hO8.setR (j * 4 + 1) (.int .i32 nv)
                  rw [← ccat_set1 C' j y nv hy] at HN
                  have HCL : Hid ((C'.set j ⟨y.k, nv, y.b, y.c⟩).length = n) := by show _ = _; rw [List.length_set, hC']
                  clear hO8 hvl hy f1
                  generalize C'.set j ⟨y.k, nv, y.b, y.c⟩ = C2 at *
                  generalize y.a = ya at *
                  have hnv' := hnv.symm
                  clear hnv
                  go_wp2
                  go_region
                  all_goals
                    go_wp2
                    go_roundw
                    case rel => exact ⟨j + 1, by omega, by go_num, C2, HCL.out, HN.out.drew⟩
                    case measure => simp [intOf]; omega
                · have hjn' : ¬ (j : Int) < (n : Int) := by omega
                  have HAL : Hid (Calls _ _ _ _ _) := alike_o w wr _ p q σ' (Kc + 2) z hO8.tail.tail.three.in23 HOK.out HP.out HQ.out (by omega)
                  clear hO8
                  go_wp2_with fail
                  refine HAL.out.mono ?_
                  rintro e w9 ⟨rfl, hO9⟩
                  have H9 : Hid (Own w w9 [Row 32 1 (.slice (some ⟨g9, 0, none⟩) (hl + 1) c9) (hl + 1) (irow .u32 Hd2), RSO q σ' (Kc + 2), StO p σ' (Kc + 2)]) := hO9.three.in23
                  clear hO9 HAL
                  go_wp2
                  go_roundw
                  case rel => exact ⟨k + 1, by omega, by go_num, σ', Hd2, some ⟨g9, 0, none⟩, c9, Kc + 2, HOK.out, HD2.out.1, by rw [HD2.out.2]; omega, by rw [HD2.out.2]; omega, by omega, by rw [HD2.out.2], by rw [HD2.out.2]; exact H9.out⟩
                  case measure => simp [intOf]; omega
          · have n1 : ¬ od = 1 := hd
            clear hd
            by_cases hd : od = 2
            · as_aux_lemma =>
                subst hd
                have HQ5 : Hid (Own w w5 [Row 48 4 (.slice a5 n c5) n (ccat M), Cells B #[.int .u8 (2 : Int), .int .i64 oi, .slice a n c2] 36, Row 32 1 (.slice (some ⟨g5, 0, none⟩) hl hc) hl (irow .u32 Hd), RSO q σ Kc, StO p σ Kc]) := H5.out
                clear H5
                have H5 := HQ5
                clear HQ5
                have HC1 : Hid (Calls _ _ _ _ _) := so_2 w w5 _ p σ Kc z H5.out.five HS.out HP.out (by omega) x hxl
                have HC2 : Hid (∀ w' l', Own w w' (RSO q σ Kc :: l') → Calls Tryz.prog 11 #[.pointer (pp q), .int .u32 (x : Int)] w' fun e w'' => e = .returned (.int .i64 (o2 z σ x).1) ∧ Own w w'' (RSO q (o2 z σ x).2 (Kc + 2) :: l')) := fun w' l' h' => ro_2 w w' l' q σ Kc z h' HS.out HQ.out (by omega) x hxl
                have hok := o2_ok HS.out z x
                generalize o2 z σ x = rr0 at *
                obtain ⟨er, σ'⟩ := rr0
                simp only at HC1 HC2 hok
                have HOK : Hid (σ'.Ok) := hok
                have hee : (er == er) = true := by simp
                clear hok
                go_wp2_with fail
                refine HC1.out.mono ?_
                rintro e w6 ⟨rfl, hO6⟩
                have HCR : Hid (Calls _ _ _ _ _) := HC2.out _ _ hO6.five
                clear hO6 HC1 HC2 H5 b0 b1 b2 cy
                go_wp2_with fail
                refine HCR.out.mono ?_
                rintro e w8 ⟨rfl, hO8⟩
                have HX : Hid (Own w w8 [Row 48 4 (.slice a5 n c5) n (ccat M), Cells B #[.int .u8 (2 : Int), .int .i64 oi, .slice a n c2] 36, Row 32 1 (.slice (some ⟨g5, 0, none⟩) hl hc) hl (irow .u32 Hd), RSO q σ' (Kc + 2), StO p σ' (Kc + 2)]) := hO8.five.five.five
                clear hO8 HCR
                have ht0 := HX.out.two.cell 2
                simp at ht0
                go_wp2_with fail
                refine (same_cs _ a5 a n c5 c2 M (Own.rcs HX.out HM.out.1) (HM.out.2.1.quiet HX.out.fr) HM.out.1 (by omega)).mono ?_
                rintro e w7 ⟨rfl, hf7⟩
                have H7 : Hid (Own w w7 [Row 48 4 (.slice a5 n c5) n (ccat M), Cells B #[.int .u8 (2 : Int), .int .i64 oi, .slice a n c2] 36, Row 32 1 (.slice (some ⟨g5, 0, none⟩) hl hc) hl (irow .u32 Hd), RSO q σ' (Kc + 2), StO p σ' (Kc + 2)]) := HX.out.quiet hf7
                clear hf7 ht0 HX
                go_wp2
                go_loopw [209] (fun cv3 wr3 => ∃ j : Nat, j ≤ n ∧ cv3 = .int .i64 j ∧ ∃ C' : List Cp, C'.length = n ∧ Own w wr3 [Row 48 4 (.slice a5 n c5) n (ccat C'), Cells B #[.int .u8 (2 : Int), .int .i64 oi, .slice a n c2] 36, Row 32 1 (.slice (some ⟨g5, 0, none⟩) hl hc) hl (irow .u32 Hd), RSO q σ' (Kc + 2), StO p σ' (Kc + 2)]) (fun cv3 _ => n - (intOf cv3).toNat)
                case atStart => exact ⟨0, Nat.zero_le _, rfl, M, HM.out.1, H7.out⟩
                case round =>
                  obtain ⟨j, hj, rfl, C', hC', hO8⟩ := hrel
                  clear H7
                  by_cases hjn : j < n
                  · have hjn' : (j : Int) < (n : Int) := by omega
                    obtain ⟨y, hy⟩ : ∃ y, C'[j]? = some y := ⟨_, List.getElem?_eq_getElem (by omega)⟩
                    obtain ⟨gl, cl', hvl, _⟩ := row_shape hO8.row (by omega)
                    have hgl := (Value.slice.inj hvl).1
                    subst hgl
                    have f1 := hO8.row.cellAt (j * 4 + 1) (by omega)
                    rw [ccat_at C' j y hy 1 (by decide)] at f1
                    have f1' : World.cell? wr ⟨gl, j * 4 + 1, none⟩ = some (.int .i32 y.a) := f1
                    have f2 := hO8.row.frozenAt (j * 4 + 1)
                    obtain ⟨nv, hnv⟩ : ∃ nv, nv = bits .xor .i32 y.a 1 := ⟨_, rfl⟩
                    have HN : Hid (Own w (World.setCell wr ⟨gl, j * 4 + 1, none⟩ (.int .i32 nv)) _) := hO8.setR (j * 4 + 1) (.int .i32 nv)
                    rw [← ccat_set1 C' j y nv hy] at HN
                    have HCL : Hid ((C'.set j ⟨y.k, nv, y.b, y.c⟩).length = n) := by show _ = _; rw [List.length_set, hC']
                    clear hO8 hvl hy f1
                    generalize C'.set j ⟨y.k, nv, y.b, y.c⟩ = C2 at *
                    generalize y.a = ya at *
                    have hnv' := hnv.symm
                    clear hnv
                    go_wp2
                    go_region
                    all_goals
                      go_wp2
                      go_roundw
                      case rel => exact ⟨j + 1, by omega, by go_num, C2, HCL.out, HN.out.drew⟩
                      case measure => simp [intOf]; omega
                  · have hjn' : ¬ (j : Int) < (n : Int) := by omega
                    have HAL : Hid (Calls _ _ _ _ _) := alike_o w wr _ p q σ' (Kc + 2) z hO8.tail.tail.three.in23 HOK.out HP.out HQ.out (by omega)
                    clear hO8
                    go_wp2_with fail
                    refine HAL.out.mono ?_
                    rintro e w9 ⟨rfl, hO9⟩
                    have H9 : Hid (Own w w9 [Row 32 1 (.slice (some ⟨g5, 0, none⟩) hl hc) hl (irow .u32 Hd), RSO q σ' (Kc + 2), StO p σ' (Kc + 2)]) := hO9.three.in23
                    clear hO9 HAL
                    go_wp2
                    go_roundw
                    case rel => exact ⟨k + 1, by omega, by go_num, σ', Hd, some ⟨g5, 0, none⟩, hc, Kc + 2, HOK.out, HHD.out, by rw [HHL.out]; omega, by rw [HHL.out]; omega, by omega, by rw [HHL.out], by rw [HHL.out]; exact H9.out⟩
                    case measure => simp [intOf]; omega
            · have n2 : ¬ od = 2 := hd
              clear hd
              by_cases hd : od = 3
              · as_aux_lemma =>
                  subst hd
                  have HQ5 : Hid (Own w w5 [Row 48 4 (.slice a5 n c5) n (ccat M), Cells B #[.int .u8 (3 : Int), .int .i64 oi, .slice a n c2] 36, Row 32 1 (.slice (some ⟨g5, 0, none⟩) hl hc) hl (irow .u32 Hd), RSO q σ Kc, StO p σ Kc]) := H5.out
                  clear H5
                  have H5 := HQ5
                  clear HQ5
                  obtain ⟨xx, hx⟩ : ∃ xx, xx = fst1 M := ⟨_, rfl⟩
                  have hxk : xx.k < 256 := by rw [hx]; exact fst1_k HM.out.2.2
                  obtain ⟨xk, xa, xb, xc⟩ := xx
                  simp only at hxk
                  have HF : Hid (∀ w' l', Own w w' l' → Calls Tryz.prog 13 #[.slice a n c2] w' fun e w'' => e = .returned (.agg #[.int .u8 (xk : Int), .int .i32 xa, .int .i32 xb, .int .i32 xc]) ∧ Own w w'' l') := fun w' l' h' => by
                    have h1 := first_any w' a n c2 M HM.out.1 (HM.out.2.1.quiet h'.fr)
                    rw [← hx] at h1
                    exact h1.mono (fun e w'' he => ⟨he.1, h'.quiet he.2⟩)
                  clear hx
                  have HC1 : Hid (∀ w' l', Own w w' (StO p σ Kc :: l') → Calls Tryz.prog 12 #[.pointer (pp p), .int .u32 (x : Int), .agg #[.int .u8 (xk : Int), .int .i32 xa, .int .i32 xb, .int .i32 xc]] w' fun e w'' => e = .returned (.int .i64 (o3 z σ x ⟨xk, xa, xb, xc⟩).1) ∧ Own w w'' (StO p (o3 z σ x ⟨xk, xa, xb, xc⟩).2 (Kc + 2) :: l')) := fun w' l' h' => so_3 w w' l' p σ Kc z h' HS.out HP.out (by omega) HT.out x hxl ⟨xk, xa, xb, xc⟩ hxk
                  have HC2 : Hid (∀ w' l', Own w w' (RSO q σ Kc :: l') → Calls Tryz.prog 14 #[.pointer (pp q), .int .u32 (x : Int), .agg #[.int .u8 (xk : Int), .int .i32 xa, .int .i32 xb, .int .i32 xc]] w' fun e w'' => e = .returned (.int .i64 (o3 z σ x ⟨xk, xa, xb, xc⟩).1) ∧ Own w w'' (RSO q (o3 z σ x ⟨xk, xa, xb, xc⟩).2 (Kc + 2) :: l')) := fun w' l' h' => ro_3 w w' l' q σ Kc z h' HS.out HQ.out (by omega) x hxl ⟨xk, xa, xb, xc⟩ hxk
                  have hok := o3_ok HS.out z x ⟨xk, xa, xb, xc⟩
                  generalize o3 z σ x ⟨xk, xa, xb, xc⟩ = rr0 at *
                  obtain ⟨er, σ'⟩ := rr0
                  simp only at HC1 HC2 hok
                  have HOK : Hid (σ'.Ok) := hok
                  have hee : (er == er) = true := by simp
                  have hfl := fld0
                  clear hok
                  have HF1 : Hid (Calls _ _ _ _ _) := HF.out w5.drew _ H5.out.drew
                  go_wp2_with fail
                  go_region_held3 (fun w' : World => w'.cell? ⟨B, 2, none⟩ = some (.slice a n c2)) (go_keep)
                    (first
                      | (go_at_call 13; with_reducible refine HF1.out.mono ?_; rintro e w6 ⟨rfl, hO6⟩
                         have d2 := hO6.two.cell 2
                         simp at d2
                         have H6 : Hid (Own w w6 _) := hO6.five
                         clear hO6)
                      | (go_at_call 12; refine (HC1.out _ _ H6.out).mono ?_; rintro e w8 ⟨rfl, hO8⟩
                         have d2 := hO8.three.cell 2
                         simp at d2
                         have H8 : Hid (Own w w8 _) := hO8
                         clear hO8)
                      | (go_at_call 13; refine (HF.out _ _ H8.out).mono ?_; rintro e w10 ⟨rfl, hO10⟩
                         have d2 := hO10.three.cell 2
                         simp at d2
                         have H10 : Hid (Own w w10 _) := hO10.five
                         clear hO10)
                      | (go_at_call 14; refine (HC2.out _ _ H10.out).mono ?_; rintro e w12 ⟨rfl, hO12⟩
                         have d2 := hO12.four.cell 2
                         simp at d2
                         have HX : Hid (Own w w12 [Row 48 4 (.slice a5 n c5) n (ccat M), Cells B #[.int .u8 (3 : Int), .int .i64 oi, .slice a n c2] 36, Row 32 1 (.slice (some ⟨g5, 0, none⟩) hl hc) hl (irow .u32 Hd), RSO q σ' (Kc + 2), StO p σ' (Kc + 2)]) := hO12.five.five.five
                         clear hO12))
                  all_goals
                    have ht0 := HX.out.two.cell 2
                    simp at ht0
                    go_wp2_with fail
                    refine (same_cs _ a5 a n c5 c2 M (Own.rcs HX.out HM.out.1) (HM.out.2.1.quiet HX.out.fr) HM.out.1 (by omega)).mono ?_
                    rintro e w7 ⟨rfl, hf7⟩
                    have H7 : Hid (Own w w7 [Row 48 4 (.slice a5 n c5) n (ccat M), Cells B #[.int .u8 (3 : Int), .int .i64 oi, .slice a n c2] 36, Row 32 1 (.slice (some ⟨g5, 0, none⟩) hl hc) hl (irow .u32 Hd), RSO q σ' (Kc + 2), StO p σ' (Kc + 2)]) := HX.out.quiet hf7
                    clear hf7 ht0 HX
                    go_wp2
                    go_loopw [209] (fun cv3 wr3 => ∃ j : Nat, j ≤ n ∧ cv3 = .int .i64 j ∧ ∃ C' : List Cp, C'.length = n ∧ Own w wr3 [Row 48 4 (.slice a5 n c5) n (ccat C'), Cells B #[.int .u8 (3 : Int), .int .i64 oi, .slice a n c2] 36, Row 32 1 (.slice (some ⟨g5, 0, none⟩) hl hc) hl (irow .u32 Hd), RSO q σ' (Kc + 2), StO p σ' (Kc + 2)]) (fun cv3 _ => n - (intOf cv3).toNat)
                    case atStart => exact ⟨0, Nat.zero_le _, rfl, M, HM.out.1, H7.out⟩
                    case round =>
                      obtain ⟨j, hj, rfl, C', hC', hO8⟩ := hrel
                      clear H7
                      by_cases hjn : j < n
                      · have hjn' : (j : Int) < (n : Int) := by omega
                        obtain ⟨y, hy⟩ : ∃ y, C'[j]? = some y := ⟨_, List.getElem?_eq_getElem (by omega)⟩
                        obtain ⟨gl, cl', hvl, _⟩ := row_shape hO8.row (by omega)
                        have hgl := (Value.slice.inj hvl).1
                        subst hgl
                        have f1 := hO8.row.cellAt (j * 4 + 1) (by omega)
                        rw [ccat_at C' j y hy 1 (by decide)] at f1
                        have f1' : World.cell? wr ⟨gl, j * 4 + 1, none⟩ = some (.int .i32 y.a) := f1
                        have f2 := hO8.row.frozenAt (j * 4 + 1)
                        obtain ⟨nv, hnv⟩ : ∃ nv, nv = bits .xor .i32 y.a 1 := ⟨_, rfl⟩
                        have HN : Hid (Own w (World.setCell wr ⟨gl, j * 4 + 1, none⟩ (.int .i32 nv)) _) := hO8.setR (j * 4 + 1) (.int .i32 nv)
                        rw [← ccat_set1 C' j y nv hy] at HN
                        have HCL : Hid ((C'.set j ⟨y.k, nv, y.b, y.c⟩).length = n) := by show _ = _; rw [List.length_set, hC']
                        clear hO8 hvl hy f1
                        generalize C'.set j ⟨y.k, nv, y.b, y.c⟩ = C2 at *
                        generalize y.a = ya at *
                        have hnv' := hnv.symm
                        clear hnv
                        go_wp2
                        go_region
                        all_goals
                          go_wp2
                          go_roundw
                          case rel => exact ⟨j + 1, by omega, by go_num, C2, HCL.out, HN.out.drew⟩
                          case measure => simp [intOf]; omega
                      · have hjn' : ¬ (j : Int) < (n : Int) := by omega
                        have HAL : Hid (Calls _ _ _ _ _) := alike_o w wr _ p q σ' (Kc + 2) z hO8.tail.tail.three.in23 HOK.out HP.out HQ.out (by omega)
                        clear hO8
                        go_wp2_with fail
                        refine HAL.out.mono ?_
                        rintro e w9 ⟨rfl, hO9⟩
                        have H9 : Hid (Own w w9 [Row 32 1 (.slice (some ⟨g5, 0, none⟩) hl hc) hl (irow .u32 Hd), RSO q σ' (Kc + 2), StO p σ' (Kc + 2)]) := hO9.three.in23
                        clear hO9 HAL
                        go_wp2
                        go_roundw
                        case rel => exact ⟨k + 1, by omega, by go_num, σ', Hd, some ⟨g5, 0, none⟩, hc, Kc + 2, HOK.out, HHD.out, by rw [HHL.out]; omega, by rw [HHL.out]; omega, by omega, by rw [HHL.out], by rw [HHL.out]; exact H9.out⟩
                        case measure => simp [intOf]; omega
              · have n3 : ¬ od = 3 := hd
                clear hd
                by_cases hd : od = 4
                · as_aux_lemma =>
                    subst hd
                    have HQ5 : Hid (Own w w5 [Row 48 4 (.slice a5 n c5) n (ccat M), Cells B #[.int .u8 (4 : Int), .int .i64 oi, .slice a n c2] 36, Row 32 1 (.slice (some ⟨g5, 0, none⟩) hl hc) hl (irow .u32 Hd), RSO q σ Kc, StO p σ Kc]) := H5.out
                    clear H5
                    have H5 := HQ5
                    clear HQ5
                    obtain ⟨xx, hx⟩ : ∃ xx, xx = fst1 M := ⟨_, rfl⟩
                    have hxk : xx.k < 256 := by rw [hx]; exact fst1_k HM.out.2.2
                    obtain ⟨xk, xa, xb, xc⟩ := xx
                    simp only at hxk
                    have HF : Hid (∀ w' l', Own w w' l' → Calls Tryz.prog 13 #[.slice a n c2] w' fun e w'' => e = .returned (.agg #[.int .u8 (xk : Int), .int .i32 xa, .int .i32 xb, .int .i32 xc]) ∧ Own w w'' l') := fun w' l' h' => by
                      have h1 := first_any w' a n c2 M HM.out.1 (HM.out.2.1.quiet h'.fr)
                      rw [← hx] at h1
                      exact h1.mono (fun e w'' he => ⟨he.1, h'.quiet he.2⟩)
                    clear hx
                    have HC1 : Hid (∀ w' l', Own w w' (StO p σ Kc :: l') → Calls Tryz.prog 15 #[.pointer (pp p), .int .u32 (x : Int), .agg #[.int .u8 (xk : Int), .int .i32 xa, .int .i32 xb, .int .i32 xc]] w' fun e w'' => e = .returned (.int .i64 (o4 z σ x ⟨xk, xa, xb, xc⟩).1) ∧ Own w w'' (StO p (o4 z σ x ⟨xk, xa, xb, xc⟩).2 (Kc + 2) :: l')) := fun w' l' h' => so_4 w w' l' p σ Kc z h' HS.out HP.out (by omega) HT.out x hxl ⟨xk, xa, xb, xc⟩ hxk
                    have HC2 : Hid (∀ w' l', Own w w' (RSO q σ Kc :: l') → Calls Tryz.prog 16 #[.pointer (pp q), .int .u32 (x : Int), .agg #[.int .u8 (xk : Int), .int .i32 xa, .int .i32 xb, .int .i32 xc]] w' fun e w'' => e = .returned (.int .i64 (o4 z σ x ⟨xk, xa, xb, xc⟩).1) ∧ Own w w'' (RSO q (o4 z σ x ⟨xk, xa, xb, xc⟩).2 (Kc + 2) :: l')) := fun w' l' h' => ro_4 w w' l' q σ Kc z h' HS.out HQ.out (by omega) x hxl ⟨xk, xa, xb, xc⟩ hxk
                    have hok := o4_ok HS.out z x ⟨xk, xa, xb, xc⟩
                    generalize o4 z σ x ⟨xk, xa, xb, xc⟩ = rr0 at *
                    obtain ⟨er, σ'⟩ := rr0
                    simp only at HC1 HC2 hok
                    have HOK : Hid (σ'.Ok) := hok
                    have hee : (er == er) = true := by simp
                    have hfl := fld0
                    clear hok
                    have HF1 : Hid (Calls _ _ _ _ _) := HF.out w5.drew _ H5.out.drew
                    go_wp2_with fail
                    go_region_held3 (fun w' : World => w'.cell? ⟨B, 2, none⟩ = some (.slice a n c2)) (go_keep)
                      (first
                        | (go_at_call 13; with_reducible refine HF1.out.mono ?_; rintro e w6 ⟨rfl, hO6⟩
                           have d2 := hO6.two.cell 2
                           simp at d2
                           have H6 : Hid (Own w w6 _) := hO6.five
                           clear hO6)
                        | (go_at_call 15; refine (HC1.out _ _ H6.out).mono ?_; rintro e w8 ⟨rfl, hO8⟩
                           have d2 := hO8.three.cell 2
                           simp at d2
                           have H8 : Hid (Own w w8 _) := hO8
                           clear hO8)
                        | (go_at_call 13; refine (HF.out _ _ H8.out).mono ?_; rintro e w10 ⟨rfl, hO10⟩
                           have d2 := hO10.three.cell 2
                           simp at d2
                           have H10 : Hid (Own w w10 _) := hO10.five
                           clear hO10)
                        | (go_at_call 16; refine (HC2.out _ _ H10.out).mono ?_; rintro e w12 ⟨rfl, hO12⟩
                           have d2 := hO12.four.cell 2
                           simp at d2
                           have HX : Hid (Own w w12 [Row 48 4 (.slice a5 n c5) n (ccat M), Cells B #[.int .u8 (4 : Int), .int .i64 oi, .slice a n c2] 36, Row 32 1 (.slice (some ⟨g5, 0, none⟩) hl hc) hl (irow .u32 Hd), RSO q σ' (Kc + 2), StO p σ' (Kc + 2)]) := hO12.five.five.five
                           clear hO12))
                    all_goals
                      have ht0 := HX.out.two.cell 2
                      simp at ht0
                      go_wp2_with fail
                      refine (same_cs _ a5 a n c5 c2 M (Own.rcs HX.out HM.out.1) (HM.out.2.1.quiet HX.out.fr) HM.out.1 (by omega)).mono ?_
                      rintro e w7 ⟨rfl, hf7⟩
                      have H7 : Hid (Own w w7 [Row 48 4 (.slice a5 n c5) n (ccat M), Cells B #[.int .u8 (4 : Int), .int .i64 oi, .slice a n c2] 36, Row 32 1 (.slice (some ⟨g5, 0, none⟩) hl hc) hl (irow .u32 Hd), RSO q σ' (Kc + 2), StO p σ' (Kc + 2)]) := HX.out.quiet hf7
                      clear hf7 ht0 HX
                      go_wp2
                      go_loopw [209] (fun cv3 wr3 => ∃ j : Nat, j ≤ n ∧ cv3 = .int .i64 j ∧ ∃ C' : List Cp, C'.length = n ∧ Own w wr3 [Row 48 4 (.slice a5 n c5) n (ccat C'), Cells B #[.int .u8 (4 : Int), .int .i64 oi, .slice a n c2] 36, Row 32 1 (.slice (some ⟨g5, 0, none⟩) hl hc) hl (irow .u32 Hd), RSO q σ' (Kc + 2), StO p σ' (Kc + 2)]) (fun cv3 _ => n - (intOf cv3).toNat)
                      case atStart => exact ⟨0, Nat.zero_le _, rfl, M, HM.out.1, H7.out⟩
                      case round =>
                        obtain ⟨j, hj, rfl, C', hC', hO8⟩ := hrel
                        clear H7
                        by_cases hjn : j < n
                        · have hjn' : (j : Int) < (n : Int) := by omega
                          obtain ⟨y, hy⟩ : ∃ y, C'[j]? = some y := ⟨_, List.getElem?_eq_getElem (by omega)⟩
                          obtain ⟨gl, cl', hvl, _⟩ := row_shape hO8.row (by omega)
                          have hgl := (Value.slice.inj hvl).1
                          subst hgl
                          have f1 := hO8.row.cellAt (j * 4 + 1) (by omega)
                          rw [ccat_at C' j y hy 1 (by decide)] at f1
                          have f1' : World.cell? wr ⟨gl, j * 4 + 1, none⟩ = some (.int .i32 y.a) := f1
                          have f2 := hO8.row.frozenAt (j * 4 + 1)
                          obtain ⟨nv, hnv⟩ : ∃ nv, nv = bits .xor .i32 y.a 1 := ⟨_, rfl⟩
                          have HN : Hid (Own w (World.setCell wr ⟨gl, j * 4 + 1, none⟩ (.int .i32 nv)) _) := hO8.setR (j * 4 + 1) (.int .i32 nv)
                          rw [← ccat_set1 C' j y nv hy] at HN
                          have HCL : Hid ((C'.set j ⟨y.k, nv, y.b, y.c⟩).length = n) := by show _ = _; rw [List.length_set, hC']
                          clear hO8 hvl hy f1
                          generalize C'.set j ⟨y.k, nv, y.b, y.c⟩ = C2 at *
                          generalize y.a = ya at *
                          have hnv' := hnv.symm
                          clear hnv
                          go_wp2
                          go_region
                          all_goals
                            go_wp2
                            go_roundw
                            case rel => exact ⟨j + 1, by omega, by go_num, C2, HCL.out, HN.out.drew⟩
                            case measure => simp [intOf]; omega
                        · have hjn' : ¬ (j : Int) < (n : Int) := by omega
                          have HAL : Hid (Calls _ _ _ _ _) := alike_o w wr _ p q σ' (Kc + 2) z hO8.tail.tail.three.in23 HOK.out HP.out HQ.out (by omega)
                          clear hO8
                          go_wp2_with fail
                          refine HAL.out.mono ?_
                          rintro e w9 ⟨rfl, hO9⟩
                          have H9 : Hid (Own w w9 [Row 32 1 (.slice (some ⟨g5, 0, none⟩) hl hc) hl (irow .u32 Hd), RSO q σ' (Kc + 2), StO p σ' (Kc + 2)]) := hO9.three.in23
                          clear hO9 HAL
                          go_wp2
                          go_roundw
                          case rel => exact ⟨k + 1, by omega, by go_num, σ', Hd, some ⟨g5, 0, none⟩, hc, Kc + 2, HOK.out, HHD.out, by rw [HHL.out]; omega, by rw [HHL.out]; omega, by omega, by rw [HHL.out], by rw [HHL.out]; exact H9.out⟩
                          case measure => simp [intOf]; omega
                · have n4 : ¬ od = 4 := hd
                  clear hd
                  by_cases hd : od = 5
                  · as_aux_lemma =>
                      subst hd
                      have HQ5 : Hid (Own w w5 [Row 48 4 (.slice a5 n c5) n (ccat M), Cells B #[.int .u8 (5 : Int), .int .i64 oi, .slice a n c2] 36, Row 32 1 (.slice (some ⟨g5, 0, none⟩) hl hc) hl (irow .u32 Hd), RSO q σ Kc, StO p σ Kc]) := H5.out
                      clear H5
                      have H5 := HQ5
                      clear HQ5
                      obtain ⟨xx, hx⟩ : ∃ xx, xx = fst1 M := ⟨_, rfl⟩
                      have hxk : xx.k < 256 := by rw [hx]; exact fst1_k HM.out.2.2
                      obtain ⟨xk, xa, xb, xc⟩ := xx
                      simp only at hxk
                      have HF : Hid (∀ w' l', Own w w' l' → Calls Tryz.prog 13 #[.slice a n c2] w' fun e w'' => e = .returned (.agg #[.int .u8 (xk : Int), .int .i32 xa, .int .i32 xb, .int .i32 xc]) ∧ Own w w'' l') := fun w' l' h' => by
                        have h1 := first_any w' a n c2 M HM.out.1 (HM.out.2.1.quiet h'.fr)
                        rw [← hx] at h1
                        exact h1.mono (fun e w'' he => ⟨he.1, h'.quiet he.2⟩)
                      clear hx
                      have HC1 : Hid (∀ w' l', Own w w' (StO p σ Kc :: l') → Calls Tryz.prog 17 #[.pointer (pp p), .int .u32 (x : Int), .int .u8 (xk : Int)] w' fun e w'' => e = .returned (.int .i64 (o5 z σ x xk).1) ∧ Own w w'' (StO p (o5 z σ x xk).2 (Kc + 2) :: l')) := fun w' l' h' => so_5 w w' l' p σ Kc z h' HS.out HP.out (by omega) HT.out x hxl xk hxk
                      have HC2 : Hid (∀ w' l', Own w w' (RSO q σ Kc :: l') → Calls Tryz.prog 18 #[.pointer (pp q), .int .u32 (x : Int), .int .u8 (xk : Int)] w' fun e w'' => e = .returned (.int .i64 (o5 z σ x xk).1) ∧ Own w w'' (RSO q (o5 z σ x xk).2 (Kc + 2) :: l')) := fun w' l' h' => ro_5 w w' l' q σ Kc z h' HS.out HQ.out (by omega) x hxl xk hxk
                      have hok := o5_ok HS.out z x xk
                      generalize o5 z σ x xk = rr0 at *
                      obtain ⟨er, σ'⟩ := rr0
                      simp only at HC1 HC2 hok
                      have HOK : Hid (σ'.Ok) := hok
                      have hee : (er == er) = true := by simp
                      have hfl := fld0
                      clear hok
                      have HF1 : Hid (Calls _ _ _ _ _) := HF.out w5.drew _ H5.out.drew
                      go_wp2_with fail
                      go_region_held3 (fun w' : World => w'.cell? ⟨B, 2, none⟩ = some (.slice a n c2)) (go_keep)
                        (first
                          | (go_at_call 13; with_reducible refine HF1.out.mono ?_; rintro e w6 ⟨rfl, hO6⟩
                             have d2 := hO6.two.cell 2
                             simp at d2
                             have H6 : Hid (Own w w6 _) := hO6.five
                             clear hO6)
                          | (go_at_call 17; refine (HC1.out _ _ H6.out).mono ?_; rintro e w8 ⟨rfl, hO8⟩
                             have d2 := hO8.three.cell 2
                             simp at d2
                             have H8 : Hid (Own w w8 _) := hO8
                             clear hO8)
                          | (go_at_call 13; refine (HF.out _ _ H8.out).mono ?_; rintro e w10 ⟨rfl, hO10⟩
                             have d2 := hO10.three.cell 2
                             simp at d2
                             have H10 : Hid (Own w w10 _) := hO10.five
                             clear hO10)
                          | (go_at_call 18; refine (HC2.out _ _ H10.out).mono ?_; rintro e w12 ⟨rfl, hO12⟩
                             have d2 := hO12.four.cell 2
                             simp at d2
                             have HX : Hid (Own w w12 [Row 48 4 (.slice a5 n c5) n (ccat M), Cells B #[.int .u8 (5 : Int), .int .i64 oi, .slice a n c2] 36, Row 32 1 (.slice (some ⟨g5, 0, none⟩) hl hc) hl (irow .u32 Hd), RSO q σ' (Kc + 2), StO p σ' (Kc + 2)]) := hO12.five.five.five
                             clear hO12))
                      all_goals
                        have ht0 := HX.out.two.cell 2
                        simp at ht0
                        go_wp2_with fail
                        refine (same_cs _ a5 a n c5 c2 M (Own.rcs HX.out HM.out.1) (HM.out.2.1.quiet HX.out.fr) HM.out.1 (by omega)).mono ?_
                        rintro e w7 ⟨rfl, hf7⟩
                        have H7 : Hid (Own w w7 [Row 48 4 (.slice a5 n c5) n (ccat M), Cells B #[.int .u8 (5 : Int), .int .i64 oi, .slice a n c2] 36, Row 32 1 (.slice (some ⟨g5, 0, none⟩) hl hc) hl (irow .u32 Hd), RSO q σ' (Kc + 2), StO p σ' (Kc + 2)]) := HX.out.quiet hf7
                        clear hf7 ht0 HX
                        go_wp2
                        go_loopw [209] (fun cv3 wr3 => ∃ j : Nat, j ≤ n ∧ cv3 = .int .i64 j ∧ ∃ C' : List Cp, C'.length = n ∧ Own w wr3 [Row 48 4 (.slice a5 n c5) n (ccat C'), Cells B #[.int .u8 (5 : Int), .int .i64 oi, .slice a n c2] 36, Row 32 1 (.slice (some ⟨g5, 0, none⟩) hl hc) hl (irow .u32 Hd), RSO q σ' (Kc + 2), StO p σ' (Kc + 2)]) (fun cv3 _ => n - (intOf cv3).toNat)
                        case atStart => exact ⟨0, Nat.zero_le _, rfl, M, HM.out.1, H7.out⟩
                        case round =>
                          obtain ⟨j, hj, rfl, C', hC', hO8⟩ := hrel
                          clear H7
                          by_cases hjn : j < n
                          · have hjn' : (j : Int) < (n : Int) := by omega
                            obtain ⟨y, hy⟩ : ∃ y, C'[j]? = some y := ⟨_, List.getElem?_eq_getElem (by omega)⟩
                            obtain ⟨gl, cl', hvl, _⟩ := row_shape hO8.row (by omega)
                            have hgl := (Value.slice.inj hvl).1
                            subst hgl
                            have f1 := hO8.row.cellAt (j * 4 + 1) (by omega)
                            rw [ccat_at C' j y hy 1 (by decide)] at f1
                            have f1' : World.cell? wr ⟨gl, j * 4 + 1, none⟩ = some (.int .i32 y.a) := f1
                            have f2 := hO8.row.frozenAt (j * 4 + 1)
                            obtain ⟨nv, hnv⟩ : ∃ nv, nv = bits .xor .i32 y.a 1 := ⟨_, rfl⟩
                            have HN : Hid (Own w (World.setCell wr ⟨gl, j * 4 + 1, none⟩ (.int .i32 nv)) _) := hO8.setR (j * 4 + 1) (.int .i32 nv)
                            rw [← ccat_set1 C' j y nv hy] at HN
                            have HCL : Hid ((C'.set j ⟨y.k, nv, y.b, y.c⟩).length = n) := by show _ = _; rw [List.length_set, hC']
                            clear hO8 hvl hy f1
                            generalize C'.set j ⟨y.k, nv, y.b, y.c⟩ = C2 at *
                            generalize y.a = ya at *
                            have hnv' := hnv.symm
                            clear hnv
                            go_wp2
                            go_region
                            all_goals
                              go_wp2
                              go_roundw
                              case rel => exact ⟨j + 1, by omega, by go_num, C2, HCL.out, HN.out.drew⟩
                              case measure => simp [intOf]; omega
                          · have hjn' : ¬ (j : Int) < (n : Int) := by omega
                            have HAL : Hid (Calls _ _ _ _ _) := alike_o w wr _ p q σ' (Kc + 2) z hO8.tail.tail.three.in23 HOK.out HP.out HQ.out (by omega)
                            clear hO8
                            go_wp2_with fail
                            refine HAL.out.mono ?_
                            rintro e w9 ⟨rfl, hO9⟩
                            have H9 : Hid (Own w w9 [Row 32 1 (.slice (some ⟨g5, 0, none⟩) hl hc) hl (irow .u32 Hd), RSO q σ' (Kc + 2), StO p σ' (Kc + 2)]) := hO9.three.in23
                            clear hO9 HAL
                            go_wp2
                            go_roundw
                            case rel => exact ⟨k + 1, by omega, by go_num, σ', Hd, some ⟨g5, 0, none⟩, hc, Kc + 2, HOK.out, HHD.out, by rw [HHL.out]; omega, by rw [HHL.out]; omega, by omega, by rw [HHL.out], by rw [HHL.out]; exact H9.out⟩
                            case measure => simp [intOf]; omega
                  · have n5 : ¬ od = 5 := hd
                    clear hd
                    by_cases hd : od = 6
                    · as_aux_lemma =>
                        subst hd
                        have HQ5 : Hid (Own w w5 [Row 48 4 (.slice a5 n c5) n (ccat M), Cells B #[.int .u8 (6 : Int), .int .i64 oi, .slice a n c2] 36, Row 32 1 (.slice (some ⟨g5, 0, none⟩) hl hc) hl (irow .u32 Hd), RSO q σ Kc, StO p σ Kc]) := H5.out
                        clear H5
                        have H5 := HQ5
                        clear HQ5
                        obtain ⟨xx, hx⟩ : ∃ xx, xx = fst1 M := ⟨_, rfl⟩
                        have hxk : xx.k < 256 := by rw [hx]; exact fst1_k HM.out.2.2
                        obtain ⟨xk, xa, xb, xc⟩ := xx
                        simp only at hxk
                        have HF : Hid (∀ w' l', Own w w' l' → Calls Tryz.prog 13 #[.slice a n c2] w' fun e w'' => e = .returned (.agg #[.int .u8 (xk : Int), .int .i32 xa, .int .i32 xb, .int .i32 xc]) ∧ Own w w'' l') := fun w' l' h' => by
                          have h1 := first_any w' a n c2 M HM.out.1 (HM.out.2.1.quiet h'.fr)
                          rw [← hx] at h1
                          exact h1.mono (fun e w'' he => ⟨he.1, h'.quiet he.2⟩)
                        clear hx
                        have HC1 : Hid (∀ w' l', Own w w' (StO p σ Kc :: l') → Calls Tryz.prog 19 #[.pointer (pp p), .int .u32 (x : Int), .int .u8 (xk : Int)] w' fun e w'' => e = .returned (.tuple #[(o6 z σ x xk).2.ag, .int .i64 ((o6 z σ x xk).1 : Int)]) ∧ Own w w'' (StO p σ (Kc + 2) :: l')) := fun w' l' h' => so_6 w w' l' p σ Kc z h' HS.out HP.out (by omega) x hxl xk hxk
                        have HC2 : Hid (∀ w' l', Own w w' (RSO q σ Kc :: l') → Calls Tryz.prog 20 #[.pointer (pp q), .int .u32 (x : Int), .int .u8 (xk : Int)] w' fun e w'' => e = .returned (.tuple #[(o6 z σ x xk).2.ag, .int .i64 ((o6 z σ x xk).1 : Int)]) ∧ Own w w'' (RSO q σ (Kc + 2) :: l')) := fun w' l' h' => ro_6 w w' l' q σ Kc z h' HS.out HQ.out (by omega) x hxl xk hxk
                        generalize o6 z σ x xk = rr0 at *
                        obtain ⟨ge, gk, ga, gb, gc⟩ := rr0
                        simp only [Cp.ag] at HC1 HC2
                        have HOK : Hid (σ.Ok) := HS.out
                        have hee : ((ge : Int) == (ge : Int)) = true := by simp
                        have hfl := fld0
                        have eqa := eq_a3 9997
                        have g0 : ((gk : Int) == (gk : Int)) = true := by simp
                        have g1 : (ga == ga) = true := by simp
                        have g2 : (gb == gb) = true := by simp
                        have g3 : (gc == gc) = true := by simp
                        have HF1 : Hid (Calls _ _ _ _ _) := HF.out w5 _ H5.out
                        go_wp2_with fail
                        refine HF1.out.mono ?_
                        rintro e w6 ⟨rfl, hO6⟩
                        have HG1 : Hid (Calls _ _ _ _ _) := HC1.out _ _ hO6.five
                        clear hO6 HF1 HC1 H5 b0 b1 b2 cy
                        go_wp2_with fail
                        refine HG1.out.mono ?_
                        rintro e w8 ⟨rfl, hO8⟩
                        have hO9 := hO8.allocC #[.int .u8 (gk : Int), .int .i32 ga, .int .i32 gb, .int .i32 gc] 48
                        have d2 := hO9.four.cell 2
                        simp at d2
                        have HF2 : Hid (Calls _ _ _ _ _) := HF.out _ _ hO9
                        clear hO8 hO9 HG1 HF
                        go_wp2_with fail
                        refine HF2.out.mono ?_
                        rintro e w10 ⟨rfl, hO10⟩
                        have HG2 : Hid (Calls _ _ _ _ _) := HC2.out _ _ hO10.six
                        clear hO10 HF2 HC2 d2
                        go_wp2_with fail
                        refine HG2.out.mono ?_
                        rintro e w12 ⟨rfl, hO12⟩
                        have hO13 := hO12.allocC #[.int .u8 (gk : Int), .int .i32 ga, .int .i32 gb, .int .i32 gc] 48
                        have r0 := hO13.three.cell 0
                        have r1 := hO13.three.cell 1
                        have r2 := hO13.three.cell 2
                        have r3 := hO13.three.cell 3
                        simp at r0 r1 r2 r3
                        obtain ⟨σ', hσ'⟩ : ∃ σ', σ' = σ := ⟨_, rfl⟩
                        rw [← hσ'] at HOK hO13
                        have HX : Hid (Own w _ [Row 48 4 (.slice a5 n c5) n (ccat M), Cells B #[.int .u8 (6 : Int), .int .i64 oi, .slice a n c2] 36, Row 32 1 (.slice (some ⟨g5, 0, none⟩) hl hc) hl (irow .u32 Hd), RSO q σ' (Kc + 2), StO p σ' (Kc + 2)]) := hO13.tail.two.tail.five.five.five
                        clear hO12 hO13 HG2 hσ'
                        have ht0 := HX.out.two.cell 2
                        simp at ht0
                        go_wp2_with fail
                        refine (same_cs _ a5 a n c5 c2 M (Own.rcs HX.out HM.out.1) (HM.out.2.1.quiet HX.out.fr) HM.out.1 (by omega)).mono ?_
                        rintro e w7 ⟨rfl, hf7⟩
                        have H7 : Hid (Own w w7 [Row 48 4 (.slice a5 n c5) n (ccat M), Cells B #[.int .u8 (6 : Int), .int .i64 oi, .slice a n c2] 36, Row 32 1 (.slice (some ⟨g5, 0, none⟩) hl hc) hl (irow .u32 Hd), RSO q σ' (Kc + 2), StO p σ' (Kc + 2)]) := HX.out.quiet hf7
                        clear hf7 ht0 HX
                        go_wp2
                        go_loopw [209] (fun cv3 wr3 => ∃ j : Nat, j ≤ n ∧ cv3 = .int .i64 j ∧ ∃ C' : List Cp, C'.length = n ∧ Own w wr3 [Row 48 4 (.slice a5 n c5) n (ccat C'), Cells B #[.int .u8 (6 : Int), .int .i64 oi, .slice a n c2] 36, Row 32 1 (.slice (some ⟨g5, 0, none⟩) hl hc) hl (irow .u32 Hd), RSO q σ' (Kc + 2), StO p σ' (Kc + 2)]) (fun cv3 _ => n - (intOf cv3).toNat)
                        case atStart => exact ⟨0, Nat.zero_le _, rfl, M, HM.out.1, H7.out⟩
                        case round =>
                          obtain ⟨j, hj, rfl, C', hC', hO8⟩ := hrel
                          clear H7
                          by_cases hjn : j < n
                          · have hjn' : (j : Int) < (n : Int) := by omega
                            obtain ⟨y, hy⟩ : ∃ y, C'[j]? = some y := ⟨_, List.getElem?_eq_getElem (by omega)⟩
                            obtain ⟨gl, cl', hvl, _⟩ := row_shape hO8.row (by omega)
                            have hgl := (Value.slice.inj hvl).1
                            subst hgl
                            have f1 := hO8.row.cellAt (j * 4 + 1) (by omega)
                            rw [ccat_at C' j y hy 1 (by decide)] at f1
                            have f1' : World.cell? wr ⟨gl, j * 4 + 1, none⟩ = some (.int .i32 y.a) := f1
                            have f2 := hO8.row.frozenAt (j * 4 + 1)
                            obtain ⟨nv, hnv⟩ : ∃ nv, nv = bits .xor .i32 y.a 1 := ⟨_, rfl⟩
                            have HN : Hid (Own w (World.setCell wr ⟨gl, j * 4 + 1, none⟩ (.int .i32 nv)) _) := hO8.setR (j * 4 + 1) (.int .i32 nv)
                            rw [← ccat_set1 C' j y nv hy] at HN
                            have HCL : Hid ((C'.set j ⟨y.k, nv, y.b, y.c⟩).length = n) := by show _ = _; rw [List.length_set, hC']
                            clear hO8 hvl hy f1
                            generalize C'.set j ⟨y.k, nv, y.b, y.c⟩ = C2 at *
                            generalize y.a = ya at *
                            have hnv' := hnv.symm
                            clear hnv
                            go_wp2
                            go_region
                            all_goals
                              go_wp2
                              go_roundw
                              case rel => exact ⟨j + 1, by omega, by go_num, C2, HCL.out, HN.out.drew⟩
                              case measure => simp [intOf]; omega
                          · have hjn' : ¬ (j : Int) < (n : Int) := by omega
                            have HAL : Hid (Calls _ _ _ _ _) := alike_o w wr _ p q σ' (Kc + 2) z hO8.tail.tail.three.in23 HOK.out HP.out HQ.out (by omega)
                            clear hO8
                            go_wp2_with fail
                            refine HAL.out.mono ?_
                            rintro e w9 ⟨rfl, hO9⟩
                            have H9 : Hid (Own w w9 [Row 32 1 (.slice (some ⟨g5, 0, none⟩) hl hc) hl (irow .u32 Hd), RSO q σ' (Kc + 2), StO p σ' (Kc + 2)]) := hO9.three.in23
                            clear hO9 HAL
                            go_wp2
                            go_roundw
                            case rel => exact ⟨k + 1, by omega, by go_num, σ', Hd, some ⟨g5, 0, none⟩, hc, Kc + 2, HOK.out, HHD.out, by rw [HHL.out]; omega, by rw [HHL.out]; omega, by omega, by rw [HHL.out], by rw [HHL.out]; exact H9.out⟩
                            case measure => simp [intOf]; omega
                    · have n6 : ¬ od = 6 := hd
                      clear hd
                      as_aux_lemma =>
                        have e0 : ((od : Int) == 0) = false := by rw [beq_eq_false_iff_ne]; omega
                        have e1 : ((od : Int) == 1) = false := by rw [beq_eq_false_iff_ne]; omega
                        have e2 : ((od : Int) == 2) = false := by rw [beq_eq_false_iff_ne]; omega
                        have e3 : ((od : Int) == 3) = false := by rw [beq_eq_false_iff_ne]; omega
                        have e4 : ((od : Int) == 4) = false := by rw [beq_eq_false_iff_ne]; omega
                        have e5 : ((od : Int) == 5) = false := by rw [beq_eq_false_iff_ne]; omega
                        have e6 : ((od : Int) == 6) = false := by rw [beq_eq_false_iff_ne]; omega
                        obtain ⟨σ', hσ'⟩ : ∃ σ', σ' = σ := ⟨_, rfl⟩
                        have HOK : Hid (σ'.Ok) := by rw [hσ']; exact HS.out
                        have HX : Hid (Own w w5 [Row 48 4 (.slice a5 n c5) n (ccat M), Cells B #[.int .u8 (od : Int), .int .i64 oi, .slice a n c2] 36, Row 32 1 (.slice (some ⟨g5, 0, none⟩) hl hc) hl (irow .u32 Hd), RSO q σ' (Kc + 2), StO p σ' (Kc + 2)]) := by
                          rw [hσ']
                          exact (RSO.up (show Kc ≤ Kc + 2 by omega) (StO.up (show Kc ≤ Kc + 2 by omega) H5.out.five).five).five.five.five
                        clear H5 hσ'
                        have ht0 := HX.out.two.cell 2
                        simp at ht0
                        go_wp2_with fail
                        refine (same_cs _ a5 a n c5 c2 M (Own.rcs HX.out HM.out.1) (HM.out.2.1.quiet HX.out.fr) HM.out.1 (by omega)).mono ?_
                        rintro e w7 ⟨rfl, hf7⟩
                        have H7 : Hid (Own w w7 [Row 48 4 (.slice a5 n c5) n (ccat M), Cells B #[.int .u8 (od : Int), .int .i64 oi, .slice a n c2] 36, Row 32 1 (.slice (some ⟨g5, 0, none⟩) hl hc) hl (irow .u32 Hd), RSO q σ' (Kc + 2), StO p σ' (Kc + 2)]) := HX.out.quiet hf7
                        clear hf7 ht0 HX
                        go_wp2
                        go_loopw [209] (fun cv3 wr3 => ∃ j : Nat, j ≤ n ∧ cv3 = .int .i64 j ∧ ∃ C' : List Cp, C'.length = n ∧ Own w wr3 [Row 48 4 (.slice a5 n c5) n (ccat C'), Cells B #[.int .u8 (od : Int), .int .i64 oi, .slice a n c2] 36, Row 32 1 (.slice (some ⟨g5, 0, none⟩) hl hc) hl (irow .u32 Hd), RSO q σ' (Kc + 2), StO p σ' (Kc + 2)]) (fun cv3 _ => n - (intOf cv3).toNat)
                        case atStart => exact ⟨0, Nat.zero_le _, rfl, M, HM.out.1, H7.out⟩
                        case round =>
                          obtain ⟨j, hj, rfl, C', hC', hO8⟩ := hrel
                          clear H7
                          by_cases hjn : j < n
                          · have hjn' : (j : Int) < (n : Int) := by omega
                            obtain ⟨y, hy⟩ : ∃ y, C'[j]? = some y := ⟨_, List.getElem?_eq_getElem (by omega)⟩
                            obtain ⟨gl, cl', hvl, _⟩ := row_shape hO8.row (by omega)
                            have hgl := (Value.slice.inj hvl).1
                            subst hgl
                            have f1 := hO8.row.cellAt (j * 4 + 1) (by omega)
                            rw [ccat_at C' j y hy 1 (by decide)] at f1
                            have f1' : World.cell? wr ⟨gl, j * 4 + 1, none⟩ = some (.int .i32 y.a) := f1
                            have f2 := hO8.row.frozenAt (j * 4 + 1)
                            obtain ⟨nv, hnv⟩ : ∃ nv, nv = bits .xor .i32 y.a 1 := ⟨_, rfl⟩
                            have HN : Hid (Own w (World.setCell wr ⟨gl, j * 4 + 1, none⟩ (.int .i32 nv)) _) := hO8.setR (j * 4 + 1) (.int .i32 nv)
                            rw [← ccat_set1 C' j y nv hy] at HN
                            have HCL : Hid ((C'.set j ⟨y.k, nv, y.b, y.c⟩).length = n) := by show _ = _; rw [List.length_set, hC']
                            clear hO8 hvl hy f1
                            generalize C'.set j ⟨y.k, nv, y.b, y.c⟩ = C2 at *
                            generalize y.a = ya at *
                            have hnv' := hnv.symm
                            clear hnv
                            go_wp2
                            go_region
                            all_goals
                              go_wp2
                              go_roundw
                              case rel => exact ⟨j + 1, by omega, by go_num, C2, HCL.out, HN.out.drew⟩
                              case measure => simp [intOf]; omega
                          · have hjn' : ¬ (j : Int) < (n : Int) := by omega
                            have HAL : Hid (Calls _ _ _ _ _) := alike_o w wr _ p q σ' (Kc + 2) z hO8.tail.tail.three.in23 HOK.out HP.out HQ.out (by omega)
                            clear hO8
                            go_wp2_with fail
                            refine HAL.out.mono ?_
                            rintro e w9 ⟨rfl, hO9⟩
                            have H9 : Hid (Own w w9 [Row 32 1 (.slice (some ⟨g5, 0, none⟩) hl hc) hl (irow .u32 Hd), RSO q σ' (Kc + 2), StO p σ' (Kc + 2)]) := hO9.three.in23
                            clear hO9 HAL
                            go_wp2
                            go_roundw
                            case rel => exact ⟨k + 1, by omega, by go_num, σ', Hd, some ⟨g5, 0, none⟩, hc, Kc + 2, HOK.out, HHD.out, by rw [HHL.out]; omega, by rw [HHL.out]; omega, by omega, by rw [HHL.out], by rw [HHL.out]; exact H9.out⟩
                            case measure => simp [intOf]; omega
      · have h60' : (60 : Int) ≤ (k : Int) := by omega
        go_wp2
        go_ret
        exact ⟨rfl, HO.out.fr.alloc _⟩
    · have hlt' : ¬ (k : Int) < (len : Int) := by omega
      go_wp2
      go_ret
      exact ⟨rfl, HO.out.fr⟩
theorem storePlays_walk (w : World) (ht : Tab w) (a0 : Int) (w0 : (Lit.int .i64 a0).wf = true) (a1 : Int) (w1 : (Lit.int .i64 a1).wf = true) (a2 : Option Addr) (len2 cap2 : Nat) (z2 : List (Nat × Int × List Cp)) (w2 : IsOps w a2 len2 cap2 z2) :
    Calls Tryz.prog 3 #[.int .i64 a0, .int .i64 a1, .slice a2 len2 cap2] w fun e w' => e = .returned (.bool true) ∧ Below w.heap.size w w' := by
  refine (storePlays_fr w ht a0 a1 a2 len2 cap2 z2 (Nat.le_trans w2.2.1 w2.2.2.1) w2.1 w2.2.2.2).mono ?_
  rintro e w' ⟨rfl, hf⟩
  exact ⟨rfl, hf.below (Nat.le_refl _) (fun _ _ h => h)⟩
theorem laidOut : laidOutB Tryz.prog = true := by kernel_rfl

set_option maxRecDepth 100000 in
theorem storePlays_lifted (os : Os) (started : os.Started) (H : Type) (enc : TypeId × Value → H) :
    ReturnsInHanded {} Tryz.checked os 3 .any (fun w args => (Rows.storePlaysSpec.pre enc Tryz.prog Tryz.f3 [] false w args ∧ laidMetH Tryz.prog laid1 w) ∧ sizedMet enc Tryz.prog Tryz.f3 (OpenSpec.ofChange Rows.storePlaysSpec) false w args) (Rows.storePlaysSpec.post enc Tryz.prog Tryz.f3 false true false false) := by
  refine returnsInHanded_of_change_and (C := Tryz.checked) (X := fun w _ => laidMetH Tryz.prog laid1 w) (fun _ _ _ hh h => h.of_heap hh) own started (by kernel_rfl) Tryz.func3
    (ChangeSpec.witness_shaped (enc := enc) (C := Tryz.checked) (os := os) (X := fun w _ => laidMetH Tryz.prog laid1 w) false (World.doorLaid Tryz.prog 400 os) #[.int .i64 0, .int .i64 0, .slice none 0 0] 8 rfl (World.shaped_of_RefB (by kernel_rfl) (by kernel_rfl)) (by kernel_rfl) (by kernel_rfl) (by kernel_rfl) (door_met os _)) ?_
  intro W base args ds gs before hval0 hW _ _ hL _
  have hval : ∀ (j : Nat) t v, Tryz.f3.params[j]? = some t → args[j]? = some v → Value.okWide Tryz.prog W .any base t v := hval0
  have hW' := hW
  obtain ⟨p, q, hA0, hV, rfl, hfz, hnd⟩ := hW
  have hA : DataW.TrodAll enc Tryz.prog W 0 (fun _ => true) true Tryz.f3.params.toList args.toList ds p := hA0
  rw [Tryz.params3] at hA hval
  obtain ⟨v0, vs0, d0, ds0, p0, q0, hargs, rfl, rfl, h0, r0⟩ := trodAll_cons hA
  obtain ⟨v1, vs1, d1, ds1, p1, q1, rfl, rfl, rfl, h1, r1⟩ := trodAll_cons r0
  obtain ⟨v2, vs2, d2, ds2, p2, q2, rfl, rfl, rfl, h2, r2⟩ := trodAll_cons r1
  obtain ⟨rfl, rfl, rfl⟩ := trodAll_nil r2
  obtain rfl : args = #[v0, v1, v2] := by cases args; simp_all
  obtain ⟨rfl, rfl⟩ := trodVars_none hV
  obtain ⟨a0, rfl, rfl, rfl, w0⟩ := open_int Tryz.underlying3 (hval 0 3 v0 rfl rfl) h0
  obtain ⟨a1, rfl, rfl, rfl, w1⟩ := open_int Tryz.underlying3 (hval 1 3 v1 rfl rfl) h1
  obtain ⟨a2, len2, cap2, rfl⟩ := okWide_slice Tryz.underlying22 (hval 2 22 v2 rfl rfl)
  have k2 := h2
  have lt2 : ∀ x ∈ p2, x.block < W.heap.size := by obtain ⟨m, hm⟩ := k2; exact DataW.trod_lt m _ _ _ hm
  obtain ⟨z2, w2⟩ := open_ops (hval 2 22 _ rfl rfl) h2
  clear hA0 hval0
  refine (storePlays_walk W (of_laid hL) a0 w0 a1 w1 a2 len2 cap2 z2 w2).mono fun e W' ⟨he, bel⟩ => ?_
  subst he
  exact ⟨_, rfl, _, _, _, [], _, [], hW', trodAll_mk1 (shut_bool Tryz.underlying4 _), (trodAll_cons_mk (shut_int Tryz.underlying3 w0) (trodAll_cons_mk (shut_int Tryz.underlying3 w1) (trodAll_cons_mk (Below.trod laidOut (by kernel_rfl) (of_decide_eq_true (by kernel_rfl)) k2 bel lt2) trodAll_mk0))), rfl, bel.frame _, fun h => by cases h⟩

theorem storePlays_row : Rows.StorePlaysSaid :=
  OpenClaim.holds_of_wide 3 Tryz.f3 rfl rfl rfl rfl rfl rfl rfl ⟨rfl, rfl, rfl, rfl, rfl⟩ rfl rfl rfl rfl rfl (by kernel_rfl) Tryz.func3 (by kernel_rfl)
    (of_decide_eq_true (by kernel_rfl)) (by unfold Func.isWrapper; first | (rw [if_pos (by decide +kernel)]; kernel_rfl) | (rw [if_neg (by decide +kernel)]; exact ⟨rfl, rfl⟩))
    (fun os started H enc _ => storePlays_lifted os started H enc)

theorem storePlays_holds : Rows.StorePlaysCardSaid :=
  Claim7.holds_tied_plain_at .later [] [.data] true (true, "5128d4991bfd203bda54391c38c15b991a5cd755ee0044fa409606cb96883ad8") false
    storePlays_row (fun _ h => by cases h) (by kernel_rfl) (fun _ h => by cases h) storePlays_row_tie rfl ⟨rfl, rfl⟩ (by kernel_rfl) rfl
    (fun f fn hf hfn => by
      obtain rfl : f = 3 := Option.some.inj ((show Tryz.prog.funcNamed "pinnace/pinnacelaw11.StorePlays" = some 3 by kernel_rfl).symm.trans hf) |>.symm
      obtain rfl : fn = Tryz.f3 := (Option.some.inj (Tryz.func3.symm.trans hfn)).symm
      exact ⟨by kernel_rfl, fun j t ht => by
        rw [Tryz.params3] at ht
        have hm : t ∈ [3, 3, 22] := by simpa using Array.mem_of_getElem? ht
        have hall : ([3, 3, 22].all fun u => !Tryz.prog.wantsStandIn u) = true := by kernel_rfl
        exact (show Tryz.prog.wantsStandIn t = false by simpa using List.all_eq_true.1 hall t hm)⟩)
    (by kernel_rfl)

end Go.Proofs.YtibdgdbkdnifbaaGreatDoor
