/-
  Every script of IDs that are taken and freed, right ones and wrong ones, has the document's answers, of a nil object too: SlotsPlays returns true, whatever its arguments, and changes nothing that was there.
-/
import Derived.Test.YtficpeghmkbdpaaXq
import Derived.ProofKit
import Derived.OpenShut
import Derived.ShutString
import Derived.ChangeOld
namespace Go.Proofs.Ytficpeghmkbdpaa
open Go.ChangeShapes Go.WideShapes Go.ChangeAt Go.RowKit
set_option linter.unusedVariables false

theorem own : ownKnob Try.prog.godebug = none := by kernel_rfl
theorem i64_rng {n : Int} (h : (Lit.int .i64 n).wf = true) : -9223372036854775808 ≤ n ∧ n ≤ 9223372036854775807 := by simpa [Lit.wf, IntKind.min, IntKind.max, IntKind.signed, IntKind.bits] using h
def ofI (n : Int) : Nat := (n % 18446744073709551616).toNat
theorem ofI_lt (n : Int) : ofI n < 18446744073709551616 := by unfold ofI; omega
theorem ofI_wrap (n : Int) : IntKind.u64.wrap n = (ofI n : Int) := by
  have : IntKind.u64.wrap n = n % 18446744073709551616 := by simp [IntKind.wrap, IntKind.signed, IntKind.bits]
  rw [this]; unfold ofI; omega
theorem u32_add (x : Nat) (h : x < 4294967296) : ∃ y : Nat, IntKind.u32.wrap ((x : Int) + 1024) = (y : Int) ∧ y < 4294967296 := by
  have : IntKind.u32.wrap ((x : Int) + 1024) = ((x : Int) + 1024) % 4294967296 := by simp [IntKind.wrap, IntKind.signed, IntKind.bits]
  exact ⟨(x + 1024) % 4294967296, by rw [this]; omega, by omega⟩

set_option maxHeartbeats 4000000 in
set_option maxRecDepth 100000 in
theorem slotsPlays_fr (n F : Int) (w : World) (ao : Option Addr) (len cap : Nat) (Z : List Int) (hmax : len ≤ maxLen) (hZl : Z.length = len) (hZa : Ints .i64 w ao Z) (hZb : ∀ n ∈ Z, (Lit.int .i64 n).wf = true) :
    Calls Try.prog 4 #[.int .i64 n, .int .i64 F, .slice ao len cap] w fun e w' => e = .returned (.bool true) ∧ Fr Nobody w w' := by
  unfold maxLen at hmax
  have HZ : Hid (Z.length = len ∧ Ints .i64 w ao Z ∧ ∀ n ∈ Z, (Lit.int .i64 n).wf = true) := ⟨hZl, hZa, hZb⟩
  obtain ⟨i0, hi, hz0, hz1, hz2⟩ := info_parts Try.infoID
  clear hZl hZa hZb
  go_enter Try.func4, Try.ntmps4
  go_wp2_with fail
  refine (awake_any w w [] (Own.start _)).mono ?_
  rintro e w1 ⟨rfl, hO⟩
  obtain ⟨z, S0, hS0, hT0, hN, hR⟩ := new_o w w1 [] n F hO
  have HS0 : Hid (S0.Ok ∧ Stamp S0 (fun _ => 0) 0) := ⟨hS0, hT0⟩
  have HN : Hid (Calls _ _ _ _ _) := hN
  have HR : Hid (∀ w' l', Own w w' l' → Calls Try.prog 17 #[.int .i64 n, .int .i64 F] w' fun e w'' => ∃ q, e = .returned (.tuple #[.pointer (pp q), .int .i64 (if z then 1 else 0)]) ∧ q.isNone = z ∧ Own w w'' (RSlO q S0 (fun _ => 0) 0 :: l')) := hR
  clear hO hS0 hT0 hN hR
  generalize (if z = true then (1 : Int) else 0) = ez at *
  go_wp2_with fail
  refine HN.out.mono ?_
  rintro e w2 ⟨p, rfl, hp, hO⟩
  have H2 : Hid (Own w w2 [SlO p S0]) := hO
  have HP : Hid (p.isNone = z) := hp
  clear hO HN hp
  go_wp2_with fail
  refine (HR.out w2 _ H2.out).mono ?_
  rintro e w3 ⟨q, rfl, hq, hO⟩
  have H3 : Hid (Own w w3 [Row 23 1 (.slice none 0 0) 0 [], SlO p S0, RSlO q S0 (fun _ => 0) 0]) := hO.two.nilRow _ _
  have HQ : Hid (q.isNone = z) := hq
  have hpn : (pp p).isNone = z := by rw [pp_none]; exact HP.out
  have hqn : (pp q).isNone = z := by rw [pp_none]; exact HQ.out
  have hez : (ez != ez) = false := by simp
  clear hO H2 HR hq
  go_wp2
  clear hpn hqn hez
  go_loopw [11, 47] (fun hv c wr => ∃ k : Nat, k ≤ len ∧ c = .int .i64 k ∧ ∃ S f ck had ha hc, S.Ok ∧ Stamp S f ck ∧ (k ≤ 120 → ck ≤ k ∧ had.length ≤ k) ∧ (∀ x ∈ had, x < 4294967296) ∧ hv = .slice ha had.length hc ∧ Own w wr [Row 23 1 (.slice ha had.length hc) had.length (irow .u32 had), SlO p S, RSlO q S f ck]) (fun _ c _ => len - (intOf c).toNat)
  case atStart => exact ⟨0, Nat.zero_le _, rfl, S0, fun _ => 0, 0, [], none, 0, HS0.out.1, HS0.out.2, fun _ => ⟨Nat.le_refl _, Nat.le_refl _⟩, by simp, rfl, H3.out⟩
  case round =>
    obtain ⟨k, hk, rfl, S, f, ck, had, ha, hc, hS, hT, hck, hhd, rfl, hO⟩ := hrel
    have HO : Hid (Own w wr _) := hO
    have HS : Hid (S.Ok ∧ Stamp S f ck ∧ (k ≤ 120 → ck ≤ k ∧ had.length ≤ k) ∧ ∀ x ∈ had, x < 4294967296) := ⟨hS, hT, hck, hhd⟩
    clear hO H3 hS hT hck hhd
    by_cases hlt : k < len
    · obtain ⟨o, hz⟩ : ∃ o, Z[k]? = some o := ⟨_, List.getElem?_eq_getElem (by rw [HZ.out.1]; exact hlt)⟩
      have ho := i64_rng (HZ.out.2.2 o (List.mem_of_getElem? hz))
      obtain ⟨g, o0, hao, cx⟩ : ∃ g o0, ao = some ⟨g, o0, none⟩ ∧ wr.cell? ⟨g, o0 + k, none⟩ = some (.int .i64 o) := by
        rcases HZ.out.2.1.quiet HO.out.fr with h | ⟨g, o0, h1, h2⟩
        · subst h; simp at hz
        · exact ⟨g, o0, h1, h2 k _ hz⟩
      subst hao
      obtain ⟨ho1, ho2⟩ := ho
      clear hz
      by_cases h120 : k < 120
      · have h120' : (k : Int) < 120 := by omega
        have hhl : had.length ≤ 120 := by have := HS.out.2.2.1 (by omega); omega
        have HCK : Hid (ck ≤ k ∧ had.length ≤ k) := HS.out.2.2.1 (by omega)
        by_cases htake : (0 ≤ o ∧ o % 3 < 2) ∨ had.length = 0
        · have HTK : Hid (tkI z S < 4294967296 ∧ (tkS z S).Ok) := ⟨tkI_lt S z HS.out.1, tkS_ok S z HS.out.1⟩
          have hcase : (0 ≤ o ∧ o % 3 < 2) ∨ (0 ≤ o ∧ 2 ≤ o % 3 ∧ had = []) ∨ (o < 0 ∧ had = []) := by
            rcases htake with h | h
            · exact .inl h
            · have hn : had = [] := List.eq_nil_of_length_eq_zero h
              by_cases h0 : 0 ≤ o
              · by_cases h3 : o % 3 < 2
                · exact .inl ⟨h0, h3⟩
                · exact .inr (.inl ⟨h0, by omega, hn⟩)
              · exact .inr (.inr ⟨by omega, hn⟩)
          clear htake
          have e1 : ((tkI z S : Int) != (tkI z S : Int)) = false := by simp
          have e2 : (tkE z S != tkE z S) = false := by simp
          obtain ⟨hd', hhd'⟩ : ∃ h', h' = had ++ [tkI z S] := ⟨_, rfl⟩
          have HH : Hid (hd' = had ++ [tkI z S] ∧ (∀ x ∈ hd', x < 4294967296) ∧ hd'.length = had.length + 1 ∧ hd'.length ≤ k + 1) := by
            refine ⟨hhd', ?_, by rw [hhd']; simp, by rw [hhd']; have := HCK.out; simp; omega⟩
            intro x hx
            rw [hhd'] at hx
            rcases List.mem_append.1 hx with hx | hx
            · exact HS.out.2.2.2 x hx
            · have : x = tkI z S := by simpa using hx
              rw [this]; exact HTK.out.1
          clear hhd'
          rcases hcase with ⟨h0, h3⟩ | ⟨h0, h3, rfl⟩ | ⟨h0, rfl⟩
          all_goals
            try simp only [List.length_nil] at *
            go_wp2_with fail
            refine (take_o w wr _ p S z HO.out.two HS.out.1 HP.out).mono ?_
            rintro e w4 ⟨rfl, hO⟩
            have H4 : Hid (Own w w4 _) := hO
            clear hO HO cx
            go_wp2_with fail
            refine (rtake_o w w4 _ q S f ck z H4.out.three HS.out.1 HS.out.2.1 (by have := HCK.out; omega) HQ.out).mono ?_
            rintro e w5 ⟨rfl, f', hT', hO⟩
            have H5 : Hid (Own w w5 _) := hO
            have HT' : Hid (Stamp (tkS z S) f' ck) := hT'
            clear hO hT' H4
            go_wp2_with (at_builtin; refine append1_own rfl _ _ 39 rfl 23 i0 (.int .u32 0) 1 4 Try.underlying39 hi hz0 hz1 hz2 rfl (by decide) _ _ _ rfl H5.out.three _ _ (by simp) rfl rfl (one_int _ _) (by unfold maxLen; omega) (by omega) ?_)
            intro g' cap' w6 hO6 hsz
            have H6 : Hid (Own w w6 [Row 23 1 (.slice (some ⟨g', 0, none⟩) hd'.length cap') hd'.length (irow .u32 hd'), SlO p (tkS z S), RSlO q (tkS z S) f' ck]) := by
              show Own _ _ _
              rw [HH.out.2.2.1, HH.out.1, irow_append]
              exact hO6.in23
            have HX : Hid ((tkS z S).Ok ∧ Stamp (tkS z S) f' ck) := ⟨HTK.out.2, HT'.out⟩
            clear hO6 H5 hsz
            go_wp2_with fail
            refine (rlist_o w w6 _ q (tkS z S) f' ck z H6.out.three HX.out.1 HX.out.2 HQ.out).mono ?_
            rintro e w7 ⟨v1, rfl, hO⟩
            obtain ⟨b1, c1, rfl⟩ := row_any hO.row
            have H7 : Hid (Own w w7 [Row 23 1 (.slice b1 (lsL z (tkS z S)).length c1) (lsL z (tkS z S)).length (irow .u32 (lsL z (tkS z S))), RSlO q (tkS z S) f' ck, Row 23 1 (.slice (some ⟨g', 0, none⟩) hd'.length cap') hd'.length (irow .u32 hd'), SlO p (tkS z S)]) := hO
            clear hO H6
            go_wp2_with fail
            refine (list_o w w7 _ p (tkS z S) z H7.out.four HX.out.1 HP.out).mono ?_
            rintro e w8 ⟨v2, rfl, hO⟩
            have H8 : Hid (Own w w8 [Row 23 1 v2 (lsL z (tkS z S)).length (irow .u32 (lsL z (tkS z S))), SlO p (tkS z S), Row 23 1 (.slice b1 (lsL z (tkS z S)).length c1) (lsL z (tkS z S)).length (irow .u32 (lsL z (tkS z S))), RSlO q (tkS z S) f' ck, Row 23 1 (.slice (some ⟨g', 0, none⟩) hd'.length cap') hd'.length (irow .u32 hd')]) := hO
            clear hO H7
            go_wp2_with fail
            refine (same_ok w8 v2 _ (lsL z (tkS z S)) H8.out.nums H8.out.three.nums (by have := lsL_le (tkS z S) z HX.out.1; omega)).mono ?_
            rintro e w9 ⟨rfl, hf⟩
            have H9 : Hid (Own w w9 [SlO p (tkS z S), Row 23 1 (.slice b1 (lsL z (tkS z S)).length c1) (lsL z (tkS z S)).length (irow .u32 (lsL z (tkS z S))), RSlO q (tkS z S) f' ck, Row 23 1 (.slice (some ⟨g', 0, none⟩) hd'.length cap') hd'.length (irow .u32 hd')]) := (H8.out.quiet hf).tail
            clear hf H8
            go_wp2_with fail
            refine (len_o w w9 _ p (tkS z S) z H9.out HX.out.1 HP.out).mono ?_
            rintro e w10 ⟨rfl, hO⟩
            have H10 : Hid (Own w w10 [SlO p (tkS z S), Row 23 1 (.slice b1 (lsL z (tkS z S)).length c1) (lsL z (tkS z S)).length (irow .u32 (lsL z (tkS z S))), RSlO q (tkS z S) f' ck, Row 23 1 (.slice (some ⟨g', 0, none⟩) hd'.length cap') hd'.length (irow .u32 hd')]) := hO
            have hl1 : (((lsL z (tkS z S)).length : Int) != ((lsL z (tkS z S)).length : Int)) = false := by simp
            clear hO H9
            go_wp2_with fail
            refine (room_o w w10 _ p (tkS z S) z H10.out HX.out.1 HP.out).mono ?_
            rintro e w11 ⟨rfl, hO⟩
            have H11 : Hid (Own w w11 [Row 23 1 (.slice (some ⟨g', 0, none⟩) hd'.length cap') hd'.length (irow .u32 hd'), SlO p (tkS z S), RSlO q (tkS z S) f' ck]) := hO.two.tail.three
            have hl2 : ((rmN z (tkS z S) : Int) != (rmN z (tkS z S) : Int)) = false := by simp
            clear hO H10
            go_wp2
            go_roundw
            case rel => exact ⟨k + 1, by omega, by go_num, tkS z S, f', ck, hd', some ⟨g', 0, none⟩, cap', HX.out.1, HX.out.2, fun _ => ⟨by have := HCK.out; omega, HH.out.2.2.2⟩, HH.out.2.1, by rw [HH.out.2.2.1], H11.out⟩
            case measure => simp [intOf]; omega
        · have hpos : 0 < had.length := by omega
          have hno : o < 0 ∨ (0 ≤ o ∧ 2 ≤ o % 3) := by omega
          clear htake
          obtain ⟨u, hu⟩ : ∃ u, u = ofI o := ⟨_, rfl⟩
          have huw : IntKind.u64.wrap o = (u : Int) := by rw [hu]; exact ofI_wrap o
          obtain ⟨j, hj⟩ : ∃ j : Nat, j = u % had.length := ⟨_, rfl⟩
          have hjl : j < had.length := by rw [hj]; exact Nat.mod_lt _ hpos
          have ej : (u : Int) % (had.length : Int) = (j : Int) := by rw [hj]; simp
          obtain ⟨x, hx⟩ : ∃ x, had[j]? = some x := ⟨_, List.getElem?_eq_getElem hjl⟩
          have hxl := HS.out.2.2.2 x (List.mem_of_getElem? hx)
          have r := HO.out.row
          obtain ⟨g5, c5, he5, _⟩ := row_shape r hpos
          cases he5
          have cy : wr.cell? ⟨g5, j, none⟩ = some (.int .u32 (x : Int)) := by rw [r.cellAt _ (by omega), getElem?_irow, hx]; rfl
          have hul : u < 18446744073709551616 := by rw [hu]; exact ofI_lt o
          obtain ⟨y, hy, hyl⟩ := u32_add x hxl
          have hjl' : (j : Int) < (had.length : Int) := by omega
          have hl0 : ((had.length : Int) == 0) = false := by rw [beq_eq_false_iff_ne]; omega
          have HY : Hid (x < 4294967296 ∧ y < 4294967296) := ⟨hxl, hyl⟩
          have HHD : Hid (had.length ≤ k ∧ ∀ x ∈ had, x < 4294967296) := ⟨HCK.out.2, HS.out.2.2.2⟩
          clear r hx hj hu
          have hcase : (o < 0 ∧ (o.tmod 5 == 4) = false) ∨ (0 ≤ o ∧ 2 ≤ o % 3 ∧ (o % 5 == 4) = false) ∨ (0 ≤ o ∧ 2 ≤ o % 3 ∧ (o % 5 == 4) = true) := by
            rcases hno with h | ⟨h1, h2⟩
            · left
              refine ⟨h, ?_⟩
              have : o.tmod 5 ≤ 0 := by
                have h1 : (-(-o)).tmod 5 = -((-o).tmod 5) := Int.neg_tmod _ _
                have h2 : 0 ≤ (-o).tmod 5 := Int.tmod_nonneg _ (by omega)
                rw [Int.neg_neg] at h1; omega
              simp; omega
            · by_cases c : o % 5 = 4
              · right; right; exact ⟨h1, h2, by simp [c]⟩
              · right; left; exact ⟨h1, h2, by simp [c]⟩
          clear hno
          rcases hcase with ⟨h0, h5⟩ | ⟨h0, h3, h5⟩ | ⟨h0, h3, h5⟩
          · have e1 : (frE z S x != frE z S x) = false := by simp
            have e2 : (lvB z (frS z S x) x != lvB z (frS z S x) x) = false := by simp
            go_wp2_with fail
            refine (free_o w wr _ p S z x HY.out.1 HO.out.two HS.out.1 HP.out).mono ?_
            rintro e w4 ⟨rfl, hO⟩
            have H4 : Hid (Own w w4 _) := hO
            clear hO HO cx cy
            go_wp2_with fail
            refine (rfree_o w w4 _ q S f ck z x HY.out.1 H4.out.three HS.out.1 HS.out.2.1 (by have := HCK.out; omega) HQ.out).mono ?_
            rintro e w5 ⟨rfl, f', ck', hck', hT', hO⟩
            have HX : Hid ((frS z S x).Ok ∧ Stamp (frS z S x) f' ck') := ⟨frS_ok S z HS.out.1 x, hT'⟩
            have HCK' : Hid (ck' ≤ k + 1) := by have := HCK.out; show ck' ≤ k + 1; omega
            have H5 : Hid (Own w w5 [RSlO q (frS z S x) f' ck', SlO p (frS z S x), Row 23 1 (.slice (some ⟨g5, 0, none⟩) had.length hc) had.length (irow .u32 had)]) := hO
            clear hO hT' H4 hck'
            go_wp2_with fail
            refine (live_o w w5 _ p (frS z S x) z x HY.out.1 H5.out.two HX.out.1 HP.out).mono ?_
            rintro e w6 ⟨rfl, hO⟩
            have H6 : Hid (Own w w6 _) := hO
            clear hO H5
            go_wp2_with fail
            refine (rlive_o w w6 _ q (frS z S x) f' ck' z x HY.out.1 H6.out.two HX.out.1 HQ.out).mono ?_
            rintro e w6b ⟨rfl, hO⟩
            have H6b : Hid (Own w w6b [Row 23 1 (.slice (some ⟨g5, 0, none⟩) had.length hc) had.length (irow .u32 had), SlO p (frS z S x), RSlO q (frS z S x) f' ck']) := hO.three.in23
            clear hO H6
            go_wp2_with fail
            refine (rlist_o w w6b _ q (frS z S x) f' ck' z H6b.out.three HX.out.1 HX.out.2 HQ.out).mono ?_
            rintro e w7 ⟨v1, rfl, hO⟩
            obtain ⟨b1, c1, rfl⟩ := row_any hO.row
            have H7 : Hid (Own w w7 [Row 23 1 (.slice b1 (lsL z (frS z S x)).length c1) (lsL z (frS z S x)).length (irow .u32 (lsL z (frS z S x))), RSlO q (frS z S x) f' ck', Row 23 1 (.slice (some ⟨g5, 0, none⟩) had.length hc) had.length (irow .u32 had), SlO p (frS z S x)]) := hO
            clear hO H6b
            go_wp2_with fail
            refine (list_o w w7 _ p (frS z S x) z H7.out.four HX.out.1 HP.out).mono ?_
            rintro e w8 ⟨v2, rfl, hO⟩
            have H8 : Hid (Own w w8 [Row 23 1 v2 (lsL z (frS z S x)).length (irow .u32 (lsL z (frS z S x))), SlO p (frS z S x), Row 23 1 (.slice b1 (lsL z (frS z S x)).length c1) (lsL z (frS z S x)).length (irow .u32 (lsL z (frS z S x))), RSlO q (frS z S x) f' ck', Row 23 1 (.slice (some ⟨g5, 0, none⟩) had.length hc) had.length (irow .u32 had)]) := hO
            clear hO H7
            go_wp2_with fail
            refine (same_ok w8 v2 _ (lsL z (frS z S x)) H8.out.nums H8.out.three.nums (by have := lsL_le (frS z S x) z HX.out.1; omega)).mono ?_
            rintro e w9 ⟨rfl, hf⟩
            have H9 : Hid (Own w w9 [SlO p (frS z S x), Row 23 1 (.slice b1 (lsL z (frS z S x)).length c1) (lsL z (frS z S x)).length (irow .u32 (lsL z (frS z S x))), RSlO q (frS z S x) f' ck', Row 23 1 (.slice (some ⟨g5, 0, none⟩) had.length hc) had.length (irow .u32 had)]) := (H8.out.quiet hf).tail
            clear hf H8
            go_wp2_with fail
            refine (len_o w w9 _ p (frS z S x) z H9.out HX.out.1 HP.out).mono ?_
            rintro e w10 ⟨rfl, hO⟩
            have H10 : Hid (Own w w10 [SlO p (frS z S x), Row 23 1 (.slice b1 (lsL z (frS z S x)).length c1) (lsL z (frS z S x)).length (irow .u32 (lsL z (frS z S x))), RSlO q (frS z S x) f' ck', Row 23 1 (.slice (some ⟨g5, 0, none⟩) had.length hc) had.length (irow .u32 had)]) := hO
            have hl1 : (((lsL z (frS z S x)).length : Int) != ((lsL z (frS z S x)).length : Int)) = false := by simp
            clear hO H9
            go_wp2_with fail
            refine (room_o w w10 _ p (frS z S x) z H10.out HX.out.1 HP.out).mono ?_
            rintro e w11 ⟨rfl, hO⟩
            have H11 : Hid (Own w w11 [Row 23 1 (.slice (some ⟨g5, 0, none⟩) had.length hc) had.length (irow .u32 had), SlO p (frS z S x), RSlO q (frS z S x) f' ck']) := hO.two.tail.three
            have hl2 : ((rmN z (frS z S x) : Int) != (rmN z (frS z S x) : Int)) = false := by simp
            clear hO H10
            go_wp2
            go_roundw
            case rel => exact ⟨k + 1, by omega, by go_num, frS z S x, f', ck', had, some ⟨g5, 0, none⟩, hc, HX.out.1, HX.out.2, fun _ => ⟨HCK'.out, by have := HHD.out.1; omega⟩, HHD.out.2, rfl, H11.out⟩
            case measure => simp [intOf]; omega
          · have e1 : (frE z S x != frE z S x) = false := by simp
            have e2 : (lvB z (frS z S x) x != lvB z (frS z S x) x) = false := by simp
            go_wp2_with fail
            refine (free_o w wr _ p S z x HY.out.1 HO.out.two HS.out.1 HP.out).mono ?_
            rintro e w4 ⟨rfl, hO⟩
            have H4 : Hid (Own w w4 _) := hO
            clear hO HO cx cy
            go_wp2_with fail
            refine (rfree_o w w4 _ q S f ck z x HY.out.1 H4.out.three HS.out.1 HS.out.2.1 (by have := HCK.out; omega) HQ.out).mono ?_
            rintro e w5 ⟨rfl, f', ck', hck', hT', hO⟩
            have HX : Hid ((frS z S x).Ok ∧ Stamp (frS z S x) f' ck') := ⟨frS_ok S z HS.out.1 x, hT'⟩
            have HCK' : Hid (ck' ≤ k + 1) := by have := HCK.out; show ck' ≤ k + 1; omega
            have H5 : Hid (Own w w5 [RSlO q (frS z S x) f' ck', SlO p (frS z S x), Row 23 1 (.slice (some ⟨g5, 0, none⟩) had.length hc) had.length (irow .u32 had)]) := hO
            clear hO hT' H4 hck'
            go_wp2_with fail
            refine (live_o w w5 _ p (frS z S x) z x HY.out.1 H5.out.two HX.out.1 HP.out).mono ?_
            rintro e w6 ⟨rfl, hO⟩
            have H6 : Hid (Own w w6 _) := hO
            clear hO H5
            go_wp2_with fail
            refine (rlive_o w w6 _ q (frS z S x) f' ck' z x HY.out.1 H6.out.two HX.out.1 HQ.out).mono ?_
            rintro e w6b ⟨rfl, hO⟩
            have H6b : Hid (Own w w6b [Row 23 1 (.slice (some ⟨g5, 0, none⟩) had.length hc) had.length (irow .u32 had), SlO p (frS z S x), RSlO q (frS z S x) f' ck']) := hO.three.in23
            clear hO H6
            go_wp2_with fail
            refine (rlist_o w w6b _ q (frS z S x) f' ck' z H6b.out.three HX.out.1 HX.out.2 HQ.out).mono ?_
            rintro e w7 ⟨v1, rfl, hO⟩
            obtain ⟨b1, c1, rfl⟩ := row_any hO.row
            have H7 : Hid (Own w w7 [Row 23 1 (.slice b1 (lsL z (frS z S x)).length c1) (lsL z (frS z S x)).length (irow .u32 (lsL z (frS z S x))), RSlO q (frS z S x) f' ck', Row 23 1 (.slice (some ⟨g5, 0, none⟩) had.length hc) had.length (irow .u32 had), SlO p (frS z S x)]) := hO
            clear hO H6b
            go_wp2_with fail
            refine (list_o w w7 _ p (frS z S x) z H7.out.four HX.out.1 HP.out).mono ?_
            rintro e w8 ⟨v2, rfl, hO⟩
            have H8 : Hid (Own w w8 [Row 23 1 v2 (lsL z (frS z S x)).length (irow .u32 (lsL z (frS z S x))), SlO p (frS z S x), Row 23 1 (.slice b1 (lsL z (frS z S x)).length c1) (lsL z (frS z S x)).length (irow .u32 (lsL z (frS z S x))), RSlO q (frS z S x) f' ck', Row 23 1 (.slice (some ⟨g5, 0, none⟩) had.length hc) had.length (irow .u32 had)]) := hO
            clear hO H7
            go_wp2_with fail
            refine (same_ok w8 v2 _ (lsL z (frS z S x)) H8.out.nums H8.out.three.nums (by have := lsL_le (frS z S x) z HX.out.1; omega)).mono ?_
            rintro e w9 ⟨rfl, hf⟩
            have H9 : Hid (Own w w9 [SlO p (frS z S x), Row 23 1 (.slice b1 (lsL z (frS z S x)).length c1) (lsL z (frS z S x)).length (irow .u32 (lsL z (frS z S x))), RSlO q (frS z S x) f' ck', Row 23 1 (.slice (some ⟨g5, 0, none⟩) had.length hc) had.length (irow .u32 had)]) := (H8.out.quiet hf).tail
            clear hf H8
            go_wp2_with fail
            refine (len_o w w9 _ p (frS z S x) z H9.out HX.out.1 HP.out).mono ?_
            rintro e w10 ⟨rfl, hO⟩
            have H10 : Hid (Own w w10 [SlO p (frS z S x), Row 23 1 (.slice b1 (lsL z (frS z S x)).length c1) (lsL z (frS z S x)).length (irow .u32 (lsL z (frS z S x))), RSlO q (frS z S x) f' ck', Row 23 1 (.slice (some ⟨g5, 0, none⟩) had.length hc) had.length (irow .u32 had)]) := hO
            have hl1 : (((lsL z (frS z S x)).length : Int) != ((lsL z (frS z S x)).length : Int)) = false := by simp
            clear hO H9
            go_wp2_with fail
            refine (room_o w w10 _ p (frS z S x) z H10.out HX.out.1 HP.out).mono ?_
            rintro e w11 ⟨rfl, hO⟩
            have H11 : Hid (Own w w11 [Row 23 1 (.slice (some ⟨g5, 0, none⟩) had.length hc) had.length (irow .u32 had), SlO p (frS z S x), RSlO q (frS z S x) f' ck']) := hO.two.tail.three
            have hl2 : ((rmN z (frS z S x) : Int) != (rmN z (frS z S x) : Int)) = false := by simp
            clear hO H10
            go_wp2
            go_roundw
            case rel => exact ⟨k + 1, by omega, by go_num, frS z S x, f', ck', had, some ⟨g5, 0, none⟩, hc, HX.out.1, HX.out.2, fun _ => ⟨HCK'.out, by have := HHD.out.1; omega⟩, HHD.out.2, rfl, H11.out⟩
            case measure => simp [intOf]; omega
          · have e1 : (frE z S y != frE z S y) = false := by simp
            have e2 : (lvB z (frS z S y) y != lvB z (frS z S y) y) = false := by simp
            go_wp2_with fail
            refine (free_o w wr _ p S z y HY.out.2 HO.out.two HS.out.1 HP.out).mono ?_
            rintro e w4 ⟨rfl, hO⟩
            have H4 : Hid (Own w w4 _) := hO
            clear hO HO cx cy
            go_wp2_with fail
            refine (rfree_o w w4 _ q S f ck z y HY.out.2 H4.out.three HS.out.1 HS.out.2.1 (by have := HCK.out; omega) HQ.out).mono ?_
            rintro e w5 ⟨rfl, f', ck', hck', hT', hO⟩
            have HX : Hid ((frS z S y).Ok ∧ Stamp (frS z S y) f' ck') := ⟨frS_ok S z HS.out.1 y, hT'⟩
            have HCK' : Hid (ck' ≤ k + 1) := by have := HCK.out; show ck' ≤ k + 1; omega
            have H5 : Hid (Own w w5 [RSlO q (frS z S y) f' ck', SlO p (frS z S y), Row 23 1 (.slice (some ⟨g5, 0, none⟩) had.length hc) had.length (irow .u32 had)]) := hO
            clear hO hT' H4 hck'
            go_wp2_with fail
            refine (live_o w w5 _ p (frS z S y) z y HY.out.2 H5.out.two HX.out.1 HP.out).mono ?_
            rintro e w6 ⟨rfl, hO⟩
            have H6 : Hid (Own w w6 _) := hO
            clear hO H5
            go_wp2_with fail
            refine (rlive_o w w6 _ q (frS z S y) f' ck' z y HY.out.2 H6.out.two HX.out.1 HQ.out).mono ?_
            rintro e w6b ⟨rfl, hO⟩
            have H6b : Hid (Own w w6b [Row 23 1 (.slice (some ⟨g5, 0, none⟩) had.length hc) had.length (irow .u32 had), SlO p (frS z S y), RSlO q (frS z S y) f' ck']) := hO.three.in23
            clear hO H6
            go_wp2_with fail
            refine (rlist_o w w6b _ q (frS z S y) f' ck' z H6b.out.three HX.out.1 HX.out.2 HQ.out).mono ?_
            rintro e w7 ⟨v1, rfl, hO⟩
            obtain ⟨b1, c1, rfl⟩ := row_any hO.row
            have H7 : Hid (Own w w7 [Row 23 1 (.slice b1 (lsL z (frS z S y)).length c1) (lsL z (frS z S y)).length (irow .u32 (lsL z (frS z S y))), RSlO q (frS z S y) f' ck', Row 23 1 (.slice (some ⟨g5, 0, none⟩) had.length hc) had.length (irow .u32 had), SlO p (frS z S y)]) := hO
            clear hO H6b
            go_wp2_with fail
            refine (list_o w w7 _ p (frS z S y) z H7.out.four HX.out.1 HP.out).mono ?_
            rintro e w8 ⟨v2, rfl, hO⟩
            have H8 : Hid (Own w w8 [Row 23 1 v2 (lsL z (frS z S y)).length (irow .u32 (lsL z (frS z S y))), SlO p (frS z S y), Row 23 1 (.slice b1 (lsL z (frS z S y)).length c1) (lsL z (frS z S y)).length (irow .u32 (lsL z (frS z S y))), RSlO q (frS z S y) f' ck', Row 23 1 (.slice (some ⟨g5, 0, none⟩) had.length hc) had.length (irow .u32 had)]) := hO
            clear hO H7
            go_wp2_with fail
            refine (same_ok w8 v2 _ (lsL z (frS z S y)) H8.out.nums H8.out.three.nums (by have := lsL_le (frS z S y) z HX.out.1; omega)).mono ?_
            rintro e w9 ⟨rfl, hf⟩
            have H9 : Hid (Own w w9 [SlO p (frS z S y), Row 23 1 (.slice b1 (lsL z (frS z S y)).length c1) (lsL z (frS z S y)).length (irow .u32 (lsL z (frS z S y))), RSlO q (frS z S y) f' ck', Row 23 1 (.slice (some ⟨g5, 0, none⟩) had.length hc) had.length (irow .u32 had)]) := (H8.out.quiet hf).tail
            clear hf H8
            go_wp2_with fail
            refine (len_o w w9 _ p (frS z S y) z H9.out HX.out.1 HP.out).mono ?_
            rintro e w10 ⟨rfl, hO⟩
            have H10 : Hid (Own w w10 [SlO p (frS z S y), Row 23 1 (.slice b1 (lsL z (frS z S y)).length c1) (lsL z (frS z S y)).length (irow .u32 (lsL z (frS z S y))), RSlO q (frS z S y) f' ck', Row 23 1 (.slice (some ⟨g5, 0, none⟩) had.length hc) had.length (irow .u32 had)]) := hO
            have hl1 : (((lsL z (frS z S y)).length : Int) != ((lsL z (frS z S y)).length : Int)) = false := by simp
            clear hO H9
            go_wp2_with fail
            refine (room_o w w10 _ p (frS z S y) z H10.out HX.out.1 HP.out).mono ?_
            rintro e w11 ⟨rfl, hO⟩
            have H11 : Hid (Own w w11 [Row 23 1 (.slice (some ⟨g5, 0, none⟩) had.length hc) had.length (irow .u32 had), SlO p (frS z S y), RSlO q (frS z S y) f' ck']) := hO.two.tail.three
            have hl2 : ((rmN z (frS z S y) : Int) != (rmN z (frS z S y) : Int)) = false := by simp
            clear hO H10
            go_wp2
            go_roundw
            case rel => exact ⟨k + 1, by omega, by go_num, frS z S y, f', ck', had, some ⟨g5, 0, none⟩, hc, HX.out.1, HX.out.2, fun _ => ⟨HCK'.out, by have := HHD.out.1; omega⟩, HHD.out.2, rfl, H11.out⟩
            case measure => simp [intOf]; omega
      · have h120' : (120 : Int) ≤ (k : Int) := by omega
        go_wp2
        go_ret
        exact ⟨rfl, HO.out.fr⟩
    · go_wp2
      go_ret
      exact ⟨rfl, HO.out.fr⟩


theorem slotsPlays_walk (w : World) (a0 : Int) (w0 : (Lit.int .i64 a0).wf = true) (a1 : Int) (w1 : (Lit.int .i64 a1).wf = true) (a2 : Option Addr) (len2 cap2 : Nat) (z2 : List Int) (w2 : IsRow .i64 w a2 len2 cap2 z2) :
    Calls Try.prog 4 #[.int .i64 a0, .int .i64 a1, .slice a2 len2 cap2] w fun e w' => e = .returned (.bool true) ∧ Below w.heap.size w w' := by
  obtain ⟨h1, h2, h3, h4⟩ := w2.ints
  exact (slotsPlays_fr a0 a1 w a2 len2 cap2 _ h2 h1 h3 h4).mono fun e w' ⟨h, f⟩ => ⟨h, f.below (Nat.le_refl _) (fun _ _ h => h)⟩

theorem laidOut : laidOutB Try.prog = true := by kernel_rfl

set_option maxRecDepth 100000 in
theorem slotsPlays_lifted (os : Os) (started : os.Started) (H : Type) (enc : TypeId × Value → H) :
    ReturnsInHanded {} Try.checked os 4 .any (Rows.slotsPlaysSpec.pre6 enc Try.prog Try.f4 Rows.slotsPlaysRow.domain false) (Rows.slotsPlaysSpec.post enc Try.prog Try.f4 false true false false) := by
  refine returnsInHanded_of_change (C := Try.checked) own started (by kernel_rfl) Try.func4
    (ChangeSpec.witness6 (enc := enc) (C := Try.checked) false ⟨#[], #[.int .i64 0, .int .i64 0, .slice none 0 0], []⟩ 8 (by kernel_rfl) (by kernel_rfl) (by kernel_rfl) (by kernel_rfl)) ?_
  intro W base args ds gs before hval0 hW hcnd _
  have hval : ∀ (j : Nat) t v, Try.f4.params[j]? = some t → args[j]? = some v → Value.okWide Try.prog W .any base t v := hval0
  have hW' := hW
  obtain ⟨p, q, hA0, hV, rfl, hfz, hnd⟩ := hW
  have hA : DataW.TrodAll enc Try.prog W 0 (fun _ => true) true Try.f4.params.toList args.toList ds p := hA0
  rw [Try.params4] at hA hval
  obtain ⟨v0, vs0, d0, ds0, p0, q0, hargs, rfl, rfl, h0, r0⟩ := trodAll_cons hA
  obtain ⟨v1, vs1, d1, ds1, p1, q1, rfl, rfl, rfl, h1, r1⟩ := trodAll_cons r0
  obtain ⟨v2, vs2, d2, ds2, p2, q2, rfl, rfl, rfl, h2, r2⟩ := trodAll_cons r1
  obtain ⟨rfl, rfl, rfl⟩ := trodAll_nil r2
  obtain rfl : args = #[v0, v1, v2] := by cases args; simp_all
  obtain ⟨rfl, rfl⟩ := trodVars_none hV
  obtain ⟨a0, rfl, rfl, rfl, w0⟩ := open_int Try.underlying3 (hval 0 3 v0 rfl rfl) h0
  obtain ⟨a1, rfl, rfl, rfl, w1⟩ := open_int Try.underlying3 (hval 1 3 v1 rfl rfl) h1
  obtain ⟨a2, len2, cap2, rfl⟩ := okWide_slice Try.underlying32 (hval 2 32 v2 rfl rfl)
  have k2 := h2
  have lt2 : ∀ x ∈ p2, x.block < W.heap.size := by obtain ⟨m, hm⟩ := k2; exact DataW.trod_lt m _ _ _ hm
  obtain ⟨z2, w2⟩ : ∃ zs, IsRow .i64 W a2 len2 cap2 zs := by
    obtain ⟨fuel, hf⟩ := h2
    rcases open_ints Try.underlying32 Try.underlying3 (by kernel_rfl) hf with ⟨hcs, _⟩ | ⟨x, l, c, zs, hcs, _, hl, hm, hz, _, hcell, hwz⟩
    · simp [Value.cells] at hcs
      obtain ⟨rfl, rfl, rfl⟩ := hcs
      exact ⟨[], .inl ⟨rfl, rfl, rfl, rfl⟩⟩
    · simp [Value.cells] at hcs
      obtain ⟨rfl, rfl, rfl⟩ := hcs
      exact ⟨zs, .inr ⟨_, rfl, hl, hm, by simpa using hz, hcell, hwz⟩⟩
  clear hA0 hval0
  refine (slotsPlays_walk W a0 w0 a1 w1 a2 len2 cap2 z2 w2).mono fun e W' ⟨he, bel⟩ => ?_
  subst he
  exact ⟨_, rfl, _, _, _, [], _, [], hW', trodAll_mk1 (shut_bool Try.underlying4 _), (trodAll_cons_mk (shut_int Try.underlying3 w0) (trodAll_cons_mk (shut_int Try.underlying3 w1) (trodAll_cons_mk (Below.trod laidOut (by kernel_rfl) (of_decide_eq_true (by kernel_rfl)) k2 bel lt2) trodAll_mk0))), rfl, bel.frame _, fun h => by cases h⟩

theorem slotsPlays_holds : Rows.SlotsPlaysSaid :=
  OpenClaim.holds_of_wide 4 Try.f4 rfl rfl rfl rfl rfl rfl rfl ⟨rfl, rfl, rfl, rfl, rfl⟩ rfl rfl rfl rfl rfl (by kernel_rfl) Try.func4 (by kernel_rfl)
    (of_decide_eq_true (by kernel_rfl)) (by unfold Func.isWrapper; first | (rw [if_pos (by decide +kernel)]; kernel_rfl) | (rw [if_neg (by decide +kernel)]; exact ⟨rfl, rfl⟩))
    (fun os started H enc _ => slotsPlays_lifted os started H enc)

end Go.Proofs.Ytficpeghmkbdpaa
