/-
  For every list of numbers and of signs: what PutVar and PutInt write, one behind the other, is read again by GetVar and GetInt, one by one, to the end: NumsRows returns true, whatever its arguments, and changes nothing that was there.
-/
import Derived.Test.YtkdodinopehpnacTa
import Derived.OpenShut
import Derived.ShutString
import Derived.ChangeOld
namespace Go.Proofs.Ytkdodinopehpnac
open Go.ChangeShapes Go.WideShapes Go.ChangeAt Go.RowKit
set_option linter.unusedVariables false

theorem own : ownKnob Try.prog.godebug = none := by kernel_rfl

theorem sign_at (w : World) (a1 : Option Addr) (S : List Bool) (len1 k : Nat) (h : BoolsAt w a1 S) (hl : S.length = len1) : (k < len1 ∧ ∃ g o, a1 = some ⟨g, o, none⟩ ∧ w.cell? ⟨g, o + k, none⟩ = some (.bool (S.getD k false))) ∨ (¬ k < len1 ∧ S.getD k false = false) := by
  by_cases hk : k < len1
  · left
    have hx : S[k]? = some (S.getD k false) := by rw [List.getD_eq_getElem?_getD, List.getElem?_eq_getElem (by omega)]; rfl
    rcases h with h | ⟨g, o, ha, hc⟩
    · subst h; simp at hl; omega
    · exact ⟨hk, g, o, ha, hc k _ hx⟩
  · right
    exact ⟨hk, by rw [List.getD_eq_getElem?_getD, List.getElem?_eq_none (by omega)]; rfl⟩

set_option maxHeartbeats 1000000 in
set_option maxRecDepth 100000 in
theorem numsRows_short (w : World) (ao : Option Addr) (len cap : Nat) (a1 : Option Addr) (len1 cap1 : Nat) (N : List Int) (S : List Bool) (hlen : len ≤ 100) (hlc : len ≤ cap) (hmax : len ≤ maxLen) (hNl : N.length = len) (hNa : Ints .i64 w ao N) (hNb : ∀ n ∈ N, -9223372036854775808 ≤ n ∧ n ≤ 9223372036854775807)
    (hS : BoolsAt w a1 S) (hSl : S.length = len1) (hmax1 : len1 ≤ maxLen) :
    Calls Try.prog 3 #[.slice ao len cap, .slice a1 len1 cap1] w fun e w' => e = .returned (.bool true) ∧ Fr Nobody w w' := by
  unfold maxLen at hmax hmax1
  have HM : Hid (len = len) := rfl
  have HP : Hid (N.length = len ∧ Ints .i64 w ao N ∧ (∀ n ∈ N, -9223372036854775808 ≤ n ∧ n ≤ 9223372036854775807)) := ⟨hNl, hNa, hNb⟩
  have HS1 : Hid (BoolsAt w a1 S ∧ S.length = len1) := ⟨hS, hSl⟩
  have HRL : Hid (∀ k, k ≤ len → (rows N S k).length ≤ 16000) := fun k hk => by have := rows_le N S hNb k; omega
  clear hNl hNa hNb hS hSl
  go_enter Try.func3, Try.ntmps3
  go_wp2_with fail
  refine (awake2 w).mono ?_
  rintro e w1 ⟨rfl, hf⟩
  have F1 : Hid (Fr Nobody w w1) := hf
  clear hf
  go_wp2_with fail
  refine (new_ow w w1 F1.out).mono ?_
  rintro e w2 ⟨b, rfl, _, hW⟩
  have H2 : Hid (Ow w w2 b []) := hW
  clear hW F1
  go_wp2
  go_loopw [26] (fun c wr => ∃ k : Nat, k ≤ len ∧ c = .int .i64 k ∧ Ow w wr b (rows N S k)) (fun c _ => len - (intOf c).toNat)
  case atStart => exact ⟨0, Nat.zero_le _, rfl, H2.out⟩
  case round =>
    obtain ⟨k, hk, rfl, hO⟩ := hrel
    have HO : Hid (Ow w wr b (rows N S k)) := hO
    clear hO H2
    by_cases hlt : k < len
    · obtain ⟨n, hx⟩ : ∃ x, N[k]? = some x := ⟨_, List.getElem?_eq_getElem (by rw [HP.out.1]; exact hlt)⟩
      have HN : Hid (-9223372036854775808 ≤ n ∧ n ≤ 9223372036854775807) := HP.out.2.2 n (List.mem_of_getElem? hx)
      have hgn : N.getD k 0 = n := by rw [List.getD_eq_getElem?_getD, hx]; rfl
      obtain ⟨g, o, hao, cx⟩ : ∃ g o, ao = some ⟨g, o, none⟩ ∧ wr.cell? ⟨g, o + k, none⟩ = some (.int .i64 n) := by
        rcases HP.out.2.1.quiet HO.out.fr with h | ⟨g, o, ha, hc⟩
        · subst h; simp at hx
        · exact ⟨g, o, ha, hc k _ hx⟩
      subst hao
      have hu := ofI_wrap n
      have hul := ofI_lt n
      have hsg := sign_at w a1 S len1 k HS1.out.1 HS1.out.2
      have HS0 : Hid (N.getD k 0 = n) := hgn
      clear hx hgn
      obtain ⟨sb, hsb⟩ : ∃ sb, sb = S.getD k false := ⟨_, rfl⟩
      have HS : Hid (N.getD k 0 = n ∧ S.getD k false = sb) := ⟨HS0.out, hsb.symm⟩
      rw [← hsb] at hsg
      clear HS0 hsb
      have HK : Hid ((rows N S k).length ≤ 15840) := by have := rows_le N S HP.out.2.2 k; show _ ≤ _; omega
      have G5 : Hid (∀ w4, Ow w w4 b (rows N S k) → Calls Try.prog 7 #[.pointer (some ⟨b, 0, none⟩), .int .u64 ((ofI n : Nat) : Int)] w4 fun e w' => e = .returned (.int .i64 0) ∧ Ow w w' b (rows N S k ++ var (ofI n))) := fun w4 h4 => putVar_ok w w4 b _ (ofI n) h4 hul (by have := HK.out; have := grp_bd (ofI n) hul; omega)
      rcases hsg with ⟨hs1, g1, o1, ha1, cs⟩ | ⟨hs1, rfl⟩
      · subst ha1
        have HCS : Hid (w.cell? ⟨g1, o1 + k, none⟩ = some (.bool sb)) := cs
        have hgl := World.block_lt_of_cell? w _ cs
        clear cs
        go_wp2_with fail
        refine (G5.out wr HO.out).mono ?_
        rintro e w5 ⟨rfl, hO5⟩
        have cs5 : w5.cell? ⟨g1, o1 + k, none⟩ = some (.bool sb) := (hO5.fr.cell (p := ⟨g1, o1 + k, none⟩) hgl id).trans HCS.out
        have H5 : Hid (Ow w w5 b (rows N S k ++ var (ofI n)) ∧ (rows N S k).length ≤ 15840) := ⟨hO5, HK.out⟩
        clear hO5 HO cx HCS
        cases sb
        · skip
          have H6 : Hid (Ow w w5 b (rows N S (k + 1))) := by
            rw [rows, HS.out.1, HS.out.2, item, if_neg (by decide), List.append_nil]; exact H5.out.1
          clear H5
          go_wp2
          go_roundw
          case rel => exact ⟨k + 1, by omega, by go_num, H6.out⟩
          case measure => simp [intOf]; omega
        · skip
          go_wp2_with fail
          refine (putInt_ok w w5 b _ n H5.out.1 HN.out.1 HN.out.2 (by rw [List.length_append, length_var]; have := H5.out.2; have := grp_bd (ofI n) (ofI_lt n); have := grp_bd (zig n) (zig_lt n HN.out.1 HN.out.2); omega)).mono ?_
          rintro e w6 ⟨rfl, hO6⟩
          have H6 : Hid (Ow w w6 b (rows N S (k + 1))) := by
            rw [rows, HS.out.1, HS.out.2, item, if_pos rfl, ← List.append_assoc]; exact hO6
          clear hO6 H5
          go_wp2
          go_roundw
          case rel => exact ⟨k + 1, by omega, by go_num, H6.out⟩
          case measure => simp [intOf]; omega
      · go_wp2_with fail
        refine (G5.out wr HO.out).mono ?_
        rintro e w5 ⟨rfl, hO5⟩
        have H5 : Hid (Ow w w5 b (rows N S k ++ var (ofI n)) ∧ (rows N S k).length ≤ 15840) := ⟨hO5, HK.out⟩
        clear hO5 HO cx
        have H6 : Hid (Ow w w5 b (rows N S (k + 1))) := by
          rw [rows, HS.out.1, HS.out.2, item, if_neg (by decide), List.append_nil]; exact H5.out.1
        clear H5
        go_wp2
        go_roundw
        case rel => exact ⟨k + 1, by omega, by go_num, H6.out⟩
        case measure => simp [intOf]; omega
    · have ek : k = len := by have := HM.out; omega
      have HO2 : Hid (Ow w wr b (rows N S len)) := by rw [← ek]; exact HO.out
      have hd : decide ((k : Int) < ((len : Nat) : Int)) = false := by simp; omega
      have HL : Hid ((rows N S len).length ≤ 16000) := HRL.out _ (by have := HM.out; omega)
      clear HO ek
      go_wp2_with fail
      refine (bytes_ow w wr b _ HO2.out (by have := HL.out; omega)).mono ?_
      rintro e w3 ⟨va, rfl, ho, hf, _, hO⟩
      have H3 : Hid (Src w3 va (pack (rows N S len)).length (vrow (pack (rows N S len))) ∧ Fr Nobody w w3) := by
        refine ⟨?_, hO.fr⟩
        rw [length_pack]; exact Src.of_row ho
      clear ho hf hO HO2
      go_wp2_with fail
      refine (read_or w w3 va (pack (rows N S len)) H3.out.2 H3.out.1 (pack_lt _) (by rw [length_pack]; unfold nb; have := HL.out; omega)).mono ?_
      rintro e w4 ⟨br, rfl, _, hR, _⟩
      have H4 : Hid (Or w w4 br (pack (rows N S len)) 0) := hR
      clear hR H3
      go_wp2
      clear hd
      go_loopw [56] (fun c wr2 => ∃ j : Nat, j ≤ len ∧ c = .int .i64 j ∧ Or w wr2 br (pack (rows N S len)) (rows N S j).length) (fun c _ => len - (intOf c).toNat)
      case atStart => exact ⟨0, Nat.zero_le _, rfl, H4.out⟩
      case round =>
        obtain ⟨j, hj, rfl, hR⟩ := hrel
        have HR : Hid (Or w _ br (pack (rows N S len)) (rows N S j).length) := hR
        have HF : Hid (Fr Nobody w _) := hR.fr
        clear hR H4
        by_cases hlt2 : j < len
        · obtain ⟨n, hx⟩ : ∃ x, N[j]? = some x := ⟨_, List.getElem?_eq_getElem (by rw [HP.out.1]; exact hlt2)⟩
          have HN : Hid (-9223372036854775808 ≤ n ∧ n ≤ 9223372036854775807) := HP.out.2.2 n (List.mem_of_getElem? hx)
          have hgn : N.getD j 0 = n := by rw [List.getD_eq_getElem?_getD, hx]; rfl
          obtain ⟨g, o, hao, cx⟩ : ∃ g o, ao = some ⟨g, o, none⟩ ∧ World.cell? _ ⟨g, o + j, none⟩ = some (.int .i64 n) := by
            rcases HP.out.2.1.quiet HF.out with h | ⟨g, o, ha, hc⟩
            · subst h; simp at hx
            · exact ⟨g, o, ha, hc j _ hx⟩
          subst hao
          have hu := ofI_wrap n
          have hul := ofI_lt n
          have tu : (((ofI n : Nat) : Int) != ((ofI n : Nat) : Int)) = false := by simp
          have tn : (n != n) = false := by simp
          have hsg := sign_at w a1 S len1 j HS1.out.1 HS1.out.2
          obtain ⟨R, hat⟩ := rows_at N S j (len) (by have := HM.out; omega)
          obtain ⟨sb, hsb⟩ : ∃ sb, sb = S.getD j false := ⟨_, rfl⟩
          rw [← hsb] at hsg
          rw [hgn, ← hsb] at hat
          have HT0 : (rows N S (j + 1)).length = (rows N S j).length + (item n sb).length := by rw [rows, List.length_append, hgn, hsb]
          have hg1 : gv ((bitsB (pack (rows N S len))).drop (rows N S j).length) = (0, ofI n, 5 * grp (ofI n)) := by
            rw [hat, item, List.append_assoc]; exact gv_var _ hul _
          clear hx hgn
          rcases hsg with ⟨hs1, g1, o1, ha1, cs⟩ | ⟨hs1, rfl⟩
          · subst ha1
            have HCS : Hid (w.cell? ⟨g1, o1 + j, none⟩ = some (.bool sb)) := cs
            have hgl := World.block_lt_of_cell? w _ cs
            have HG : Hid (gv ((bitsB (pack (rows N S len))).drop (rows N S j).length) = (0, ofI n, 5 * grp (ofI n))) := hg1
            have HAT : Hid ((bitsB (pack (rows N S len))).drop (rows N S j).length = item n sb ++ R) := hat
            have HT1 : Hid ((rows N S (j + 1)).length = (rows N S j).length + (item n sb).length) := HT0
            clear cs hg1 hat HT0 hsb
            go_wp2_with fail
            refine (getVar_or w _ br _ _ HR.out).mono ?_
            rw [HG.out]
            rintro e w8 ⟨rfl, hR8⟩
            have cs8 : w8.cell? ⟨g1, o1 + j, none⟩ = some (.bool sb) := (hR8.fr.cell (p := ⟨g1, o1 + j, none⟩) hgl id).trans HCS.out
            have H8 : Hid (Or w w8 br (pack (rows N S len)) ((rows N S j).length + 5 * grp (ofI n))) := hR8
            clear hR8 HR HF cx HCS HG
            cases sb
            · have HT : Hid ((rows N S (j + 1)).length = (rows N S j).length + 5 * grp (ofI n)) := by
                have := HT1.out; rw [item, if_neg (by decide), List.append_nil, length_var] at this; exact this
              have H9 : Hid (Or w w8 br (pack (rows N S len)) (rows N S (j + 1)).length) := by
                rw [HT.out]; exact H8.out
              clear H8
              go_wp2
              go_roundw
              case rel => exact ⟨j + 1, by omega, by go_num, H9.out⟩
              case measure => simp [intOf]; omega
            · have HT : Hid ((rows N S (j + 1)).length = (rows N S j).length + 5 * grp (ofI n) + 5 * grp (zig n)) := by
                have := HT1.out; rw [item, if_pos rfl, List.length_append, length_var, length_var] at this; show _ = _; omega
              have hg2 : gv ((bitsB (pack (rows N S len))).drop ((rows N S j).length + 5 * grp (ofI n))) = (0, zig n, 5 * grp (zig n)) := by
                have h1 := HAT.out
                rw [item, if_pos rfl, List.append_assoc] at h1
                have h2 := congrArg (List.drop (5 * grp (ofI n))) h1
                rw [List.drop_drop, ← length_var (ofI n), List.drop_left] at h2
                rw [← length_var (ofI n), h2]
                exact gv_var _ (zig_lt n HN.out.1 HN.out.2) _
              have hg2b := hg2
              have HZ : Hid (zag (zig n) = n) := zag_zig n
              clear hg2
              go_wp2_with fail
              refine (getInt_or w w8 br _ _ H8.out).mono ?_
              rw [hg2b]
              simp only [HZ.out]
              rintro e w9 ⟨rfl, hR9⟩
              have H9 : Hid (Or w w9 br (pack (rows N S len)) (rows N S (j + 1)).length) := by
                rw [HT.out]; exact hR9
              clear hR9 H8
              go_wp2
              go_roundw
              case rel => exact ⟨j + 1, by omega, by go_num, H9.out⟩
              case measure => simp [intOf]; omega
          · have HG : Hid (gv ((bitsB (pack (rows N S len))).drop (rows N S j).length) = (0, ofI n, 5 * grp (ofI n))) := hg1
            have HT : Hid ((rows N S (j + 1)).length = (rows N S j).length + 5 * grp (ofI n)) := by
              have := HT0; rw [item, if_neg (by decide), List.append_nil, length_var] at this; exact this
            clear hg1 hat HT0 hsb
            go_wp2_with fail
            refine (getVar_or w _ br _ _ HR.out).mono ?_
            rw [HG.out]
            rintro e w8 ⟨rfl, hR8⟩
            have H8 : Hid (Or w w8 br (pack (rows N S len)) ((rows N S j).length + 5 * grp (ofI n))) := hR8
            clear hR8 HR HF cx HG
            have H9 : Hid (Or w w8 br (pack (rows N S len)) (rows N S (j + 1)).length) := by
              rw [HT.out]; exact H8.out
            clear H8
            go_wp2
            go_roundw
            case rel => exact ⟨j + 1, by omega, by go_num, H9.out⟩
            case measure => simp [intOf]; omega
        · have ej : j = len := by have := HM.out; omega
          have HE : Hid (endOf (pack (rows N S len)) (rows N S len).length = 0) := end_back _
          have h9 := HR.out
          rw [ej] at h9
          have HR2 : Hid (Or w _ br (pack (rows N S len)) (rows N S len).length) := h9
          clear HR ej h9
          go_wp2_with fail
          refine (end_or w _ br _ _ HR2.out).mono ?_
          rw [HE.out]
          rintro e w9 ⟨rfl, hR9⟩
          have H9 : Hid (Fr Nobody w w9) := hR9.fr
          clear hR9
          go_wp2
          go_ret
          exact ⟨rfl, H9.out⟩

set_option maxHeartbeats 1000000 in
set_option maxRecDepth 100000 in
theorem numsRows_long (w : World) (m : Nat) (hm : m = 100) (ao : Option Addr) (len cap : Nat) (a1 : Option Addr) (len1 cap1 : Nat) (N : List Int) (S : List Bool) (hlen : 100 < len) (hlc : len ≤ cap) (hmax : len ≤ maxLen) (hNl : N.length = 100) (hNa : Ints .i64 w ao N) (hNb : ∀ n ∈ N, -9223372036854775808 ≤ n ∧ n ≤ 9223372036854775807)
    (hS : BoolsAt w a1 S) (hSl : S.length = len1) (hmax1 : len1 ≤ maxLen) :
    Calls Try.prog 3 #[.slice ao len cap, .slice a1 len1 cap1] w fun e w' => e = .returned (.bool true) ∧ Fr Nobody w w' := by
  unfold maxLen at hmax hmax1
  have HM : Hid (m = 100) := hm
  have HP : Hid (N.length = 100 ∧ Ints .i64 w ao N ∧ (∀ n ∈ N, -9223372036854775808 ≤ n ∧ n ≤ 9223372036854775807)) := ⟨hNl, hNa, hNb⟩
  have HS1 : Hid (BoolsAt w a1 S ∧ S.length = len1) := ⟨hS, hSl⟩
  have HRL : Hid (∀ k, k ≤ 100 → (rows N S k).length ≤ 16000) := fun k hk => by have := rows_le N S hNb k; omega
  clear hNl hNa hNb hS hSl hm
  go_enter Try.func3, Try.ntmps3
  go_wp2_with fail
  refine (awake2 w).mono ?_
  rintro e w1 ⟨rfl, hf⟩
  have F1 : Hid (Fr Nobody w w1) := hf
  clear hf
  go_wp2_with fail
  refine (new_ow w w1 F1.out).mono ?_
  rintro e w2 ⟨b, rfl, _, hW⟩
  have H2 : Hid (Ow w w2 b []) := hW
  clear hW F1
  go_wp2
  go_loopw [26] (fun c wr => ∃ k : Nat, k ≤ 100 ∧ c = .int .i64 k ∧ Ow w wr b (rows N S k)) (fun c _ => 100 - (intOf c).toNat)
  case atStart => exact ⟨0, Nat.zero_le _, rfl, H2.out⟩
  case round =>
    obtain ⟨k, hk, rfl, hO⟩ := hrel
    have HO : Hid (Ow w wr b (rows N S k)) := hO
    clear hO H2
    by_cases hlt : k < 100
    · obtain ⟨n, hx⟩ : ∃ x, N[k]? = some x := ⟨_, List.getElem?_eq_getElem (by rw [HP.out.1]; exact hlt)⟩
      have HN : Hid (-9223372036854775808 ≤ n ∧ n ≤ 9223372036854775807) := HP.out.2.2 n (List.mem_of_getElem? hx)
      have hgn : N.getD k 0 = n := by rw [List.getD_eq_getElem?_getD, hx]; rfl
      obtain ⟨g, o, hao, cx⟩ : ∃ g o, ao = some ⟨g, o, none⟩ ∧ wr.cell? ⟨g, o + k, none⟩ = some (.int .i64 n) := by
        rcases HP.out.2.1.quiet HO.out.fr with h | ⟨g, o, ha, hc⟩
        · subst h; simp at hx
        · exact ⟨g, o, ha, hc k _ hx⟩
      subst hao
      have hu := ofI_wrap n
      have hul := ofI_lt n
      have hsg := sign_at w a1 S len1 k HS1.out.1 HS1.out.2
      have HS0 : Hid (N.getD k 0 = n) := hgn
      clear hx hgn
      obtain ⟨sb, hsb⟩ : ∃ sb, sb = S.getD k false := ⟨_, rfl⟩
      have HS : Hid (N.getD k 0 = n ∧ S.getD k false = sb) := ⟨HS0.out, hsb.symm⟩
      rw [← hsb] at hsg
      clear HS0 hsb
      have HK : Hid ((rows N S k).length ≤ 15840) := by have := rows_le N S HP.out.2.2 k; show _ ≤ _; omega
      have G5 : Hid (∀ w4, Ow w w4 b (rows N S k) → Calls Try.prog 7 #[.pointer (some ⟨b, 0, none⟩), .int .u64 ((ofI n : Nat) : Int)] w4 fun e w' => e = .returned (.int .i64 0) ∧ Ow w w' b (rows N S k ++ var (ofI n))) := fun w4 h4 => putVar_ok w w4 b _ (ofI n) h4 hul (by have := HK.out; have := grp_bd (ofI n) hul; omega)
      rcases hsg with ⟨hs1, g1, o1, ha1, cs⟩ | ⟨hs1, rfl⟩
      · subst ha1
        have HCS : Hid (w.cell? ⟨g1, o1 + k, none⟩ = some (.bool sb)) := cs
        have hgl := World.block_lt_of_cell? w _ cs
        clear cs
        go_wp2_with fail
        refine (G5.out wr HO.out).mono ?_
        rintro e w5 ⟨rfl, hO5⟩
        have cs5 : w5.cell? ⟨g1, o1 + k, none⟩ = some (.bool sb) := (hO5.fr.cell (p := ⟨g1, o1 + k, none⟩) hgl id).trans HCS.out
        have H5 : Hid (Ow w w5 b (rows N S k ++ var (ofI n)) ∧ (rows N S k).length ≤ 15840) := ⟨hO5, HK.out⟩
        clear hO5 HO cx HCS
        cases sb
        · skip
          have H6 : Hid (Ow w w5 b (rows N S (k + 1))) := by
            rw [rows, HS.out.1, HS.out.2, item, if_neg (by decide), List.append_nil]; exact H5.out.1
          clear H5
          go_wp2
          go_roundw
          case rel => exact ⟨k + 1, by omega, by go_num, H6.out⟩
          case measure => simp [intOf]; omega
        · skip
          go_wp2_with fail
          refine (putInt_ok w w5 b _ n H5.out.1 HN.out.1 HN.out.2 (by rw [List.length_append, length_var]; have := H5.out.2; have := grp_bd (ofI n) (ofI_lt n); have := grp_bd (zig n) (zig_lt n HN.out.1 HN.out.2); omega)).mono ?_
          rintro e w6 ⟨rfl, hO6⟩
          have H6 : Hid (Ow w w6 b (rows N S (k + 1))) := by
            rw [rows, HS.out.1, HS.out.2, item, if_pos rfl, ← List.append_assoc]; exact hO6
          clear hO6 H5
          go_wp2
          go_roundw
          case rel => exact ⟨k + 1, by omega, by go_num, H6.out⟩
          case measure => simp [intOf]; omega
      · go_wp2_with fail
        refine (G5.out wr HO.out).mono ?_
        rintro e w5 ⟨rfl, hO5⟩
        have H5 : Hid (Ow w w5 b (rows N S k ++ var (ofI n)) ∧ (rows N S k).length ≤ 15840) := ⟨hO5, HK.out⟩
        clear hO5 HO cx
        have H6 : Hid (Ow w w5 b (rows N S (k + 1))) := by
          rw [rows, HS.out.1, HS.out.2, item, if_neg (by decide), List.append_nil]; exact H5.out.1
        clear H5
        go_wp2
        go_roundw
        case rel => exact ⟨k + 1, by omega, by go_num, H6.out⟩
        case measure => simp [intOf]; omega
    · have ek : k = m := by have := HM.out; omega
      have HO2 : Hid (Ow w wr b (rows N S m)) := by rw [← ek]; exact HO.out
      have hd : decide ((k : Int) < ((100 : Nat) : Int)) = false := by simp; omega
      have HL : Hid ((rows N S m).length ≤ 16000) := HRL.out _ (by have := HM.out; omega)
      clear HO ek
      go_wp2_with fail
      refine (bytes_ow w wr b _ HO2.out (by have := HL.out; omega)).mono ?_
      rintro e w3 ⟨va, rfl, ho, hf, _, hO⟩
      have H3 : Hid (Src w3 va (pack (rows N S m)).length (vrow (pack (rows N S m))) ∧ Fr Nobody w w3) := by
        refine ⟨?_, hO.fr⟩
        rw [length_pack]; exact Src.of_row ho
      clear ho hf hO HO2
      go_wp2_with fail
      refine (read_or w w3 va (pack (rows N S m)) H3.out.2 H3.out.1 (pack_lt _) (by rw [length_pack]; unfold nb; have := HL.out; omega)).mono ?_
      rintro e w4 ⟨br, rfl, _, hR, _⟩
      have H4 : Hid (Or w w4 br (pack (rows N S m)) 0) := hR
      clear hR H3
      go_wp2
      clear hd
      go_loopw [56] (fun c wr2 => ∃ j : Nat, j ≤ 100 ∧ c = .int .i64 j ∧ Or w wr2 br (pack (rows N S m)) (rows N S j).length) (fun c _ => 100 - (intOf c).toNat)
      case atStart => exact ⟨0, Nat.zero_le _, rfl, H4.out⟩
      case round =>
        obtain ⟨j, hj, rfl, hR⟩ := hrel
        have HR : Hid (Or w _ br (pack (rows N S m)) (rows N S j).length) := hR
        have HF : Hid (Fr Nobody w _) := hR.fr
        clear hR H4
        by_cases hlt2 : j < 100
        · obtain ⟨n, hx⟩ : ∃ x, N[j]? = some x := ⟨_, List.getElem?_eq_getElem (by rw [HP.out.1]; exact hlt2)⟩
          have HN : Hid (-9223372036854775808 ≤ n ∧ n ≤ 9223372036854775807) := HP.out.2.2 n (List.mem_of_getElem? hx)
          have hgn : N.getD j 0 = n := by rw [List.getD_eq_getElem?_getD, hx]; rfl
          obtain ⟨g, o, hao, cx⟩ : ∃ g o, ao = some ⟨g, o, none⟩ ∧ World.cell? _ ⟨g, o + j, none⟩ = some (.int .i64 n) := by
            rcases HP.out.2.1.quiet HF.out with h | ⟨g, o, ha, hc⟩
            · subst h; simp at hx
            · exact ⟨g, o, ha, hc j _ hx⟩
          subst hao
          have hu := ofI_wrap n
          have hul := ofI_lt n
          have tu : (((ofI n : Nat) : Int) != ((ofI n : Nat) : Int)) = false := by simp
          have tn : (n != n) = false := by simp
          have hsg := sign_at w a1 S len1 j HS1.out.1 HS1.out.2
          obtain ⟨R, hat⟩ := rows_at N S j (m) (by have := HM.out; omega)
          obtain ⟨sb, hsb⟩ : ∃ sb, sb = S.getD j false := ⟨_, rfl⟩
          rw [← hsb] at hsg
          rw [hgn, ← hsb] at hat
          have HT0 : (rows N S (j + 1)).length = (rows N S j).length + (item n sb).length := by rw [rows, List.length_append, hgn, hsb]
          have hg1 : gv ((bitsB (pack (rows N S m))).drop (rows N S j).length) = (0, ofI n, 5 * grp (ofI n)) := by
            rw [hat, item, List.append_assoc]; exact gv_var _ hul _
          clear hx hgn
          rcases hsg with ⟨hs1, g1, o1, ha1, cs⟩ | ⟨hs1, rfl⟩
          · subst ha1
            have HCS : Hid (w.cell? ⟨g1, o1 + j, none⟩ = some (.bool sb)) := cs
            have hgl := World.block_lt_of_cell? w _ cs
            have HG : Hid (gv ((bitsB (pack (rows N S m))).drop (rows N S j).length) = (0, ofI n, 5 * grp (ofI n))) := hg1
            have HAT : Hid ((bitsB (pack (rows N S m))).drop (rows N S j).length = item n sb ++ R) := hat
            have HT1 : Hid ((rows N S (j + 1)).length = (rows N S j).length + (item n sb).length) := HT0
            clear cs hg1 hat HT0 hsb
            go_wp2_with fail
            refine (getVar_or w _ br _ _ HR.out).mono ?_
            rw [HG.out]
            rintro e w8 ⟨rfl, hR8⟩
            have cs8 : w8.cell? ⟨g1, o1 + j, none⟩ = some (.bool sb) := (hR8.fr.cell (p := ⟨g1, o1 + j, none⟩) hgl id).trans HCS.out
            have H8 : Hid (Or w w8 br (pack (rows N S m)) ((rows N S j).length + 5 * grp (ofI n))) := hR8
            clear hR8 HR HF cx HCS HG
            cases sb
            · have HT : Hid ((rows N S (j + 1)).length = (rows N S j).length + 5 * grp (ofI n)) := by
                have := HT1.out; rw [item, if_neg (by decide), List.append_nil, length_var] at this; exact this
              have H9 : Hid (Or w w8 br (pack (rows N S m)) (rows N S (j + 1)).length) := by
                rw [HT.out]; exact H8.out
              clear H8
              go_wp2
              go_roundw
              case rel => exact ⟨j + 1, by omega, by go_num, H9.out⟩
              case measure => simp [intOf]; omega
            · have HT : Hid ((rows N S (j + 1)).length = (rows N S j).length + 5 * grp (ofI n) + 5 * grp (zig n)) := by
                have := HT1.out; rw [item, if_pos rfl, List.length_append, length_var, length_var] at this; show _ = _; omega
              have hg2 : gv ((bitsB (pack (rows N S m))).drop ((rows N S j).length + 5 * grp (ofI n))) = (0, zig n, 5 * grp (zig n)) := by
                have h1 := HAT.out
                rw [item, if_pos rfl, List.append_assoc] at h1
                have h2 := congrArg (List.drop (5 * grp (ofI n))) h1
                rw [List.drop_drop, ← length_var (ofI n), List.drop_left] at h2
                rw [← length_var (ofI n), h2]
                exact gv_var _ (zig_lt n HN.out.1 HN.out.2) _
              have hg2b := hg2
              have HZ : Hid (zag (zig n) = n) := zag_zig n
              clear hg2
              go_wp2_with fail
              refine (getInt_or w w8 br _ _ H8.out).mono ?_
              rw [hg2b]
              simp only [HZ.out]
              rintro e w9 ⟨rfl, hR9⟩
              have H9 : Hid (Or w w9 br (pack (rows N S m)) (rows N S (j + 1)).length) := by
                rw [HT.out]; exact hR9
              clear hR9 H8
              go_wp2
              go_roundw
              case rel => exact ⟨j + 1, by omega, by go_num, H9.out⟩
              case measure => simp [intOf]; omega
          · have HG : Hid (gv ((bitsB (pack (rows N S m))).drop (rows N S j).length) = (0, ofI n, 5 * grp (ofI n))) := hg1
            have HT : Hid ((rows N S (j + 1)).length = (rows N S j).length + 5 * grp (ofI n)) := by
              have := HT0; rw [item, if_neg (by decide), List.append_nil, length_var] at this; exact this
            clear hg1 hat HT0 hsb
            go_wp2_with fail
            refine (getVar_or w _ br _ _ HR.out).mono ?_
            rw [HG.out]
            rintro e w8 ⟨rfl, hR8⟩
            have H8 : Hid (Or w w8 br (pack (rows N S m)) ((rows N S j).length + 5 * grp (ofI n))) := hR8
            clear hR8 HR HF cx HG
            have H9 : Hid (Or w w8 br (pack (rows N S m)) (rows N S (j + 1)).length) := by
              rw [HT.out]; exact H8.out
            clear H8
            go_wp2
            go_roundw
            case rel => exact ⟨j + 1, by omega, by go_num, H9.out⟩
            case measure => simp [intOf]; omega
        · have ej : j = m := by have := HM.out; omega
          have HE : Hid (endOf (pack (rows N S m)) (rows N S m).length = 0) := end_back _
          have h9 := HR.out
          rw [ej] at h9
          have HR2 : Hid (Or w _ br (pack (rows N S m)) (rows N S m).length) := h9
          clear HR ej h9
          go_wp2_with fail
          refine (end_or w _ br _ _ HR2.out).mono ?_
          rw [HE.out]
          rintro e w9 ⟨rfl, hR9⟩
          have H9 : Hid (Fr Nobody w w9) := hR9.fr
          clear hR9
          go_wp2
          go_ret
          exact ⟨rfl, H9.out⟩

theorem numsRows_walk (w : World) (a0 : Option Addr) (len0 cap0 : Nat) (z0 : List Int) (w0 : IsRow .i64 w a0 len0 cap0 z0) (a1 : Option Addr) (len1 cap1 : Nat) (z1 : List Bool) (w1 : IsBools w a1 len1 cap1 z1) :
    Calls Try.prog 3 #[.slice a0 len0 cap0, .slice a1 len1 cap1] w fun e w' => e = .returned (.bool true) ∧ Below w.heap.size w w' := by
  obtain ⟨hl, hm, hc, hI, hw⟩ := w0.ints
  obtain ⟨hl1, hm1, hI1⟩ := w1
  have hb : ∀ x ∈ z0.take len0, -9223372036854775808 ≤ x ∧ x ≤ 9223372036854775807 := fun x hx => by
    have := hw x hx
    simpa [Lit.wf, IntKind.min, IntKind.max, IntKind.signed, IntKind.bits] using this
  have fin : Calls Try.prog 3 #[.slice a0 len0 cap0, .slice a1 len1 cap1] w fun e w' => e = .returned (.bool true) ∧ Fr Nobody w w' := by
    by_cases h100 : len0 ≤ 100
    · exact numsRows_short w a0 len0 cap0 a1 len1 cap1 _ _ h100 hc hm hl hI hb hI1 hl1 hm1
    · exact numsRows_long w 100 rfl a0 len0 cap0 a1 len1 cap1 ((z0.take len0).take 100) _ (by omega) hc hm (by rw [List.length_take]; omega) (hI.take 100) (fun x hx => hb x (List.mem_of_mem_take hx)) hI1 hl1 hm1
  refine fin.mono ?_
  rintro e w' ⟨rfl, hf⟩
  exact ⟨rfl, hf.below (Nat.le_refl _) (fun _ _ => id)⟩

theorem laidOut : laidOutB Try.prog = true := by kernel_rfl

set_option maxRecDepth 100000 in
theorem numsRows_lifted (os : Os) (started : os.Started) (H : Type) (enc : TypeId × Value → H) :
    ReturnsInHanded {} Try.checked os 3 .any (Rows.numsRowsSpec.pre6 enc Try.prog Try.f3 Rows.numsRowsRow.domain false) (Rows.numsRowsSpec.post enc Try.prog Try.f3 false true false false) := by
  refine returnsInHanded_of_change (C := Try.checked) own started (by kernel_rfl) Try.func3
    (ChangeSpec.witness6 (enc := enc) (C := Try.checked) false ⟨#[], #[.slice none 0 0, .slice none 0 0], []⟩ 8 (by kernel_rfl) (by kernel_rfl) (by kernel_rfl) (by kernel_rfl)) ?_
  intro W base args ds gs before hval0 hW hcnd _
  have hval : ∀ (j : Nat) t v, Try.f3.params[j]? = some t → args[j]? = some v → Value.okWide Try.prog W .any base t v := hval0
  have hW' := hW
  obtain ⟨p, q, hA0, hV, rfl, hfz, hnd⟩ := hW
  have hA : DataW.TrodAll enc Try.prog W 0 (fun _ => true) true Try.f3.params.toList args.toList ds p := hA0
  rw [Try.params3] at hA hval
  obtain ⟨v0, vs0, d0, ds0, p0, q0, hargs, rfl, rfl, h0, r0⟩ := trodAll_cons hA
  obtain ⟨v1, vs1, d1, ds1, p1, q1, rfl, rfl, rfl, h1, r1⟩ := trodAll_cons r0
  obtain ⟨rfl, rfl, rfl⟩ := trodAll_nil r1
  obtain rfl : args = #[v0, v1] := by cases args; simp_all
  obtain ⟨rfl, rfl⟩ := trodVars_none hV
  obtain ⟨a0, len0, cap0, rfl⟩ := okWide_slice Try.underlying22 (hval 0 22 v0 rfl rfl)
  have k0 := h0
  have lt0 : ∀ x ∈ p0, x.block < W.heap.size := by obtain ⟨m, hm⟩ := k0; exact DataW.trod_lt m _ _ _ hm
  obtain ⟨z0, w0⟩ : ∃ zs, IsRow .i64 W a0 len0 cap0 zs := by
    obtain ⟨fuel, hf⟩ := h0
    rcases open_ints Try.underlying22 Try.underlying2 (by kernel_rfl) hf with ⟨hcs, _⟩ | ⟨x, l, c, zs, hcs, _, hl, hm, hz, _, hcell, hwz⟩
    · simp [Value.cells] at hcs
      obtain ⟨rfl, rfl, rfl⟩ := hcs
      exact ⟨[], .inl ⟨rfl, rfl, rfl, rfl⟩⟩
    · simp [Value.cells] at hcs
      obtain ⟨rfl, rfl, rfl⟩ := hcs
      exact ⟨zs, .inr ⟨_, rfl, hl, hm, by simpa using hz, hcell, hwz⟩⟩
  obtain ⟨a1, len1, cap1, rfl⟩ := okWide_slice Try.underlying23 (hval 1 23 v1 rfl rfl)
  have k1 := h1
  have lt1 : ∀ x ∈ p1, x.block < W.heap.size := by obtain ⟨m, hm⟩ := k1; exact DataW.trod_lt m _ _ _ hm
  obtain ⟨z1, w1⟩ := open_bools (hval 1 23 _ rfl rfl) h1
  clear hA0 hval0
  refine (numsRows_walk W a0 len0 cap0 z0 w0 a1 len1 cap1 z1 w1).mono fun e W' ⟨he, bel⟩ => ?_
  subst he
  exact ⟨_, rfl, _, _, _, [], _, [], hW', trodAll_mk1 (shut_bool Try.underlying4 _), (trodAll_cons_mk (Below.trod laidOut (by kernel_rfl) (of_decide_eq_true (by kernel_rfl)) k0 bel lt0) (trodAll_cons_mk (Below.trod laidOut (by kernel_rfl) (of_decide_eq_true (by kernel_rfl)) k1 bel lt1) trodAll_mk0)), rfl, bel.frame _, fun h => by cases h⟩

theorem numsRows_holds : Rows.NumsRowsSaid :=
  OpenClaim.holds_of_wide 3 Try.f3 rfl rfl rfl rfl rfl rfl rfl ⟨rfl, rfl, rfl, rfl, rfl⟩ rfl rfl rfl rfl rfl (by kernel_rfl) Try.func3 (by kernel_rfl)
    (of_decide_eq_true (by kernel_rfl)) (by unfold Func.isWrapper; first | (rw [if_pos (by decide +kernel)]; kernel_rfl) | (rw [if_neg (by decide +kernel)]; exact ⟨rfl, rfl⟩))
    (fun os started H enc _ => numsRows_lifted os started H enc)


end Go.Proofs.Ytkdodinopehpnac
