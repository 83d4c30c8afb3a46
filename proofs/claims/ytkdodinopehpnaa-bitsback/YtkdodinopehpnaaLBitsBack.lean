/-
  For every list of numbers and widths: what was written is read again, number by number, and nothing is left but noughts: BitsBack returns true, whatever its argument, and changes nothing that was there.
-/
import Derived.Test.YtkdodinopehpnaaSb
import Derived.OpenShut
import Derived.ShutString
import Derived.ChangeOld
namespace Go.Proofs.Ytkdodinopehpnaa
open Go.ChangeShapes Go.WideShapes Go.ChangeAt Go.RowKit
set_option linter.unusedVariables false

theorem own : ownKnob Try.prog.godebug = none := by kernel_rfl

/-- every row of numbers is as it was -/
def KeepT (w w' : World) : Prop := ∀ (k : Nat) (cur : Array Value), w.heap[k]? = some (.cells cur 29 (0, 0)) → w'.heap[k]? = w.heap[k]?
theorem KeepT.of_fr {S : Nat → Prop} {w w' : World} (hf : Fr S w w') (hs : ∀ k cur, w.heap[k]? = some (.cells cur 29 (0, 0)) → ¬ S k) : KeepT w w' :=
  fun k cur hk => hf.block k (Array.getElem?_eq_some_iff.1 hk).1 (hs k cur hk)
theorem KeepT.row {w w' : World} (h : KeepT w w') {B s n : Nat} {v : Value} {xs : List Value} (ho : w.ownsRow B 29 s v n xs) : w'.ownsRow B 29 s v n xs := by
  refine ⟨ho.1, ?_⟩
  rcases ho.2 with hn | ⟨g, cap, cur, rfl, hb, hgg, rest⟩
  · exact .inl hn
  · refine .inr ⟨g, cap, cur, rfl, hb, ?_, rest⟩
    rw [h g cur hgg]; exact hgg
theorem KeepT.refl (w : World) : KeepT w w := fun _ _ _ => rfl

theorem put_T (w0 w : World) (b : Nat) (L : List Bool) (q : Nat × Int) (h : Ow w0 w b L) (hL : L.length ≤ 1048576) (hq : NumOk q) :
    Calls Try.prog 12 #[.pointer (some ⟨b, 0, none⟩), .int .u64 (q.1 : Int), .int .i64 q.2] w fun e w' => e = .returned (.int .i64 (pE L q)) ∧ Ow w0 w' b (pL L q) ∧ KeepT w w' := by
  unfold pL pE
  by_cases c : q.2 < 0 ∨ 64 < q.2
  · rw [if_pos c, if_pos c]
    refine (put_arg w b q.1 q.2 c).mono ?_
    rintro e w' ⟨rfl, rfl⟩
    exact ⟨rfl, h, KeepT.refl _⟩
  · rw [if_neg c, if_neg c]
    have e : q.2 = (q.2.toNat : Int) := by omega
    have key : Calls Try.prog 12 #[.pointer (some ⟨b, 0, none⟩), .int .u64 (q.1 : Int), .int .i64 (q.2.toNat : Int)] w fun e w' => e = .returned (.int .i64 (rputE L q.1 q.2.toNat)) ∧ Ow w0 w' b (rputL L q.1 q.2.toNat) ∧ KeepT w w' := by
      unfold rputL rputE
      by_cases c1 : q.1 / 2 ^ q.2.toNat = 0
      · have hlt : q.1 < 2 ^ q.2.toNat := by
          rcases Nat.lt_or_ge q.1 (2 ^ q.2.toNat) with hh | hh
          · exact hh
          · have := Nat.div_pos hh (Nat.two_pow_pos _); omega
        by_cases c2 : L.length + q.2.toNat ≤ 1048576
        · rw [if_pos c1, if_pos c2, if_pos ⟨c1, c2⟩]
          obtain ⟨g, hW, hF⟩ := h
          refine (put_ok _ w b g L q.1 q.2.toNat hW (by omega) hlt hq.1 c2).mono ?_
          rintro e w' ⟨rfl, g', hW', hS⟩
          exact ⟨rfl, ⟨g', hW', hF.fresh hS.fr hW.lowAt⟩, KeepT.of_fr hS.fr (hW.apartT 29 (by decide) (by decide))⟩
        · rw [if_pos c1, if_neg c2, if_neg (fun hh => c2 hh.2)]
          have hh := h
          obtain ⟨g, hW, hF⟩ := h
          refine (put_long _ w b g L q.1 q.2.toNat hW (by omega) hlt hq.1 hL (by omega)).mono ?_
          rintro e w' ⟨rfl, rfl⟩
          exact ⟨rfl, hh, KeepT.refl _⟩
      · rw [if_neg c1, if_neg (fun hh => c1 hh.1)]
        refine (put_range w b q.1 q.2.toNat (by omega) ?_ hq.1).mono ?_
        · rcases Nat.lt_or_ge q.1 (2 ^ q.2.toNat) with hh | hh
          · exact absurd (Nat.div_eq_of_lt hh) c1
          · exact hh
        rintro e w' ⟨rfl, rfl⟩
        exact ⟨rfl, h, KeepT.refl _⟩
    rw [← e] at key
    exact key
theorem get_T (w0 w : World) (b : Nat) (P : List Nat) (t n : Nat) (h : Or w0 w b P t) (hn : n ≤ 64) (hl : t + n ≤ 8 * P.length) :
    Calls Try.prog 20 #[.pointer (some ⟨b, 0, none⟩), .int .i64 n] w fun e w' => e = .returned (.tuple #[.int .u64 (numAt P t n : Nat), .int .i64 0]) ∧ Or w0 w' b P (t + n) ∧ KeepT w w' := by
  obtain ⟨g, hR, hF⟩ := h
  refine (get_ok _ w b g P t n hR hn hl).mono ?_
  rintro e w' ⟨rfl, hR', hf⟩
  exact ⟨rfl, ⟨g, hR', hF.fresh hf hR.lowAt⟩, KeepT.of_fr hf (hR.apartT 29 (by decide) (by decide))⟩
/-- OK: it fits, and its bits stand behind the others; else the writer is as it was -/
theorem pE_ok (L : List Bool) (q : Nat × Int) : (pE L q = 0 ∧ Fits q ∧ pL L q = L ++ bitsN q.2.toNat q.1) ∨ (pE L q ≠ 0 ∧ pL L q = L) := by
  unfold pE pL
  by_cases c : q.2 < 0 ∨ 64 < q.2
  · rw [if_pos c, if_pos c]; exact .inr ⟨by decide, rfl⟩
  · rw [if_neg c, if_neg c]
    by_cases c1 : q.1 / 2 ^ q.2.toNat = 0
    · have hlt : q.1 < 2 ^ q.2.toNat := by
        rcases Nat.lt_or_ge q.1 (2 ^ q.2.toNat) with hh | hh
        · exact hh
        · have := Nat.div_pos hh (Nat.two_pow_pos _); omega
      by_cases c2 : L.length + q.2.toNat ≤ 1048576
      · left
        unfold rputE rputL
        rw [if_pos c1, if_pos c2, if_pos ⟨c1, c2⟩]
        exact ⟨rfl, ⟨by omega, by omega, hlt⟩, rfl⟩
      · right
        have hne : rputE L q.1 q.2.toNat ≠ 0 := by unfold rputE; rw [if_pos c1, if_neg c2]; decide
        exact ⟨hne, rputL_same L _ _ hne⟩
    · right
      have hne : rputE L q.1 q.2.toNat ≠ 0 := by unfold rputE; rw [if_neg c1]; decide
      exact ⟨hne, rputL_same L _ _ hne⟩

/-- the kept numbers, and a writer of their bits -/
def Kept (w0 w : World) (b : Nat) (v : Value) (K : List (Nat × Int)) : Prop := Ow w0 w b (flat K) ∧ w.ownsRow w0.heap.size 29 2 v K.length (nrow K) ∧ ∀ q ∈ K, Fits q
theorem two_cells (w : World) (x y : Value) (t : TypeId) : ∀ j u, [x, y][j]? = some u → (w.alloc (.cells #[x, y] t)).cell? ((⟨w.heap.size, 0, none⟩ : Addr).add j) = some u := by
  intro j u hj
  match j, hj with
  | 0, hj => simp at hj; subst hj; simp [Addr.add]
  | 1, hj => simp at hj; subst hj; simp [Addr.add]
theorem two_one (x y : Int) : ∀ u ∈ [Value.int .u64 x, Value.int .i64 y], u.oneCell' = true := by
  intro u hu
  simp at hu
  rcases hu with rfl | rfl <;> rfl
theorem flat_le (K : List (Nat × Int)) (h : ∀ q ∈ K, Fits q) : (flat K).length ≤ 64 * K.length := by
  induction K with
  | nil => simp [flat]
  | cons q K ih =>
    have h1 := ih (fun p hp => h p (List.mem_cons_of_mem _ hp))
    have h2 := h q (List.mem_cons_self ..)
    rw [flat, List.flatMap_cons, List.length_append, length_bitsN]
    rw [flat] at h1
    rw [List.length_cons]
    have h3 := h2.2.1
    omega

set_option maxHeartbeats 2000000 in
theorem bitsBack_main (w : World) (ao : Option Addr) (len cap : Nat) (Q : List (Nat × Int)) (h : IsNums w ao len cap Q) :
    Calls Try.prog 5 #[.slice ao len cap] w fun e w' => e = .returned (.bool true) ∧ Fr Nobody w w' := by
  have HP : Hid (IsNums w ao len cap Q) := h
  have hm := h.2.1
  unfold maxLen at hm
  obtain ⟨i0, hi, hz0, hz1, hz2⟩ := info_parts Try.infoNum
  clear h
  go_enter Try.func5, Try.ntmps5
  go_wp2_with fail
  refine (awake1 w).mono ?_
  rintro e w1 ⟨rfl, hf⟩
  have F1 : Hid (Fr Nobody w w1) := hf
  clear hf
  go_wp2_with fail
  refine (new_ow w w1 F1.out).mono ?_
  rintro e w2 ⟨b, rfl, _, hW⟩
  have H2 : Hid (Ow w w2 b []) := hW
  clear hW F1
  go_wp2
  go_loopw [4, 17] (fun u c wr => ∃ (k : Nat) (K : List (Nat × Int)), k ≤ len ∧ K.length ≤ k ∧ K.length ≤ 60 ∧ c = .int .i64 k ∧ Kept w wr b u K) (fun _ c _ => len - (intOf c).toNat)
  case atStart => exact ⟨0, [], Nat.zero_le _, by decide, by decide, rfl, H2.out, World.ownsRow_nil _ _ _ _, fun q hq => by simp at hq⟩
  case round =>
    obtain ⟨k, K, hk, hKk, hK60, rfl, hK⟩ := hrel
    have HK : Hid (Kept w wr b _ K) := hK
    have HKl : Hid (K.length ≤ k ∧ K.length ≤ 60) := ⟨hKk, hK60⟩
    clear hK hKk hK60 H2
    by_cases hlt : k < len
    · obtain ⟨q, hq⟩ : ∃ q, Q[k]? = some q := ⟨_, List.getElem?_eq_getElem (by rw [HP.out.1]; exact hlt)⟩
      have HQ : Hid (NumOk q) := HP.out.2.2.2 q (List.mem_of_getElem? hq)
      obtain ⟨qv, qn⟩ := q
      obtain ⟨g, o, hao, c0, c1⟩ : ∃ g o, ao = some ⟨g, o, none⟩ ∧ wr.cell? ⟨g, o + k * 2, none⟩ = some (.int .u64 (qv : Int)) ∧ wr.cell? ⟨g, o + k * 2 + 1, none⟩ = some (.int .i64 qn) := by
        rcases HP.out.2.2.1.quiet HK.out.1.fr with h | ⟨g, o, ha, hc⟩
        · subst h; simp at hq
        · exact ⟨g, o, ha, hc k _ _ hq⟩
      subst hao
      clear hq
      by_cases h60 : k < 60
      · go_wp2_with fail
        have HA : Hid (Kept w (wr.alloc (.cells #[.int .u64 (qv : Int), .int .i64 qn] 29)) b _ K) :=
          ⟨HK.out.1.quiet ((Fr.refl _ _).alloc _), HK.out.2.1.alloc _, HK.out.2.2⟩
        have HL : Hid ((flat K).length ≤ 3840) := by have := flat_le K HK.out.2.2; have := HKl.out.2; show _ ≤ _; omega
        have HN : Hid ((wr.alloc (.cells #[.int .u64 (qv : Int), .int .i64 qn] 29)).heap[wr.heap.size]? = some (.cells #[.int .u64 (qv : Int), .int .i64 qn] 29 (0, 0))) := heap_alloc_new wr _
        clear HK c0 c1
        refine (put_T w _ b (flat K) (qv, qn) HA.out.1 (by have := HL.out; omega) HQ.out).mono ?_
        rcases pE_ok (flat K) (qv, qn) with ⟨p1, p2, p3⟩ | ⟨p1, p2⟩
        · rw [p1, p3]
          rintro e w3 ⟨rfl, hO, hT⟩
          have hb3 := (hT _ _ HN.out).trans HN.out
          have d0 := cell0 hb3
          have d1 := cell1 hb3
          have H3 : Hid (Ow w w3 b (flat (K ++ [(qv, qn)])) ∧ w3.ownsRow w.heap.size 29 2 _ K.length (nrow K) ∧ (∀ q ∈ K ++ [(qv, qn)], Fits q)) :=
            ⟨by rw [flat_snoc]; exact hO, hT.row HA.out.2.1, fun q hq => by
              rcases List.mem_append.1 hq with hq | hq
              · exact HA.out.2.2 q hq
              · simp at hq; subst hq; exact p2⟩
          have hs3 : Hid (w.heap.size ≤ w3.heap.size) := hO.fr.size
          clear hO hT HA HN hb3 p1 p2 p3
          go_wp2_with (at_builtin; refine wpList_append_own _ rfl _ _ 22 rfl w.heap.size 29 i0 (.agg #[.int .u64 0, .int .i64 0]) 2 16 Try.underlying22 hi hz0 hz1 hz2 rfl (by decide) _ _ _ rfl (H3.out.2.1.alloc _) ⟨w3.heap.size, 0, none⟩ 1 1 [.int .u64 (qv : Int), .int .i64 qn] rfl rfl (two_cells _ _ _ _) (two_one _ _) (by unfold maxLen; have := HKl.out.2; omega) (by have := HKl.out.2; omega) (by have := hs3.out; simp; omega) ?_)
          intro u4 w4 ho4 hg4 _
          have H4 : Hid (Kept w w4 b u4 (K ++ [(qv, qn)])) := by
            refine ⟨(H3.out.1.quiet ((Fr.refl _ _).alloc _)).grownT (t := 29) (by decide) (by decide) (H3.out.2.1.alloc _) hg4, ?_, H3.out.2.2⟩
            rw [List.length_append, nrow_snoc]; exact ho4
          clear ho4 hg4 H3 d0 d1
          go_wp2
          go_roundw
          case rel => exact ⟨k + 1, K ++ [(qv, qn)], by omega, by rw [List.length_append]; have := HKl.out.1; simp; omega, by rw [List.length_append]; have := HKl.out.1; simp; omega, by go_num, H4.out⟩
          case measure => simp [intOf]; omega
        · rw [p2]
          have p3 : (pE (flat K) (qv, qn) == 0) = false := by rw [beq_eq_false_iff_ne]; exact p1
          generalize pE (flat K) (qv, qn) = cN at *
          rintro e w3 ⟨rfl, hO, hT⟩
          have H4 : Hid (Kept w w3 b _ K) := ⟨hO, hT.row HA.out.2.1, HA.out.2.2⟩
          clear hO hT HA HN p1 p2
          go_wp2
          go_roundw
          case rel => exact ⟨k + 1, K, by omega, by have := HKl.out.1; omega, HKl.out.2, by go_num, H4.out⟩
          case measure => simp [intOf]; omega
      · have H4 : Hid (Kept w (wr.alloc (.cells #[.int .u64 (qv : Int), .int .i64 qn] 29)) b _ K) :=
          ⟨HK.out.1.quiet ((Fr.refl _ _).alloc _), HK.out.2.1.alloc _, HK.out.2.2⟩
        clear HK
        go_wp2
        go_roundw
        case rel => exact ⟨k + 1, K, by omega, by have := HKl.out.1; omega, HKl.out.2, by go_num, H4.out⟩
        case measure => simp [intOf]; omega
    · obtain ⟨ax, cx, hux⟩ := row_any HK.out.2.1
      subst hux
      have hd : decide ((k : Int) < (len : Int)) = false := by simp; omega
      have HL : Hid ((flat K).length ≤ 3840) := by have := flat_le K HK.out.2.2; have := HKl.out.2; show _ ≤ _; omega
      go_wp2_with fail
      refine (bytes_ow w wr b (flat K) HK.out.1 (by have := HL.out; omega)).mono ?_
      rintro e w3 ⟨va, rfl, ho, hf, _, hO⟩
      have H3 : Hid (Src w3 va (pack (flat K)).length (vrow (pack (flat K))) ∧ w3.ownsRow w.heap.size 29 2 (.slice ax K.length cx) K.length (nrow K) ∧ Fr Nobody w w3 ∧ (∀ q ∈ K, Fits q)) := by
        refine ⟨?_, hf.row HK.out.2.1 (fun _ _ => id), hO.fr, HK.out.2.2⟩
        rw [length_pack]; exact Src.of_row ho
      clear ho hf hO HK
      go_wp2_with fail
      refine (read_or w w3 va (pack (flat K)) H3.out.2.2.1 H3.out.1 (pack_lt _) (by rw [length_pack]; unfold nb; have := HL.out; omega)).mono ?_
      rintro e w4 ⟨br, rfl, _, hR, hf⟩
      have H4 : Hid (Or w w4 br (pack (flat K)) 0 ∧ w4.ownsRow w.heap.size 29 2 (.slice ax K.length cx) K.length (nrow K) ∧ (∀ q ∈ K, Fits q)) := ⟨hR, hf.row H3.out.2.1 (fun _ _ => id), H3.out.2.2.2⟩
      have hK60 : K.length ≤ 60 := HKl.out.2
      clear hR hf H3
      go_wp2
      clear hd
      go_loopw [43] (fun c wr2 => ∃ j : Nat, j ≤ K.length ∧ c = .int .i64 j ∧ Or w wr2 br (pack (flat K)) (flat (K.take j)).length ∧ wr2.ownsRow w.heap.size 29 2 (.slice ax K.length cx) K.length (nrow K)) (fun c _ => K.length - (intOf c).toNat)
      case atStart => exact ⟨0, Nat.zero_le _, rfl, H4.out.1, H4.out.2.1⟩
      case round =>
        obtain ⟨j, hj, rfl, hR, ho⟩ := hrel
        by_cases hlt : j < K.length
        · obtain ⟨q, hq⟩ : ∃ q, K[j]? = some q := ⟨_, List.getElem?_eq_getElem hlt⟩
          have hqf := H4.out.2.2 q (List.mem_of_getElem? hq)
          have hrb := read_back K j q hq hqf
          have hfl := fits_left K j q hq
          have hts := take_succ K j q hq
          have hcl := nrow_at K j q hq
          obtain ⟨qv, qn⟩ := q
          obtain ⟨m, rfl⟩ := Int.eq_ofNat_of_zero_le hqf.1
          obtain ⟨gx, cx', hax, _⟩ := row_shape ho (by omega)
          simp only [Value.slice.injEq, true_and] at hax
          obtain ⟨hax, hcc⟩ := hax
          clear hcc
          subst hax
          have c0 := (ho.cellAt (j * 2) (by omega)).trans hcl.1
          have c1 := (ho.cellAt (j * 2 + 1) (by omega)).trans hcl.2
          have HH : Hid (numAt (pack (flat K)) (flat (K.take j)).length m = qv ∧ (flat (K.take j)).length + m ≤ 8 * (pack (flat K)).length ∧ (flat (K.take (j + 1))).length = (flat (K.take j)).length + m ∧ m ≤ 64) := ⟨hrb, hfl, hts, by have := hqf.2.1; omega⟩
          have HR : Hid (Or w _ br (pack (flat K)) (flat (K.take j)).length ∧ World.ownsRow _ w.heap.size 29 2 (.slice (some ⟨gx, 0, none⟩) K.length cx) K.length (nrow K)) := ⟨hR, ho⟩
          clear hrb hfl hts hcl hqf hq hR ho H4
          have tq : ((qv : Int) != (qv : Int)) = false := by simp
          go_wp2_with fail
          have HA : Hid (Or w (wr.alloc (.cells #[.int .u64 (qv : Int), .int .i64 (m : Int)] 29)) br (pack (flat K)) (flat (K.take j)).length ∧ (wr.alloc (.cells #[.int .u64 (qv : Int), .int .i64 (m : Int)] 29)).ownsRow w.heap.size 29 2 (.slice (some ⟨gx, 0, none⟩) K.length cx) K.length (nrow K)) :=
            ⟨HR.out.1.quiet ((Fr.refl _ _).alloc _), HR.out.2.alloc _⟩
          have HN : Hid ((wr.alloc (.cells #[.int .u64 (qv : Int), .int .i64 (m : Int)] 29)).heap[wr.heap.size]? = some (.cells #[.int .u64 (qv : Int), .int .i64 (m : Int)] 29 (0, 0))) := heap_alloc_new wr _
          clear HR c0 c1
          refine (get_T w _ br _ _ m HA.out.1 HH.out.2.2.2 HH.out.2.1).mono ?_
          rw [HH.out.1, ← HH.out.2.2.1]
          rintro e w5 ⟨rfl, hO, hT⟩
          have hb5 := (hT _ _ HN.out).trans HN.out
          have d0 := cell0 hb5
          have d1 := cell1 hb5
          have H5 : Hid (Or w w5 br (pack (flat K)) (flat (K.take (j + 1))).length ∧ w5.ownsRow w.heap.size 29 2 (.slice (some ⟨gx, 0, none⟩) K.length cx) K.length (nrow K)) := ⟨hO, hT.row HA.out.2⟩
          clear hO hT hb5 HN HA HH
          go_wp2
          go_roundw
          case rel => exact ⟨j + 1, by omega, by go_num, H5.out.1, H5.out.2⟩
          case measure => simp [intOf]; omega
        · have ej : j = K.length := by omega
          rw [ej, List.take_length] at hR
          have HR : Hid (Or w _ br (pack (flat K)) (flat K).length) := hR
          clear ej
          have HE := end_back (flat K)
          have HE2 : Hid (8 * (pack (flat K)).length - (flat K).length < 8) := HE.2
          have HE1 : Hid (endOf (pack (flat K)) (flat K).length = 0) := HE.1
          clear HE hR ho H4
          go_wp2_with fail
          refine (end_or w _ br _ _ HR.out).mono ?_
          rw [HE1.out]
          rintro e w5 ⟨rfl, hO⟩
          have H5 : Hid (Or w w5 br (pack (flat K)) (flat K).length) := hO
          clear hO HR
          go_wp2_with fail
          refine (left_or w w5 br _ _ H5.out).mono ?_
          have h8 := HE2.out
          generalize 8 * (pack (flat K)).length - (flat K).length = lf at h8 ⊢
          rintro e w6 ⟨rfl, hO⟩
          have H6 : Hid (Fr Nobody w w6) := hO.fr
          have h8' : decide ((lf : Int) < 8) = true := by simp; omega
          clear hO H5 HE2 HE1
          go_wp2
          go_ret
          exact ⟨rfl, H6.out⟩

theorem bitsBack_walk (w : World) (a0 : Option Addr) (len0 cap0 : Nat) (z0 : List (Nat × Int)) (w0 : IsNums w a0 len0 cap0 z0) :
    Calls Try.prog 5 #[.slice a0 len0 cap0] w fun e w' => e = .returned (.bool true) ∧ Below w.heap.size w w' := by
  refine (bitsBack_main w a0 len0 cap0 z0 w0).mono ?_
  rintro e w' ⟨rfl, hf⟩
  exact ⟨rfl, hf.below (Nat.le_refl _) (fun _ _ => id)⟩

theorem laidOut : laidOutB Try.prog = true := by kernel_rfl

set_option maxRecDepth 100000 in
theorem bitsBack_lifted (os : Os) (started : os.Started) (H : Type) (enc : TypeId × Value → H) :
    ReturnsInHanded {} Try.checked os 5 .any (Rows.bitsBackSpec.pre6 enc Try.prog Try.f5 Rows.bitsBackRow.domain false) (Rows.bitsBackSpec.post enc Try.prog Try.f5 false true false false) := by
  refine returnsInHanded_of_change (C := Try.checked) own started (by kernel_rfl) Try.func5
    (ChangeSpec.witness6 (enc := enc) (C := Try.checked) false ⟨#[], #[.slice none 0 0], []⟩ 8 (by kernel_rfl) (by kernel_rfl) (by kernel_rfl) (by kernel_rfl)) ?_
  intro W base args ds gs before hval0 hW hcnd _
  have hval : ∀ (j : Nat) t v, Try.f5.params[j]? = some t → args[j]? = some v → Value.okWide Try.prog W .any base t v := hval0
  have hW' := hW
  obtain ⟨p, q, hA0, hV, rfl, hfz, hnd⟩ := hW
  have hA : DataW.TrodAll enc Try.prog W 0 (fun _ => true) true Try.f5.params.toList args.toList ds p := hA0
  rw [Try.params5] at hA hval
  obtain ⟨v0, vs0, d0, ds0, p0, q0, hargs, rfl, rfl, h0, r0⟩ := trodAll_cons hA
  obtain ⟨rfl, rfl, rfl⟩ := trodAll_nil r0
  obtain rfl : args = #[v0] := by cases args; simp_all
  obtain ⟨rfl, rfl⟩ := trodVars_none hV
  obtain ⟨a0, len0, cap0, rfl⟩ := okWide_slice Try.underlying22 (hval 0 22 v0 rfl rfl)
  have k0 := h0
  have lt0 : ∀ x ∈ p0, x.block < W.heap.size := by obtain ⟨m, hm⟩ := k0; exact DataW.trod_lt m _ _ _ hm
  obtain ⟨z0, w0⟩ := open_nums (hval 0 22 _ rfl rfl) h0
  clear hA0 hval0
  refine (bitsBack_walk W a0 len0 cap0 z0 w0).mono fun e W' ⟨he, bel⟩ => ?_
  subst he
  exact ⟨_, rfl, _, _, _, [], _, [], hW', trodAll_mk1 (shut_bool Try.underlying4 _), (trodAll_cons_mk (Below.trod laidOut (by kernel_rfl) (of_decide_eq_true (by kernel_rfl)) k0 bel lt0) trodAll_mk0), rfl, bel.frame _, fun h => by cases h⟩

theorem bitsBack_holds : Rows.BitsBackSaid :=
  OpenClaim.holds_of_wide 5 Try.f5 rfl rfl rfl rfl rfl rfl rfl ⟨rfl, rfl, rfl, rfl, rfl⟩ rfl rfl rfl rfl rfl (by kernel_rfl) Try.func5 (by kernel_rfl)
    (of_decide_eq_true (by kernel_rfl)) (by unfold Func.isWrapper; first | (rw [if_pos (by decide +kernel)]; kernel_rfl) | (rw [if_neg (by decide +kernel)]; exact ⟨rfl, rfl⟩))
    (fun os started H enc _ => bitsBack_lifted os started H enc)


end Go.Proofs.Ytkdodinopehpnaa
