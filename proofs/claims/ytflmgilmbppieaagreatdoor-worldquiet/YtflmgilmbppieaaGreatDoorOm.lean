/-
  A component more, by rising kinds.
-/
import Derived.Test.YtflmgilmbppieaaGreatDoorOl
import Derived.Test.YtflmgilmbppieaaGreatDoorUh
namespace Go.Proofs.YtflmgilmbppieaaGreatDoor
open Go.RowKit
set_option linter.unusedVariables false
set_option maxRecDepth 100000

theorem insert_any (w0 w : World) (l : List Thing) (L : List Cp) (c : Cp) (ao : Option Addr) (n cap B i : Nat) (hn : L.length = n) (hi : i ≤ n) (hn6 : n ≤ 1000) (h : Own w0 w (Row 46 4 (.slice ao n cap) n (ccat L) :: Cells B c.ar 46 :: l)) :
    Calls Tryz.prog 254 #[.slice ao n cap, .int .i64 (i : Int), .slice (some ⟨B, 0, none⟩) 1 1] w fun e w' => ∃ ao' cap', e = .returned (.slice ao' (n + 1) cap') ∧ Own w0 w' (Row 46 4 (.slice ao' (n + 1) cap') (n + 1) (ccat (L.take i ++ c :: L.drop i)) :: Cells B c.ar 46 :: l) := by
  by_cases hin : i = n
  · subst hin
    have e : L.take i ++ c :: L.drop i = L ++ [c] := by rw [List.take_of_length_le (by omega), List.drop_of_length_le (by omega)]
    rw [e]
    exact insert_end w0 w l L c ao i cap B hn hn6 h
  · obtain ⟨g, cap', hv, _⟩ := row_shape h.row (by omega)
    have hao := (Value.slice.inj hv).1
    subst hao
    by_cases hr : n + 1 ≤ cap
    · refine (insert_fit w0 w l L c g n cap B i hn (by omega) hn6 hr h).mono ?_
      rintro e w' ⟨rfl, hO⟩
      exact ⟨_, _, rfl, hO⟩
    · exact insert_grow w0 w l L c g n cap B i hn (by omega) hn6 (by omega) h
/-- with one component more -/
def insw (L : List Cp) (c : Cp) : List Cp := L.takeWhile (fun q => decide (q.k < c.k)) ++ c :: L.dropWhile (fun q => decide (q.k < c.k))
theorem insw_at (L : List Cp) (c : Cp) (j : Nat) (h1 : ∀ q ∈ L.take j, q.k < c.k) (h2 : ∀ q, L[j]? = some q → c.k ≤ q.k) : L.take j ++ c :: L.drop j = insw L c := by
  induction L generalizing j with
  | nil => simp [insw]
  | cons a L ih =>
    cases j with
    | zero =>
      have := h2 a rfl
      have hn : ¬ a.k < c.k := by omega
      simp [insw, hn]
    | succ j =>
      have ha : a.k < c.k := h1 a (by simp)
      have := ih j (fun q hq => h1 q (by simp [hq])) (fun q hq => h2 q (by simpa using hq))
      simp only [insw] at this ⊢
      simp [ha, this]
set_option maxHeartbeats 2000000 in
theorem with_ok (w0 w : World) (l : List Thing) (L : List Cp) (c : Cp) (ao : Option Addr) (n cap : Nat) (hn : L.length = n) (hn6 : n ≤ 1000) (h : Own w0 w (Row 46 4 (.slice ao n cap) n (ccat L) :: l)) :
    Calls Tryz.prog 238 #[.slice ao n cap, c.ag] w fun e w' => ∃ ao' cap', e = .returned (.slice ao' (n + 1) cap') ∧ Own w0 w' (Row 46 4 (.slice ao' (n + 1) cap') (n + 1) (ccat (insw L c)) :: l) := by
  obtain ⟨ck, ca, cb, cc⟩ := c
  have hA := (h.allocC #[.int .u8 (ck : Int), .int .i32 ca, .int .i32 cb, .int .i32 cc] 46).two
  have HA : Hid (Own w0 _ _) := hA
  have HN : Hid (L.length = n) := hn
  have HIN : Hid (∀ w' B i, i ≤ n → Own w0 w' (Row 46 4 (.slice ao n cap) n (ccat L) :: Cells B #[.int .u8 (ck : Int), .int .i32 ca, .int .i32 cb, .int .i32 cc] 46 :: Cells w.heap.size #[.int .u8 (ck : Int), .int .i32 ca, .int .i32 cb, .int .i32 cc] 46 :: l) → Calls Tryz.prog 254 #[.slice ao n cap, .int .i64 (i : Int), .slice (some ⟨B, 0, none⟩) 1 1] w' fun e w'' => ∃ ao' cap', e = .returned (.slice ao' (n + 1) cap') ∧ Own w0 w'' (Row 46 4 (.slice ao' (n + 1) cap') (n + 1) (ccat (L.take i ++ ⟨ck, ca, cb, cc⟩ :: L.drop i)) :: l)) := by
    intro w' B i hi h'
    refine (insert_any w0 w' _ L ⟨ck, ca, cb, cc⟩ ao n cap B i hn hi hn6 h').mono ?_
    rintro e w'' ⟨a, c', rfl, hO⟩
    exact ⟨a, c', rfl, hO.two.tail.two.tail⟩
  show Calls _ _ #[_, .agg #[.int .u8 (ck : Int), .int .i32 ca, .int .i32 cb, .int .i32 cc]] _ _
  clear h hA hn
  go_enter Tryz.func238, Tryz.ntmps238
  go_wp2
  go_loopw [5] (fun at0 wr => ∃ j : Nat, j ≤ n ∧ at0 = .int .i64 j ∧ (∀ q ∈ L.take j, q.k < ck) ∧ Own w0 wr (Row 46 4 (.slice ao n cap) n (ccat L) :: Cells w.heap.size #[.int .u8 (ck : Int), .int .i32 ca, .int .i32 cb, .int .i32 cc] 46 :: l)) (fun at0 _ => n - (intOf at0).toNat)
  case atStart => exact ⟨0, Nat.zero_le _, rfl, by simp, HA.out⟩
  case round =>
    obtain ⟨j, hj, rfl, hT, hO⟩ := hrel
    have HO : Hid (Own w0 wr _) := hO
    have HTK : Hid (∀ q ∈ L.take j, q.k < ck) := hT
    have k0 := hO.two.cell 0
    simp at k0
    clear HA
    by_cases hlt : j < n
    · obtain ⟨q, hq⟩ : ∃ q, L[j]? = some q := ⟨_, List.getElem?_eq_getElem (by rw [HN.out]; exact hlt)⟩
      obtain ⟨g, o, hao, _, c0, _, _, _⟩ := (Own.rcs hO HN.out).at j q hq
      have HQ : Hid (L[j]? = some q) := hq
      have hlt' : (j : Int) < (n : Int) := by omega
      subst hao
      obtain ⟨qk, qa, qb, qc⟩ := q
      simp only at c0
      clear hO hT hq
      by_cases hk : qk < ck
      · have hk' : (qk : Int) < (ck : Int) := by omega
        have HT2 : Hid (∀ q ∈ L.take (j + 1), q.k < ck) := by
          intro x hx
          rw [List.take_add_one, HQ.out] at hx
          rcases List.mem_append.1 hx with hx | hx
          · exact HTK.out x hx
          · simp at hx; subst hx; exact hk
        go_wp2
        go_quiet (fail)
        go_wp2
        go_roundw
        case rel => exact ⟨j + 1, by omega, by go_num, HT2.out, HO.out.drewN _⟩
        case measure => simp [intOf]; omega
      · have hk' : ¬ (qk : Int) < (ck : Int) := by omega
        have HE : Hid (L.take j ++ ⟨ck, ca, cb, cc⟩ :: L.drop j = insw L ⟨ck, ca, cb, cc⟩) := insw_at L _ j HTK.out (fun x hx => by rw [HQ.out] at hx; cases hx; exact Nat.le_of_not_lt hk)
        have k1 := HO.out.two.cell 1
        have k2 := HO.out.two.cell 2
        have k3 := HO.out.two.cell 3
        simp at k1 k2 k3
        go_wp2
        go_quiet (fail)
        go_wp2_with fail
        refine (HIN.out _ _ j (by omega) ((HO.out.drewN _).allocC _ _).two).mono ?_
        rintro e w2 ⟨a2, c2, rfl, hO2⟩
        have H2 : Hid (Own w0 w2 (Row 46 4 (.slice a2 (n + 1) c2) (n + 1) (ccat (insw L ⟨ck, ca, cb, cc⟩)) :: l)) := by
          show Own _ _ _
          rw [← HE.out]; exact hO2
        clear hO2 HO
        go_wp2
        go_ret
        exact ⟨_, _, rfl, H2.out⟩
    · have hlt' : ¬ (j : Int) < (n : Int) := by omega
      clear hO hT
      have HE : Hid (L.take j ++ ⟨ck, ca, cb, cc⟩ :: L.drop j = insw L ⟨ck, ca, cb, cc⟩) := insw_at L _ j HTK.out (fun x hx => by have := (List.getElem?_eq_some_iff.1 hx).1; rw [HN.out] at this; omega)
      have k1 := HO.out.two.cell 1
      have k2 := HO.out.two.cell 2
      have k3 := HO.out.two.cell 3
      simp at k1 k2 k3
      go_wp2
      go_quiet (fail)
      go_wp2_with fail
      refine (HIN.out _ _ j (by omega) ((HO.out.drewN _).allocC _ _).two).mono ?_
      rintro e w2 ⟨a2, c2, rfl, hO2⟩
      have H2 : Hid (Own w0 w2 (Row 46 4 (.slice a2 (n + 1) c2) (n + 1) (ccat (insw L ⟨ck, ca, cb, cc⟩)) :: l)) := by
        show Own _ _ _
        rw [← HE.out]; exact hO2
      clear hO2 HO
      go_wp2
      go_ret
      exact ⟨_, _, rfl, H2.out⟩
end Go.Proofs.YtflmgilmbppieaaGreatDoor
