/-
  The document's Few, Twins and SameOrder.
-/
import Derived.Test.YtoobfmedkhbkiaaDoorQg
namespace Go.Proofs.YtoobfmedkhbkiaaDoor
open Go.RowKit
set_option linter.unusedVariables false
set_option maxRecDepth 100000

def OrdE.is (o : OrdE) : Nat × Nat × Nat × List Cp := (o.d, o.id, o.k, o.C)
def OrdE.cut (o : OrdE) : OrdE := { o with C := o.C.take 20 }
def few (Q : List OrdE) : List OrdE := (Q.take 60).map OrdE.cut
theorem few_len (Q : List OrdE) : (few Q).length ≤ 60 := by simp [few]; omega
theorem few_succ (Q : List OrdE) (j : Nat) (o : OrdE) (ho : Q[j]? = some o) : few (Q.take (j + 1)) = if j < 60 then few (Q.take j) ++ [o.cut] else few (Q.take j) := by
  unfold few
  rw [List.take_take, List.take_take]
  split
  · rename_i h
    rw [Nat.min_eq_right (by omega), Nat.min_eq_right (by omega), List.take_add_one, ho]
    simp
  · rw [Nat.min_eq_left (by omega), Nat.min_eq_left (by omega)]
theorem cat_one (o : OrdE) : cat OrdE.cs [o] = o.cs := by simp [cat]
set_option maxHeartbeats 2000000 in
theorem few_ok (w0 w : World) (l : List Thing) (h : Own w0 w l) (ao : Option Addr) (n cap : Nat) (Q : List OrdE) (hn : Q.length = n) (hn6 : n ≤ 9223372036854775807) (hQ : ∀ w', Own w0 w' l → Ords w' ao Q) (hw : ∀ o ∈ Q, o.C.length ≤ o.cap ∧ o.cap ≤ 9223372036854775807) :
    Calls Tryd.prog 7 #[.slice ao n cap, .int .i64 60] w fun e w' => ∃ ra rc, e = .returned (.slice ra (few Q).length rc) ∧ Own w0 w' (Row 32 4 (.slice ra (few Q).length rc) (few Q).length (cat OrdE.cs (few Q)) :: l) := by
  obtain ⟨i0, hi0, hz0, hz1, hz2⟩ := info_parts Tryd.infoOrd
  have H : Hid (Own w0 w l) := h
  have HN : Hid (Q.length = n) := hn
  have HQ : Hid (∀ w', Own w0 w' l → Ords w' ao Q) := hQ
  have HW : Hid (∀ o ∈ Q, o.C.length ≤ o.cap ∧ o.cap ≤ 9223372036854775807) := hw
  clear h hn hQ hw
  go_enter Tryd.func7, Tryd.ntmps7
  go_wp2
  go_loopw [5, 10] (fun ov jv wr => ∃ (j : Nat) (ra : Option Addr) (rc : Nat), j ≤ n ∧ jv = .int .i64 j ∧ ov = .slice ra (few (Q.take j)).length rc ∧ Own w0 wr (Row 32 4 (.slice ra (few (Q.take j)).length rc) (few (Q.take j)).length (cat OrdE.cs (few (Q.take j))) :: l)) (fun _ jv _ => n - (intOf jv).toNat)
  case atStart => exact ⟨0, none, 0, Nat.zero_le _, rfl, rfl, H.out.nilRow 32 4⟩
  case round =>
    obtain ⟨j, ra, rc, hj, rfl, rfl, hO⟩ := hrel
    have HO : Hid (Own w0 wr _) := hO
    clear H
    by_cases hlt : j < n
    · obtain ⟨o, ho⟩ : ∃ o, Q[j]? = some o := ⟨_, List.getElem?_eq_getElem (by rw [HN.out]; exact hlt)⟩
      obtain ⟨g, off, hao, c0, c1, c2, c3⟩ := (HQ.out wr hO.tail).at j o ho
      have hlt' : (j : Int) < (n : Int) := by omega
      obtain ⟨hw1, hw2⟩ := HW.out o (List.mem_of_getElem? ho)
      have HS : Hid (few (Q.take (j + 1)) = if j < 60 then few (Q.take j) ++ [o.cut] else few (Q.take j)) := few_succ Q j o ho
      have hfl := few_len (Q.take j)
      subst hao
      by_cases h60 : j < 60
      · have h60' : (j : Int) < 60 := by omega
        obtain ⟨k, hk⟩ : ∃ k, k = min o.C.length 20 := ⟨_, rfl⟩
        have hmin : min (o.C.length : Int) 20 = (k : Int) := by omega
        have hk1 : k ≤ o.C.length := by omega
        have hk2 : k ≤ o.cap := by omega
        have H5 : Hid (Own w0 _ _) := hO.alloc (.cells #[.int .u8 (o.d : Int), .int .u32 (o.id : Int), .int .u8 (o.k : Int), .slice o.ao k o.cap] 32)
        have HCS : Hid (o.cut.cs = [.int .u8 (o.d : Int), .int .u32 (o.id : Int), .int .u8 (o.k : Int), .slice o.ao k o.cap]) := by
          show _ = _
          unfold OrdE.cut OrdE.cs
          simp only [List.length_take, hk, Nat.min_comm]
        have HS2 : Hid (few (Q.take (j + 1)) = few (Q.take j) ++ [o.cut]) := by have := HS.out; rw [if_pos h60] at this; exact this
        obtain ⟨d, oid, ok, C, oa, oc⟩ := o
        simp only at c0 c1 c2 c3 hmin hk1 hk2 hw1 hw2 H5 HCS
        clear hO HO ho hk HS
        go_wp2_with (at_builtin; refine append1_own rfl _ _ 22 rfl 32 i0 (.agg #[.int .u8 0, .int .u32 0, .int .u8 0, .slice none 0 0]) 4 40 Tryd.underlying22 hi0 hz0 hz1 hz2 rfl (by decide) _ (few (Q.take j)).length (cat OrdE.cs (few (Q.take j))) rfl H5.out _ #[.int .u8 (d : Int), .int .u32 (oid : Int), .int .u8 (ok : Int), .slice oa k oc] (by simp) rfl rfl (by intro u hu; simp at hu; rcases hu with rfl | rfl | rfl | rfl <;> rfl) (by unfold maxLen; omega) (by omega) ?_)
        intro g6 c6 w6 hO6 hsz6
        have H6 : Hid (Own w0 w6 (Row 32 4 (.slice (some ⟨g6, 0, none⟩) (few (Q.take (j + 1))).length c6) (few (Q.take (j + 1))).length (cat OrdE.cs (few (Q.take (j + 1)))) :: l)) := by
          show Own _ _ _
          rw [HS2.out, List.length_append, cat_append, cat_one, HCS.out]; exact hO6
        have HL6 : Hid ((few (Q.take j)).length + 1 = (few (Q.take (j + 1))).length) := by show _ = _; rw [HS2.out, List.length_append]; rfl
        clear hO6 hsz6 H5 c0 c1 c2 c3
        go_wp2
        go_roundw
        case rel => exact ⟨j + 1, _, _, by omega, by go_num, by rw [HL6.out], H6.out⟩
        case measure => simp [intOf]; omega
      · have h60' : ¬ (j : Int) < 60 := by omega
        have HS2 : Hid (few (Q.take (j + 1)) = few (Q.take j)) := by have := HS.out; rw [if_neg h60] at this; exact this
        have HA : Hid (Own w0 _ _) := hO.alloc (.cells #[.int .u8 (o.d : Int), .int .u32 (o.id : Int), .int .u8 (o.k : Int), .slice o.ao o.C.length o.cap] 32)
        obtain ⟨d, oid, ok, C, oa, oc⟩ := o
        simp only at c0 c1 c2 c3 HA
        clear hO HO ho HS
        go_wp2
        go_roundw
        case rel =>
          refine ⟨j + 1, ra, rc, by omega, by go_num, by rw [HS2.out], ?_⟩
          rw [HS2.out]; exact HA.out
        case measure => simp [intOf]; omega
    · have hlt' : ¬ (j : Int) < (n : Int) := by omega
      have hT : Q.take j = Q := List.take_of_length_le (by rw [HN.out]; omega)
      rw [hT] at HO ⊢
      clear hO hT
      go_wp2
      go_ret
      exact ⟨_, _, rfl, HO.out⟩
set_option maxHeartbeats 1000000 in
theorem sameOrder_any (w : World) (x y : OrdE) (hxy : x.is = y.is) (h1 : Cs w x.ao x.C) (h2 : Cs w y.ao y.C) (hm : x.C.length ≤ 1000000) :
    Calls Tryd.prog 15 #[x.ag, y.ag] w fun e w' => e = .returned (.bool true) ∧ Fr Nobody w w' := by
  obtain ⟨d, id, k, C, a1, c1⟩ := x
  obtain ⟨d', id', k', C', a2, c2⟩ := y
  simp only [OrdE.is, Prod.mk.injEq] at hxy
  obtain ⟨rfl, rfl, rfl, rfl⟩ := hxy
  have HF : Hid (Fr Nobody w ((w.alloc (.cells #[.int .u8 (d : Int), .int .u32 (id : Int), .int .u8 (k : Int), .slice a1 C.length c1] 32)).alloc (.cells #[.int .u8 (d : Int), .int .u32 (id : Int), .int .u8 (k : Int), .slice a2 C.length c2] 32))) := ((Fr.refl _ _).alloc _).alloc _
  have HS : Hid (Calls _ _ _ _ _) := same_cs _ a1 a2 C.length c1 c2 C (h1.quiet HF.out) (h2.quiet HF.out) rfl hm
  have e0 : ((d : Int) == (d : Int)) = true := by simp
  have e1 : ((id : Int) == (id : Int)) = true := by simp
  have e2 : ((k : Int) == (k : Int)) = true := by simp
  unfold OrdE.ag
  simp only
  clear h1 h2
  go_enter Tryd.func15, Tryd.ntmps15
  go_wp2_with fail
  refine HS.out.mono ?_
  rintro e w1 ⟨rfl, hf⟩
  go_wp2
  go_ret
  exact ⟨rfl, HF.out.trans hf⟩
end Go.Proofs.YtoobfmedkhbkiaaDoor
