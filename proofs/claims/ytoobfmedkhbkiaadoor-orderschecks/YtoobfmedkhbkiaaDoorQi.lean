/-
  The document's Twins: orders of their own.
-/
import Derived.Test.YtoobfmedkhbkiaaDoorQh
namespace Go.Proofs.YtoobfmedkhbkiaaDoor
open Go.RowKit
set_option linter.unusedVariables false
set_option maxRecDepth 100000

theorem Own.dropl {w0 w : World} {l : List Thing} (L : List Thing) (h : Own w0 w (L ++ l)) : Own w0 w l := by
  induction L with
  | nil => exact h
  | cons P L ih => exact ih h.tail
set_option maxHeartbeats 2000000 in
theorem twins_ok (w0 w : World) (l : List Thing) (h : Own w0 w l) (ao : Option Addr) (n cap : Nat) (Q : List OrdE) (hn : Q.length = n) (hn6 : n ≤ 1000) (hQ : ∀ w', Own w0 w' l → Ords w' ao Q) (hw : ∀ o ∈ Q, o.C.length ≤ 1000) :
    Calls Tryd.prog 9 #[.slice ao n cap] w fun e w' => ∃ E ra rc, e = .returned (.slice ra n rc) ∧ E.map OrdE.is = Q.map OrdE.is ∧ E.length = n ∧ Own w0 w' (Row 32 4 (.slice ra n rc) n (cat OrdE.cs E) :: (E.map orow ++ l)) := by
  obtain ⟨i0, hi0, hz0, hz1, hz2⟩ := info_parts Tryd.infoOrd
  have H : Hid (Own w0 w l) := h
  have HN : Hid (Q.length = n) := hn
  have HQ : Hid (∀ w', Own w0 w' l → Ords w' ao Q) := hQ
  have HW : Hid (∀ o ∈ Q, o.C.length ≤ 1000) := hw
  clear h hn hQ hw
  go_enter Tryd.func9, Tryd.ntmps9
  go_wp2
  go_loopw [3, 8] (fun ov jv wr => ∃ (j : Nat) (E : List OrdE) (ra : Option Addr) (rc : Nat), j ≤ n ∧ jv = .int .i64 j ∧ ov = .slice ra j rc ∧ E.map OrdE.is = (Q.take j).map OrdE.is ∧ E.length = j ∧ Own w0 wr (Row 32 4 (.slice ra j rc) j (cat OrdE.cs E) :: (E.map orow ++ l))) (fun _ jv _ => n - (intOf jv).toNat)
  case atStart => exact ⟨0, [], none, 0, Nat.zero_le _, rfl, rfl, rfl, rfl, H.out.nilRow 32 4⟩
  case round =>
    obtain ⟨j, E, ra, rc, hj, rfl, rfl, hE, hEl, hO⟩ := hrel
    have HE : Hid (E.map OrdE.is = (Q.take j).map OrdE.is ∧ E.length = j) := ⟨hE, hEl⟩
    clear H
    by_cases hlt : j < n
    · obtain ⟨o, ho⟩ : ∃ o, Q[j]? = some o := ⟨_, List.getElem?_eq_getElem (by rw [HN.out]; exact hlt)⟩
      obtain ⟨g, off, hao, c0, c1, c2, c3⟩ := (HQ.out wr (hO.tail.dropl _)).at j o ho
      have hlt' : (j : Int) < (n : Int) := by omega
      have hB := hO.allocC #[.int .u8 (o.d : Int), .int .u32 (o.id : Int), .int .u8 (o.k : Int), .slice o.ao o.C.length o.cap] 32
      have HTW : Hid (Calls _ _ _ _ _) := twin_any w0 _ _ hB o.ao o.C.length o.cap o.C rfl ((HQ.out _ (hB.tail.tail.dropl _)).2 o (List.mem_of_getElem? ho)) (by have := HW.out o (List.mem_of_getElem? ho); omega)
      have HE2 : Hid (∀ a c, (E ++ [{ o with ao := a, cap := c }]).map OrdE.is = (Q.take (j + 1)).map OrdE.is) := by
        intro a c
        rw [List.map_append, HE.out.1, List.take_add_one, ho]
        simp [OrdE.is]
      subst hao
      obtain ⟨d, oid, ok, C, oa, oc⟩ := o
      simp only at c0 c1 c2 c3 HTW HE2
      clear hO hB ho hE hEl
      go_wp2_with fail
      refine HTW.out.mono ?_
      rintro e w2 ⟨a2, c2', rfl, hO2⟩
      have hO2 := hO2.two
      have p3 := hO2.cell 3
      have z3 := hO2.froz 3
      simp at p3
      have hO3 := hO2.setC 3 (.slice a2 C.length c2')
      have s0 := hO3.cell 0
      have s1 := hO3.cell 1
      have s2 := hO3.cell 2
      have s3 := hO3.cell 3
      simp at s0 s1 s2 s3
      have H3 : Hid (Own w0 _ _) := hO3.three
      clear hO2 hO3 HTW c0 c1 c2 c3
      go_wp2_with (at_builtin; refine append1_own rfl _ _ 22 rfl 32 i0 (.agg #[.int .u8 0, .int .u32 0, .int .u8 0, .slice none 0 0]) 4 40 Tryd.underlying22 hi0 hz0 hz1 hz2 rfl (by decide) _ j (cat OrdE.cs E) rfl H3.out _ #[.int .u8 (d : Int), .int .u32 (oid : Int), .int .u8 (ok : Int), .slice a2 C.length c2'] (by simp) rfl rfl (by intro u hu; simp at hu; rcases hu with rfl | rfl | rfl | rfl <;> rfl) (by unfold maxLen; omega) (by omega) ?_)
      intro g6 c6 w6 hO6 hsz6
      have H6 : Hid (Own w0 w6 (Row 32 4 (.slice (some ⟨g6, 0, none⟩) (j + 1) c6) (j + 1) (cat OrdE.cs (E ++ [OrdE.mk d oid ok C a2 c2'])) :: ((E ++ [OrdE.mk d oid ok C a2 c2']).map orow ++ l))) := by
        show Own _ _ _
        rw [cat_append, cat_one, List.map_append]
        have h7 := hO6.two.tail
        refine h7.perm (List.Perm.cons _ ?_)
        rw [List.append_assoc]
        exact List.perm_middle.symm
      clear hO6 hsz6 H3 p3 z3 s0 s1 s2 s3
      go_wp2
      go_roundw
      case rel => exact ⟨j + 1, _, _, _, by omega, by go_num, rfl, HE2.out _ _, by rw [List.length_append, HE.out.2]; rfl, H6.out⟩
      case measure => simp [intOf]; omega
    · have hlt' : ¬ (j : Int) < (n : Int) := by omega
      have hjn : j = n := by omega
      subst hjn
      have hT : Q.take j = Q := List.take_of_length_le (by rw [HN.out]; exact Nat.le_refl _)
      rw [hT] at HE
      have HO : Hid (Own w0 wr _) := hO
      clear hO hT hE hEl
      go_wp2
      go_ret
      exact ⟨E, _, _, rfl, HE.out.1, HE.out.2, HO.out⟩
end Go.Proofs.YtoobfmedkhbkiaaDoor
