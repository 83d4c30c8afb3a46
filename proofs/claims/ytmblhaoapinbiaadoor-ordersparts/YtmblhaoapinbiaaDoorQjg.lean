/-
  The document's Few, Twins and SameOrder.
-/
import Derived.Test.YtmblhaoapinbiaaDoorQgg
namespace Go.Proofs.YtmblhaoapinbiaaDoor
open Go.RowKit
set_option linter.unusedVariables false
set_option maxRecDepth 100000

def OrdE.is (o : OrdE) : Nat × Nat × Nat × List Cp := (o.d, o.id, o.k, o.C)
def OrdE.cut (o : OrdE) : OrdE := { o with C := o.C.take 20 }
def few (Q : List OrdE) : List OrdE := (Q.take 60).map OrdE.cut
theorem few_len (Q : List OrdE) : (few Q).length ≤ 60 := by simp [few]; omega
theorem few_succ (Q : List OrdE) (j : Nat) (o : OrdE) (ho : Q[j]? = some o) : few (Q.take (j + 1)) = if j < 60 then few (Q.take j) ++ [o.cut] else few (Q.take j) := by
  unfold few
  rw [List.take_take, List.take_take]
  split
  · rename_i h
    rw [Nat.min_eq_right (by omega), Nat.min_eq_right (by omega), List.take_add_one, ho]
    simp
  · rw [Nat.min_eq_left (by omega), Nat.min_eq_left (by omega)]
theorem cat_one (o : OrdE) : cat OrdE.cs [o] = o.cs := by simp [cat]
set_option maxHeartbeats 2000000 in
theorem few_ok (w0 w : World) (l : List Thing) (h : Own w0 w l) (ao : Option Addr) (n cap : Nat) (Q : List OrdE) (hn : Q.length = n) (hn6 : n ≤ 9223372036854775807) (hQ : ∀ w', Own w0 w' l → Ords w' ao Q) (hw : ∀ o ∈ Q, o.C.length ≤ o.cap ∧ o.cap ≤ 9223372036854775807) :
    Calls Tryd.prog 5 #[.slice ao n cap, .int .i64 60] w fun e w' => ∃ ra rc, e = .returned (.slice ra (few Q).length rc) ∧ Own w0 w' (Row 46 4 (.slice ra (few Q).length rc) (few Q).length (cat OrdE.cs (few Q)) :: l) := by
  obtain ⟨i0, hi0, hz0, hz1, hz2⟩ := info_parts Tryd.infoOrd
  have H : Hid (Own w0 w l) := h
  have HN : Hid (Q.length = n) := hn
  have HQ : Hid (∀ w', Own w0 w' l → Ords w' ao Q) := hQ
  have HW : Hid (∀ o ∈ Q, o.C.length ≤ o.cap ∧ o.cap ≤ 9223372036854775807) := hw
  clear h hn hQ hw
  go_enter Tryd.func5, Tryd.ntmps5
  go_wp2
  go_loopw [5, 10] (fun ov jv wr => ∃ (j : Nat) (ra : Option Addr) (rc : Nat), j ≤ n ∧ jv = .int .i64 j ∧ ov = .slice ra (few (Q.take j)).length rc ∧ Own w0 wr (Row 46 4 (.slice ra (few (Q.take j)).length rc) (few (Q.take j)).length (cat OrdE.cs (few (Q.take j))) :: l)) (fun _ jv _ => n - (intOf jv).toNat)
  case atStart => exact ⟨0, none, 0, Nat.zero_le _, rfl, rfl, H.out.nilRow 46 4⟩
  case round =>
    obtain ⟨j, ra, rc, hj, rfl, rfl, hO⟩ := hrel
    have HO : Hid (Own w0 wr _) := hO
    clear H
    by_cases hlt : j < n
    · obtain ⟨o, ho⟩ : ∃ o, Q[j]? = some o := ⟨_, List.getElem?_eq_getElem (by rw [HN.out]; exact hlt)⟩
      obtain ⟨g, off, hao, c0, c1, c2, c3⟩ := (HQ.out wr hO.tail).at j o ho
      have hlt' : (j : Int) < (n : Int) := by omega
      obtain ⟨hw1, hw2⟩ := HW.out o (List.mem_of_getElem? ho)
      have HS : Hid (few (Q.take (j + 1)) = if j < 60 then few (Q.take j) ++ [o.cut] else few (Q.take j)) := few_succ Q j o ho
      have hfl := few_len (Q.take j)
      subst hao
      by_cases h60 : j < 60
      · have h60' : (j : Int) < 60 := by omega
        obtain ⟨k, hk⟩ : ∃ k, k = min o.C.length 20 := ⟨_, rfl⟩
        have hmin : min (o.C.length : Int) 20 = (k : Int) := by omega
        have hk1 : k ≤ o.C.length := by omega
        have hk2 : k ≤ o.cap := by omega
        have H5 : Hid (Own w0 _ _) := hO.alloc (.cells #[.int .u8 (o.d : Int), .int .u32 (o.id : Int), .int .u8 (o.k : Int), .slice o.ao k o.cap] 46)
        have HCS : Hid (o.cut.cs = [.int .u8 (o.d : Int), .int .u32 (o.id : Int), .int .u8 (o.k : Int), .slice o.ao k o.cap]) := by
          show _ = _
          unfold OrdE.cut OrdE.cs
          simp only [List.length_take, hk, Nat.min_comm]
        have HS2 : Hid (few (Q.take (j + 1)) = few (Q.take j) ++ [o.cut]) := by have := HS.out; rw [if_pos h60] at this; exact this
        obtain ⟨d, oid, ok, C, oa, oc⟩ := o
        simp only at c0 c1 c2 c3 hmin hk1 hk2 hw1 hw2 H5 HCS
        clear hO HO ho hk HS
        go_wp2_with (at_builtin; refine append1_own rfl _ _ 22 rfl 46 i0 (.agg #[.int .u8 0, .int .u32 0, .int .u8 0, .slice none 0 0]) 4 40 Tryd.underlying22 hi0 hz0 hz1 hz2 rfl (by decide) _ (few (Q.take j)).length (cat OrdE.cs (few (Q.take j))) rfl H5.out _ #[.int .u8 (d : Int), .int .u32 (oid : Int), .int .u8 (ok : Int), .slice oa k oc] (by simp) rfl rfl (by intro u hu; simp at hu; rcases hu with rfl | rfl | rfl | rfl <;> rfl) (by unfold maxLen; omega) (by omega) ?_)
        intro g6 c6 w6 hO6 hsz6
        have H6 : Hid (Own w0 w6 (Row 46 4 (.slice (some ⟨g6, 0, none⟩) (few (Q.take (j + 1))).length c6) (few (Q.take (j + 1))).length (cat OrdE.cs (few (Q.take (j + 1)))) :: l)) := by
          show Own _ _ _
          rw [HS2.out, List.length_append, cat_append, cat_one, HCS.out]; exact hO6
        have HL6 : Hid ((few (Q.take j)).length + 1 = (few (Q.take (j + 1))).length) := by show _ = _; rw [HS2.out, List.length_append]; rfl
        clear hO6 hsz6 H5 c0 c1 c2 c3
        go_wp2
        go_roundw
        case rel => exact ⟨j + 1, _, _, by omega, by go_num, by rw [HL6.out], H6.out⟩
        case measure => simp [intOf]; omega
      · have h60' : ¬ (j : Int) < 60 := by omega
        have HS2 : Hid (few (Q.take (j + 1)) = few (Q.take j)) := by have := HS.out; rw [if_neg h60] at this; exact this
        have HA : Hid (Own w0 _ _) := hO.alloc (.cells #[.int .u8 (o.d : Int), .int .u32 (o.id : Int), .int .u8 (o.k : Int), .slice o.ao o.C.length o.cap] 46)
        obtain ⟨d, oid, ok, C, oa, oc⟩ := o
        simp only at c0 c1 c2 c3 HA
        clear hO HO ho HS
        go_wp2
        go_roundw
        case rel =>
          refine ⟨j + 1, ra, rc, by omega, by go_num, by rw [HS2.out], ?_⟩
          rw [HS2.out]; exact HA.out
        case measure => simp [intOf]; omega
    · have hlt' : ¬ (j : Int) < (n : Int) := by omega
      have hT : Q.take j = Q := List.take_of_length_le (by rw [HN.out]; omega)
      rw [hT] at HO ⊢
      clear hO hT
      go_wp2
      go_ret
      exact ⟨_, _, rfl, HO.out⟩
end Go.Proofs.YtmblhaoapinbiaaDoor

/-
  The document's Twins: orders of their own.
-/
namespace Go.Proofs.YtmblhaoapinbiaaDoor
open Go.RowKit
set_option linter.unusedVariables false
set_option maxRecDepth 100000

theorem Own.dropl {w0 w : World} {l : List Thing} (L : List Thing) (h : Own w0 w (L ++ l)) : Own w0 w l := by
  induction L with
  | nil => exact h
  | cons P L ih => exact ih h.tail
set_option maxHeartbeats 2000000 in
theorem twins_ok (w0 w : World) (l : List Thing) (h : Own w0 w l) (ao : Option Addr) (n cap : Nat) (Q : List OrdE) (hn : Q.length = n) (hn6 : n ≤ 1000) (hQ : ∀ w', Own w0 w' l → Ords w' ao Q) (hw : ∀ o ∈ Q, o.C.length ≤ 1000) :
    Calls Tryd.prog 8 #[.slice ao n cap] w fun e w' => ∃ E ra rc, e = .returned (.slice ra n rc) ∧ E.map OrdE.is = Q.map OrdE.is ∧ E.length = n ∧ Own w0 w' (Row 46 4 (.slice ra n rc) n (cat OrdE.cs E) :: (E.map orow ++ l)) := by
  obtain ⟨i0, hi0, hz0, hz1, hz2⟩ := info_parts Tryd.infoOrd
  have H : Hid (Own w0 w l) := h
  have HN : Hid (Q.length = n) := hn
  have HQ : Hid (∀ w', Own w0 w' l → Ords w' ao Q) := hQ
  have HW : Hid (∀ o ∈ Q, o.C.length ≤ 1000) := hw
  clear h hn hQ hw
  go_enter Tryd.func8, Tryd.ntmps8
  go_wp2
  go_loopw [3, 8] (fun ov jv wr => ∃ (j : Nat) (E : List OrdE) (ra : Option Addr) (rc : Nat), j ≤ n ∧ jv = .int .i64 j ∧ ov = .slice ra j rc ∧ E.map OrdE.is = (Q.take j).map OrdE.is ∧ E.length = j ∧ Own w0 wr (Row 46 4 (.slice ra j rc) j (cat OrdE.cs E) :: (E.map orow ++ l))) (fun _ jv _ => n - (intOf jv).toNat)
  case atStart => exact ⟨0, [], none, 0, Nat.zero_le _, rfl, rfl, rfl, rfl, H.out.nilRow 46 4⟩
  case round =>
    obtain ⟨j, E, ra, rc, hj, rfl, rfl, hE, hEl, hO⟩ := hrel
    have HE : Hid (E.map OrdE.is = (Q.take j).map OrdE.is ∧ E.length = j) := ⟨hE, hEl⟩
    clear H
    by_cases hlt : j < n
    · obtain ⟨o, ho⟩ : ∃ o, Q[j]? = some o := ⟨_, List.getElem?_eq_getElem (by rw [HN.out]; exact hlt)⟩
      obtain ⟨g, off, hao, c0, c1, c2, c3⟩ := (HQ.out wr (hO.tail.dropl _)).at j o ho
      have hlt' : (j : Int) < (n : Int) := by omega
      have hB := hO.allocC #[.int .u8 (o.d : Int), .int .u32 (o.id : Int), .int .u8 (o.k : Int), .slice o.ao o.C.length o.cap] 46
      have HTW : Hid (Calls _ _ _ _ _) := twin_any w0 _ _ hB o.ao o.C.length o.cap o.C rfl ((HQ.out _ (hB.tail.tail.dropl _)).2 o (List.mem_of_getElem? ho)) (by have := HW.out o (List.mem_of_getElem? ho); omega)
      have HE2 : Hid (∀ a c, (E ++ [{ o with ao := a, cap := c }]).map OrdE.is = (Q.take (j + 1)).map OrdE.is) := by
        intro a c
        rw [List.map_append, HE.out.1, List.take_add_one, ho]
        simp [OrdE.is]
      subst hao
      obtain ⟨d, oid, ok, C, oa, oc⟩ := o
      simp only at c0 c1 c2 c3 HTW HE2
      clear hO hB ho hE hEl
      go_wp2_with fail
      refine HTW.out.mono ?_
      rintro e w2 ⟨a2, c2', rfl, hO2⟩
      have hO2 := hO2.two
      have p3 := hO2.cell 3
      have z3 := hO2.froz 3
      simp at p3
      have hO3 := hO2.setC 3 (.slice a2 C.length c2')
      have s0 := hO3.cell 0
      have s1 := hO3.cell 1
      have s2 := hO3.cell 2
      have s3 := hO3.cell 3
      simp at s0 s1 s2 s3
      have H3 : Hid (Own w0 _ _) := hO3.three
      clear hO2 hO3 HTW c0 c1 c2 c3
      go_wp2_with (at_builtin; refine append1_own rfl _ _ 22 rfl 46 i0 (.agg #[.int .u8 0, .int .u32 0, .int .u8 0, .slice none 0 0]) 4 40 Tryd.underlying22 hi0 hz0 hz1 hz2 rfl (by decide) _ j (cat OrdE.cs E) rfl H3.out _ #[.int .u8 (d : Int), .int .u32 (oid : Int), .int .u8 (ok : Int), .slice a2 C.length c2'] (by simp) rfl rfl (by intro u hu; simp at hu; rcases hu with rfl | rfl | rfl | rfl <;> rfl) (by unfold maxLen; omega) (by omega) ?_)
      intro g6 c6 w6 hO6 hsz6
      have H6 : Hid (Own w0 w6 (Row 46 4 (.slice (some ⟨g6, 0, none⟩) (j + 1) c6) (j + 1) (cat OrdE.cs (E ++ [OrdE.mk d oid ok C a2 c2'])) :: ((E ++ [OrdE.mk d oid ok C a2 c2']).map orow ++ l))) := by
        show Own _ _ _
        rw [cat_append, cat_one, List.map_append]
        have h7 := hO6.two.tail
        refine h7.perm (List.Perm.cons _ ?_)
        rw [List.append_assoc]
        exact List.perm_middle.symm
      clear hO6 hsz6 H3 p3 z3 s0 s1 s2 s3
      go_wp2
      go_roundw
      case rel => exact ⟨j + 1, _, _, _, by omega, by go_num, rfl, HE2.out _ _, by rw [List.length_append, HE.out.2]; rfl, H6.out⟩
      case measure => simp [intOf]; omega
    · have hlt' : ¬ (j : Int) < (n : Int) := by omega
      have hjn : j = n := by omega
      subst hjn
      have hT : Q.take j = Q := List.take_of_length_le (by rw [HN.out]; exact Nat.le_refl _)
      rw [hT] at HE
      have HO : Hid (Own w0 wr _) := hO
      clear hO hT hE hEl
      go_wp2
      go_ret
      exact ⟨E, _, _, rfl, HE.out.1, HE.out.2, HO.out⟩
end Go.Proofs.YtmblhaoapinbiaaDoor

/-
  Lists of orders that come in; orders in rows.
-/
namespace Go.Proofs.YtmblhaoapinbiaaDoor
open Go.ChangeShapes Go.WideShapes Go.ChangeAt Go.RowKit Go.Deep
set_option linter.unusedVariables false
set_option maxRecDepth 100000

def IsOrds (w : World) (ao : Option Addr) (len cap : Nat) (Q : List OrdE) : Prop := Q.length = len ∧ len ≤ cap ∧ cap ≤ maxLen ∧ RowsAt (OrdT w) 4 w ao Q
theorem open_ops {H : Type} {enc : TypeId × Value → H} {W : World} {base : Nat} {ao : Option Addr} {len cap : Nat} {d : DataW H} {p : List MemPlace}
    (hv : Value.okWide Tryd.prog W .any base 22 (.slice ao len cap)) (h : DataW.Trod enc Tryd.prog W 0 (fun _ => true) true 22 (.slice ao len cap) d p) : ∃ Q, IsOrds W ao len cap Q := by
  haveI : Inhabited OrdE := ⟨⟨0, 0, 0, [], none, 0⟩⟩
  exact open_rows 4 Tryd.underlying22 cellsOrd (by decide) (OrdT W) (fun fuel cs x hx => ord_is fuel cs x hx) h
theorem IsOrds.ords {w : World} {ao : Option Addr} {len cap : Nat} {Q : List OrdE} (h : IsOrds w ao len cap Q) : Ords w ao Q ∧ ∀ o ∈ Q, o.d < 256 ∧ o.id < 4294967296 ∧ o.k < 256 ∧ IsComps w o.ao o.C.length o.cap o.C := by
  obtain ⟨hl, _, _, hR⟩ := h
  have key : ∀ o ∈ Q, o.d < 256 ∧ o.id < 4294967296 ∧ o.k < 256 ∧ IsComps w o.ao o.C.length o.cap o.C := by
    intro o ho
    obtain ⟨j, hj⟩ := List.getElem?_of_mem ho
    rcases hR with h | ⟨g, of, ha, hc⟩
    · subst h; simp at hj
    · obtain ⟨cs, ⟨_, h1, h2, h3, h4⟩, _⟩ := hc j o hj
      exact ⟨h1, h2, h3, h4⟩
  refine ⟨⟨?_, fun o ho => (key o ho).2.2.2.cs.1⟩, key⟩
  rcases hR with h | ⟨g, of, ha, hc⟩
  · exact .inl h
  · refine .inr ⟨g, of, ha, fun j o hj => ?_⟩
    obtain ⟨cs, ⟨rfl, _⟩, _, h3⟩ := hc j o hj
    exact ⟨h3 0 (by decide), h3 1 (by decide), h3 2 (by decide), h3 3 (by decide)⟩
theorem ord_len (x : OrdE) : x.cs.length = 4 := rfl
theorem Own.ords {w0 w : World} {l : List Thing} {ao : Option Addr} {n cap : Nat} {L : List OrdE} (h : Own w0 w (Row 46 4 (.slice ao n cap) n (cat OrdE.cs L) :: l)) (hn : L.length = n) (hc : ∀ x ∈ L, Cs w x.ao x.C) : Ords w ao L := by
  refine ⟨?_, hc⟩
  have r := h.row
  rcases Nat.eq_zero_or_pos n with h0 | h0
  · exact .inl (List.eq_nil_of_length_eq_zero (by omega))
  · obtain ⟨g, c, hv, _⟩ := row_shape r h0
    have ha := (Value.slice.inj hv).1
    subst ha
    refine .inr ⟨g, 0, rfl, fun j x hx => ?_⟩
    have hj := (List.getElem?_eq_some_iff.1 hx).1
    have e := fun i (hi : i < 4) => cat_at OrdE.cs 4 ord_len L j i x hx hi
    have k := fun i (hi : i < 4) => r.cellAt (j * 4 + i) (by omega)
    refine ⟨?_, ?_, ?_, ?_⟩
    · have := k 0 (by decide); rw [e 0 (by decide)] at this; simpa [OrdE.cs] using this
    · have := k 1 (by decide); rw [e 1 (by decide)] at this; simpa [Nat.zero_add, OrdE.cs] using this
    · have := k 2 (by decide); rw [e 2 (by decide)] at this; simpa [Nat.zero_add, OrdE.cs] using this
    · have := k 3 (by decide); rw [e 3 (by decide)] at this; simpa [Nat.zero_add, OrdE.cs] using this
theorem orow_pick (M : List OrdE) (j : Nat) (y : OrdE) (hy : M[j]? = some y) : (M.map orow).Perm (orow y :: (M.eraseIdx j).map orow) := by
  obtain ⟨hj, he⟩ := List.getElem?_eq_some_iff.1 hy
  have hd : M.drop j = y :: M.drop (j + 1) := by rw [List.drop_eq_getElem_cons hj, he]
  have e1 : M.map orow = (M.take j).map orow ++ orow y :: (M.drop (j + 1)).map orow := by
    have := congrArg (List.map orow) (List.take_append_drop j M)
    rw [hd, List.map_append, List.map_cons] at this
    exact this.symm
  rw [e1, List.eraseIdx_eq_take_drop_succ, List.map_append]
  exact List.perm_middle
theorem orow_back (M : List OrdE) (j : Nat) (y : OrdE) (hj : j < M.length) : ((M.set j y).map orow).Perm (orow y :: (M.eraseIdx j).map orow) := by
  have h := orow_pick (M.set j y) j y (by rw [List.getElem?_set_self hj])
  rw [List.eraseIdx_set_eq] at h
  exact h
theorem ccat_at1 (C : List Cp) (j : Nat) (q : Cp) (hq : C[j]? = some q) : (ccat C)[j * 4 + 1]? = some (.int .i32 q.a) := by
  unfold ccat
  rw [cat_at Cp.cs 4 cs_len C j 1 q hq (by decide)]; rfl
theorem ccat_set1 (C : List Cp) (k : Nat) (q : Cp) (a : Int) (hq : C[k]? = some q) : ccat (C.set k ⟨q.k, a, q.b, q.c⟩) = (ccat C).set (k * 4 + 1) (.int .i32 a) := by
  induction C generalizing k with
  | nil => simp at hq
  | cons y C ih =>
    have e1 : ∀ (A : List Cp) (z : Cp), ccat (z :: A) = [.int .u8 (z.k : Int), .int .i32 z.a, .int .i32 z.b, .int .i32 z.c] ++ ccat A := fun _ _ => rfl
    cases k with
    | zero => simp at hq; subst hq; rw [List.set_cons_zero, e1, e1]; simp
    | succ k =>
      have ih := ih k (by simpa using hq)
      rw [List.set_cons_succ, e1, e1, ih]
      have h1 : (k + 1) * 4 + 1 = (k * 4 + 1) + 4 := by omega
      rw [h1]
      simp
end Go.Proofs.YtmblhaoapinbiaaDoor
