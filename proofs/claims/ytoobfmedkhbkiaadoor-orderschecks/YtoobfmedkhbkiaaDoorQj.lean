/-
  Lists of orders that come in; orders in rows.
-/
import Derived.Test.YtoobfmedkhbkiaaDoorQi
namespace Go.Proofs.YtoobfmedkhbkiaaDoor
open Go.ChangeShapes Go.WideShapes Go.ChangeAt Go.RowKit Go.Deep
set_option linter.unusedVariables false
set_option maxRecDepth 100000

def IsOrds (w : World) (ao : Option Addr) (len cap : Nat) (Q : List OrdE) : Prop := Q.length = len ∧ len ≤ cap ∧ cap ≤ maxLen ∧ RowsAt (OrdT w) 4 w ao Q
theorem open_ops {H : Type} {enc : TypeId × Value → H} {W : World} {base : Nat} {ao : Option Addr} {len cap : Nat} {d : DataW H} {p : List MemPlace}
    (hv : Value.okWide Tryd.prog W .any base 22 (.slice ao len cap)) (h : DataW.Trod enc Tryd.prog W 0 (fun _ => true) true 22 (.slice ao len cap) d p) : ∃ Q, IsOrds W ao len cap Q := by
  haveI : Inhabited OrdE := ⟨⟨0, 0, 0, [], none, 0⟩⟩
  exact open_rows 4 Tryd.underlying22 cellsOrd (by decide) (OrdT W) (fun fuel cs x hx => ord_is fuel cs x hx) h
theorem IsOrds.ords {w : World} {ao : Option Addr} {len cap : Nat} {Q : List OrdE} (h : IsOrds w ao len cap Q) : Ords w ao Q ∧ ∀ o ∈ Q, o.d < 256 ∧ o.id < 4294967296 ∧ o.k < 256 ∧ IsComps w o.ao o.C.length o.cap o.C := by
  obtain ⟨hl, _, _, hR⟩ := h
  have key : ∀ o ∈ Q, o.d < 256 ∧ o.id < 4294967296 ∧ o.k < 256 ∧ IsComps w o.ao o.C.length o.cap o.C := by
    intro o ho
    obtain ⟨j, hj⟩ := List.getElem?_of_mem ho
    rcases hR with h | ⟨g, of, ha, hc⟩
    · subst h; simp at hj
    · obtain ⟨cs, ⟨_, h1, h2, h3, h4⟩, _⟩ := hc j o hj
      exact ⟨h1, h2, h3, h4⟩
  refine ⟨⟨?_, fun o ho => (key o ho).2.2.2.cs.1⟩, key⟩
  rcases hR with h | ⟨g, of, ha, hc⟩
  · exact .inl h
  · refine .inr ⟨g, of, ha, fun j o hj => ?_⟩
    obtain ⟨cs, ⟨rfl, _⟩, _, h3⟩ := hc j o hj
    exact ⟨h3 0 (by decide), h3 1 (by decide), h3 2 (by decide), h3 3 (by decide)⟩
theorem ord_len (x : OrdE) : x.cs.length = 4 := rfl
theorem Own.ords {w0 w : World} {l : List Thing} {ao : Option Addr} {n cap : Nat} {L : List OrdE} (h : Own w0 w (Row 32 4 (.slice ao n cap) n (cat OrdE.cs L) :: l)) (hn : L.length = n) (hc : ∀ x ∈ L, Cs w x.ao x.C) : Ords w ao L := by
  refine ⟨?_, hc⟩
  have r := h.row
  rcases Nat.eq_zero_or_pos n with h0 | h0
  · exact .inl (List.eq_nil_of_length_eq_zero (by omega))
  · obtain ⟨g, c, hv, _⟩ := row_shape r h0
    have ha := (Value.slice.inj hv).1
    subst ha
    refine .inr ⟨g, 0, rfl, fun j x hx => ?_⟩
    have hj := (List.getElem?_eq_some_iff.1 hx).1
    have e := fun i (hi : i < 4) => cat_at OrdE.cs 4 ord_len L j i x hx hi
    have k := fun i (hi : i < 4) => r.cellAt (j * 4 + i) (by omega)
    refine ⟨?_, ?_, ?_, ?_⟩
    · have := k 0 (by decide); rw [e 0 (by decide)] at this; simpa [OrdE.cs] using this
    · have := k 1 (by decide); rw [e 1 (by decide)] at this; simpa [Nat.zero_add, OrdE.cs] using this
    · have := k 2 (by decide); rw [e 2 (by decide)] at this; simpa [Nat.zero_add, OrdE.cs] using this
    · have := k 3 (by decide); rw [e 3 (by decide)] at this; simpa [Nat.zero_add, OrdE.cs] using this
theorem orow_pick (M : List OrdE) (j : Nat) (y : OrdE) (hy : M[j]? = some y) : (M.map orow).Perm (orow y :: (M.eraseIdx j).map orow) := by
  obtain ⟨hj, he⟩ := List.getElem?_eq_some_iff.1 hy
  have hd : M.drop j = y :: M.drop (j + 1) := by rw [List.drop_eq_getElem_cons hj, he]
  have e1 : M.map orow = (M.take j).map orow ++ orow y :: (M.drop (j + 1)).map orow := by
    have := congrArg (List.map orow) (List.take_append_drop j M)
    rw [hd, List.map_append, List.map_cons] at this
    exact this.symm
  rw [e1, List.eraseIdx_eq_take_drop_succ, List.map_append]
  exact List.perm_middle
theorem orow_back (M : List OrdE) (j : Nat) (y : OrdE) (hj : j < M.length) : ((M.set j y).map orow).Perm (orow y :: (M.eraseIdx j).map orow) := by
  have h := orow_pick (M.set j y) j y (by rw [List.getElem?_set_self hj])
  rw [List.eraseIdx_set_eq] at h
  exact h
theorem ccat_at1 (C : List Cp) (j : Nat) (q : Cp) (hq : C[j]? = some q) : (ccat C)[j * 4 + 1]? = some (.int .i32 q.a) := by
  unfold ccat
  rw [cat_at Cp.cs 4 cs_len C j 1 q hq (by decide)]; rfl
theorem ccat_set1 (C : List Cp) (k : Nat) (q : Cp) (a : Int) (hq : C[k]? = some q) : ccat (C.set k ⟨q.k, a, q.b, q.c⟩) = (ccat C).set (k * 4 + 1) (.int .i32 a) := by
  induction C generalizing k with
  | nil => simp at hq
  | cons y C ih =>
    have e1 : ∀ (A : List Cp) (z : Cp), ccat (z :: A) = [.int .u8 (z.k : Int), .int .i32 z.a, .int .i32 z.b, .int .i32 z.c] ++ ccat A := fun _ _ => rfl
    cases k with
    | zero => simp at hq; subst hq; rw [List.set_cons_zero, e1, e1]; simp
    | succ k =>
      have ih := ih k (by simpa using hq)
      rw [List.set_cons_succ, e1, e1, ih]
      have h1 : (k + 1) * 4 + 1 = (k * 4 + 1) + 4 := by omega
      rw [h1]
      simp
end Go.Proofs.YtoobfmedkhbkiaaDoor
