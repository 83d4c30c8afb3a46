/-
  Lists of orders that come in; orders in rows.
-/
import Derived.Test.YtplimgfimdchpaaGreatDoorQig
import Derived.Test.YtplimgfimdchpaaGreatDoorSm
import Derived.Test.YtplimgfimdchpaaGreatDoorDig
import Derived.Test.YtplimgfimdchpaaGreatDoorDmg
import Derived.Deep.AppendLies
import Derived.Deep.RegionHeld3
namespace Go.Proofs.YtplimgfimdchpaaGreatDoor
open Go.ChangeShapes Go.WideShapes Go.ChangeAt Go.RowKit Go.Deep
set_option linter.unusedVariables false
set_option maxRecDepth 100000

def IsOrds (w : World) (ao : Option Addr) (len cap : Nat) (Q : List OrdE) : Prop := Q.length = len ∧ len ≤ cap ∧ cap ≤ maxLen ∧ RowsAt (OrdT w) 4 w ao Q
theorem open_ops {H : Type} {enc : TypeId × Value → H} {W : World} {base : Nat} {ao : Option Addr} {len cap : Nat} {d : DataW H} {p : List MemPlace}
    (hv : Value.okWide Tryz.prog W .any base 22 (.slice ao len cap)) (h : DataW.Trod enc Tryz.prog W 0 (fun _ => true) true 22 (.slice ao len cap) d p) : ∃ Q, IsOrds W ao len cap Q := by
  haveI : Inhabited OrdE := ⟨⟨0, 0, 0, [], none, 0⟩⟩
  exact open_rows 4 Tryz.underlying22 cellsOrd (by decide) (OrdT W) (fun fuel cs x hx => ord_is fuel cs x hx) h
theorem IsOrds.ords {w : World} {ao : Option Addr} {len cap : Nat} {Q : List OrdE} (h : IsOrds w ao len cap Q) : Ords w ao Q ∧ ∀ o ∈ Q, o.d < 256 ∧ o.id < 4294967296 ∧ o.k < 256 ∧ IsComps w o.ao o.C.length o.cap o.C := by
  obtain ⟨hl, _, _, hR⟩ := h
  have key : ∀ o ∈ Q, o.d < 256 ∧ o.id < 4294967296 ∧ o.k < 256 ∧ IsComps w o.ao o.C.length o.cap o.C := by
    intro o ho
    obtain ⟨j, hj⟩ := List.getElem?_of_mem ho
    rcases hR with h | ⟨g, of, ha, hc⟩
    · subst h; simp at hj
    · obtain ⟨cs, ⟨_, h1, h2, h3, h4⟩, _⟩ := hc j o hj
      exact ⟨h1, h2, h3, h4⟩
  refine ⟨⟨?_, fun o ho => (key o ho).2.2.2.cs.1⟩, key⟩
  rcases hR with h | ⟨g, of, ha, hc⟩
  · exact .inl h
  · refine .inr ⟨g, of, ha, fun j o hj => ?_⟩
    obtain ⟨cs, ⟨rfl, _⟩, _, h3⟩ := hc j o hj
    exact ⟨h3 0 (by decide), h3 1 (by decide), h3 2 (by decide), h3 3 (by decide)⟩
theorem ord_len (x : OrdE) : x.cs.length = 4 := rfl
theorem Own.ords {w0 w : World} {l : List Thing} {ao : Option Addr} {n cap : Nat} {L : List OrdE} (h : Own w0 w (Row 40 4 (.slice ao n cap) n (cat OrdE.cs L) :: l)) (hn : L.length = n) (hc : ∀ x ∈ L, Cs w x.ao x.C) : Ords w ao L := by
  refine ⟨?_, hc⟩
  have r := h.row
  rcases Nat.eq_zero_or_pos n with h0 | h0
  · exact .inl (List.eq_nil_of_length_eq_zero (by omega))
  · obtain ⟨g, c, hv, _⟩ := row_shape r h0
    have ha := (Value.slice.inj hv).1
    subst ha
    refine .inr ⟨g, 0, rfl, fun j x hx => ?_⟩
    have hj := (List.getElem?_eq_some_iff.1 hx).1
    have e := fun i (hi : i < 4) => cat_at OrdE.cs 4 ord_len L j i x hx hi
    have k := fun i (hi : i < 4) => r.cellAt (j * 4 + i) (by omega)
    refine ⟨?_, ?_, ?_, ?_⟩
    · have := k 0 (by decide); rw [e 0 (by decide)] at this; simpa [OrdE.cs] using this
    · have := k 1 (by decide); rw [e 1 (by decide)] at this; simpa [Nat.zero_add, OrdE.cs] using this
    · have := k 2 (by decide); rw [e 2 (by decide)] at this; simpa [Nat.zero_add, OrdE.cs] using this
    · have := k 3 (by decide); rw [e 3 (by decide)] at this; simpa [Nat.zero_add, OrdE.cs] using this
theorem orow_pick (M : List OrdE) (j : Nat) (y : OrdE) (hy : M[j]? = some y) : (M.map orow).Perm (orow y :: (M.eraseIdx j).map orow) := by
  obtain ⟨hj, he⟩ := List.getElem?_eq_some_iff.1 hy
  have hd : M.drop j = y :: M.drop (j + 1) := by rw [List.drop_eq_getElem_cons hj, he]
  have e1 : M.map orow = (M.take j).map orow ++ orow y :: (M.drop (j + 1)).map orow := by
    have := congrArg (List.map orow) (List.take_append_drop j M)
    rw [hd, List.map_append, List.map_cons] at this
    exact this.symm
  rw [e1, List.eraseIdx_eq_take_drop_succ, List.map_append]
  exact List.perm_middle
theorem orow_back (M : List OrdE) (j : Nat) (y : OrdE) (hj : j < M.length) : ((M.set j y).map orow).Perm (orow y :: (M.eraseIdx j).map orow) := by
  have h := orow_pick (M.set j y) j y (by rw [List.getElem?_set_self hj])
  rw [List.eraseIdx_set_eq] at h
  exact h
theorem ccat_at1 (C : List Cp) (j : Nat) (q : Cp) (hq : C[j]? = some q) : (ccat C)[j * 4 + 1]? = some (.int .i32 q.a) := by
  unfold ccat
  rw [cat_at Cp.cs 4 cs_len C j 1 q hq (by decide)]; rfl
theorem ccat_set1 (C : List Cp) (k : Nat) (q : Cp) (a : Int) (hq : C[k]? = some q) : ccat (C.set k ⟨q.k, a, q.b, q.c⟩) = (ccat C).set (k * 4 + 1) (.int .i32 a) := by
  induction C generalizing k with
  | nil => simp at hq
  | cons y C ih =>
    have e1 : ∀ (A : List Cp) (z : Cp), ccat (z :: A) = [.int .u8 (z.k : Int), .int .i32 z.a, .int .i32 z.b, .int .i32 z.c] ++ ccat A := fun _ _ => rfl
    cases k with
    | zero => simp at hq; subst hq; rw [List.set_cons_zero, e1, e1]; simp
    | succ k =>
      have ih := ih k (by simpa using hq)
      rw [List.set_cons_succ, e1, e1, ih]
      have h1 : (k + 1) * 4 + 1 = (k * 4 + 1) + 4 := by omega
      rw [h1]
      simp
end Go.Proofs.YtplimgfimdchpaaGreatDoor

/-
  Two entities that are alike.
-/
namespace Go.Proofs.YtplimgfimdchpaaGreatDoor
open Go.RowKit
set_option linter.unusedVariables false
set_option maxRecDepth 100000

set_option maxHeartbeats 1000000 in
theorem sameEnt_any (w : World) (id : Nat) (a1 a2 : Option Addr) (n c1 c2 : Nat) (C : List Cp) (h1 : Cs w a1 C) (h2 : Cs w a2 C) (hn : C.length = n) (hm : n ≤ 1000000) :
    Calls Tryz.prog 25 #[.agg #[.int .u32 (id : Int), .slice a1 n c1], .agg #[.int .u32 (id : Int), .slice a2 n c2]] w fun e w' => e = .returned (.bool true) ∧ Fr Nobody w w' := by
  have HF : Hid (Fr Nobody w ((w.alloc (.cells #[.int .u32 (id : Int), .slice a1 n c1] 76)).alloc (.cells #[.int .u32 (id : Int), .slice a2 n c2] 76))) := ((Fr.refl _ _).alloc _).alloc _
  have HS : Hid (Calls _ _ _ _ _) := same_cs _ a1 a2 n c1 c2 C (h1.quiet HF.out) (h2.quiet HF.out) hn hm
  have hii : ((id : Int) == (id : Int)) = true := by simp
  clear h1 h2 hn
  go_enter Tryz.func25, Tryz.ntmps25
  go_wp2_with fail
  refine HS.out.mono ?_
  rintro e w1 ⟨rfl, hf⟩
  have H1 : Hid (Fr Nobody w w1) := HF.out.trans hf
  clear hf HS
  go_wp2
  go_ret
  exact ⟨rfl, H1.out⟩

end Go.Proofs.YtplimgfimdchpaaGreatDoor

/-
  What is told of a store's numbers: Live, Len, Room, List; a nil store.
-/
namespace Go.Proofs.YtplimgfimdchpaaGreatDoor
open Go.RowKit Go.Maps
set_option linter.unusedVariables false

set_option maxHeartbeats 400000 in
theorem sused (w0 w : World) (l : List Thing) (b bs : Nat) (v : Value) (p : Nat → Option Nat) (σ : Sto) (K : Nat) (h : Own w0 w (StoX b σ K (bs, v, p) :: l)) :
    Calls Tryz.prog 39 #[.pointer (some ⟨b, 0, none⟩)] w fun e w' => e = .returned (.pointer (some ⟨bs, 0, none⟩)) ∧ w' = w := by
  obtain ⟨q0, _, _⟩ := stoCells h
  clear h
  go_enter Tryz.func39, Tryz.ntmps39
  go_wp2
  go_ret
  exact ⟨rfl, rfl⟩
set_option maxHeartbeats 400000 in
theorem sused_nil (w : World) : Calls Tryz.prog 39 #[.pointer none] w fun e w' => e = .returned (.pointer none) ∧ w' = w := by
  go_enter Tryz.func39, Tryz.ntmps39
  go_wp2
  go_ret
  exact ⟨rfl, rfl⟩
set_option maxHeartbeats 400000 in
theorem slen (w0 w : World) (l : List Thing) (b : Nat) (σ : Sto) (K : Nat) (h : Own w0 w (Store b σ K :: l)) :
    Calls Tryz.prog 23 #[.pointer (some ⟨b, 0, none⟩)] w fun e w' => e = .returned (.int .i64 (σ.S.live : Int)) ∧ Own w0 w' (Store b σ K :: l) := by
  have H : Hid (Own w0 w (Store b σ K :: l)) := h
  obtain ⟨bs, v, p, h⟩ := h.stoX
  have HU : Hid (Calls _ _ _ _ _) := sused w0 w l b bs v p σ K h
  have HL : Hid (Calls _ _ _ _ _) := len_ok w0 w _ bs σ.S h.stoO.two
  clear h
  go_enter Tryz.func23, Tryz.ntmps23
  go_wp2_with (first | (go_at_call 39; refine HU.out.mono ?_; rintro e w' ⟨rfl, rfl⟩) | (go_at_call 40; refine HL.out.mono ?_; rintro e w' ⟨rfl, rfl⟩))
  go_ret
  exact ⟨rfl, H.out⟩
set_option maxHeartbeats 400000 in
theorem slist (w0 w : World) (l : List Thing) (b : Nat) (σ : Sto) (K : Nat) (h : Own w0 w (Store b σ K :: l)) (hσ : σ.S.Ok) :
    Calls Tryz.prog 26 #[.pointer (some ⟨b, 0, none⟩)] w fun e w' => ∃ v, e = .returned v ∧ Own w0 w' (Row 37 1 v σ.S.list.length (irow .u32 σ.S.list) :: Store b σ K :: l) := by
  obtain ⟨bs, v, p, h⟩ := h.stoX
  have HU : Hid (Calls _ _ _ _ _) := sused w0 w l b bs v p σ K h
  have HL : Hid (Calls _ _ _ _ _) := list_ok w0 w _ bs σ.S h.stoO.two hσ
  clear h
  go_enter Tryz.func26, Tryz.ntmps26
  go_wp2_with (go_at_call 39; refine HU.out.mono ?_; rintro e w' ⟨rfl, rfl⟩)
  refine HL.out.mono ?_
  rintro e w' ⟨vv, rfl, hO⟩
  have H1 : Hid (Own w0 w' (Row 37 1 vv σ.S.list.length (irow .u32 σ.S.list) :: Store b σ K :: l)) := by
    have k := Own.sink (l := [Cells b (scells bs v p) 59, Slots bs σ.S, Row 5 1 v σ.mks.length (irow .u8 σ.mks), Tabs p σ.T K]) (m := l) hO.in23
    exact (Own.stoS k).xSto.two
  clear hO
  go_wp2
  go_ret
  exact ⟨_, rfl, H1.out⟩
end Go.Proofs.YtplimgfimdchpaaGreatDoor

/-
  The document's Few of forty orders; parts of lists of orders.
-/
namespace Go.Proofs.YtplimgfimdchpaaGreatDoor
open Go.RowKit
set_option linter.unusedVariables false
set_option maxRecDepth 100000

def few4 (Q : List OrdE) : List OrdE := (Q.take 40).map OrdE.cut
theorem few4_len (Q : List OrdE) : (few4 Q).length ≤ 40 := by simp [few4]; omega
theorem few4_succ (Q : List OrdE) (j : Nat) (o : OrdE) (ho : Q[j]? = some o) : few4 (Q.take (j + 1)) = if j < 40 then few4 (Q.take j) ++ [o.cut] else few4 (Q.take j) := by
  unfold few4
  rw [List.take_take, List.take_take]
  split
  · rename_i h
    rw [Nat.min_eq_right (by omega), Nat.min_eq_right (by omega), List.take_add_one, ho]
    simp
  · rw [Nat.min_eq_left (by omega), Nat.min_eq_left (by omega)]
set_option maxHeartbeats 2000000 in
theorem few4_ok (w0 w : World) (l : List Thing) (h : Own w0 w l) (ao : Option Addr) (n cap : Nat) (Q : List OrdE) (hn : Q.length = n) (hn6 : n ≤ 9223372036854775807) (hQ : ∀ w', Own w0 w' l → Ords w' ao Q) (hw : ∀ o ∈ Q, o.C.length ≤ o.cap ∧ o.cap ≤ 9223372036854775807) :
    Calls Tryz.prog 5 #[.slice ao n cap, .int .i64 40] w fun e w' => ∃ ra rc, e = .returned (.slice ra (few4 Q).length rc) ∧ Own w0 w' (Row 40 4 (.slice ra (few4 Q).length rc) (few4 Q).length (cat OrdE.cs (few4 Q)) :: l) := by
  obtain ⟨i0, hi0, hz0, hz1, hz2⟩ := info_parts Tryz.infoOrd
  have H : Hid (Own w0 w l) := h
  have HN : Hid (Q.length = n) := hn
  have HQ : Hid (∀ w', Own w0 w' l → Ords w' ao Q) := hQ
  have HW : Hid (∀ o ∈ Q, o.C.length ≤ o.cap ∧ o.cap ≤ 9223372036854775807) := hw
  clear h hn hQ hw
  go_enter Tryz.func5, Tryz.ntmps5
  go_wp2
  go_loopw [5, 10] (fun ov jv wr => ∃ (j : Nat) (ra : Option Addr) (rc : Nat), j ≤ n ∧ jv = .int .i64 j ∧ ov = .slice ra (few4 (Q.take j)).length rc ∧ Own w0 wr (Row 40 4 (.slice ra (few4 (Q.take j)).length rc) (few4 (Q.take j)).length (cat OrdE.cs (few4 (Q.take j))) :: l)) (fun _ jv _ => n - (intOf jv).toNat)
  case atStart => exact ⟨0, none, 0, Nat.zero_le _, rfl, rfl, H.out.nilRow 40 4⟩
  case round =>
    obtain ⟨j, ra, rc, hj, rfl, rfl, hO⟩ := hrel
    have HO : Hid (Own w0 wr _) := hO
    clear H
    by_cases hlt : j < n
    · obtain ⟨o, ho⟩ : ∃ o, Q[j]? = some o := ⟨_, List.getElem?_eq_getElem (by rw [HN.out]; exact hlt)⟩
      obtain ⟨g, off, hao, c0, c1, c2, c3⟩ := (HQ.out wr hO.tail).at j o ho
      have hlt' : (j : Int) < (n : Int) := by omega
      obtain ⟨hw1, hw2⟩ := HW.out o (List.mem_of_getElem? ho)
      have HS : Hid (few4 (Q.take (j + 1)) = if j < 40 then few4 (Q.take j) ++ [o.cut] else few4 (Q.take j)) := few4_succ Q j o ho
      have hfl := few4_len (Q.take j)
      subst hao
      by_cases h40 : j < 40
      · have h40' : (j : Int) < 40 := by omega
        obtain ⟨k, hk⟩ : ∃ k, k = min o.C.length 20 := ⟨_, rfl⟩
        have hmin : min (o.C.length : Int) 20 = (k : Int) := by omega
        have hk1 : k ≤ o.C.length := by omega
        have hk2 : k ≤ o.cap := by omega
        have H5 : Hid (Own w0 _ _) := hO.alloc (.cells #[.int .u8 (o.d : Int), .int .u32 (o.id : Int), .int .u8 (o.k : Int), .slice o.ao k o.cap] 40)
        have HCS : Hid (o.cut.cs = [.int .u8 (o.d : Int), .int .u32 (o.id : Int), .int .u8 (o.k : Int), .slice o.ao k o.cap]) := by
          show _ = _
          unfold OrdE.cut OrdE.cs
          simp only [List.length_take, hk, Nat.min_comm]
        have HS2 : Hid (few4 (Q.take (j + 1)) = few4 (Q.take j) ++ [o.cut]) := by have := HS.out; rw [if_pos h40] at this; exact this
        obtain ⟨d, oid, ok, C, oa, oc⟩ := o
        simp only at c0 c1 c2 c3 hmin hk1 hk2 hw1 hw2 H5 HCS
        clear hO HO ho hk HS
        go_wp2_with (at_builtin; refine append1_own rfl _ _ 22 rfl 40 i0 (.agg #[.int .u8 0, .int .u32 0, .int .u8 0, .slice none 0 0]) 4 40 Tryz.underlying22 hi0 hz0 hz1 hz2 rfl (by decide) _ (few4 (Q.take j)).length (cat OrdE.cs (few4 (Q.take j))) rfl H5.out _ #[.int .u8 (d : Int), .int .u32 (oid : Int), .int .u8 (ok : Int), .slice oa k oc] (by simp) rfl rfl (by intro u hu; simp at hu; rcases hu with rfl | rfl | rfl | rfl <;> rfl) (by unfold maxLen; omega) (by omega) ?_)
        intro g6 c6 w6 hO6 hsz6
        have H6 : Hid (Own w0 w6 (Row 40 4 (.slice (some ⟨g6, 0, none⟩) (few4 (Q.take (j + 1))).length c6) (few4 (Q.take (j + 1))).length (cat OrdE.cs (few4 (Q.take (j + 1)))) :: l)) := by
          show Own _ _ _
          rw [HS2.out, List.length_append, cat_append, cat_one, HCS.out]; exact hO6
        have HL6 : Hid ((few4 (Q.take j)).length + 1 = (few4 (Q.take (j + 1))).length) := by show _ = _; rw [HS2.out, List.length_append]; rfl
        clear hO6 hsz6 H5 c0 c1 c2 c3
        go_wp2
        go_roundw
        case rel => exact ⟨j + 1, _, _, by omega, by go_num, by rw [HL6.out], H6.out⟩
        case measure => simp [intOf]; omega
      · have h40' : ¬ (j : Int) < 40 := by omega
        have HS2 : Hid (few4 (Q.take (j + 1)) = few4 (Q.take j)) := by have := HS.out; rw [if_neg h40] at this; exact this
        have HA : Hid (Own w0 _ _) := hO.alloc (.cells #[.int .u8 (o.d : Int), .int .u32 (o.id : Int), .int .u8 (o.k : Int), .slice o.ao o.C.length o.cap] 40)
        obtain ⟨d, oid, ok, C, oa, oc⟩ := o
        simp only at c0 c1 c2 c3 HA
        clear hO HO ho HS
        go_wp2
        go_roundw
        case rel =>
          refine ⟨j + 1, ra, rc, by omega, by go_num, by rw [HS2.out], ?_⟩
          rw [HS2.out]; exact HA.out
        case measure => simp [intOf]; omega
    · have hlt' : ¬ (j : Int) < (n : Int) := by omega
      have hT : Q.take j = Q := List.take_of_length_le (by rw [HN.out]; omega)
      rw [hT] at HO ⊢
      clear hO hT
      go_wp2
      go_ret
      exact ⟨_, _, rfl, HO.out⟩

theorem Ords.part {w : World} {ao : Option Addr} {L : List OrdE} (h : Ords w ao L) (k : Nat) : Ords w ao (L.take k) := by
  refine ⟨?_, fun x hx => h.2 x (List.mem_of_mem_take hx)⟩
  rcases h.1 with h | ⟨g, o, ha, hc⟩
  · subst h; exact .inl (by simp)
  · refine .inr ⟨g, o, ha, fun j x hx => hc j x ?_⟩
    rw [List.getElem?_take] at hx
    split at hx
    · exact hx
    · cases hx
theorem Ords.rest {w : World} {g o : Nat} {L : List OrdE} (h : Ords w (some ⟨g, o, none⟩) L) (k : Nat) : Ords w (some ⟨g, o + k * 4, none⟩) (L.drop k) := by
  refine ⟨?_, fun x hx => h.2 x (List.mem_of_mem_drop hx)⟩
  rcases h.1 with h | ⟨g', o', ha, hc⟩
  · subst h; exact .inl (by simp)
  · cases ha
    refine .inr ⟨g, o + k * 4, rfl, fun j x hx => ?_⟩
    rw [List.getElem?_drop] at hx
    have := hc (k + j) x hx
    rw [show o + (k + j) * 4 = o + k * 4 + j * 4 by omega] at this
    exact this
/-- the orders of a row that has its components beside it -/
theorem Own.ownOrds {w0 w : World} {l : List Thing} {ao : Option Addr} {n cap : Nat} {E : List OrdE} (h : Own w0 w (Row 40 4 (.slice ao n cap) n (cat OrdE.cs E) :: (E.map orow ++ l))) (hn : E.length = n) : Ords w ao E := by
  refine Own.ords h hn (fun x hx => ?_)
  obtain ⟨i, hi⟩ := List.getElem?_of_mem hx
  exact Own.rcs (h.tail.perm ((orow_pick E i x hi).append_right _)) rfl
theorem pick_mem : ∀ (l : List Nat) (m : List Bool) (x : Nat), x ∈ pick l m → ∃ i : Nat, l[i]? = some x ∧ m[i]? = some true
  | [], m, x, h => by simp [pick] at h
  | a :: l, [], x, h => by simp [pick] at h
  | a :: l, u :: m, x, h => by
    unfold pick at h
    split at h
    · rename_i hu
      rcases List.mem_cons.1 h with rfl | h
      · exact ⟨0, rfl, by simp [hu]⟩
      · obtain ⟨i, h1, h2⟩ := pick_mem l m x h
        exact ⟨i + 1, by simpa using h1, by simpa using h2⟩
    · obtain ⟨i, h1, h2⟩ := pick_mem l m x h
      exact ⟨i + 1, by simpa using h1, by simpa using h2⟩
theorem St.list_is {S : St} (hS : S.Ok) {y : Nat} (h : y ∈ S.list) : S.isLive y = true ∧ y < 4294967296 := by
  obtain ⟨i, h1, h2⟩ := pick_mem _ _ _ h
  obtain ⟨a, _, c⟩ := hS.id i y h1
  refine ⟨?_, c⟩
  rw [St.isLive_iff hS, a]
  exact ⟨h2, h1⟩
theorem do_all (w0 w : World) (l : List Thing) (b : Nat) (s : Sto × Nat) (ht : Tab w0) (h : Own w0 w (Store b s.1 s.2 :: l)) (hσ : s.1.Ok) (ao : Option Addr) (n cap : Nat) (L : List OrdE) (hn : L.length = n) (hn6 : n ≤ 1000) (hs : s.2 ≤ 2000) (hL : ∀ o ∈ L, o.In) (hO : ∀ w', Own w0 w' l → Ords w' ao L) :
    Calls Tryz.prog 9 #[.pointer (some ⟨b, 0, none⟩), .slice ao n cap] w fun e w' => ∃ ra rc, e = .returned (.slice ra n rc) ∧ Own w0 w' (Row 46 2 (.slice ra n rc) n (cat rcel (runs stq s L).1) :: Store b (runs stq s L).2.1 (runs stq s L).2.2 :: l) ∧ (runs stq s L).2.1.Ok ∧ (runs stq s L).2.2 = s.2 + 2 * n := by
  refine (all_of (fun s : Sto × Nat => Store b s.1 s.2) (fun j t => t.1.Ok ∧ t.2 = s.2 + 2 * j) stq w0 w l (some ⟨b, 0, none⟩) s h ao n cap L hn (by omega) hO ⟨hσ, by omega⟩ ?_ ?_).mono ?_
  · intro j t o w' l' ho hI h' hC
    have hj := (List.getElem?_eq_some_iff.1 ho).1
    exact do_any w0 w' l' b t ht h' hI.1 (by rw [hI.2]; omega) o (hL o (List.mem_of_getElem? ho)) hC
  · intro j t o ho hI
    obtain ⟨a, b⟩ := stq_ok t hI.1 o
    exact ⟨a, by rw [b, hI.2]; omega⟩
  · rintro e w' ⟨ra, rc, rfl, h1, h2, h3⟩
    exact ⟨ra, rc, rfl, h1, h2, h3⟩
end Go.Proofs.YtplimgfimdchpaaGreatDoor

/-
  Orders of their own, done on a store: Twins and All together.
-/
namespace Go.Proofs.YtplimgfimdchpaaGreatDoor
open Go.RowKit
set_option linter.unusedVariables false
set_option maxRecDepth 100000

theorem is_in {E L : List OrdE} (hE : E.map OrdE.is = L.map OrdE.is) (hI : ∀ o ∈ L, o.In) : ∀ o ∈ E, o.In := by
  intro o ho
  have : o.is ∈ L.map OrdE.is := by rw [← hE]; exact List.mem_map_of_mem ho
  obtain ⟨x, hx, hxo⟩ := List.mem_map.1 this
  have i := hI x hx
  obtain ⟨d, id, k, C, a, c⟩ := o
  obtain ⟨d', id', k', C', a', c'⟩ := x
  simp only [OrdE.is, Prod.mk.injEq] at hxo
  obtain ⟨rfl, rfl, rfl, rfl⟩ := hxo
  exact ⟨i.d, i.id, i.k, i.C, i.len⟩
theorem all_part (w0 w : World) (R : List Thing) (b : Nat) (s : Sto × Nat) (ht : Tab w0) (ra : Option Addr) (m rc : Nat) (E L : List OrdE)
    (h : Own w0 w (Row 40 4 (.slice ra m rc) m (cat OrdE.cs E) :: (E.map orow ++ Store b s.1 s.2 :: R))) (hE : E.map OrdE.is = L.map OrdE.is) (hm : E.length = m) (hσ : s.1.Ok) (hm6 : m ≤ 1000) (hs : s.2 ≤ 2000) (hI : ∀ o ∈ L, o.In) :
    Calls Tryz.prog 9 #[.pointer (some ⟨b, 0, none⟩), .slice ra m rc] w fun e w' => ∃ xa xc, e = .returned (.slice xa m xc) ∧ Own w0 w' (Row 46 2 (.slice xa m xc) m (cat rcel (runs stq s L).1) :: Store b (runs stq s L).2.1 (runs stq s L).2.2 :: R) ∧ (runs stq s L).2.1.Ok ∧ (runs stq s L).2.2 = s.2 + 2 * m := by
  have h' : Own w0 w (Store b s.1 s.2 :: Row 40 4 (.slice ra m rc) m (cat OrdE.cs E) :: (E.map orow ++ R)) := by
    refine h.perm ?_
    exact List.perm_middle (l₁ := Row 40 4 (.slice ra m rc) m (cat OrdE.cs E) :: E.map orow)
  rw [← runs_is E L s hE]
  refine (do_all w0 w _ b s ht h' hσ ra m rc E hm hm6 hs (is_in hE hI) (fun w' h'' => Own.ownOrds h'' hm)).mono ?_
  rintro e w' ⟨xa, xc, rfl, h1, h2, h3⟩
  refine ⟨xa, xc, rfl, ?_, h2, h3⟩
  refine Own.dropl (Row 40 4 (.slice ra m rc) m (cat OrdE.cs E) :: E.map orow) (h1.perm ?_)
  exact List.perm_append_comm_assoc [_, _] (Row 40 4 (.slice ra m rc) m (cat OrdE.cs E) :: E.map orow) R
theorem runs_len {α : Type} (step : α → OrdE → (Int × Nat) × α) : ∀ (L : List OrdE) (s : α), (runs step s L).1.length = L.length
  | [], s => rfl
  | o :: L, s => by unfold runs; simp [runs_len step L]
/-- the entity that a live one is -/
theorem Sto.ent_at {σ : Sto} (h : σ.Ok) {id : Nat} (hl : σ.S.isLive id = true) : ∃ (r : Nat) (C : List Cp), (σ.T (σ.hom id))[r]? = some ((id, C) : Ent) := by
  obtain ⟨h6, hn, r, e, _, hr, he⟩ := h.home hl
  obtain ⟨i, C⟩ := e
  simp only at he
  subst he
  exact ⟨r, C, hr⟩
/-- append of all of a slice that lies elsewhere, in a region that draws -/
theorem step_all {P : Program} {w0 w : World} {l : List Thing} {ops : Array Oper} {o : Oper} {a : Act} {K : Act → World → Prop} {Q : Exit → Act → World → Prop} {E : Prop} (hgd : o.guard = none) (sx x : Operand) (t : TypeId)
    (ho : o.op = .call { callee := .builtin .append, args := #[sx, x], argTypes := #[t, t] })
    (e : TypeId) (i : TypeInfo) (z : Value) (size bytes : Nat) (ht : P.underlying t = some (.slice e)) (hi : P.info? e = some i) (hz : i.zero = some z)
    (hsize : i.size = size) (hby : i.bytes = bytes) (hzs : z.cells.size = size) (hsz : 0 < size)
    (v : Value) (n : Nat) (xs : List Value) (hs : a.eval sx = v) (xa : Option Addr) (m xc : Nat) (ys : List Value) (hx : a.eval x = .slice xa m xc) (hown : Own w0 w (Row e size v n xs :: l)) (hr : w.ownsRow 0 e size (.slice xa m xc) m ys) (h1 : ∀ u ∈ ys, u.oneCell' = true)
    (h63 : n + m ≤ maxLen) (hbytes : (n + m) * bytes ≤ 140737488355328)
    (h : ∀ ao cap w', Own w0 w' (Row e size (.slice ao (n + m) cap) (n + m) (xs ++ ys) :: l) → K (a.put o.dst (.slice ao (n + m) cap)) w') :
    if Region.wanted o (yielded ops a.tmps) = true then Oper.wp P o a w K Q else E := by
  have hw : Region.wanted o (yielded ops a.tmps) = true := by simp [Region.wanted, hgd]
  rw [if_pos hw]
  rcases Nat.eq_zero_or_pos m with h0 | h0
  · subst h0
    have hy : ys = [] := List.eq_nil_of_length_eq_zero (by rw [hr.1]; simp)
    subst hy
    obtain ⟨va, vc, rfl⟩ := row_any hown.row
    have hr := run_append_empty (P := P) w 0 t o.type e i size ht hi _ n xs hown.row xa xc
    unfold Oper.wp
    simp [execOp, ho, resolve, invoke, builtin, hs, hx, hr, Result.andThen]
    have := h va vc w (by simpa using hown)
    simp at this
    exact this
  · obtain ⟨g, cap, hv, _⟩ := row_shape hr h0
    have hxa := (Value.slice.inj hv).1
    subst hxa
    refine wp_append_lies w sx x t ho 0 e i z size bytes ht hi hz hsize hby hzs hsz v n xs hs hown.row ⟨g, 0, none⟩ m xc ys hx hr.1 (fun j u hu => by
      rw [addr_add, Nat.zero_add, hr.cellAt j (by rw [← hr.1]; exact (List.getElem?_eq_some_iff.1 hu).1)]; exact hu) h1 h0 h63 hbytes (Nat.zero_le _) _ rfl ?_
    intro g' cap' w' h2 h3 h4 h5
    refine h _ _ w' (hown.grow h2 h3 (fun k hk => ?_))
    have hk' : g' = k := by simpa [Value.ownBlock] using hk
    subst hk'
    rcases h4 with h4 | h4
    · exact .inl h4
    · exact .inr (by omega)
end Go.Proofs.YtplimgfimdchpaaGreatDoor

/-
  The document's All; a store and the document's that are alike.
-/
namespace Go.Proofs.YtplimgfimdchpaaGreatDoor
open Go.RowKit Go.Maps
set_option linter.unusedVariables false
set_option maxRecDepth 100000

set_option maxHeartbeats 2000000 in
theorem rall_of {α : Type} (P : α → Thing) (Inv : Nat → α → Prop) (step : α → OrdE → (Int × Nat) × α) (w0 w : World) (l : List Thing) (p : Option Addr) (s0 : α) (h : Own w0 w (P s0 :: l)) (ao : Option Addr) (n cap : Nat) (L : List OrdE) (hn : L.length = n) (hL : n ≤ 100000) (hOrds : ∀ w', Own w0 w' l → Ords w' ao L) (hInv : Inv 0 s0)
    (HD : ∀ j s o w' l', L[j]? = some o → Inv j s → Own w0 w' (P s :: l') → (∀ w'', Own w0 w'' l' → Cs w'' o.ao o.C) → Calls Tryz.prog 21 #[.pointer p, o.ag] w' fun e w'' => e = .returned (rag (step s o).1) ∧ Own w0 w'' (P (step s o).2 :: l'))
    (HI : ∀ j s o, L[j]? = some o → Inv j s → Inv (j + 1) (step s o).2) :
    Calls Tryz.prog 12 #[.pointer p, .slice ao n cap] w fun e w' => ∃ ra rc, e = .returned (.slice ra n rc) ∧ Own w0 w' (Row 46 2 (.slice ra n rc) n (cat rcel (runs step s0 L).1) :: P (runs step s0 L).2 :: l) ∧ Inv n (runs step s0 L).2 := by
  obtain ⟨i0, hi, hz0, hz1, hz2⟩ := info_parts Tryz.infoRes
  have H1 : Hid (Own w0 w (Row 46 2 (.slice none 0 0) 0 (cat rcel (runs step s0 (L.take 0)).1) :: P (runs step s0 (L.take 0)).2 :: l)) := h.nilRow 46 2
  have HV : Hid (Inv 0 (runs step s0 (L.take 0)).2) := hInv
  have HN : Hid (L.length = n) := hn
  have HDD : Hid _ := HD
  have HII : Hid _ := HI
  have HOS : Hid _ := hOrds
  clear h hInv hn HD HI hOrds
  go_enter Tryz.func12, Tryz.ntmps12
  go_wp2
  go_loopw [5, 11] (fun rv cc wr => ∃ j : Nat, j ≤ n ∧ cc = .int .i64 j ∧ ∃ ra rc, rv = .slice ra j rc ∧ Own w0 wr (Row 46 2 (.slice ra j rc) j (cat rcel (runs step s0 (L.take j)).1) :: P (runs step s0 (L.take j)).2 :: l) ∧ Inv j (runs step s0 (L.take j)).2) (fun _ cc _ => n - (intOf cc).toNat)
  case atStart => exact ⟨0, Nat.zero_le _, rfl, _, _, rfl, H1.out, HV.out⟩
  case round =>
    obtain ⟨j, hj, rfl, ra, rc, rfl, hO, hI⟩ := hrel
    have HO : Hid (Own w0 wr _) := hO
    clear H1 HV
    by_cases hlt : j < n
    · obtain ⟨o, ho⟩ : ∃ o, L[j]? = some o := ⟨_, List.getElem?_eq_getElem (by rw [HN.out]; exact hlt)⟩
      obtain ⟨g, off, hao, c0, c1, c2, c3⟩ := (HOS.out wr hO.tail.tail).at j o ho
      have hlt' : (j : Int) < (n : Int) := by omega
      have hst : runs step s0 (L.take (j + 1)) = ((runs step s0 (L.take j)).1 ++ [(step (runs step s0 (L.take j)).2 o).1], (step (runs step s0 (L.take j)).2 o).2) := by
        rw [List.take_add_one, ho]; exact runs_snoc step _ _ _
      have HDO : Hid (∀ w', Own w0 w' (Row 46 2 (.slice ra j rc) j (cat rcel (runs step s0 (L.take j)).1) :: P (runs step s0 (L.take j)).2 :: l) → Calls Tryz.prog 21 #[.pointer p, o.ag] w' fun e w'' => e = .returned (rag (step (runs step s0 (L.take j)).2 o).1) ∧ Own w0 w'' (Row 46 2 (.slice ra j rc) j (cat rcel (runs step s0 (L.take j)).1) :: P (runs step s0 (L.take (j + 1))).2 :: l)) := by
        intro w' h'
        refine (HDD.out j _ o w' _ ho hI h'.two (fun w'' h'' => (HOS.out _ h''.tail).2 o (List.mem_of_getElem? ho))).mono ?_
        rintro e w'' ⟨rfl, h2⟩
        rw [hst]
        exact ⟨rfl, h2.two⟩
      have HI2 : Hid (Inv (j + 1) (runs step s0 (L.take (j + 1))).2) := by
        show Inv _ _
        rw [hst]; exact HII.out j _ o ho hI
      have HST : Hid (cat rcel (runs step s0 (L.take (j + 1))).1 = cat rcel (runs step s0 (L.take j)).1 ++ rcel (step (runs step s0 (L.take j)).2 o).1) := by
        show _ = _
        rw [hst, cat_append]; simp [cat]
      clear hst hO hI ho HDD HII
      subst hao
      unfold OrdE.ag at HDO
      obtain ⟨d, oid, k, C, oa, oc⟩ := o
      simp only at c0 c1 c2 c3 HDO
      generalize hr : (step (runs step s0 (L.take j)).2 ⟨d, oid, k, C, oa, oc⟩).1 = r at *
      obtain ⟨r1, r2⟩ := r
      unfold rag at HDO
      simp only at HDO
      clear hr
      go_wp2_with fail
      refine (HDO.out _ (HO.out.alloc _)).mono ?_
      rintro e w2 ⟨rfl, hO2⟩
      have H2 : Hid (Own w0 _ _) := hO2.alloc (.cells #[.int .i64 r1, .int .u32 (r2 : Int)] 46)
      clear hO2 HDO HO c0 c1 c2 c3
      go_wp2_with (at_builtin; refine append1_own rfl _ _ 33 rfl 46 i0 (.agg #[.int .i64 0, .int .u32 0]) 2 16 Tryz.underlying33 hi hz0 hz1 hz2 rfl (by decide) _ _ _ rfl H2.out _ #[.int .i64 r1, .int .u32 (r2 : Int)] (by simp) rfl rfl (by intro u hu; simp at hu; rcases hu with rfl | rfl <;> rfl) (by unfold maxLen; omega) (by omega) ?_)
      intro g3 cap3 w3 hO3 hsz3
      have H3 : Hid (Own w0 w3 (Row 46 2 (.slice (some ⟨g3, 0, none⟩) (j + 1) cap3) (j + 1) (cat rcel (runs step s0 (L.take (j + 1))).1) :: P (runs step s0 (L.take (j + 1))).2 :: l)) := by
        show Own _ _ _
        rw [HST.out]; exact hO3
      clear hO3 hsz3 H2
      go_wp2
      go_roundw
      case rel => exact ⟨j + 1, by omega, by go_num, _, _, rfl, H3.out, HI2.out⟩
      case measure => simp [intOf]; omega
    · have hlt' : ¬ (j : Int) < (n : Int) := by omega
      have hjn : j = n := by omega
      subst hjn
      have hT : L.take j = L := List.take_of_length_le (by rw [HN.out]; exact Nat.le_refl _)
      rw [hT] at hI
      have HI2 : Hid (Inv j _) := hI
      have H2 : Hid (Own w0 wr _) := hO
      rw [hT] at H2
      clear hT hO hI HO
      go_wp2
      go_ret
      exact ⟨_, _, rfl, H2.out, HI2.out⟩
theorem rdo_all (w0 w : World) (l : List Thing) (b : Nat) (s : Sto × Nat) (h : Own w0 w (RSto b s.1 s.2 :: l)) (hσ : s.1.Ok) (ao : Option Addr) (n cap : Nat) (L : List OrdE) (hn : L.length = n) (hn6 : n ≤ 1000) (hs : s.2 ≤ 2000) (hL : ∀ o ∈ L, o.In) (hO : ∀ w', Own w0 w' l → Ords w' ao L) :
    Calls Tryz.prog 12 #[.pointer (some ⟨b, 0, none⟩), .slice ao n cap] w fun e w' => ∃ ra rc, e = .returned (.slice ra n rc) ∧ Own w0 w' (Row 46 2 (.slice ra n rc) n (cat rcel (runs stq s L).1) :: RSto b (runs stq s L).2.1 (runs stq s L).2.2 :: l) ∧ (runs stq s L).2.1.Ok ∧ (runs stq s L).2.2 = s.2 + 2 * n := by
  refine (rall_of (fun s : Sto × Nat => RSto b s.1 s.2) (fun j t => t.1.Ok ∧ t.2 = s.2 + 2 * j) stq w0 w l (some ⟨b, 0, none⟩) s h ao n cap L hn (by omega) hO ⟨hσ, by omega⟩ ?_ ?_).mono ?_
  · intro j t o w' l' ho hI h' hC
    have hj := (List.getElem?_eq_some_iff.1 ho).1
    have hi := hL o (List.mem_of_getElem? ho)
    exact rdo_any w0 w' l' b t h' hI.1 (by rw [hI.2]; omega) o hi hC (fun hb => rdo_bad w0 w' l' _ _ h' o hi (fun w'' h'' => hC _ h''.tail) hb)
  · intro j t o ho hI
    obtain ⟨a, b⟩ := stq_ok t hI.1 o
    exact ⟨a, by rw [b, hI.2]; omega⟩
  · rintro e w' ⟨ra, rc, rfl, h1, h2, h3⟩
    exact ⟨ra, rc, rfl, h1, h2, h3⟩
end Go.Proofs.YtplimgfimdchpaaGreatDoor
