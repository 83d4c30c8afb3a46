/-
  The document's Diff.
-/
import Derived.Test.YtlncgkbgelejmaaGreatDoorEocg
import Derived.Test.YtlncgkbgelejmaaGreatDoorPseg
namespace Go.Proofs.YtlncgkbgelejmaaGreatDoor
open Go.RowKit
set_option linter.unusedVariables false
set_option maxRecDepth 100000

/-- who is gone, of the first k -/
def gonL (W N : List EnE) (k : Nat) : List Nat := ((evs (W.take k)).filter (fun e => (fstE (evs N) e.1).isNone)).map (·.1)
theorem gonL_le (W N : List EnE) (k : Nat) : (gonL W N k).length ≤ k := by
  unfold gonL
  rw [List.length_map]
  refine Nat.le_trans (List.length_filter_le _ _) ?_
  rw [evs_len, List.length_take]; omega
theorem evs_take {L : List EnE} {k : Nat} {x : EnE} (hx : L[k]? = some x) : evs (L.take (k + 1)) = evs (L.take k) ++ [(x.id, x.C)] := by
  rw [List.take_add_one, hx]; simp [evs]
theorem gonL_yes {W N : List EnE} {k : Nat} {x : EnE} (hx : W[k]? = some x) (h : fstE (evs N) x.id = none) : gonL W N (k + 1) = gonL W N k ++ [x.id] := by
  unfold gonL
  rw [evs_take hx]
  simp [h]
theorem gonL_no {W N : List EnE} {k : Nat} {x : EnE} {e : En} (hx : W[k]? = some x) (h : fstE (evs N) x.id = some e) : gonL W N (k + 1) = gonL W N k := by
  unfold gonL
  rw [evs_take hx]
  simp [h]
theorem FindR.none {L : List EnE} {i : Nat} (h : ∀ x ∈ L, x.id ≠ i) : fstE (evs L) i = none := fstE_none (fun x hx => by
  obtain ⟨y, hy, rfl⟩ := List.mem_map.1 hx
  exact h y hy)
theorem fstE_mem {L : List En} (h : L.Pairwise (fun a b => a.1 < b.1)) {x : En} (hx : x ∈ L) : fstE L x.1 = some x := by
  rcases hw : fstE L x.1 with _ | w
  · exact absurd rfl (fstE_isNone.1 (by rw [hw]; rfl) x hx)
  · have hw2 := fstE_some hw
    rw [up_eq h hw2.1 hx hw2.2]
theorem Own.nil3 {w0 w : World} {l : List Thing} {b5 b4 : Nat} (h : Own w0 w (Cells b5 #[.slice none 0 0, .slice none 0 0, .slice none 0 0] 53 :: Cells b4 #[.slice none 0 0, .slice none 0 0, .slice none 0 0] 53 :: l)) : Own w0 w (BTh nilD b5 b4 l) := ((h.nilRow _ _).nilRow _ _).nilRow _ _
/-- what of the first k has come, and what has changed -/
def ComeR (W N : List EnE) (k : Nat) (d : DlE) : Prop := d.G = gonL W N W.length ∧ evs d.M = (evs (N.take k)).filter (fun e => (fstE (evs W) e.1).isNone) ∧ d.H.map ChE.v = (evs (N.take k)).filterMap (chgO (evs W)) ∧ d.M.length ≤ k ∧ d.H.length ≤ k
theorem ComeR.fin {W N : List EnE} {d : DlE} (h : ComeR W N N.length d) (hW : Snap (evs W)) (hN : Snap (evs N)) : d.v = btw (evs W) (evs N) := by
  obtain ⟨h1, h2, h3, _⟩ := h
  rw [btw_dlt _ _ hW.up hN.up]
  unfold DlE.v dlt
  rw [h1, h2, h3]
  unfold gonL
  simp
theorem ComeR.come {W N : List EnE} {d : DlE} {k : Nat} {y : EnE} (h : ComeR W N k d) (hy : N[k]? = some y) (hn : fstE (evs W) y.id = none) (a : Option Addr) (c : Nat) (m6 : Option Addr) (c6 : Nat) : ComeR W N (k + 1) ⟨d.G, d.ga, d.gc, d.M ++ [EnE.mk y.id a c y.C], m6, c6, d.H, d.ha, d.hc⟩ := by
  obtain ⟨h1, h2, h3, h4, h5⟩ := h
  refine ⟨h1, ?_, ?_, ?_, by simp only; omega⟩
  · show evs (d.M ++ _) = _
    have e0 : evs (d.M ++ [EnE.mk y.id a c y.C]) = evs d.M ++ [(y.id, y.C)] := by simp [evs]
    rw [evs_take hy, List.filter_append, ← h2, e0]
    simp [hn]
  · show d.H.map ChE.v = _
    rw [evs_take hy, List.filterMap_append, ← h3]
    simp [chgO, hn]
  · simp; exact h4
theorem ComeR.chg {W N : List EnE} {d : DlE} {k : Nat} {y : EnE} {x : En} (h : ComeR W N k d) (hy : N[k]? = some y) (hs : fstE (evs W) y.id = some x) (z : ChE) (hz : z.v = chg1 x (y.id, y.C)) (hn : z.v.nil = false) (h6 : Option Addr) (c6 : Nat) : ComeR W N (k + 1) ⟨d.G, d.ga, d.gc, d.M, d.ma, d.mc, d.H ++ [z], h6, c6⟩ := by
  obtain ⟨h1, h2, h3, h4, h5⟩ := h
  refine ⟨h1, ?_, ?_, by simp only; omega, ?_⟩
  · show evs d.M = _
    rw [evs_take hy, List.filter_append, ← h2]
    simp [hs]
  · show (d.H ++ [z]).map ChE.v = _
    rw [evs_take hy, List.filterMap_append, ← h3]
    rw [hz] at hn
    simp [chgO, hs, hn, hz]
  · simp; exact h5
theorem ComeR.same {W N : List EnE} {d : DlE} {k : Nat} {y : EnE} {x : En} (h : ComeR W N k d) (hy : N[k]? = some y) (hs : fstE (evs W) y.id = some x) (hn : (chg1 x (y.id, y.C)).nil = true) : ComeR W N (k + 1) d := by
  obtain ⟨h1, h2, h3, h4, h5⟩ := h
  refine ⟨h1, ?_, ?_, by omega, by omega⟩
  · rw [evs_take hy, List.filter_append, ← h2]
    simp [hs]
  · rw [evs_take hy, List.filterMap_append, ← h3]
    simp [chgO, hs, hn]
/-- where the document's Find of components stands -/
theorem rplace_any (w : World) (ao : Option Addr) (n cap : Nat) (C : List Cp) (hn : C.length = n) (hs : Cs w ao C) (hG : C.Pairwise (fun x y => x.k < y.k)) (hk : ∀ q ∈ C, q.k < 256) (hm : n ≤ 1000000) (k : Nat) (hkk : k < 256) :
    Calls Tryz.prog 27 #[.slice ao n cap, .int .u8 (k : Int)] w fun e w' => ∃ r : Int, e = .returned (.int .i64 r) ∧ PlR C k r ∧ Fr Nobody w w' := by
  refine (find_any w ao n cap C hn hs hk hm k hkk).mono ?_
  rintro e w' ⟨r, rfl, hf, h⟩
  refine ⟨r, rfl, ?_, hf⟩
  rcases h with ⟨rfl, hno⟩ | ⟨i, rfl, q, hq, hqk, _⟩
  · refine .inl ⟨rfl, ?_⟩
    rcases hx : fst C k with _ | x
    · rfl
    · have h1 := fst_some hx
      have h2 := mem_hasK h1.1
      rw [h1.2, hno] at h2
      cases h2
  · exact .inr ⟨i, q, rfl, hq, by rw [← hqk]; exact fst_mem hG (List.mem_of_getElem? hq)⟩
theorem rplace_fix (ao : Option Addr) (n cap : Nat) (C : List Cp) (hn : C.length = n) (hG : C.Pairwise (fun x y => x.k < y.k)) (hk : ∀ q ∈ C, q.k < 256) (hm : n ≤ 1000000) (k : Nat) (hkk : k < 256) :
    ∃ r : Int, PlR C k r ∧ ∀ w, Cs w ao C → Calls Tryz.prog 27 #[.slice ao n cap, .int .u8 (k : Int)] w fun e w' => e = .returned (.int .i64 r) ∧ Fr Nobody w w' := by
  rcases hf : fst C k with _ | q
  · refine ⟨-1, .inl ⟨rfl, hf⟩, fun w hs => (rplace_any w ao n cap C hn hs hG hk hm k hkk).mono ?_⟩
    rintro e w' ⟨r, rfl, hp, hfr⟩
    rcases hp with ⟨rfl, _⟩ | ⟨j, q, rfl, _, hq⟩
    · exact ⟨rfl, hfr⟩
    · rw [hf] at hq; cases hq
  · obtain ⟨j, hj⟩ := List.mem_iff_getElem?.1 (fst_some hf).1
    refine ⟨(j : Int), .inr ⟨j, q, rfl, hj, hf⟩, fun w hs => (rplace_any w ao n cap C hn hs hG hk hm k hkk).mono ?_⟩
    rintro e w' ⟨r, rfl, hp, hfr⟩
    rcases hp with ⟨_, hq⟩ | ⟨j', q', rfl, hj', hq⟩
    · rw [hf] at hq; cases hq
    · rw [hf] at hq
      cases hq
      obtain ⟨h1, e1⟩ := List.getElem?_eq_some_iff.1 hj
      obtain ⟨h2, e2⟩ := List.getElem?_eq_some_iff.1 hj'
      have hP := List.pairwise_iff_getElem.1 hG
      have : j = j' := by
        rcases Nat.lt_trichotomy j j' with hlt | heq | hlt
        · have := hP j j' h1 h2 hlt; rw [e1, e2] at this; omega
        · exact heq
        · have := hP j' j h2 h1 hlt; rw [e1, e2] at this; omega
      subst this
      exact ⟨rfl, hfr⟩
theorem newK_zero (A B : List Cp) : newK A B 0 = [] := by unfold newK; rw [bel_none (fun q _ => Nat.zero_le _)]; rfl
theorem setK_zero (A B : List Cp) : setK A B 0 = [] := by unfold setK; rw [bel_none (fun q _ => Nat.zero_le _)]; rfl
theorem Own.l7 {w0 w : World} {A B C D E F G P : Thing} {m : List Thing} (h : Own w0 w (A :: B :: C :: D :: E :: F :: G :: P :: m)) : Own w0 w (P :: A :: B :: C :: D :: E :: F :: G :: m) := Own.lift (l := [A, B, C, D, E, F, G]) h
def ix9 (a b c d e f g h i : Thing) : Nat → Thing
  | 0 => a
  | 1 => b
  | 2 => c
  | 3 => d
  | 4 => e
  | 5 => f
  | 6 => g
  | 7 => h
  | _ => i
theorem perm_q (B8 R n s B14 B12 g m B4 : Thing) (X l : List Thing) : (B8 :: R :: n :: s :: B14 :: B12 :: g :: m :: B4 :: (X ++ l)).Perm (B14 :: B12 :: g :: m :: R :: B8 :: B4 :: ((X ++ [n, s]) ++ l)) := by
  have h1 : ([0, 1, 2, 3, 4, 5, 6, 7, 8] : List Nat).Perm [4, 5, 6, 7, 1, 0, 8, 2, 3] := by decide
  have h2 := (h1.map (ix9 B8 R n s B14 B12 g m B4)).append_right (X ++ l)
  have h3 := List.perm_append_comm_assoc [n, s] X l
  have h4 := h3.append_left [B14, B12, g, m, R, B8, B4]
  have e : (X ++ [n, s]) ++ l = X ++ ([n, s] ++ l) := by simp
  rw [e]
  exact h2.trans h4
/-- the change that is made, kind by kind -/
def INN (A B : List Cp) (yi : Nat) (ya : Option Addr) (yl yc b14 b12 : Nat) (LB : List Thing) (kk : Nat) (na : Option Addr) (nc : Nat) (sa : Option Addr) (sc : Nat) : List Thing := Row 69 4 (.slice na (newK A B kk).length nc) (newK A B kk).length (ccat (newK A B kk)) :: Row 69 4 (.slice sa (setK A B kk).length sc) (setK A B kk).length (ccat (setK A B kk)) :: Cells b14 #[.int .u32 (yi : Int), .int .u8 ((lostN A B kk : Nat) : Int), .slice na (newK A B kk).length nc, .slice sa (setK A B kk).length sc] 62 :: Cells b12 #[.int .u32 (yi : Int), .slice ya yl yc] 71 :: LB
theorem perm_m (B8 RE RC B12 g h B4 : Thing) (X Y l : List Thing) : (B8 :: RE :: RC :: B12 :: g :: h :: B4 :: (X ++ (Y ++ l))).Perm (B12 :: g :: RE :: h :: B8 :: B4 :: (X ++ (Y ++ (RC :: l)))) := by
  have h1 : ([0, 1, 2, 3, 4, 5, 6] : List Nat).Perm [3, 4, 1, 5, 0, 6, 2] := by decide
  have h2 := (h1.map (ix8 B8 RE RC B12 g h B4 B4)).append_right (X ++ (Y ++ l))
  have h3 : (RC :: (X ++ (Y ++ l))).Perm (X ++ (Y ++ (RC :: l))) := by
    have e : X ++ (Y ++ (RC :: l)) = (X ++ Y) ++ RC :: l := by simp
    have e2 : X ++ (Y ++ l) = (X ++ Y) ++ l := by simp
    rw [e, e2]; exact List.perm_middle.symm
  exact h2.trans (h3.append_left [B12, g, RE, h, B8, B4])
theorem perm_n (B4 g RE h B8 : Thing) (X Y l : List Thing) : (B4 :: g :: RE :: h :: B8 :: (X ++ (Y ++ l))).Perm (B4 :: B8 :: ((RE :: Y) ++ (g :: h :: (X ++ l)))) := by
  have h1 : ([0, 1, 2, 3, 4] : List Nat).Perm [0, 4, 2, 1, 3] := by decide
  have h2 := (h1.map (ix8 B4 g RE h B8 B8 B8 B8)).append_right (X ++ (Y ++ l))
  have h3 : (g :: h :: (X ++ (Y ++ l))).Perm (Y ++ (g :: h :: (X ++ l))) := by
    have := List.perm_append_comm_assoc (g :: h :: X) Y l
    simpa using this
  exact h2.trans (h3.append_left [B4, B8, RE])
end Go.Proofs.YtlncgkbgelejmaaGreatDoor
