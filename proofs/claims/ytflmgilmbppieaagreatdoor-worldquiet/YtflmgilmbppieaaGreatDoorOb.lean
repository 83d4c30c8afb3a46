/-
  A store's New, home, put, pull.
-/
import Derived.Test.YtflmgilmbppieaaGreatDoorOa
import Derived.Deep.RegionHeld3
namespace Go.Proofs.YtflmgilmbppieaaGreatDoor
open Go.RowKit Go.Maps
set_option linter.unusedVariables false

/-- the make of an entity -/
def Sto.hom (σ : Sto) (id : Nat) : Nat := σ.mks.getD (id % 1024) 0
def Sto.put (σ : Sto) (id : Nat) (C : List Cp) : Sto := { σ with mks := σ.mks.set (id % 1024) (msk C), T := upd σ.T (msk C) (σ.T (msk C) ++ [(id, C)]) }
def Sto.out (σ : Sto) (m r : Nat) : Sto := { σ with T := upd σ.T m (outr (σ.T m) r) }
theorem stoCells {w0 w : World} {l : List Thing} {b bs : Nat} {v : Value} {p : Nat → Option Nat} {σ : Sto} {K : Nat} (h : Own w0 w (StoX b σ K (bs, v, p) :: l)) :
    w.cell? ⟨b, 0, none⟩ = some (.pointer (some ⟨bs, 0, none⟩)) ∧ w.cell? ⟨b, 1, none⟩ = some v ∧ ∀ m, m < 64 → w.cell? ⟨b, 2 + m, none⟩ = some (.pointer (pp (p m))) := by
  have h := h.stoO
  refine ⟨by rw [h.cell 0, scells_ids], by rw [h.cell 1, scells_mk], fun m hm => by rw [h.cell, scells_tab _ _ _ _ hm]⟩
theorem stoMk {w0 w : World} {l : List Thing} {b bs : Nat} {v : Value} {p : Nat → Option Nat} {σ : Sto} {K : Nat} (h : Own w0 w (StoX b σ K (bs, v, p) :: l)) (s : Nat) (hs : s < σ.mks.length) :
    ∃ g cap, v = .slice (some ⟨g, 0, none⟩) σ.mks.length cap ∧ w.cell? ⟨g, s, none⟩ = some (.int .u8 ((σ.mks.getD s 0 : Nat) : Int)) ∧ w.frozen? ⟨g, s, none⟩ = false ∧ g ≠ b := by
  have h := h.stoO
  have r := h.three.row
  obtain ⟨g, cap, rfl, _⟩ := row_shape r (by omega)
  refine ⟨g, cap, rfl, ?_, r.frozenAt s, ?_⟩
  · rw [r.cellAt _ (by omega), getElem?_irow, List.getElem?_eq_getElem hs, List.getD_eq_getElem?_getD, List.getElem?_eq_getElem hs]; rfl
  · intro e
    exact h.in23.ne (by rw [e]; rfl)

set_option maxHeartbeats 1000000 in
theorem home_ok (w0 w : World) (l : List Thing) (b bs : Nat) (v : Value) (p : Nat → Option Nat) (σ : Sto) (K : Nat) (h : Own w0 w (StoX b σ K (bs, v, p) :: l)) (hS : σ.S.Ok) (id : Nat) (hid : id < 4294967296) (hl : σ.S.isLive id = true) (hm : id % 1024 < σ.mks.length) (h6 : σ.hom id < 64) :
    Calls Tryz.prog 170 #[.pointer (some ⟨b, 0, none⟩), .int .u32 (id : Int)] w fun e w' => e = .returned (.tuple #[.pointer (pp (p (σ.hom id))), .int .i64 0]) ∧ Own w0 w' (StoX b σ K (bs, v, p) :: l) := by
  have H : Hid (Own w0 w (StoX b σ K (bs, v, p) :: l)) := h
  obtain ⟨q0, q1, qt⟩ := stoCells h
  have qt := qt _ h6
  obtain ⟨g, cap, rfl, qm, _, _⟩ := stoMk h _ hm
  have HL : Hid (Calls _ _ _ _ _) := live_ok w0 w _ bs σ.S id h.stoO.two hS hid
  rw [hl] at HL
  have HSL : Hid (∀ w', Calls Tryz.prog 144 #[.int .u32 (id : Int)] w' fun e w'' => e = .returned (.int .i64 ((id % 1024 : Nat) : Int)) ∧ w'' = w') := fun w' => slot_any id w' hid
  have qm' : w.cell? ⟨g, id % 1024, none⟩ = some (.int .u8 ((σ.hom id : Nat) : Int)) := qm
  clear qm h hS hl hid
  generalize σ.hom id = m at *
  generalize id % 1024 = s at *
  have h6' : (m : Int) < 64 := by omega
  have hm' : (s : Int) < (σ.mks.length : Int) := by omega
  go_enter Tryz.func170, Tryz.ntmps170
  go_wp2_with (first | (go_at_call 183; refine HL.out.mono ?_; rintro e w' ⟨rfl, rfl⟩))
  go_region_with (
    go_at_call 144
    refine (HSL.out _).mono ?_
    rintro e w' ⟨rfl, rfl⟩)
  all_goals
    go_wp2
    go_ret2
    exact ⟨rfl, H.out.drew⟩
set_option maxHeartbeats 400000 in
theorem home_dead (w0 w : World) (l : List Thing) (b bs : Nat) (v : Value) (p : Nat → Option Nat) (σ : Sto) (K : Nat) (h : Own w0 w (StoX b σ K (bs, v, p) :: l)) (hS : σ.S.Ok) (id : Nat) (hid : id < 4294967296) (hl : σ.S.isLive id = false) :
    Calls Tryz.prog 170 #[.pointer (some ⟨b, 0, none⟩), .int .u32 (id : Int)] w fun e w' => e = .returned (.tuple #[.pointer none, .int .i64 7]) ∧ Own w0 w' (StoX b σ K (bs, v, p) :: l) := by
  have H : Hid (Own w0 w (StoX b σ K (bs, v, p) :: l)) := h
  obtain ⟨q0, _, _⟩ := stoCells h
  have HL : Hid (Calls _ _ _ _ _) := live_ok w0 w _ bs σ.S id h.stoO.two hS hid
  rw [hl] at HL
  clear h
  go_enter Tryz.func170, Tryz.ntmps170
  go_wp2_with (first | (go_at_call 183; refine HL.out.mono ?_; rintro e w' ⟨rfl, rfl⟩))
  go_ret2
  exact ⟨rfl, H.out⟩
set_option maxHeartbeats 400000 in
theorem home_nil (w : World) (id : Int) : Calls Tryz.prog 170 #[.pointer none, .int .u32 id] w fun e w' => e = .returned (.tuple #[.pointer none, .int .i64 10]) ∧ w' = w := by
  go_enter Tryz.func170, Tryz.ntmps170
  go_wp2
  go_ret2
  exact ⟨rfl, rfl⟩

theorem Own.tabOpen {w0 w : World} {l : List Thing} {p : Nat → Option Nat} {T : Nat → List Ent} {K k b : Nat} (h : Own w0 w (Tabs p T K :: l)) (hk : k < 64) (hp : p k = some b) : ∃ c, c ≤ K ∧ T k ≠ [] ∧ (T k).length ≤ K ∧ Own w0 w (Table b k (T k) c :: TabsBut k p T K :: l) := by
  have h := h.tabOut k hk
  rw [hp] at h
  obtain ⟨⟨c, h1, h2, h3⟩, h⟩ := Own.ex_iff.1 h
  exact ⟨c, h1, h2, h3, h⟩
theorem Own.tabShut {w0 w : World} {l : List Thing} {b m c K : Nat} {L : List Ent} (h : Own w0 w (Table b m L c :: l)) (h1 : c ≤ K) (h2 : L ≠ []) (h3 : L.length ≤ K) : Own w0 w (TbS (some b) m L K :: l) := Own.ex_iff.2 ⟨⟨c, h1, h2, h3⟩, h⟩
theorem Own.tabEmpty {w0 w : World} {l : List Thing} {m K : Nat} {L : List Ent} (h : Own w0 w l) (h2 : L = []) : Own w0 w (TbS none m L K :: l) := Own.ex_iff.2 ⟨⟨h2⟩, h⟩
theorem Own.sink4 {w0 w : World} {P Q R S : Thing} {l : List Thing} (h : Own w0 w (S :: P :: Q :: R :: l)) : Own w0 w (P :: Q :: R :: S :: l) := h.back4
theorem pp_some (b : Nat) : pp (some b) = some ⟨b, 0, none⟩ := rfl
theorem pp_none : pp none = none := rfl

/-- the store with one table taken out -/
def StoB (b : Nat) (σ : Sto) (K : Nat) (x : Nat × Value × (Nat → Option Nat)) (m : Nat) : Thing :=
  Ex (fun _ : Unit => [Cells b (scells x.1 x.2.1 x.2.2) 199, Slots x.1 σ.S, Row 5 1 x.2.1 σ.mks.length (irow .u8 σ.mks), TabsBut m x.2.2 σ.T K])
section
variable {w0 w : World} {l : List Thing} {b bs : Nat} {v : Value} {p : Nat → Option Nat} {σ : Sto} {K m : Nat}
theorem Own.stoB (h : Own w0 w (StoX b σ K (bs, v, p) :: l)) (hm : m < 64) {bt : Nat} (hp : p m = some bt) : ∃ c, c ≤ K ∧ σ.T m ≠ [] ∧ (σ.T m).length ≤ K ∧ Own w0 w (Table bt m (σ.T m) c :: StoB b σ K (bs, v, p) m :: l) := by
  obtain ⟨c, h1, h2, h3, h⟩ := h.stoO.four.tabOpen hm hp
  exact ⟨c, h1, h2, h3, Own.ex2.2 ⟨(), (h.perm ((List.Perm.refl _).cons _ |>.trans (List.Perm.cons _ (List.perm_middle (l₁ := [Cells b (scells bs v p) 199, Slots bs σ.S, Row 5 1 v σ.mks.length (irow .u8 σ.mks)]) (l₂ := l)).symm)))⟩⟩
theorem Own.stoN (h : Own w0 w (StoX b σ K (bs, v, p) :: l)) (hm : m < 64) (hp : p m = none) : σ.T m = [] ∧ Own w0 w (StoB b σ K (bs, v, p) m :: l) := by
  have h := h.stoO.four.tabOut m hm
  rw [hp] at h
  refine ⟨Own.tabNone h, Own.ex_iff.2 ⟨(), h.tail.back4⟩⟩
theorem Own.stoI {q : Option Nat} {L : List Ent} {K' : Nat} (hm : m < 64) (hK : K ≤ K') (h : Own w0 w (TbS q m L K' :: StoB b σ K (bs, v, upd p m q) m :: l)) : Own w0 w (StoX b { σ with T := upd σ.T m L } K' (bs, v, upd p m q) :: l) := by
  obtain ⟨_, h⟩ := Own.ex2.1 h
  refine Own.ex_iff.2 ⟨(), ?_⟩
  have h2 : Own w0 w (TbS q m L K' :: TabsBut m (upd p m q) σ.T K :: Cells b (scells bs v (upd p m q)) 199 :: Slots bs σ.S :: Row 5 1 v σ.mks.length (irow .u8 σ.mks) :: l) :=
    h.perm (List.Perm.cons _ (List.perm_middle (l₁ := [Cells b (scells bs v (upd p m q)) 199, Slots bs σ.S, Row 5 1 v σ.mks.length (irow .u8 σ.mks)]) (l₂ := l)))
  have h3 := h2.tabIn hm hK
  have e : upd (upd p m q) m q = upd p m q := by funext j; unfold upd; split <;> rfl
  rw [e] at h3
  exact h3.back4
theorem Own.stoBcell (h : Own w0 w (StoB b σ K (bs, v, p) m :: l)) (k : Nat) (hk : k < 64) : w.cell? ⟨b, 2 + k, none⟩ = some (.pointer (pp (p k))) ∧ w.frozen? ⟨b, 2 + k, none⟩ = false := by
  obtain ⟨_, h⟩ := Own.ex_iff.1 h
  exact ⟨by rw [h.cell, scells_tab _ _ _ _ hk], h.froz _⟩
theorem Own.stoBset (h : Own w0 w (StoB b σ K (bs, v, p) m :: l)) (hm : m < 64) (q : Option Nat) : Own w0 (w.setCell ⟨b, 2 + m, none⟩ (.pointer (pp q))) (StoB b σ K (bs, v, upd p m q) m :: l) := by
  obtain ⟨_, h⟩ := Own.ex_iff.1 h
  have h2 := h.setC (2 + m) (.pointer (pp q))
  rw [scells_set _ _ _ _ hm] at h2
  refine Own.ex_iff.2 ⟨(), ?_⟩
  have e : TabsBut m (upd p m q) σ.T K = TabsBut m p σ.T K := TabsOn.congr (fun k hk => ⟨upd_other _ _ _ (but_mem hk), rfl⟩)
  show Own w0 _ (_ :: _ :: _ :: TabsBut m (upd p m q) σ.T K :: l)
  rw [e]
  exact h2
theorem Own.stoMset {g cap : Nat} (h : Own w0 w (StoX b σ K (bs, .slice (some ⟨g, 0, none⟩) σ.mks.length cap, p) :: l)) (s x : Nat) : Own w0 (w.setCell ⟨g, s, none⟩ (.int .u8 (x : Int))) (StoX b { σ with mks := σ.mks.set s x } K (bs, .slice (some ⟨g, 0, none⟩) σ.mks.length cap, p) :: l) := by
  have h2 := (h.stoO.three.setR s (.int .u8 (x : Int))).back3
  rw [← irow_set] at h2
  refine Own.ex_iff.2 ⟨(), ?_⟩
  simp only [List.length_set]
  exact h2
end
end Go.Proofs.YtflmgilmbppieaaGreatDoor
