/-
  Age as the document says it.
-/
import Derived.Test.YtehancopmpcpmaaDoorJhg
import Derived.Test.YtehancopmpcpmaaDoorGgg
import Derived.Test.YtehancopmpcpmaaDoorGhg
import Derived.Deep.RegionHeld3
import Derived.Test.YtehancopmpcpmaaDoorGfg
import Derived.Test.YtehancopmpcpmaaDoorXpg
namespace Go.Proofs.YtehancopmpcpmaaDoor
open Go.RowKit Go.Maps
set_option linter.unusedVariables false
set_option maxRecDepth 100000

theorem fit_one1 {C : List Cp} (hC : ∀ q ∈ C, q.k < 6) (k : Nat) : fitb (2 ^ k) 0 (msk C) = hasK C k := by
  rw [hasK_tb1 hC]
  unfold fitb
  simp only [Nat.and_zero, decide_true, Bool.and_true]
  have e : msk C &&& 2 ^ k = if (msk C).testBit k then 2 ^ k else 0 := by
    apply Nat.eq_of_testBit_eq
    intro i
    rw [Nat.testBit_and, Nat.testBit_two_pow]
    by_cases hki : k = i
    · subst hki
      cases h : (msk C).testBit k <;> simp
    · cases h : (msk C).testBit k <;> simp [hki]
  rw [e]
  cases h : (msk C).testBit k
  · have := Nat.two_pow_pos k
    simp
    omega
  · simp
theorem cps61 {σ : Sto} (hσ : σ.Ok) {id : Nat} (hl : σ.S.isLive id = true) : lst (-1) (σ.cps id) = 0 ∧ ∀ q ∈ σ.cps id, q.k < 6 := by
  obtain ⟨r, C, hr, he, hlC, _⟩ := hσ.ent hl
  rw [Sto.cps_of hr he]
  exact ⟨hlC, fun q hq => chk_k ((lst_ok hlC).2 q hq).2⟩
theorem find_one1 {σ : Sto} (hσ : σ.Ok) (k : Nat) : σ.find (2 ^ k) 0 = σ.S.list.filter (fun id => hasK (σ.cps id) k) := by
  unfold Sto.find
  refine List.filter_congr (fun id hid => ?_)
  rw [fit_one1 (cps61 hσ (St.list_iv1 hσ.s hid).1).2]
theorem Sto.set_oth {σ : Sto} (h : σ.Ok) (id : Nat) (c : Cp) {x : Nat} (hx : σ.S.isLive x = true) (hne : x ≠ id) : (σ.set id c).2.cps x = σ.cps x := by
  by_cases hc : c.chk = 0
  · cases hl : σ.S.isLive id with
    | false => unfold Sto.set; rw [if_neg (by simp [hc]), if_pos (by simp [hl])]
    | true =>
      cases hh : hasK (σ.cps id) c.k with
      | false => unfold Sto.set; rw [if_neg (by simp [hc]), if_neg (by simp [hl]), if_pos (by simp [hh])]
      | true => rw [Sto.set_cps h hc hl hh hx, if_neg hne]
  · unfold Sto.set; rw [if_pos hc]
theorem Sto.ag_oth {σ : Sto} (h : σ.Ok) {id x : Nat} (hl : σ.S.isLive id = true) (hx : σ.S.isLive x = true) (hne : x ≠ id) : (σ.ag id).2.cps x = σ.cps x := by
  unfold Sto.ag
  split
  · exact (Sto.despawn_live h hl hx hne).2
  · exact Sto.set_oth h _ _ hx hne
theorem Sto.ags_oth {σ : Sto} (h : σ.Ok) (L : List Nat) : L.Nodup → (∀ x ∈ L, σ.S.isLive x = true) → ∀ x, σ.S.isLive x = true → x ∉ L → (σ.ags L).1.cps x = σ.cps x := by
  refine snoc_ind (P := fun L => L.Nodup → (∀ x ∈ L, σ.S.isLive x = true) → ∀ x, σ.S.isLive x = true → x ∉ L → (σ.ags L).1.cps x = σ.cps x) (fun _ _ x _ _ => rfl) ?_ L
  intro L id ih hnd hlv x hx hxn
  rw [List.nodup_append] at hnd
  have hlv' : ∀ x ∈ L, σ.S.isLive x = true := fun x hx => hlv x (by simp [hx])
  obtain ⟨i1, i3, _⟩ := Sto.ags_inv h L hnd.1 hlv'
  have hid : id ∉ L := fun hm => hnd.2.2 id hm id (by simp) rfl
  rw [Sto.ags_snoc]
  have hxL : x ∉ L := fun hm => hxn (by simp [hm])
  simp only
  rw [Sto.ag_oth i1 (i3 id (hlv id (by simp)) hid).1 (i3 x hx hxL).1 (fun hh => hxn (by simp [hh]))]
  exact ih hnd.1 hlv' x hx hxL
theorem gv_is {σ : Sto} (hσ : σ.Ok) {id : Nat} (hl : σ.S.isLive id = true) {q : Cp} (hq : q ∈ σ.cps id) : σ.gv id q.k = q ∧ q.chk = 0 := by
  obtain ⟨r, C, hr, he, hlC, _⟩ := hσ.ent hl
  have hc := Sto.cps_of hr he
  rw [hc] at hq
  refine ⟨?_, (lst_ok hlC).2 q hq |>.2⟩
  unfold Sto.gv
  rw [hc, if_pos ((hasK_iff C q.k).2 ⟨q, hq, rfl⟩), fv_of hlC hq]
  rfl
theorem not_take {X : List Nat} (hnd : X.Nodup) {j id : Nat} (hd : X[j]? = some id) : id ∉ X.take j := by
  intro hm
  obtain ⟨i, hi'⟩ := List.mem_iff_getElem?.1 hm
  rw [List.getElem?_take] at hi'
  split at hi'
  · rename_i hij
    unfold List.Nodup at hnd
    rw [List.pairwise_iff_getElem] at hnd
    obtain ⟨p1, p2⟩ := List.getElem?_eq_some_iff.1 hi'
    obtain ⟨p3, p4⟩ := List.getElem?_eq_some_iff.1 hd
    exact hnd i j p1 p3 hij (by rw [p2, p4])
  · cases hi'
theorem not_drop {X : List Nat} (hnd : X.Nodup) {j id : Nat} (hd : X[j]? = some id) : id ∉ X.drop (j + 1) := by
  intro hm
  obtain ⟨i, hi'⟩ := List.mem_iff_getElem?.1 hm
  rw [List.getElem?_drop] at hi'
  unfold List.Nodup at hnd
  rw [List.pairwise_iff_getElem] at hnd
  obtain ⟨p1, p2⟩ := List.getElem?_eq_some_iff.1 hi'
  obtain ⟨p3, p4⟩ := List.getElem?_eq_some_iff.1 hd
  exact hnd j (j + 1 + i) p3 p1 (by omega) (by rw [p2, p4])
theorem drop_at {α : Type} {L : List α} {j : Nat} {d : α} (hd : L[j]? = some d) : d ∈ L.drop j := List.mem_of_getElem? (i := 0) (by rw [List.getElem?_drop]; exact hd)
theorem drop_sub {α : Type} {L : List α} {j : Nat} : ∀ d ∈ L.drop (j + 1), d ∈ L.drop j := by
  intro d hd
  obtain ⟨i, hi⟩ := List.mem_iff_getElem?.1 hd
  rw [List.getElem?_drop] at hi
  exact List.mem_of_getElem? (i := i + 1) (by rw [List.getElem?_drop]; rw [show j + (i + 1) = j + 1 + i by omega]; exact hi)
theorem life_0 {q : Cp} (hk : q.k = 2) (h : q.chk = 0) : q.b = 0 ∧ q.c = 0 := by
  unfold Cp.chk chk at h
  rw [if_neg (by omega)] at h
  split at h
  · cases h
  · rename_i hs
    have hs' : stray q.k (f3 q.a q.b q.c) = false := by simpa using hs
    rw [hk] at hs'
    simpa [stray, cnt, kinds, f3, List.range, List.range.loop] using hs'
end Go.Proofs.YtehancopmpcpmaaDoor

/-
  Masks of two kinds; what moving leaves as it was; the document's turn.
-/
namespace Go.Proofs.YtehancopmpcpmaaDoor
open Go.RowKit Go.Maps
set_option linter.unusedVariables false
set_option maxRecDepth 100000

theorem fit_two1 {C : List Cp} (hC : ∀ q ∈ C, q.k < 6) {m p q : Nat} (hm : ∀ i, m.testBit i = (decide (i = p) || decide (i = q))) : fitb m 0 (msk C) = (hasK C p && hasK C q) := by
  rw [hasK_tb1 hC, hasK_tb1 hC]
  unfold fitb
  simp only [Nat.and_zero, decide_true, Bool.and_true]
  rw [Bool.eq_iff_iff]
  simp only [decide_eq_true_iff, Bool.and_eq_true]
  constructor
  · intro h
    constructor
    · have := congrArg (fun y => y.testBit p) h
      simpa [Nat.testBit_and, hm] using this
    · have := congrArg (fun y => y.testBit q) h
      simpa [Nat.testBit_and, hm] using this
  · rintro ⟨h1, h2⟩
    apply Nat.eq_of_testBit_eq
    intro i
    rw [Nat.testBit_and, hm]
    by_cases c1 : i = p
    · subst c1; simp [h1]
    · by_cases c2 : i = q
      · subst c2; simp [h2]
      · simp [c1, c2]
theorem bits3 : ∀ i, (3 : Nat).testBit i = (decide (i = 0) || decide (i = 1))
  | 0 => rfl
  | 1 => rfl
  | i + 2 => by
    rw [Nat.testBit_lt_two_pow (Nat.lt_of_lt_of_le (show 3 < 2 ^ 2 by decide) (Nat.pow_le_pow_right (by decide) (by omega)))]
    simp
theorem bits33 : ∀ i, (33 : Nat).testBit i = (decide (i = 5) || decide (i = 0))
  | 0 => rfl
  | 1 => rfl
  | 2 => rfl
  | 3 => rfl
  | 4 => rfl
  | 5 => rfl
  | i + 6 => by
    rw [Nat.testBit_lt_two_pow (Nat.lt_of_lt_of_le (show 33 < 2 ^ 6 by decide) (Nat.pow_le_pow_right (by decide) (by omega)))]
    simp
theorem find_3 {σ : Sto} (hσ : σ.Ok) : σ.find 3 0 = σ.S.list.filter (fun id => hasK (σ.cps id) 0 && hasK (σ.cps id) 1) := by
  unfold Sto.find
  refine List.filter_congr (fun id hid => ?_)
  rw [fit_two1 (cps61 hσ (St.list_iv1 hσ.s hid).1).2 bits3]
theorem find_33 {σ : Sto} (hσ : σ.Ok) : σ.find 33 0 = σ.S.list.filter (fun id => hasK (σ.cps id) 5 && hasK (σ.cps id) 0) := by
  unfold Sto.find
  refine List.filter_congr (fun id hid => ?_)
  rw [fit_two1 (cps61 hσ (St.list_iv1 hσ.s hid).1).2 bits33]
theorem Sto.mv_oth {σ : Sto} (h : σ.Ok) {id x : Nat} (hx : σ.S.isLive x = true) (hne : x ≠ id) : (σ.mv id).2.cps x = σ.cps x := by
  unfold Sto.mv
  simp only
  rw [Sto.set_oth (Sto.set_ok h _ _) _ _ (by rw [Sto.set_S]; exact hx) hne, Sto.set_oth h _ _ hx hne]
theorem Sto.mvs_oth {σ : Sto} (h : σ.Ok) (L : List Nat) : ∀ x, σ.S.isLive x = true → x ∉ L → (σ.mvs L).1.cps x = σ.cps x := by
  refine snoc_ind (P := fun L => ∀ x, σ.S.isLive x = true → x ∉ L → (σ.mvs L).1.cps x = σ.cps x) (fun x _ _ => rfl) ?_ L
  intro L id ih x hx hxn
  obtain ⟨i1, i2, _⟩ := Sto.mvs_inv h L
  rw [Sto.mvs_snoc]
  simp only
  rw [Sto.mv_oth i1 (by rw [i2]; exact hx) (fun hh => hxn (by simp [hh]))]
  exact ih x hx (fun hm => hxn (by simp [hm]))
set_option maxHeartbeats 1000000 in
theorem rturn14 (w : World) (a b : Int) (ha : -524288 ≤ a ∧ a ≤ 524287) (hb : -32768 ≤ b ∧ b ≤ 32767) : Calls Tryd.prog 30 #[.int .i32 a, .int .i32 b] w fun e w' => e = .returned (.tuple #[.int .i32 (gl1 a b).1, .int .i32 (gl1 a b).2]) ∧ w' = w := by
  obtain ⟨ha1, ha2⟩ := ha
  obtain ⟨hb1, hb2⟩ := hb
  by_cases c1 : a + b < -524288
  · have hn1 : ¬ (-524288 ≤ a + b) := by omega
    have hn2 : a + b < 0 := by omega
    by_cases c3 : b = -32768
    · subst c3
      have e : gl1 a (-32768) = (-524288, 32767) := by
        unfold gl1
        refine Prod.ext ?_ ?_
        · show max _ _ = _; omega
        · show (if _ then _ else _) = _; rw [if_neg (by omega)]; decide
      rw [e]
      clear e
      go_enter Tryd.func30, Tryd.ntmps30
      go_wp2
      go_ret2
      exact ⟨rfl, rfl⟩
    · have hne : (b == -32768) = false := by simpa using c3
      have e : gl1 a b = (-524288, -b) := by
        unfold gl1
        refine Prod.ext ?_ ?_
        · show max _ _ = _; omega
        · show (if _ then _ else _) = _; rw [if_neg (by omega)]; omega
      rw [e]
      clear e
      go_enter Tryd.func30, Tryd.ntmps30
      go_wp2
      go_ret2
      exact ⟨rfl, rfl⟩
  · have hn1 : -524288 ≤ a + b := by omega
    by_cases c2 : a + b ≤ 524287
    · have e : gl1 a b = (a + b, b) := by
        unfold gl1
        refine Prod.ext ?_ ?_
        · show max _ _ = _; omega
        · show (if _ then _ else _) = _; rw [if_pos (by omega)]
      rw [e]
      clear e
      go_enter Tryd.func30, Tryd.ntmps30
      go_wp2
      go_ret2
      exact ⟨rfl, rfl⟩
    · have hn2 : ¬ a + b < 0 := by omega
      have hne : (b == -32768) = false := by simp; omega
      have e : gl1 a b = (524287, -b) := by
        unfold gl1
        refine Prod.ext ?_ ?_
        · show max _ _ = _; omega
        · show (if _ then _ else _) = _; rw [if_neg (by omega)]; omega
      rw [e]
      clear e
      go_enter Tryd.func30, Tryd.ntmps30
      go_wp2
      go_ret2
      exact ⟨rfl, rfl⟩
end Go.Proofs.YtehancopmpcpmaaDoor

/-
  Move as the document says it: the loop.
-/
namespace Go.Proofs.YtehancopmpcpmaaDoor
open Go.RowKit Go.Maps
set_option linter.unusedVariables false
set_option maxRecDepth 100000

theorem Own.five {w0 w : World} {P Q R S T : Thing} {l : List Thing} (h : Own w0 w (P :: Q :: R :: S :: T :: l)) : Own w0 w (T :: P :: Q :: R :: S :: l) := h.perm (List.perm_middle (l₁ := [P, Q, R, S]) (a := T) (l₂ := l))
theorem Own.six {w0 w : World} {P Q R S T U : Thing} {l : List Thing} (h : Own w0 w (P :: Q :: R :: S :: T :: U :: l)) : Own w0 w (U :: P :: Q :: R :: S :: T :: l) := h.perm (List.perm_middle (l₁ := [P, Q, R, S, T]) (a := U) (l₂ := l))
set_option maxHeartbeats 8000000 in
theorem rmove_ok (w0 w : World) (l : List Thing) (b : Nat) (σ : Sto) (K : Nat) (h : Own w0 w (RSto b σ K :: l)) (hσ : σ.Ok) (hK : K ≤ 900000) :
    Calls Tryd.prog 11 #[.pointer (some ⟨b, 0, none⟩)] w fun e w' => ∃ ao cap, e = .returned (.slice ao (σ.mvs (σ.find 3 0)).2.length cap) ∧ Own w0 w' (Row 38 1 (.slice ao (σ.mvs (σ.find 3 0)).2.length cap) (σ.mvs (σ.find 3 0)).2.length (irow .u32 (σ.mvs (σ.find 3 0)).2) :: RSto b (σ.mvs (σ.find 3 0)).1 (K + 1024) :: l) := by
  obtain ⟨i0, hi, hz0, hz1, hz2⟩ := info_parts Tryd.infoID2
  have hLV : ∀ id ∈ σ.S.list, σ.S.isLive id = true ∧ id < 4294967296 := fun id hid => St.list_iv1 hσ.s hid
  obtain ⟨x, hx, h⟩ := RSto.opn h
  have HL : Hid (Calls _ _ _ _ _) := rlistS w0 w l b σ K x h hx hσ (by omega) (fun id hid => (hLV id hid).1)
  have hlen := list_len2 hσ.s
  have hnd := St.list_nodup hσ.s
  have HFE : Hid (σ.find 3 0 = σ.S.list.filter (fun id => hasK (σ.cps id) 0 && hasK (σ.cps id) 1)) := find_3 hσ
  rw [HFE.out]
  have HGG : Hid (∀ w' l', Own w0 w' (RSX b σ.S x :: l') → Own w0 w' (RStG (σ.S.list.map (x.at σ)) b σ K :: l')) := fun w' l' h' => RStG.all hx hσ (fun id hid => (hLV id hid).1) h'
  have HAT : Hid (∀ id ∈ σ.S.list, (x.at σ id).1 = id ∧ (x.at σ id).2.1 = σ.cps id) := by
    intro id hid
    obtain ⟨_, h1, h2, _⟩ := hx.at hσ (hLV id hid).1
    exact ⟨h1, h2⟩
  have HGV : Hid (∀ id ∈ σ.S.list, id < 4294967296 ∧ lst (-1) (σ.cps id) = 0 ∧ (∀ q ∈ σ.cps id, q.k < 6) ∧ ∀ q ∈ σ.cps id, σ.gv id q.k = q ∧ q.chk = 0) := by
    intro id hid
    obtain ⟨hl, h32⟩ := hLV id hid
    obtain ⟨c1, c2⟩ := cps61 hσ hl
    exact ⟨h32, c1, c2, fun q hq => gv_is hσ hl hq⟩
  obtain ⟨X, hX⟩ : ∃ X, σ.S.list = X := ⟨_, rfl⟩
  rw [hX] at HL hlen HGG HAT HGV hLV hnd ⊢
  obtain ⟨M, hM⟩ : ∃ M : Nat → Sto × List Nat, M = fun j => σ.mvs ((X.take j).filter (fun id => hasK (σ.cps id) 0 && hasK (σ.cps id) 1)) := ⟨_, rfl⟩
  have HM0 : Hid (M 0 = (σ, [])) := by show _ = _; rw [hM]; simp [Sto.mvs]
  have HMS : Hid (∀ (j id : Nat), X[j]? = some id → M (j + 1) = if hasK (σ.cps id) 0 && hasK (σ.cps id) 1 then (((M j).1.mv id).2, if ((M j).1.mv id).1 then (M j).2 ++ [id] else (M j).2) else M j) := by
    intro j id hd
    rw [hM]
    simp only
    rw [List.take_add_one, hd]
    simp only [Option.toList_some, List.filter_append, List.filter_cons, List.filter_nil]
    cases hasK (σ.cps id) 0 && hasK (σ.cps id) 1 with
    | true => simp only [if_true]; exact Sto.mvs_snoc σ _ id
    | false => simp
  have HME : Hid (M X.length = σ.mvs (X.filter (fun id => hasK (σ.cps id) 0 && hasK (σ.cps id) 1))) := by show _ = _; rw [hM]; simp
  have HMI : Hid (∀ (j id : Nat), X[j]? = some id → (M j).1.Ok ∧ (M j).1.S.isLive id = true ∧ (M j).1.cps id = σ.cps id ∧ (M j).2.length ≤ j) := by
    intro j id hd
    have hnt := not_take hnd hd
    have hf : (((X.take j).filter (fun id => hasK (σ.cps id) 0 && hasK (σ.cps id) 1))).Nodup := (hnd.sublist (List.take_sublist _ _)).filter _
    have hlv : ∀ y ∈ (X.take j).filter (fun id => hasK (σ.cps id) 0 && hasK (σ.cps id) 1), σ.S.isLive y = true := fun y hy => (hLV y (List.mem_of_mem_take (List.mem_filter.1 hy).1)).1
    have hni : id ∉ (X.take j).filter (fun id => hasK (σ.cps id) 0 && hasK (σ.cps id) 1) := fun hm => hnt (List.mem_filter.1 hm).1
    obtain ⟨i1, i3, _, i4⟩ := Sto.mvs_inv hσ ((X.take j).filter (fun id => hasK (σ.cps id) 0 && hasK (σ.cps id) 1))
    have hl := (hLV id (List.mem_of_getElem? hd)).1
    rw [hM]
    exact ⟨i1, (by rw [i3]; exact hl), Sto.mvs_oth hσ _ id hl hni, Nat.le_trans i4 (Nat.le_trans (List.length_filter_le _ _) (by rw [List.length_take]; omega))⟩
  have HNE : Hid (∀ (j id : Nat), X[j]? = some id → ∀ d ∈ (X.map (x.at σ)).drop (j + 1), d.1 ≠ id) := by
    intro j id hd d hdm he
    rw [← List.map_drop] at hdm
    obtain ⟨y, hy, rfl⟩ := List.mem_map.1 hdm
    rw [(HAT.out y (List.mem_of_mem_drop hy)).1] at he
    rw [he] at hy
    exact not_drop hnd hd hy
  rw [← HME.out]
  clear h hX hLV hσ hM HME hnd HFE hx
  generalize hxl : X.length = xl at *
  have HXL : Hid (X.length = xl) := hxl
  clear hxl
  go_enter Tryd.func11, Tryd.ntmps11
  go_wp2_with fail
  refine HL.out.mono ?_
  rintro e w1 ⟨la, lc, rfl, hO1⟩
  have H1 : Hid (Own w0 w1 (Row 38 1 (.slice none 0 0) 0 (irow .u32 []) :: Row 41 2 (.slice la xl lc) xl (cat rcells (X.map (x.at σ))) :: RStG (X.map (x.at σ)) b σ K :: l)) := (HGG.out _ _ hO1.two).two.nilRow 38 1
  clear hO1 HL HGG
  go_wp2
  go_loopw [3, 17] (fun v3 v9 wr => ∃ j : Nat, j ≤ xl ∧ v9 = .int .i64 j ∧ ∃ a1 c1, v3 = .slice a1 (M j).2.length c1 ∧ Own w0 wr (Row 38 1 (.slice a1 (M j).2.length c1) (M j).2.length (irow .u32 (M j).2) :: Row 41 2 (.slice la xl lc) xl (cat rcells (X.map (x.at σ))) :: RStG ((X.map (x.at σ)).drop j) b (M j).1 (K + j) :: l)) (fun _ v9 _ => xl - (intOf v9).toNat)
  case atStart => exact ⟨0, Nat.zero_le _, rfl, none, 0, by rw [HM0.out]; rfl, by rw [HM0.out]; exact H1.out⟩
  case round =>
    obtain ⟨j, hj, rfl, a1, c1, rfl, hO⟩ := hrel
    have HO : Hid (Own w0 wr _) := hO
    clear H1 HM0
    by_cases hlt : j < xl
    · have hlt' : (j : Int) < (xl : Int) := by omega
      obtain ⟨id, hid⟩ : ∃ id, X[j]? = some id := ⟨_, List.getElem?_eq_getElem (by rw [HXL.out]; exact hlt)⟩
      have hidm := List.mem_of_getElem? hid
      obtain ⟨g, cp, hv, _⟩ := row_shape hO.two.row (by omega)
      have hla := (Value.slice.inj hv).1
      subst hla
      obtain ⟨d, hde⟩ : ∃ d, x.at σ id = d := ⟨_, rfl⟩
      have hD : (X.map (x.at σ))[j]? = some d := by rw [List.getElem?_map, hid]; simp [hde]
      have hO' := hO.two
      rw [show xl = (X.map (x.at σ)).length by rw [List.length_map, HXL.out]] at hO'
      obtain ⟨e0, e1⟩ := ecell hO' j d hD
      obtain ⟨hd1, hd2⟩ := HAT.out id hidm
      rw [hde] at hd1 hd2
      obtain ⟨h32, hlC, hC6, hGV⟩ := HGV.out id hidm
      obtain ⟨i1, i2, i3, i4⟩ := HMI.out j id hid
      have HST : Hid (M (j + 1) = if hasK (σ.cps id) 0 && hasK (σ.cps id) 1 then (((M j).1.mv id).2, if ((M j).1.mv id).1 then (M j).2 ++ [id] else (M j).2) else M j) := HMS.out j id hid
      have hgv0 : (M j).1.gv id 0 = σ.gv id 0 := by unfold Sto.gv; rw [i3]
      have hgv1 : (M j).1.gv id 1 = σ.gv id 1 := by unfold Sto.gv; rw [i3]
      have HNX : Hid (∀ d' ∈ (X.map (x.at σ)).drop (j + 1), d'.1 ≠ id) := HNE.out j id hid
      have hdrop := drop_at hD
      have HAG : Hid ((M j).1.mv id = (!(((gl1 (σ.gv id 0).a (σ.gv id 1).a).1 == (σ.gv id 0).a) && ((gl1 (σ.gv id 0).b (σ.gv id 1).b).1 == (σ.gv id 0).b)), (((M j).1.set id (mvP (σ.gv id 0) (σ.gv id 1))).2.set id (mvV (σ.gv id 0) (σ.gv id 1))).2)) := by
        show _ = _
        unfold Sto.mv
        rw [hgv0, hgv1]
      have hO5 := (hO.allocC #[.int .u32 (d.1 : Int), .slice d.2.2.1 d.2.1.length d.2.2.2] 41).drew
      have HFN : Hid (∀ w' (k : Nat), k < 6 → Own w0 w' (Cells wr.heap.size #[.int .u32 (d.1 : Int), .slice d.2.2.1 d.2.1.length d.2.2.2] 41 :: Row 38 1 (.slice a1 (M j).2.length c1) (M j).2.length (irow .u32 (M j).2) :: Row 41 2 (.slice (some ⟨g, 0, none⟩) xl lc) xl (cat rcells (X.map (x.at σ))) :: RStG ((X.map (x.at σ)).drop j) b (M j).1 (K + j) :: l) → Calls Tryd.prog 29 #[.slice d.2.2.1 d.2.1.length d.2.2.2, .int .u8 (k : Int)] w' fun e w'' => ∃ r : Int, e = .returned (.int .i64 r) ∧ Fr Nobody w' w'' ∧ ((r = -1 ∧ hasK d.2.1 k = false) ∨ ∃ i : Nat, r = i ∧ ∃ q : Cp, d.2.1[i]? = some q ∧ q.k = k ∧ hasK d.2.1 k = true)) := fun w' k hk h' => find_any w' d.2.2.1 d.2.1.length d.2.2.2 d.2.1 rfl (RStG.cs h'.four hdrop) (by rw [hd2]; exact fun q hq => by have := hC6 q hq; omega) (by rw [hd2]; have := lst_len6 hlC; omega) k (by omega)
      have HF0 : Hid (Calls Tryd.prog 29 #[.slice d.2.2.1 d.2.1.length d.2.2.2, .int .u8 0] _ _) := HFN.out _ 0 (by decide) hO5
      have HF1 : Hid (∀ w', _ → Calls Tryd.prog 29 #[.slice d.2.2.1 d.2.1.length d.2.2.2, .int .u8 1] w' _) := fun w' h' => HFN.out w' 1 (by decide) h'
      clear HFN
      have H5 : Hid (Own w0 _ _) := hO5
      have HS1 : Hid (∀ w' l' (c : Cp), c.k = 0 → Own w0 w' (RStG ((X.map (x.at σ)).drop j) b (M j).1 (K + j) :: l') → Calls Tryd.prog 31 #[.pointer (some ⟨b, 0, none⟩), .int .u32 (id : Int), c.ag] w' fun e w'' => ∃ r, e = .returned (.int .i64 r) ∧ Own w0 w'' (RStG ((X.map (x.at σ)).drop (j + 1)) b ((M j).1.set id c).2 (K + (j + 1)) :: l')) := fun w' l' c hc h' => by
        refine (rsetG w0 w' l' b (M j).1 (K + j) (RStG.sub drop_sub h') i1 id HNX.out h32 c (by omega) (by omega)).mono ?_
        rintro e w'' ⟨rfl, h2⟩
        exact ⟨_, rfl, RStG.stoK (by omega) h2⟩
      have HS2 : Hid (∀ w' l' (c' c : Cp), c.k = 1 → Own w0 w' (RStG ((X.map (x.at σ)).drop (j + 1)) b ((M j).1.set id c').2 (K + (j + 1)) :: l') → Calls Tryd.prog 31 #[.pointer (some ⟨b, 0, none⟩), .int .u32 (id : Int), c.ag] w' fun e w'' => ∃ r, e = .returned (.int .i64 r) ∧ Own w0 w'' (RStG ((X.map (x.at σ)).drop (j + 1)) b (((M j).1.set id c').2.set id c).2 (K + (j + 1)) :: l')) := fun w' l' c' c hc h' => by
        refine (rsetG w0 w' l' b _ (K + (j + 1)) h' (Sto.set_ok i1 _ _) id HNX.out h32 c (by omega) (by omega)).mono ?_
        rintro e w'' ⟨rfl, h2⟩
        exact ⟨_, rfl, h2⟩
      rw [HAG.out] at HST
      have x1 := hO5.cell 1
      simp at x1
      clear hO hO' hid hv hO5 hidm hde hD i1 i2 i3 HAG hgv0 hgv1 HNX hlC hC6
      obtain ⟨dd1, C, da, dc⟩ := d
      simp only at e0 e1 hd1 hd2 H5 HF0 HF1 hdrop x1
      subst hd1
      generalize hcl : C.length = cl at *
      have HCL : Hid (C.length = cl) := hcl
      clear hcl
      go_wp2_with fail
      go_region_held3 (fun w' : World => w'.cell? ⟨wr.heap.size, 1, none⟩ = some (.slice da cl dc)) (go_keep)
        (first
         | (go_at_call 29; with_reducible refine HF0.out.mono ?_; rintro e w5 ⟨r5, rfl, hf5, hcase5⟩
            have hO6 := H5.out.quiet hf5
            have x1 := hO6.cell 1
            simp at x1
            have H6 : Hid (Own w0 w5 _) := hO6
            have HC5 : Hid (_ ∨ _) := hcase5
            clear hf5 hcase5 hO6)
         | (go_at_call 29; with_reducible refine (HF1.out _ H6.out).mono ?_; rintro e w6 ⟨r6, rfl, hf6, hcase6⟩
            have hO7 := H6.out.quiet hf6
            have x1 := hO7.cell 1
            simp at x1
            have H7 : Hid (Own w0 w6 _) := hO7
            have HC6 : Hid (_ ∨ _) := hcase6
            clear hf6 hcase6 hO7))
      all_goals
        rcases HC5.out with ⟨rfl, hno⟩ | ⟨i, rfl, q, hq, hqk, hy⟩
        · rw [hd2] at hno
          rw [hno] at HST
          simp only [Bool.false_and, Bool.false_eq_true, if_false] at HST
          have H8 : Hid (Own w0 w6 _) := (RStG.stoK (show K + j ≤ K + (j + 1) by omega) (RStG.sub drop_sub H7.out.four)).back4.tail
          clear H5 H6 H7 HF0 HF1 hno HS1 HS2 HO HC5 HC6
          go_wp2
          go_roundw
          case rel => exact ⟨j + 1, by omega, by go_num, a1, c1, by rw [HST.out], by rw [HST.out]; exact H8.out⟩
          case measure => simp [intOf]; omega
        · rcases HC6.out with ⟨rfl, hno⟩ | ⟨i2, rfl, q2, hq2, hqk2, hy2⟩
          · rw [hd2] at hno
            rw [hno] at HST
            simp only [Bool.and_false, Bool.false_eq_true, if_false] at HST
            have H8 : Hid (Own w0 w6 _) := (RStG.stoK (show K + j ≤ K + (j + 1) by omega) (RStG.sub drop_sub H7.out.four)).back4.tail
            clear H5 H6 H7 HF0 HF1 hno HS1 HS2 HO HC5 HC6 hq hqk hy
            go_wp2
            go_roundw
            case rel => exact ⟨j + 1, by omega, by go_num, a1, c1, by rw [HST.out], by rw [HST.out]; exact H8.out⟩
            case measure => simp [intOf]; omega
          · rw [hd2] at hy hy2
            rw [hy, hy2] at HST
            simp only [Bool.and_self, if_true] at HST
            have hqm := List.mem_of_getElem? hq
            have hqm2 := List.mem_of_getElem? hq2
            rw [hd2] at hqm hqm2
            obtain ⟨gq, gc⟩ := hGV q hqm
            obtain ⟨gq2, gc2⟩ := hGV q2 hqm2
            rw [hqk] at gq
            rw [hqk2] at gq2
            rw [gq, gq2] at HST
            have hil : i < cl := by rw [← HCL.out]; exact (List.getElem?_eq_some_iff.1 hq).1
            have hil2 : i2 < cl := by rw [← HCL.out]; exact (List.getElem?_eq_some_iff.1 hq2).1
            obtain ⟨gg, oc, hda, _, hat⟩ := (RStG.cs H7.out.four hdrop).at i q hq
            simp only at hda
            subst hda
            obtain ⟨gg', oc', hda', _, hat2⟩ := (RStG.cs H7.out.four hdrop).at i2 q2 hq2
            simp only [Option.some.injEq, Addr.mk.injEq] at hda'
            obtain ⟨rfl, rfl, _⟩ := hda'
            obtain ⟨p0, p1, p2, p3⟩ := hat
            obtain ⟨v0, v1, v2, v3⟩ := hat2
            obtain ⟨qk, pa, pb, pc⟩ := q
            obtain ⟨qk2, va, vb, vc⟩ := q2
            simp only at p0 p1 p2 p3 v0 v1 v2 v3 HST hqk hqk2 gc gc2
            subst hqk hqk2
            obtain ⟨b1, b2, b3, b4, b5⟩ := chk_pv (.inl rfl) gc
            obtain ⟨d1, d2, d3, d4, d5⟩ := chk_pv (.inr rfl) gc2
            simp [lo, Go.Proofs.YtehancopmpcpmaaDoor.hi, fld, kinds] at b1 b2 b3 b4 d1 d2 d3 d4
            subst b5 d5
            have hil' : (i : Int) < (cl : Int) := by omega
            have hil2' : (i2 : Int) < (cl : Int) := by omega
            have HTA : Hid (∀ w', Calls Tryd.prog 30 #[.int .i32 pa, .int .i32 va] w' fun e w'' => e = .returned (.tuple #[.int .i32 (gl1 pa va).1, .int .i32 (gl1 pa va).2]) ∧ w'' = w') := fun w' => rturn14 w' pa va ⟨by omega, by omega⟩ ⟨by omega, by omega⟩
            have HTB : Hid (∀ w', Calls Tryd.prog 30 #[.int .i32 pb, .int .i32 vb] w' fun e w'' => e = .returned (.tuple #[.int .i32 (gl1 pb vb).1, .int .i32 (gl1 pb vb).2]) ∧ w'' = w') := fun w' => rturn14 w' pb vb ⟨by omega, by omega⟩ ⟨by omega, by omega⟩
            have HSA : Hid (∀ w' l', _ → Calls Tryd.prog 31 #[.pointer (some ⟨b, 0, none⟩), .int .u32 (dd1 : Int), .agg #[.int .u8 0, .int .i32 (gl1 pa va).1, .int .i32 (gl1 pb vb).1, .int .i32 0]] w' _) := fun w' l' h' => HS1.out w' l' (mvP ⟨0, pa, pb, 0⟩ ⟨1, va, vb, 0⟩) rfl h'
            have HSB : Hid (∀ w' l', _ → Calls Tryd.prog 31 #[.pointer (some ⟨b, 0, none⟩), .int .u32 (dd1 : Int), .agg #[.int .u8 1, .int .i32 (gl1 pa va).2, .int .i32 (gl1 pb vb).2, .int .i32 0]] w' _) := fun w' l' h' => HS2.out w' l' (mvP ⟨0, pa, pb, 0⟩ ⟨1, va, vb, 0⟩) (mvV ⟨0, pa, pb, 0⟩ ⟨1, va, vb, 0⟩) rfl h'
            have H7d : Hid (Own w0 w6.drew _) := H7.out.drew
            clear H5 H6 HF0 HF1 HS1 HS2 HO HC5 HC6 hq hq2 hqm hqm2 gq gq2 gc gc2 hy hy2 hGV HNE HMI HMS HAT HGV
            generalize hll : (M j).2.length = ll at *
            have HLL : Hid ((M j).2.length = ll) := hll
            clear hll
            generalize gl1 pa va = ga at *
            generalize gl1 pb vb = gb at *
            obtain ⟨ga1, ga2⟩ := ga
            obtain ⟨gb1, gb2⟩ := gb
            simp only at HTA HTB HSA HSB HST
            go_wp2_with fail
            go_region_held3 (fun w' : World => w'.cell? ⟨wr.heap.size, 1, none⟩ = some (.slice (some ⟨gg, oc, none⟩) cl dc) ∧ w'.cell? ⟨gg, oc + i * 4, none⟩ = some (.int .u8 0) ∧ w'.cell? ⟨gg, oc + i * 4 + 1, none⟩ = some (.int .i32 pa) ∧ w'.cell? ⟨gg, oc + i * 4 + 2, none⟩ = some (.int .i32 pb) ∧ w'.cell? ⟨gg, oc + i * 4 + 3, none⟩ = some (.int .i32 0) ∧ w'.cell? ⟨gg, oc + i2 * 4, none⟩ = some (.int .u8 1) ∧ w'.cell? ⟨gg, oc + i2 * 4 + 1, none⟩ = some (.int .i32 va) ∧ w'.cell? ⟨gg, oc + i2 * 4 + 2, none⟩ = some (.int .i32 vb) ∧ w'.cell? ⟨gg, oc + i2 * 4 + 3, none⟩ = some (.int .i32 0)) (go_keep) (fail)
            · have hX0 := (H7.out.allocC #[.int .u8 0, .int .i32 pa, .int .i32 pb, .int .i32 0] 49).allocC #[.int .u8 1, .int .i32 va, .int .i32 vb, .int .i32 0] 49
              simp only [World.size_alloc] at hX0
              have hX1 : Own w0 _ (Cells w6.heap.size #[.int .u8 0, .int .i32 pa, .int .i32 pb, .int .i32 0] 49 :: Cells (w6.heap.size + 1) #[.int .u8 1, .int .i32 va, .int .i32 vb, .int .i32 0] 49 :: Cells wr.heap.size #[.int .u32 (dd1 : Int), .slice (some ⟨gg, oc, none⟩) cl dc] 41 :: Row 38 1 (.slice a1 ll c1) ll (irow .u32 (M j).2) :: Row 41 2 (.slice (some ⟨g, 0, none⟩) xl lc) xl (cat rcells (X.map (x.at σ))) :: RStG ((X.map (x.at σ)).drop j) b (M j).1 (K + j) :: l) := hX0.two.drew
              generalize ((w6.alloc (.cells #[.int .u8 0, .int .i32 pa, .int .i32 pb, .int .i32 0] 49)).alloc (.cells #[.int .u8 1, .int .i32 va, .int .i32 vb, .int .i32 0] 49)).drew = W at hX1 ⊢
              have k1 := hX1.cell 1
              have k2 := hX1.cell 2
              have m1 := hX1.two.cell 1
              have m2 := hX1.two.cell 2
              have y0 := hX1.three.cell 0
              simp at k1 k2 m1 m2 y0
              have HX : Hid (Own w0 _ _) := hX1
              clear hX0 hX1
              go_wp2_with fail
              refine (HTA.out _).mono ?_
              rintro e wA ⟨rfl, rfl⟩
              go_wp2_with fail
              refine (HTB.out _).mono ?_
              rintro e wB ⟨rfl, rfl⟩
              clear HTA HTB
              by_cases ca : ga1 = pa
              · have hca : (ga1 != pa) = false := by simp [ca]
                by_cases cb : gb1 = pb
                · have hcb : (gb1 != pb) = false := by simp [cb]
                  have hbb : (!(ga1 == pa && gb1 == pb)) = false := by simp [ca, cb]
                  clear ca cb
                  rw [hbb] at HST
                  simp only [Bool.false_eq_true, if_false] at HST
                  have HC1 : Hid (Calls _ _ _ _ _) := HSA.out _ _ HX.out.six
                  clear HX H7 H7d
                  go_wp2_with fail
                  refine HC1.out.mono ?_
                  rintro e w8 ⟨r8, rfl, hO9⟩
                  have y0 := hO9.four.cell 0
                  simp at y0
                  have HC2 : Hid (Calls _ _ _ _ _) := HSB.out _ _ hO9
                  clear hO9 HC1
                  go_wp2_with fail
                  refine HC2.out.mono ?_
                  rintro e w9 ⟨r9, rfl, hO10⟩
                  have HFI : Hid (Own w0 w9 _) := hO10.two.tail.two.tail.two.tail.back3
                  clear hO10 HC2
                  go_wp2
                  go_roundw
                  case rel => exact ⟨j + 1, by omega, by go_num, a1, c1, by rw [HST.out, HLL.out], by rw [HST.out, HLL.out]; exact HFI.out⟩
                  case measure => simp [intOf]; omega
                · have hcb : (gb1 != pb) = true := by simpa using cb
                  have hbb : (!(ga1 == pa && gb1 == pb)) = true := by simp [cb]
                  clear ca cb
                  rw [hbb] at HST
                  simp only [if_true] at HST
                  have H9 : Hid (Own w0 _ _) := HX.out.four
                  clear HX H7 H7d
                  go_wp2_with (at_builtin; refine append1_own rfl _ _ 29 rfl 38 i0 (.int .u32 0) 1 4 Tryd.underlying29 hi hz0 hz1 hz2 rfl (by decide) _ _ _ rfl H9.out _ _ (by simp) rfl rfl (one_int _ _) (by unfold maxLen; omega) (by omega) ?_)
                  intro g6 c6 w7 hO8 hsz6
                  have y0 := hO8.four.cell 0
                  simp at y0
                  have HC1 : Hid (Calls _ _ _ _ _) := HSA.out _ _ hO8.six
                  clear hO8 hsz6 H9
                  go_wp2_with fail
                  refine HC1.out.mono ?_
                  rintro e w8 ⟨r8, rfl, hO9⟩
                  have y0 := hO9.five.cell 0
                  simp at y0
                  have HC2 : Hid (Calls _ _ _ _ _) := HSB.out _ _ hO9
                  clear hO9 HC1
                  go_wp2_with fail
                  refine HC2.out.mono ?_
                  rintro e w9 ⟨r9, rfl, hO10⟩
                  have HFI : Hid (Own w0 w9 (Row 38 1 (.slice (some ⟨g6, 0, none⟩) (ll + 1) c6) (ll + 1) (irow .u32 (M (j + 1)).2) :: Row 41 2 (.slice (some ⟨g, 0, none⟩) xl lc) xl (cat rcells (X.map (x.at σ))) :: RStG ((X.map (x.at σ)).drop (j + 1)) b (M (j + 1)).1 (K + (j + 1)) :: l)) := by
                    show Own _ _ _
                    rw [HST.out]
                    have h9 := hO10.three.tail.three.tail.three.tail.back3
                    simpa [irow] using h9
                  have HRL2 : Hid ((M (j + 1)).2.length = ll + 1) := by show _ = _; rw [HST.out, List.length_append, HLL.out]; rfl
                  clear hO10 HC2
                  go_wp2
                  go_roundw
                  case rel => exact ⟨j + 1, by omega, by go_num, _, _, by rw [HRL2.out], by rw [HRL2.out]; exact HFI.out⟩
                  case measure => simp [intOf]; omega
              · have hca : (ga1 != pa) = true := by simpa using ca
                have hbb : (!(ga1 == pa && gb1 == pb)) = true := by simp [ca]
                clear ca
                rw [hbb] at HST
                simp only [if_true] at HST
                have H9 : Hid (Own w0 _ _) := HX.out.four
                clear HX H7 H7d
                go_wp2_with (at_builtin; refine append1_own rfl _ _ 29 rfl 38 i0 (.int .u32 0) 1 4 Tryd.underlying29 hi hz0 hz1 hz2 rfl (by decide) _ _ _ rfl H9.out _ _ (by simp) rfl rfl (one_int _ _) (by unfold maxLen; omega) (by omega) ?_)
                intro g6 c6 w7 hO8 hsz6
                have y0 := hO8.four.cell 0
                simp at y0
                have HC1 : Hid (Calls _ _ _ _ _) := HSA.out _ _ hO8.six
                clear hO8 hsz6 H9
                go_wp2_with fail
                refine HC1.out.mono ?_
                rintro e w8 ⟨r8, rfl, hO9⟩
                have y0 := hO9.five.cell 0
                simp at y0
                have HC2 : Hid (Calls _ _ _ _ _) := HSB.out _ _ hO9
                clear hO9 HC1
                go_wp2_with fail
                refine HC2.out.mono ?_
                rintro e w9 ⟨r9, rfl, hO10⟩
                have HFI : Hid (Own w0 w9 (Row 38 1 (.slice (some ⟨g6, 0, none⟩) (ll + 1) c6) (ll + 1) (irow .u32 (M (j + 1)).2) :: Row 41 2 (.slice (some ⟨g, 0, none⟩) xl lc) xl (cat rcells (X.map (x.at σ))) :: RStG ((X.map (x.at σ)).drop (j + 1)) b (M (j + 1)).1 (K + (j + 1)) :: l)) := by
                  show Own _ _ _
                  rw [HST.out]
                  have h9 := hO10.three.tail.three.tail.three.tail.back3
                  simpa [irow] using h9
                have HRL2 : Hid ((M (j + 1)).2.length = ll + 1) := by show _ = _; rw [HST.out, List.length_append, HLL.out]; rfl
                clear hO10 HC2
                go_wp2
                go_roundw
                case rel => exact ⟨j + 1, by omega, by go_num, _, _, by rw [HRL2.out], by rw [HRL2.out]; exact HFI.out⟩
                case measure => simp [intOf]; omega
            · have hX0 := (H7.out.allocC #[.int .u8 1, .int .i32 va, .int .i32 vb, .int .i32 0] 49).allocC #[.int .u8 0, .int .i32 pa, .int .i32 pb, .int .i32 0] 49
              simp only [World.size_alloc] at hX0
              have hX1 : Own w0 _ (Cells (w6.heap.size + 1) #[.int .u8 0, .int .i32 pa, .int .i32 pb, .int .i32 0] 49 :: Cells w6.heap.size #[.int .u8 1, .int .i32 va, .int .i32 vb, .int .i32 0] 49 :: Cells wr.heap.size #[.int .u32 (dd1 : Int), .slice (some ⟨gg, oc, none⟩) cl dc] 41 :: Row 38 1 (.slice a1 ll c1) ll (irow .u32 (M j).2) :: Row 41 2 (.slice (some ⟨g, 0, none⟩) xl lc) xl (cat rcells (X.map (x.at σ))) :: RStG ((X.map (x.at σ)).drop j) b (M j).1 (K + j) :: l) := hX0.drew
              generalize ((w6.alloc (.cells #[.int .u8 1, .int .i32 va, .int .i32 vb, .int .i32 0] 49)).alloc (.cells #[.int .u8 0, .int .i32 pa, .int .i32 pb, .int .i32 0] 49)).drew = W at hX1 ⊢
              have k1 := hX1.cell 1
              have k2 := hX1.cell 2
              have m1 := hX1.two.cell 1
              have m2 := hX1.two.cell 2
              have y0 := hX1.three.cell 0
              simp at k1 k2 m1 m2 y0
              have HX : Hid (Own w0 _ _) := hX1
              clear hX0 hX1
              go_wp2_with fail
              refine (HTA.out _).mono ?_
              rintro e wA ⟨rfl, rfl⟩
              go_wp2_with fail
              refine (HTB.out _).mono ?_
              rintro e wB ⟨rfl, rfl⟩
              clear HTA HTB
              by_cases ca : ga1 = pa
              · have hca : (ga1 != pa) = false := by simp [ca]
                by_cases cb : gb1 = pb
                · have hcb : (gb1 != pb) = false := by simp [cb]
                  have hbb : (!(ga1 == pa && gb1 == pb)) = false := by simp [ca, cb]
                  clear ca cb
                  rw [hbb] at HST
                  simp only [Bool.false_eq_true, if_false] at HST
                  have HC1 : Hid (Calls _ _ _ _ _) := HSA.out _ _ HX.out.six
                  clear HX H7 H7d
                  go_wp2_with fail
                  refine HC1.out.mono ?_
                  rintro e w8 ⟨r8, rfl, hO9⟩
                  have y0 := hO9.four.cell 0
                  simp at y0
                  have HC2 : Hid (Calls _ _ _ _ _) := HSB.out _ _ hO9
                  clear hO9 HC1
                  go_wp2_with fail
                  refine HC2.out.mono ?_
                  rintro e w9 ⟨r9, rfl, hO10⟩
                  have HFI : Hid (Own w0 w9 _) := hO10.two.tail.two.tail.two.tail.back3
                  clear hO10 HC2
                  go_wp2
                  go_roundw
                  case rel => exact ⟨j + 1, by omega, by go_num, a1, c1, by rw [HST.out, HLL.out], by rw [HST.out, HLL.out]; exact HFI.out⟩
                  case measure => simp [intOf]; omega
                · have hcb : (gb1 != pb) = true := by simpa using cb
                  have hbb : (!(ga1 == pa && gb1 == pb)) = true := by simp [cb]
                  clear ca cb
                  rw [hbb] at HST
                  simp only [if_true] at HST
                  have H9 : Hid (Own w0 _ _) := HX.out.four
                  clear HX H7 H7d
                  go_wp2_with (at_builtin; refine append1_own rfl _ _ 29 rfl 38 i0 (.int .u32 0) 1 4 Tryd.underlying29 hi hz0 hz1 hz2 rfl (by decide) _ _ _ rfl H9.out _ _ (by simp) rfl rfl (one_int _ _) (by unfold maxLen; omega) (by omega) ?_)
                  intro g6 c6 w7 hO8 hsz6
                  have y0 := hO8.four.cell 0
                  simp at y0
                  have HC1 : Hid (Calls _ _ _ _ _) := HSA.out _ _ hO8.six
                  clear hO8 hsz6 H9
                  go_wp2_with fail
                  refine HC1.out.mono ?_
                  rintro e w8 ⟨r8, rfl, hO9⟩
                  have y0 := hO9.five.cell 0
                  simp at y0
                  have HC2 : Hid (Calls _ _ _ _ _) := HSB.out _ _ hO9
                  clear hO9 HC1
                  go_wp2_with fail
                  refine HC2.out.mono ?_
                  rintro e w9 ⟨r9, rfl, hO10⟩
                  have HFI : Hid (Own w0 w9 (Row 38 1 (.slice (some ⟨g6, 0, none⟩) (ll + 1) c6) (ll + 1) (irow .u32 (M (j + 1)).2) :: Row 41 2 (.slice (some ⟨g, 0, none⟩) xl lc) xl (cat rcells (X.map (x.at σ))) :: RStG ((X.map (x.at σ)).drop (j + 1)) b (M (j + 1)).1 (K + (j + 1)) :: l)) := by
                    show Own _ _ _
                    rw [HST.out]
                    have h9 := hO10.three.tail.three.tail.three.tail.back3
                    simpa [irow] using h9
                  have HRL2 : Hid ((M (j + 1)).2.length = ll + 1) := by show _ = _; rw [HST.out, List.length_append, HLL.out]; rfl
                  clear hO10 HC2
                  go_wp2
                  go_roundw
                  case rel => exact ⟨j + 1, by omega, by go_num, _, _, by rw [HRL2.out], by rw [HRL2.out]; exact HFI.out⟩
                  case measure => simp [intOf]; omega
              · have hca : (ga1 != pa) = true := by simpa using ca
                have hbb : (!(ga1 == pa && gb1 == pb)) = true := by simp [ca]
                clear ca
                rw [hbb] at HST
                simp only [if_true] at HST
                have H9 : Hid (Own w0 _ _) := HX.out.four
                clear HX H7 H7d
                go_wp2_with (at_builtin; refine append1_own rfl _ _ 29 rfl 38 i0 (.int .u32 0) 1 4 Tryd.underlying29 hi hz0 hz1 hz2 rfl (by decide) _ _ _ rfl H9.out _ _ (by simp) rfl rfl (one_int _ _) (by unfold maxLen; omega) (by omega) ?_)
                intro g6 c6 w7 hO8 hsz6
                have y0 := hO8.four.cell 0
                simp at y0
                have HC1 : Hid (Calls _ _ _ _ _) := HSA.out _ _ hO8.six
                clear hO8 hsz6 H9
                go_wp2_with fail
                refine HC1.out.mono ?_
                rintro e w8 ⟨r8, rfl, hO9⟩
                have y0 := hO9.five.cell 0
                simp at y0
                have HC2 : Hid (Calls _ _ _ _ _) := HSB.out _ _ hO9
                clear hO9 HC1
                go_wp2_with fail
                refine HC2.out.mono ?_
                rintro e w9 ⟨r9, rfl, hO10⟩
                have HFI : Hid (Own w0 w9 (Row 38 1 (.slice (some ⟨g6, 0, none⟩) (ll + 1) c6) (ll + 1) (irow .u32 (M (j + 1)).2) :: Row 41 2 (.slice (some ⟨g, 0, none⟩) xl lc) xl (cat rcells (X.map (x.at σ))) :: RStG ((X.map (x.at σ)).drop (j + 1)) b (M (j + 1)).1 (K + (j + 1)) :: l)) := by
                  show Own _ _ _
                  rw [HST.out]
                  have h9 := hO10.three.tail.three.tail.three.tail.back3
                  simpa [irow] using h9
                have HRL2 : Hid ((M (j + 1)).2.length = ll + 1) := by show _ = _; rw [HST.out, List.length_append, HLL.out]; rfl
                clear hO10 HC2
                go_wp2
                go_roundw
                case rel => exact ⟨j + 1, by omega, by go_num, _, _, by rw [HRL2.out], by rw [HRL2.out]; exact HFI.out⟩
                case measure => simp [intOf]; omega
    · have hlt' : ¬ (j : Int) < (xl : Int) := by omega
      have hjn : j = xl := by omega
      subst hjn
      clear hO
      go_wp2
      go_ret
      exact ⟨a1, c1, rfl, Own.two (Own.rstoK (by omega) (RStG.less HO.out.two.tail.two))⟩
end Go.Proofs.YtehancopmpcpmaaDoor

/-
  Move: the loop.
-/
namespace Go.Proofs.YtehancopmpcpmaaDoor
open Go.RowKit Go.Maps
set_option linter.unusedVariables false
set_option maxRecDepth 100000

set_option maxHeartbeats 4000000 in
theorem move_ok (w0 w : World) (l : List Thing) (b : Nat) (σ : Sto) (K : Nat) (ht : Tab w0) (h : Own w0 w (Store b σ K :: l)) (hσ : σ.Ok) (hK : K < 1000000) :
    Calls Tryd.prog 10 #[.pointer (some ⟨b, 0, none⟩)] w fun e w' => ∃ ao cap, e = .returned (.slice ao (σ.mvs (σ.find 3 0)).2.length cap) ∧ Own w0 w' (Row 38 1 (.slice ao (σ.mvs (σ.find 3 0)).2.length cap) (σ.mvs (σ.find 3 0)).2.length (irow .u32 (σ.mvs (σ.find 3 0)).2) :: Store b (σ.mvs (σ.find 3 0)).1 K :: l) := by
  obtain ⟨i0, hi, hz0, hz1, hz2⟩ := info_parts Tryd.infoID2
  have hLV : ∀ id ∈ σ.S.list, σ.S.isLive id = true ∧ id < 4294967296 := fun id hid => St.list_iv1 hσ.s hid
  have HW : Hid (Calls _ _ _ _ _) := with_g w0 w l (some ⟨b, 0, none⟩) (Store b σ K) _ h 3 0 (iter_store w0 b σ K hσ (by omega) hLV 3 0 (by decide) (by decide) ht) (Sto.find_len hσ.s 3 0)
  have hlen := Sto.find_len hσ.s 3 0
  have HIN : Hid (∀ id ∈ σ.find 3 0, σ.S.isLive id = true ∧ id < 4294967296 ∧ hasK (σ.cps id) 0 = true ∧ hasK (σ.cps id) 1 = true) := by
    intro id hid
    obtain ⟨h1, h2, h3⟩ := mem_find hσ hid
    exact ⟨h1, h2, h3 0 (by decide), h3 1 (by decide)⟩
  have HT : Hid (Tab w0) := ht
  have HSI : Hid (∀ j, (σ.mvs ((σ.find 3 0).take j)).1.Ok ∧ (σ.mvs ((σ.find 3 0).take j)).1.S = σ.S ∧ (∀ x, σ.S.isLive x = true → ∀ k, hasK ((σ.mvs ((σ.find 3 0).take j)).1.cps x) k = hasK (σ.cps x) k) ∧ (σ.mvs ((σ.find 3 0).take j)).2.length ≤ j) := by
    intro j
    obtain ⟨i1, i2, i3, i4⟩ := Sto.mvs_inv hσ ((σ.find 3 0).take j)
    exact ⟨i1, i2, i3, Nat.le_trans i4 (by rw [List.length_take]; omega)⟩
  obtain ⟨X, hX⟩ : ∃ X, σ.find 3 0 = X := ⟨_, rfl⟩
  rw [hX] at HW hlen HIN HSI ⊢
  obtain ⟨M, hM⟩ : ∃ M : Nat → Sto × List Nat, M = fun j => σ.mvs (X.take j) := ⟨_, rfl⟩
  have HM0 : Hid (M 0 = (σ, [])) := by show _ = _; rw [hM]; simp [Sto.mvs]
  have HMS : Hid (∀ (j id : Nat), X[j]? = some id → M (j + 1) = (((M j).1.mv id).2, if ((M j).1.mv id).1 then (M j).2 ++ [id] else (M j).2)) := by
    intro j id hd
    rw [hM]
    simp only
    rw [List.take_add_one, hd]
    exact Sto.mvs_snoc σ (X.take j) id
  have HME : Hid (M X.length = σ.mvs X) := by show _ = _; rw [hM]; simp
  have HMI : Hid (∀ j, (M j).1.Ok ∧ (M j).1.S = σ.S ∧ (∀ x, σ.S.isLive x = true → ∀ k, hasK ((M j).1.cps x) k = hasK (σ.cps x) k) ∧ (M j).2.length ≤ j) := by rw [hM]; exact HSI.out
  rw [← HME.out]
  clear h hX hLV hσ ht HSI hM HME
  generalize hxl : X.length = xl at *
  have HXL : Hid (X.length = xl) := hxl
  clear hxl
  go_enter Tryd.func10, Tryd.ntmps10
  go_wp2_with fail
  refine HW.out.mono ?_
  rintro e w1 ⟨la, lc, rfl, hO1⟩
  have H1 : Hid (Own w0 w1 _) := hO1.nilRow 38 1
  clear hO1 HW
  go_wp2
  go_loopw [3, 9] (fun v3 v9 wr => ∃ j : Nat, j ≤ xl ∧ v9 = .int .i64 j ∧ ∃ a1 c1, v3 = .slice a1 (M j).2.length c1 ∧ Own w0 wr (Row 38 1 (.slice a1 (M j).2.length c1) (M j).2.length (irow .u32 (M j).2) :: Row 38 1 (.slice la xl lc) xl (irow .u32 X) :: Store b (M j).1 K :: l)) (fun _ v9 _ => xl - (intOf v9).toNat)
  case atStart => exact ⟨0, Nat.zero_le _, rfl, none, 0, by rw [HM0.out]; rfl, by rw [HM0.out]; exact H1.out⟩
  case round =>
    obtain ⟨j, hj, rfl, a1, c1, rfl, hO⟩ := hrel
    have HO : Hid (Own w0 wr _) := hO
    clear H1 HM0
    by_cases hlt : j < xl
    · have hlt' : (j : Int) < (xl : Int) := by omega
      obtain ⟨id, hid⟩ : ∃ id, X[j]? = some id := ⟨_, List.getElem?_eq_getElem (by rw [HXL.out]; exact hlt)⟩
      obtain ⟨g, cp, hv, _⟩ := row_shape hO.two.row (by omega)
      have hla := (Value.slice.inj hv).1
      subst hla
      have e0 : wr.cell? ⟨g, j, none⟩ = some (.int .u32 (id : Int)) := by
        rw [hO.two.row.cellAt _ (by omega), getElem?_irow, hid]; rfl
      obtain ⟨hl, h32, hk0, hk1⟩ := HIN.out id (List.mem_of_getElem? hid)
      obtain ⟨i1, i2, i3, i4⟩ := HMI.out j
      have HST : Hid (M (j + 1) = (((M j).1.mv id).2, if ((M j).1.mv id).1 then (M j).2 ++ [id] else (M j).2)) := HMS.out j id hid
      have HMV : Hid (Calls _ _ _ _ _) := move1_ok w0 wr _ b (M j).1 K HT.out hO.three i1 hK id h32 (by rw [i2]; exact hl) (by rw [i3 id hl]; exact hk0) (by rw [i3 id hl]; exact hk1)
      clear hO hid hv hl hk0 hk1 i1 i2 i3
      generalize (M j).1 = sj at *
      generalize (M j).2 = Lj at *
      generalize hmv : sj.mv id = mv at *
      obtain ⟨mb, ms⟩ := mv
      simp only at HST HMV
      generalize hll : Lj.length = ll at *
      have HLL : Hid (Lj.length = ll) := hll
      clear hll hmv
      go_wp2_with fail
      refine HMV.out.mono ?_
      rintro e w2 ⟨rfl, hO2⟩
      have H2 : Hid (Own w0 w2 _) := hO2.back3
      clear hO2 HMV HO
      cases mb with
      | false =>
        simp only [Bool.false_eq_true, if_false] at HST
        go_wp2
        go_roundw
        case rel => exact ⟨j + 1, by omega, by go_num, a1, c1, by rw [HST.out, HLL.out], by rw [HST.out, HLL.out]; exact H2.out⟩
        case measure => simp [intOf]; omega
      | true =>
        simp only [if_true] at HST
        go_wp2_with (at_builtin; refine append1_own rfl _ _ 29 rfl 38 i0 (.int .u32 0) 1 4 Tryd.underlying29 hi hz0 hz1 hz2 rfl (by decide) _ _ _ rfl H2.out _ _ (by simp) rfl rfl (one_int _ _) (by unfold maxLen; omega) (by omega) ?_)
        intro g6 c6 w6 hO6 hsz6
        have H7 : Hid (Own w0 w6 (Row 38 1 (.slice (some ⟨g6, 0, none⟩) (ll + 1) c6) (ll + 1) (irow .u32 (M (j + 1)).2) :: Row 38 1 (.slice (some ⟨g, 0, none⟩) xl lc) xl (irow .u32 X) :: Store b (M (j + 1)).1 K :: l)) := by
          show Own _ _ _
          rw [HST.out]
          simpa [irow] using hO6
        have HRL2 : Hid ((M (j + 1)).2.length = ll + 1) := by show _ = _; rw [HST.out, List.length_append, HLL.out]; rfl
        clear hO6 hsz6 H2
        go_wp2
        go_roundw
        case rel => exact ⟨j + 1, by omega, by go_num, _, _, by rw [HRL2.out], by rw [HRL2.out]; exact H7.out⟩
        case measure => simp [intOf]; omega
    · have hlt' : ¬ (j : Int) < (xl : Int) := by omega
      have hjn : j = xl := by omega
      subst hjn
      clear hO
      go_wp2
      go_ret
      exact ⟨a1, c1, rfl, HO.out.two.tail⟩
end Go.Proofs.YtehancopmpcpmaaDoor

/-
  Entities that are made in a store and in the document's: fill of layer 14.
-/
namespace Go.Proofs.YtehancopmpcpmaaDoor
open Go.RowKit Go.Maps
set_option linter.unusedVariables false
set_option maxRecDepth 100000

/-- the components of one that is made -/
structure LsE where
  C : List Cp
  ao : Option Addr
  cap : Nat
def Lss (w : World) (ao : Option Addr) (L : List LsE) : Prop := (L = [] ∨ ∃ g o, ao = some ⟨g, o, none⟩ ∧ ∀ (j : Nat) x, L[j]? = some x → w.cell? ⟨g, o + j, none⟩ = some (.slice x.ao x.C.length x.cap)) ∧ ∀ x ∈ L, Cs w x.ao x.C
theorem Lss.at {w : World} {ao : Option Addr} {L : List LsE} (h : Lss w ao L) (j : Nat) (x : LsE) (hx : L[j]? = some x) : ∃ g o, ao = some ⟨g, o, none⟩ ∧ w.cell? ⟨g, o + j, none⟩ = some (.slice x.ao x.C.length x.cap) := by
  rcases h.1 with h | ⟨g, o, ha, hc⟩
  · subst h; simp at hx
  · exact ⟨g, o, ha, hc j x hx⟩
theorem Lss.quiet {w w' : World} {ao : Option Addr} {L : List LsE} (h : Lss w ao L) (hf : Fr Nobody w w') : Lss w' ao L := by
  refine ⟨?_, fun x hx => (h.2 x hx).quiet hf⟩
  rcases h.1 with h | ⟨g, o, ha, hc⟩
  · exact .inl h
  · refine .inr ⟨g, o, ha, fun j x hx => ?_⟩
    have h0 := hc j x hx
    exact (hf.cell (p := ⟨g, o + j, none⟩) (World.block_lt_of_cell? w _ h0) (fun h => h)).trans h0
def lstep (σ : Sto) (x : LsE) : Sto := (σ.spawn (x.C.take 20)).2.2
def fillL (k : Nat) (Q : List LsE) : Sto := (Q.take 50).foldl lstep (Sto.new k 1)
theorem lfold_ok (L : List LsE) (σ : Sto) (h : σ.Ok) : (L.foldl lstep σ).Ok := by
  induction L generalizing σ with
  | nil => exact h
  | cons x L ih => exact ih _ (Sto.spawn_ok h _)
theorem newk_ok {k : Nat} (h1 : 1 ≤ k) (h2 : k ≤ 40) : (Sto.new k 1).Ok := Sto.new_ok k 1 h1 (by omega) (by decide) (by decide)
theorem fillL_ok {k : Nat} (h1 : 1 ≤ k) (h2 : k ≤ 40) (Q : List LsE) : (fillL k Q).Ok := lfold_ok _ _ (newk_ok h1 h2)
theorem Own.rcs3 {w0 w : World} {l : List Thing} {ao : Option Addr} {cap n : Nat} {L : List Cp} (h : Own w0 w (Row 49 4 (.slice ao n cap) n (ccat L) :: l)) (hn : L.length = n) : Cs w ao L := Own.cs (h.view (by decide)) hn
set_option maxHeartbeats 4000000 in
theorem fillL_go (w0 w : World) (l : List Thing) (h : Own w0 w l) (ht : Tab w0) (m : Nat) (hm : m < 256) (ao : Option Addr) (n cap : Nat) (Q : List LsE) (hn : Q.length = n) (hn6 : n ≤ 9223372036854775807) (hQ : ∀ w', Own w0 w' l → Lss w' ao Q) (hw : ∀ x ∈ Q, x.C.length ≤ x.cap ∧ x.cap ≤ 9223372036854775807 ∧ ∀ q ∈ x.C, q.k < 256) :
    Calls Tryd.prog 8 #[.int .u8 (m : Int), .slice ao n cap] w fun e w' => ∃ b bx, e = .returned (.tuple #[.pointer (some ⟨b, 0, none⟩), .pointer (some ⟨bx, 0, none⟩)]) ∧ Own w0 w' (Store b (fillL (1 + m % 40) Q) 50 :: RSto bx (fillL (1 + m % 40) Q) 50 :: l) := by
  have HN : Hid (Q.length = n) := hn
  have HQ : Hid (∀ w', Own w0 w' l → Lss w' ao Q) := hQ
  have HW : Hid (∀ x ∈ Q, x.C.length ≤ x.cap ∧ x.cap ≤ 9223372036854775807 ∧ ∀ q ∈ x.C, q.k < 256) := hw
  have HT : Hid (Tab w0) := ht
  obtain ⟨r, hr⟩ : ∃ r, r = m % 40 := ⟨_, rfl⟩
  have hr40 : r < 40 := by omega
  have hmr : (m : Int) % 40 = (r : Int) := by omega
  rw [← hr]
  have HS1 : Hid (Calls Tryd.prog 21 #[.int .i64 (1 + (r : Int)), .int .i64 1] w fun e w'' => ∃ b, e = .returned (.tuple #[.pointer (some ⟨b, 0, none⟩), .int .i64 0]) ∧ Own w0 w'' (Store b (Sto.new (1 + r) 1) 0 :: l)) := by
    have := snew w0 w l (1 + r) 1 h (by omega) (by omega) (by decide) (by decide)
    rw [show ((1 + r : Nat) : Int) = 1 + (r : Int) by omega] at this
    exact this
  have HS2 : Hid (∀ w' l', Own w0 w' l' → Calls Tryd.prog 22 #[.int .i64 (1 + (r : Int)), .int .i64 1] w' fun e w'' => ∃ b, e = .returned (.tuple #[.pointer (some ⟨b, 0, none⟩), .int .i64 0]) ∧ Own w0 w'' (RSto b (Sto.new (1 + r) 1) 0 :: l')) := fun w' l' h' => by
    have := rnewS w0 w' l' h' (1 + r) 1 (by omega) (by omega) (by decide) (by decide)
    rw [show ((1 + r : Nat) : Int) = 1 + (r : Int) by omega] at this
    exact this
  have HOK : Hid (∀ j, ((Q.take j).foldl lstep (Sto.new (1 + r) 1)).Ok) := fun j => lfold_ok _ _ (newk_ok (by omega) (by omega))
  clear h hn hQ hw ht hr
  go_enter Tryd.func8, Tryd.ntmps8
  go_wp2_with fail
  refine HS1.out.mono ?_
  rintro e w1 ⟨b, rfl, hO1⟩
  have H1 : Hid (Own w0 w1 _) := hO1
  clear hO1 HS1
  go_wp2_with fail
  refine (HS2.out _ _ H1.out).mono ?_
  rintro e w2 ⟨bx, rfl, hO2⟩
  have H2 : Hid (Own w0 w2 (Store b (Sto.new (1 + r) 1) 0 :: RSto bx (Sto.new (1 + r) 1) 0 :: l)) := hO2.two
  clear hO2 HS2 H1
  go_wp2
  go_loopw [29] (fun jv wr => ∃ j : Nat, j ≤ n ∧ j ≤ 50 ∧ jv = .int .i64 j ∧ Own w0 wr (Store b ((Q.take j).foldl lstep (Sto.new (1 + r) 1)) j :: RSto bx ((Q.take j).foldl lstep (Sto.new (1 + r) 1)) j :: l)) (fun jv _ => n - (intOf jv).toNat)
  case atStart => exact ⟨0, Nat.zero_le _, Nat.zero_le _, rfl, by simpa using H2.out⟩
  case round =>
    obtain ⟨j, hj, hj5, rfl, hO⟩ := hrel
    clear H2
    have hok := HOK.out j
    have HO : Hid (Own w0 wr _) := hO
    have HEND : Hid (j = n ∨ j = 50 → Own w0 wr (Store b (fillL (1 + r) Q) 50 :: RSto bx (fillL (1 + r) Q) 50 :: l)) := by
      intro hor
      have e : (Q.take j).foldl lstep (Sto.new (1 + r) 1) = fillL (1 + r) Q := by
        unfold fillL
        rcases hor with q | q
        · rw [List.take_of_length_le (by rw [HN.out]; omega), List.take_of_length_le (by rw [HN.out]; omega)]
        · rw [q]
      have h9 := HO.out
      rw [e] at h9
      exact (Own.rstoK (K' := 50) hj5 (h9.stoK (K' := 50) hj5).two).two
    by_cases hlt : j < n
    · have hlt' : (j : Int) < (n : Int) := by omega
      obtain ⟨x, hx⟩ : ∃ x, Q[j]? = some x := ⟨_, List.getElem?_eq_getElem (by rw [HN.out]; exact hlt)⟩
      obtain ⟨g, off, hao, c0⟩ := (HQ.out wr hO.tail.tail).at j x hx
      subst hao
      by_cases h50 : j < 50
      · have h50' : ¬ (50 : Int) ≤ (j : Int) := by omega
        obtain ⟨hw1, hw2, hCk⟩ := HW.out x (List.mem_of_getElem? hx)
        obtain ⟨k, hk⟩ : ∃ k, k = min x.C.length 20 := ⟨_, rfl⟩
        have hmin : min (x.C.length : Int) 20 = (k : Int) := by omega
        have hk1 : k ≤ x.C.length := by omega
        have hk2 : k ≤ x.cap := by omega
        have hk20 : k ≤ 20 := by omega
        have hkC : (x.C.take 20).length = k := by rw [List.length_take, hk, Nat.min_comm]
        have hCk2 : ∀ q ∈ x.C.take 20, q.k < 256 := fun q hq => hCk q (List.mem_of_mem_take hq)
        have hCS : ∀ w', Own w0 w' l → Cs w' x.ao (x.C.take 20) := fun w' h' => ((HQ.out w' h').2 x (List.mem_of_getElem? hx)).take 20
        have HFJ : Hid ((Q.take (j + 1)).foldl lstep (Sto.new (1 + r) 1) = (((Q.take j).foldl lstep (Sto.new (1 + r) 1)).spawn (x.C.take 20)).2.2) := by
          show _ = _
          rw [List.take_add_one, hx]
          simp only [Option.toList_some, List.foldl_append, List.foldl_cons, List.foldl_nil]
          rfl
        generalize (Q.take j).foldl lstep (Sto.new (1 + r) 1) = σ at *
        have HTW : Hid (Calls _ _ _ _ _) := twin_any w0 wr _ hO x.ao k x.cap (x.C.take 20) hkC (hCS _ hO.tail.tail) (by omega)
        have HSP : Hid (∀ w' a2 c2, Own w0 w' (Row 49 4 (.slice a2 k c2) k (ccat (x.C.take 20)) :: Store b σ j :: RSto bx σ j :: l) → Calls Tryd.prog 23 #[.pointer (some ⟨b, 0, none⟩), .slice a2 k c2] w' fun e w'' => e = .returned (.tuple #[.int .u32 ((σ.spawn (x.C.take 20)).1 : Int), .int .i64 (σ.spawn (x.C.take 20)).2.1]) ∧ Own w0 w'' (Store b (σ.spawn (x.C.take 20)).2.2 (j + 1) :: RSto bx σ j :: l)) := by
          intro w' a2 c2 h'
          refine (spawnC w0 w' _ b σ j HT.out h'.two hok a2 k c2 (x.C.take 20) hkC (fun w'' h'' => Own.rcs3 h'' hkC) hCk2 (by omega) (by omega)).mono ?_
          rintro e w'' ⟨rfl, h2⟩
          exact ⟨rfl, h2.two.tail⟩
        have HRS : Hid (∀ w', Own w0 w' (Store b (σ.spawn (x.C.take 20)).2.2 (j + 1) :: RSto bx σ j :: l) → Calls Tryd.prog 25 #[.pointer (some ⟨bx, 0, none⟩), .slice x.ao k x.cap] w' fun e w'' => e = .returned (.tuple #[.int .u32 ((σ.spawn (x.C.take 20)).1 : Int), .int .i64 (σ.spawn (x.C.take 20)).2.1]) ∧ Own w0 w'' (Store b (σ.spawn (x.C.take 20)).2.2 (j + 1) :: RSto bx (σ.spawn (x.C.take 20)).2.2 (j + 1) :: l)) := by
          intro w' h'
          refine (rspawnC w0 w' _ bx σ j h'.two hok x.ao k x.cap (x.C.take 20) hkC (fun w'' h'' => hCS _ h''.tail) hCk2 (by omega) (by omega)).mono ?_
          rintro e w'' ⟨rfl, h2⟩
          exact ⟨rfl, h2.two⟩
        clear hO hx hCk hCk2 hCS hkC hk hok HEND HO
        generalize σ.spawn (x.C.take 20) = sp at *
        obtain ⟨sid, ser, σ2⟩ := sp
        obtain ⟨xC, xa, xc⟩ := x
        simp only at c0 hmin hk1 hk2 hw1 hw2 HTW HSP HRS HFJ
        generalize xC.length = xl at *
        go_wp2_with fail
        refine HTW.out.mono ?_
        rintro e w3 ⟨a2, c2, rfl, hO3⟩
        have HSP3 : Hid (Calls _ _ _ _ _) := HSP.out _ _ _ hO3
        clear hO3 HTW HSP c0
        go_wp2_with fail
        refine HSP3.out.mono ?_
        rintro e w4 ⟨rfl, hO4⟩
        have HRS4 : Hid (Calls _ _ _ _ _) := HRS.out _ hO4
        clear hO4 HSP3 HRS
        go_wp2_with fail
        refine HRS4.out.mono ?_
        rintro e w5 ⟨rfl, hO5⟩
        have H5 : Hid (Own w0 w5 _) := hO5
        clear hO5 HRS4
        go_wp2
        go_roundw
        case rel => exact ⟨j + 1, by omega, by omega, by go_num, by rw [HFJ.out]; exact H5.out⟩
        case measure => simp [intOf]; omega
      · have h50' : (50 : Int) ≤ (j : Int) := by omega
        have H9 : Hid (Own w0 wr _) := HEND.out (.inr (by omega))
        obtain ⟨xC, xa, xc⟩ := x
        simp only at c0
        clear hO HO HEND hx hok
        go_wp2
        go_ret2
        exact ⟨b, bx, rfl, H9.out⟩
    · have hlt' : ¬ (j : Int) < (n : Int) := by omega
      have H9 : Hid (Own w0 wr _) := HEND.out (.inl (by omega))
      clear hO HO HEND hok
      go_wp2
      go_ret2
      exact ⟨b, bx, rfl, H9.out⟩
end Go.Proofs.YtehancopmpcpmaaDoor

/-
  The document's examples of systems.
-/
namespace Go.Proofs.YtehancopmpcpmaaDoor
open Go.RowKit Go.Maps
set_option linter.unusedVariables false
set_option maxRecDepth 100000

theorem nums_cell1 {w0 w : World} {l : List Thing} {B : Nat} {cs : Array Value} {t : TypeId} (h : Own w0 w (Cells B cs t :: l)) (X : List Nat) (c : Nat) (hX : ∀ (j x : Nat), X[j]? = some x → cs[j]? = some (Value.int .u32 (x : Int))) : Nums .u32 w (.slice (some ⟨B, 0, none⟩) X.length c) X :=
  ⟨_, c, rfl, .inr ⟨B, 0, rfl, fun j x hx => by rw [Nat.zero_add, h.cell, hX j x hx]⟩⟩
theorem cs_cell1 {w0 w : World} {l : List Thing} {B : Nat} {cs : Array Value} {t : TypeId} (h : Own w0 w (Cells B cs t :: l)) (C : List Cp) (hX : ∀ (j : Nat) q, C[j]? = some q → cs[j * 4]? = some (.int .u8 (q.k : Int)) ∧ cs[j * 4 + 1]? = some (.int .i32 q.a) ∧ cs[j * 4 + 2]? = some (.int .i32 q.b) ∧ cs[j * 4 + 3]? = some (.int .i32 q.c)) : Cs w (some ⟨B, 0, none⟩) C := by
  refine .inr ⟨B, 0, rfl, fun j q hq => ?_⟩
  obtain ⟨h0, h1, h2, h3⟩ := hX j q hq
  rw [Nat.zero_add]
  exact ⟨by rw [h.cell, h0], by rw [h.cell, h1], by rw [h.cell, h2], by rw [h.cell, h3]⟩
def aP : Cp := ⟨0, 524280, 0, 0⟩
def aV : Cp := ⟨1, 16, -1, 0⟩
def aL : Cp := ⟨2, 0, 0, 0⟩
def q14 (a1 a2 : Option Addr) : List LsE := [⟨[aP, aV], a1, 2⟩, ⟨[aL], a2, 1⟩]
theorem q14_is (a1 a2 : Option Addr) : fillL 10 (q14 a1 a2) = fillL 10 (q14 none none) := rfl
def s14 : Sto := fillL 10 (q14 none none)
def m14 : Sto := (s14.mvs (s14.find 3 0)).1
def g14 : Sto := (m14.ags (m14.find 4 0)).1
theorem s14_m : (s14.mvs (s14.find 3 0)).2 = [1024] := by kernel_rfl
theorem m14_g : (m14.ags (m14.find 4 0)).2 = [1025] := by kernel_rfl
theorem g14_l : g14.S.isLive 1024 = true := by kernel_rfl
theorem g14_0 : hasK (g14.cps 1024) 0 = true ∧ g14.gv 1024 0 = ⟨0, 524287, -1, 0⟩ := ⟨by kernel_rfl, by kernel_rfl⟩
theorem g14_1 : hasK (g14.cps 1024) 1 = true ∧ g14.gv 1024 1 = ⟨1, -16, -1, 0⟩ := ⟨by kernel_rfl, by kernel_rfl⟩
theorem s14_ok : s14.Ok := fillL_ok (by decide) (by decide) _
theorem m14_ok : m14.Ok := (Sto.mvs_inv s14_ok _).1
theorem g14_ok : g14.Ok := (Sto.ags_inv m14_ok _ (find_nodup m14_ok 4 0) (fun x hx => (mem_find m14_ok hx).1)).1
set_option maxHeartbeats 4000000 in
theorem awake14 (w : World) (ht : Tab w) : Calls Tryd.prog 7 #[] w fun e w' => e = .returned (.bool true) ∧ Fr Nobody w w' := by
  have HT : Hid (Tab w) := ht
  clear ht
  go_enter Tryd.func7, Tryd.ntmps7
  go_wp2_with fail
  have hW := (((Own.start w).allocC #[.int .u8 0, .int .i32 524280, .int .i32 0, .int .i32 0, .int .u8 1, .int .i32 16, .int .i32 (-1), .int .i32 0] 49).allocC #[.int .u8 2, .int .i32 0, .int .i32 0, .int .i32 0] 49).allocC #[.slice (some ⟨w.heap.size, 0, none⟩) 2 2, .slice (some ⟨w.heap.size + 1, 0, none⟩) 1 1] 39
  simp only [World.size_alloc] at hW
  obtain ⟨W0, hW0⟩ : ∃ W0, W0 = ((w.alloc (.cells #[.int .u8 0, .int .i32 524280, .int .i32 0, .int .i32 0, .int .u8 1, .int .i32 16, .int .i32 (-1), .int .i32 0] 49)).alloc (.cells #[.int .u8 2, .int .i32 0, .int .i32 0, .int .i32 0] 49)).alloc (.cells #[.slice (some ⟨w.heap.size, 0, none⟩) 2 2, .slice (some ⟨w.heap.size + 1, 0, none⟩) 1 1] 39) := ⟨_, rfl⟩
  rw [← hW0] at hW ⊢
  have k1 := cs_cell1 hW.three [aP, aV] (fun j q hq => by
    match j, hq with
    | 0, hq => cases hq; exact ⟨rfl, rfl, rfl, rfl⟩
    | 1, hq => cases hq; exact ⟨rfl, rfl, rfl, rfl⟩
    | n + 2, hq => simp at hq)
  have k2 := cs_cell1 hW.two [aL] (fun j q hq => by
    match j, hq with
    | 0, hq => cases hq; exact ⟨rfl, rfl, rfl, rfl⟩
    | n + 1, hq => simp at hq)
  have hMk : Lss W0 (some ⟨w.heap.size + 1 + 1, 0, none⟩) (q14 (some ⟨w.heap.size, 0, none⟩) (some ⟨w.heap.size + 1, 0, none⟩)) := by
    refine ⟨.inr ⟨_, 0, rfl, fun j x hx => ?_⟩, fun x hx => ?_⟩
    · match j, hx with
      | 0, hx => cases hx; rw [hW.cell]; rfl
      | 1, hx => cases hx; rw [hW.cell]; rfl
      | n + 2, hx => simp [q14] at hx
    · simp [q14] at hx
      rcases hx with rfl | rfl
      · exact k1
      · exact k2
  have HFW : Hid (Fr Nobody w W0) := hW.fr
  have HT0 : Hid (Tab W0) := HT.out.quiet HFW.out
  have HFL : Hid (Calls _ _ _ _ _) := fillL_go W0 W0 [] (Own.start W0) HT0.out 9 (by decide) _ 2 2 _ rfl (by decide) (fun w' h' => hMk.quiet h'.fr) (by
    intro x hx
    simp [q14] at hx
    rcases hx with rfl | rfl
    · exact ⟨by simp, by simp, by simp [aP, aV]⟩
    · exact ⟨by simp, by simp, by simp [aL]⟩)
  rw [show fillL (1 + 9 % 40) (q14 (some ⟨w.heap.size, 0, none⟩) (some ⟨w.heap.size + 1, 0, none⟩)) = s14 from rfl] at HFL
  clear hW k1 k2 hMk hW0 HT
  refine HFL.out.mono ?_
  rintro e w1 ⟨b, bx, rfl, hO1⟩
  have HW1 : Hid (Calls _ _ _ _ _) := move_ok W0 w1 _ b s14 50 HT0.out hO1 s14_ok (by decide)
  rw [s14_m] at HW1
  rw [show (s14.mvs (s14.find 3 0)).1 = m14 from rfl] at HW1
  clear hO1 HFL
  go_wp2_with fail
  refine HW1.out.mono ?_
  rintro e w2 ⟨ra, rc, rfl, hO2⟩
  have hB2 := hO2.allocC #[.int .u32 1024] 38
  have HM1 : Hid (Calls _ _ _ _ _) := same_ok _ (.slice ra 1 rc) (.slice (some ⟨w2.heap.size, 0, none⟩) 1 1) [1024] (Own.nums (X := [1024]) hB2.two) (nums_cell1 hB2 [1024] 1 (fun j x hx => by
    match j, hx with
    | 0, hx => cases hx; rfl
    | n + 1, hx => simp at hx)) (by decide)
  have HB2 : Hid (Own W0 _ _) := hB2.tail.tail
  clear hO2 hB2 HW1
  simp only [List.length_cons, List.length_nil, Nat.zero_add]
  go_wp2_with fail
  refine HM1.out.mono ?_
  rintro e w3 ⟨rfl, hf⟩
  have HW2 : Hid (Calls _ _ _ _ _) := age_ok W0 w3 _ b m14 50 HT0.out (HB2.out.quiet hf) m14_ok (by decide)
  rw [m14_g] at HW2
  rw [show (m14.ags (m14.find 4 0)).1 = g14 from rfl] at HW2
  clear hf HM1 HB2
  go_wp2_with fail
  refine HW2.out.mono ?_
  rintro e w4 ⟨ra, rc, rfl, hO4⟩
  have hB4 := hO4.allocC #[.int .u32 1025] 38
  have HM2 : Hid (Calls _ _ _ _ _) := same_ok _ (.slice ra 1 rc) (.slice (some ⟨w4.heap.size, 0, none⟩) 1 1) [1025] (Own.nums (X := [1025]) hB4.two) (nums_cell1 hB4 [1025] 1 (fun j x hx => by
    match j, hx with
    | 0, hx => cases hx; rfl
    | n + 1, hx => simp at hx)) (by decide)
  have HB4 : Hid (Own W0 _ _) := hB4.tail.tail
  clear hO4 hB4 HW2
  simp only [List.length_cons, List.length_nil, Nat.zero_add]
  go_wp2_with fail
  refine HM2.out.mono ?_
  rintro e w5 ⟨rfl, hf⟩
  have HG0 : Hid (Calls _ _ _ _ _) := sgetC W0 w5 _ b g14 _ (HB4.out.quiet hf) g14_ok 1024 (by decide) g14_l 0 (by decide)
  rw [g14_0.1, g14_0.2] at HG0
  have HG1 : Hid (∀ w' l', Own W0 w' (Store b g14 (50 + 1) :: l') → Calls Tryd.prog 20 #[.pointer (some ⟨b, 0, none⟩), .int .u32 1024, .int .u8 1] w' fun e w'' => e = .returned (.tuple #[.agg #[.int .u8 1, .int .i32 (-16), .int .i32 (-1), .int .i32 0], .int .i64 0]) ∧ Own W0 w'' (Store b g14 (50 + 1) :: l')) := fun w' l' h' => by
    have := sgetC W0 w' l' b g14 _ h' g14_ok 1024 (by decide) g14_l 1 (by decide)
    rw [g14_1.1, g14_1.2] at this
    exact this
  clear hf HM2 HB4
  go_wp2_with fail
  refine HG0.out.mono ?_
  rintro e w6 ⟨rfl, hO6⟩
  simp only [Cp.ag]
  have h6 := hO6.allocC #[.int .u8 0, .int .i32 524287, .int .i32 (-1), .int .i32 0] 49
  have HG2 : Hid (Calls _ _ _ _ _) := HG1.out _ _ h6.two
  clear hO6 h6 HG0 HG1
  go_wp2_with fail
  refine HG2.out.mono ?_
  rintro e w7 ⟨rfl, hO7⟩
  have x1 := hO7.two.cell 1
  have x2 := hO7.two.cell 2
  have x3 := hO7.two.cell 3
  have xl := hO7.two.lt
  simp at x1 x2 x3
  have H8 : Hid (Own W0 _ _) := hO7.allocC #[.int .u8 1, .int .i32 (-16), .int .i32 (-1), .int .i32 0] 49
  have eqa := eq_a3 9998
  clear hO7 HG2
  go_wp2
  go_ret
  exact ⟨rfl, HFW.out.trans H8.out.fr⟩
end Go.Proofs.YtehancopmpcpmaaDoor
