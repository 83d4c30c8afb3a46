/-
  The grid: what Put does to the list of who is where.
-/
import Derived.Test.YthokgjkgfolojabDoorCed
import Derived.Test.YthokgjkgfolojabDoorSg
namespace Go.Proofs.YthokgjkgfolojabDoor
open Go.RowKit Go.Maps
set_option linter.unusedVariables false
set_option maxRecDepth 100000

theorem Own.gmTight {P : Program} {k : TypeId} {κ : Type} {S : Keys P k κ} {w0 w : World} {l : List Thing} {b n sz K : Nat} {p q : κ → Option Value} (h : Own w0 w (GMap S b n sz p :: l)) (hK : sz ≤ K) (hq : ∀ x, S.ok x → p x = q x) : Own w0 w (GMap S b K sz q :: l) := by
  obtain ⟨A, ⟨B, C, ⟨⟨D, hd, hk, hs⟩, hB⟩, r⟩, s⟩ := h
  refine ⟨A, ⟨B, C, ⟨⟨D, ?_, fun x hx z => by rw [← hq x hx]; exact hk x hx z, hs⟩, hB⟩, r⟩, s⟩
  obtain ⟨es, clock, hb, F, hs', rfl⟩ := hd
  exact ⟨es, clock, hb, F, by rw [← hs] at hK; simpa [Maps.size, length_sorted] using hK, rfl⟩
theorem sub_len {α : Type} [DecidableEq α] : ∀ {A B : List α}, A.Nodup → (∀ x ∈ A, x ∈ B) → A.length ≤ B.length := by
  intro A
  induction A with
  | nil => intro B _ _; simp
  | cons a A ih =>
    intro B hn hs
    obtain ⟨h1, h2⟩ := List.nodup_cons.1 hn
    have ha := hs a (List.mem_cons_self ..)
    have := ih (B := B.erase a) h2 (fun x hx => (List.mem_erase_of_ne (fun e => h1 (by rw [← e]; exact hx))).2 (hs x (List.mem_cons_of_mem _ hx)))
    rw [List.length_erase_of_mem ha] at this
    have hp : 0 < B.length := List.length_pos_of_mem ha
    simp
    omega
theorem M_len {L : List Spt} {M : List (Cll × Nat)} (nd : (M.map (·.1)).Nodup) (mem : ∀ c, c ∈ M.map (·.1) ↔ crd L c ≠ []) : M.length ≤ L.length := by
  have := sub_len (B := L.map scl) nd (fun c hc => by
    have h := (mem c).1 hc
    obtain ⟨y, hy⟩ := List.exists_mem_of_ne_nil _ h
    obtain ⟨s, hs, _, rfl⟩ := mem_crd.1 hy
    exact List.mem_map_of_mem hs)
  simpa using this
theorem split_rise {L : List Spt} (h : Rise L) (id : Nat) (hn : ∀ s ∈ L, s.1 ≠ id) : L.filter (fun t => decide (t.1 < id)) ++ L.filter (fun t => decide (id < t.1)) = L := by
  induction L with
  | nil => rfl
  | cons a L ih =>
    obtain ⟨h1, h2⟩ := List.pairwise_cons.1 h
    have hi := ih h2 (fun s hs => hn s (List.mem_cons_of_mem _ hs))
    rcases Nat.lt_or_gt_of_ne (hn a (List.mem_cons_self ..)) with hlt | hgt
    · have h' : ¬ id < a.1 := by omega
      simp only [List.filter_cons, hlt, h', decide_true, decide_false, if_true]
      simp only [List.cons_append]
      rw [show (if false = true then a :: List.filter (fun t => decide (id < t.1)) L else List.filter (fun t => decide (id < t.1)) L) = List.filter (fun t => decide (id < t.1)) L from rfl, hi]
    · have e1 : (a :: L).filter (fun t => decide (t.1 < id)) = [] := by
        rw [List.filter_eq_nil_iff]
        intro t ht
        rcases List.mem_cons.1 ht with rfl | ht
        · simp; omega
        · have := h1 t ht; simp; omega
      have e2 : (a :: L).filter (fun t => decide (id < t.1)) = a :: L := by
        rw [List.filter_eq_self]
        intro t ht
        rcases List.mem_cons.1 ht with rfl | ht
        · simpa using hgt
        · have := h1 t ht; simp; omega
      rw [e1, e2]; rfl
theorem crd_put_other {L : List Spt} (h : Rise L) (s : Spt) (hn : hom L s.1 = none) {c : Cll} (hc : c ≠ scl s) : crd (putL L s) c = crd L c := by
  have hs : ¬ scl s = c := fun e => hc e.symm
  have e : crd L c = crd (L.filter (fun t => decide (t.1 < s.1)) ++ L.filter (fun t => decide (s.1 < t.1))) c := by rw [split_rise h s.1 (hom_none.1 hn)]
  rw [e]
  unfold crd putL
  rw [List.filter_append, List.filter_append, List.filter_cons]
  simp [hs]
theorem crd_put_mem {L : List Spt} (h : Rise L) (s : Spt) (y : Nat) : y ∈ crd (putL L s) (scl s) ↔ y = s.1 ∨ (y ≠ s.1 ∧ y ∈ crd L (scl s)) := by
  rw [mem_crd_hom (h.put s), mem_crd_hom h, hom_put h]
  by_cases e : y = s.1 <;> simp [e]
theorem crd_put_len {L : List Spt} (h : Rise L) (s : Spt) (hn : hom L s.1 = none) : (crd (putL L s) (scl s)).length = (crd L (scl s)).length + 1 := by
  have hnm : s.1 ∉ crd L (scl s) := fun hm => by rw [mem_crd_hom h, hn] at hm; cases hm
  have := len_same (A := crd (putL L s) (scl s)) (B := s.1 :: crd L (scl s)) (crd_nodup (h.put s) _) (List.nodup_cons.2 ⟨hnm, crd_nodup h _⟩) (fun y => by
    rw [crd_put_mem h, List.mem_cons]
    constructor
    · rintro (e | ⟨_, e⟩)
      · exact .inl e
      · exact .inr e
    · rintro (e | e)
      · exact .inl e
      · exact .inr ⟨fun q => hnm (by rw [← q]; exact e), e⟩)
  simpa using this
/-- within the world -/
def inW (x y : Int) : Bool := decide (-524288 ≤ x) && decide (x ≤ 524287) && decide (-524288 ≤ y) && decide (y ≤ 524287)
theorem inW_iff {x y : Int} : inW x y = true ↔ -524288 ≤ x ∧ x ≤ 524287 ∧ -524288 ≤ y ∧ y ≤ 524287 := by simp [inW, and_assoc]
def fxy (x y : Int) (i : Nat) : Int := if i = 0 then x else if i = 1 then y else 0
theorem chk_pos (x y : Int) : chk 0 (fxy x y) = if inW x y then 0 else 5 := by
  have h1 : stray 0 (fxy x y) = false := by
    unfold stray
    have : cnt 0 = 2 := by decide
    simp [this, List.range_succ, fxy]
  have h2 : outside 0 (fxy x y) = !inW x y := by
    unfold outside
    have c : cnt 0 = 2 := by decide
    have l0 : lo 0 0 = -524288 := by decide
    have l1 : lo 0 1 = -524288 := by decide
    have u0 : hi 0 0 = 524287 := by decide
    have u1 : hi 0 1 = 524287 := by decide
    rw [Bool.eq_iff_iff]
    simp only [c, List.range_succ, List.range_zero, List.nil_append, List.any_append, List.any_cons, List.any_nil, Bool.or_false, l0, l1, u0, u1, fxy, Bool.or_eq_true, decide_eq_true_eq, Bool.not_eq_true', inW, Bool.and_eq_false_iff, decide_eq_false_iff_not, if_true, show ¬ (1 = 0) by decide, if_false]
    omega
  unfold chk
  rw [h1, h2]
  cases inW x y <;> rfl
theorem check_pos (w : World) (ht : Tab w) (x y : Int) : Calls Tryd.prog 17 #[.agg #[.int .u8 0, .int .i32 x, .int .i32 y, .int .i32 0]] w fun e w' => e = .returned (.int .i64 (if inW x y then 0 else 5)) ∧ Fr Nobody w w' := by
  have h := check_any w ht 0 (by decide) (fxy x y)
  rw [chk_pos] at h
  refine h.mono ?_
  rintro e w' ⟨rfl, hf⟩
  refine ⟨?_, hf⟩
  cases inW x y <;> rfl
theorem dropL_self {L : List Spt} {id : Nat} (h : hom L id = none) : dropL L id = L := by
  unfold dropL
  rw [List.filter_eq_self]
  intro s hs
  have := hom_none.1 h s hs
  simpa using this
/-- Drop of anybody -/
theorem gdrop_any (w0 w : World) (l : List Thing) (g K : Nat) (L : List Spt) (h : Own w0 w (Grid g L K :: l)) (hL : GOk L) (id : Nat) (hid : id < 4294967296) :
    Calls Tryd.prog 18 #[.pointer (some ⟨g, 0, none⟩), .int .u32 (id : Int)] w fun e w' => e = .returned (.int .i64 (if (hom L id).isSome then 0 else 7)) ∧ Own w0 w' (Grid g (dropL L id) K :: l) := by
  cases hc : hom L id with
  | none =>
    rw [dropL_self hc]
    exact gdropNo w0 w l g K L h hL id hid hc
  | some c => exact gdropC w0 w l g K L h hL id hid c hc
end Go.Proofs.YthokgjkgfolojabDoor
