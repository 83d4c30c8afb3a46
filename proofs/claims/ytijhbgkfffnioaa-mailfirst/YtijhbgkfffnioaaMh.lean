/-
  Boxes in a row, some of them nil; First.
-/
import Derived.Test.YtijhbgkfffnioaaMe
namespace Go.Proofs.Ytijhbgkfffnioaa
open Go.RowKit Go.ChangeShapes Go.WideShapes Go.Conc
set_option linter.unusedVariables false

theorem Own.emp {w0 w : World} {l : List Thing} (h : Own w0 w l) : Own w0 w (Emp :: l) := h.new Emp (fun _ => False) (fun _ h => h) (Fr.refl _ _) (fun _ h => h.elim)
/-- a box, or none, and what waits in it -/
abbrev Eb := Option Nat × List Int
def bxE (e : Eb) : Thing := match e.1 with
  | some b => Bx b 20 e.2
  | none => Emp
def okE (e : Eb) : Prop := e.1 = none → e.2 = []
def pval (e : Eb) : Value := .pointer (e.1.map fun b => ⟨b, 0, none⟩)
def prow (E : List Eb) : List Value := E.map pval
def things (E : List Eb) : List Thing := E.map bxE
theorem length_prow (E : List Eb) : (prow E).length = E.length := by simp [prow]
theorem prow_at (E : List Eb) (k : Nat) (e : Eb) (h : E[k]? = some e) : (prow E)[k]? = some (pval e) := by simp [prow, h]
theorem one_ptr (p : Option Addr) : ∀ u ∈ [Value.pointer p], u.oneCell' = true := by intro u hu; simp at hu; subst hu; rfl
theorem prow_set (E : List Eb) (j : Nat) (p : Option Nat) (L M : List Int) (h : E[j]? = some (p, L)) : prow (E.set j (p, M)) = prow E := by
  unfold prow
  rw [List.map_set]
  apply List.ext_getElem?
  intro i
  rw [List.getElem?_set]
  split
  · rename_i hij
    subst hij
    split
    · simp [h, pval]
    · rename_i hl; rw [List.getElem?_eq_none (by omega)]
  · rfl
theorem split_at {α : Type} (E : List α) (k : Nat) (e : α) (h : E[k]? = some e) : E = E.take k ++ e :: E.drop (k + 1) := by
  have hk := List.getElem?_eq_some_iff.1 h
  rw [← hk.2, ← List.drop_eq_getElem_cons hk.1, List.take_append_drop]
theorem set_at {α : Type} (E : List α) (k : Nat) (e e' : α) (h : E[k]? = some e) : E.set k e' = E.take k ++ e' :: E.drop (k + 1) := by
  have hk := (List.getElem?_eq_some_iff.1 h).1
  rw [List.set_eq_take_append_cons_drop, if_pos hk]
theorem set_same (E : List Eb) (k : Nat) (e : Eb) (h : E[k]? = some e) (h0 : e.2 = []) : E.set k (e.1, ([] : List Int).tail) = E := by
  have h2 : (e.1, ([] : List Int).tail) = e := by rw [← show e.2 = ([] : List Int).tail from h0]
  rw [h2, set_at E k e e h]
  exact (split_at E k e h).symm
theorem Own.pick {w0 w : World} {R : Thing} {E : List Eb} {l : List Thing} {k : Nat} {e : Eb} (hk : E[k]? = some e) (h : Own w0 w (R :: (things E ++ l))) : Own w0 w (bxE e :: R :: (things (E.take k) ++ (things (E.drop (k + 1)) ++ l))) := by
  have e1 : things E ++ l = things (E.take k) ++ bxE e :: (things (E.drop (k + 1)) ++ l) := by
    conv => lhs; rw [split_at E k e hk]
    simp [things]
  rw [e1] at h
  exact (h.perm (List.perm_middle.cons R)).two
theorem Own.unpick {w0 w : World} {R : Thing} {E : List Eb} {l : List Thing} {k : Nat} {e e' : Eb} (hk : E[k]? = some e) (h : Own w0 w (bxE e' :: R :: (things (E.take k) ++ (things (E.drop (k + 1)) ++ l)))) : Own w0 w (R :: (things (E.set k e') ++ l)) := by
  have e1 : things (E.set k e') ++ l = things (E.take k) ++ bxE e' :: (things (E.drop (k + 1)) ++ l) := by
    rw [set_at E k e e' hk]
    simp [things]
  rw [e1]
  exact h.two.perm (List.perm_middle.symm.cons R)
theorem Own.turn {w0 w : World} {R : Thing} {A B : List Thing} (h : Own w0 w (R :: (A ++ B))) : Own w0 w (R :: (B ++ A)) := h.perm (List.perm_append_comm.cons R)
theorem mtake_e (w0 w : World) (l : List Thing) (e : Eb) (h : Own w0 w (bxE e :: l)) (hk : okE e) :
    Calls Try.prog 21 #[pval e] w fun r w' => r = .returned (.tuple #[.int .i64 (e.2.headD 0), .bool (!e.2.isEmpty)]) ∧ Own w0 w' (bxE (e.1, e.2.tail) :: l) := by
  obtain ⟨p, L⟩ := e
  cases p with
  | none =>
    have : L = [] := hk rfl
    subst this
    refine (mtake_nil w).mono ?_
    rintro r w' ⟨rfl, rfl⟩
    exact ⟨rfl, h⟩
  | some b => exact mtake w0 w l b 20 L h

/-- all that waits, by boxes, with the boxes' places -/
def flatF (s : Nat) : List Eb → List (Nat × Int)
  | [] => []
  | e :: t => e.2.map (fun v => (s, v)) ++ flatF (s + 1) t
theorem flatF_snoc (s : Nat) (E : List Eb) (p : Option Nat) (L : List Int) : flatF s (E ++ [(p, L)]) = flatF s E ++ L.map (fun v => (s + E.length, v)) := by
  induction E generalizing s with
  | nil => simp [flatF]
  | cons e t ih =>
    rw [List.cons_append, flatF, flatF, ih (s + 1), List.append_assoc, List.length_cons, show s + 1 + t.length = s + (t.length + 1) by omega]
theorem flatF_nil {s : Nat} {E : List Eb} (h : flatF s E = []) : ∀ e ∈ E, e.2 = [] := by
  induction E generalizing s with
  | nil => intro e he; simp at he
  | cons e t ih =>
    rw [flatF] at h
    obtain ⟨h1, h2⟩ := List.append_eq_nil_iff.1 h
    intro x hx
    rcases List.mem_cons.1 hx with rfl | hx
    · simpa using h1
    · exact ih h2 x hx
theorem flatF_cons {s : Nat} {E : List Eb} {a : Nat × Int} {rest : List (Nat × Int)} (h : flatF s E = a :: rest) : ∃ (j : Nat) (p : Option Nat) (v : Int) (M : List Int), E[j]? = some (p, v :: M) ∧ a = (s + j, v) ∧ (∀ (i : Nat) e, i < j → E[i]? = some e → e.2 = []) ∧ flatF s (E.set j (p, M)) = rest := by
  induction E generalizing s with
  | nil => simp [flatF] at h
  | cons e t ih =>
    obtain ⟨p, L⟩ := e
    cases L with
    | nil =>
      rw [flatF] at h
      obtain ⟨j, q, v, M, h1, h2, h3, h4⟩ := ih (s := s + 1) (by simpa using h)
      refine ⟨j + 1, q, v, M, by simpa using h1, by rw [h2, show s + 1 + j = s + (j + 1) by omega], fun i e hi he => ?_, ?_⟩
      · cases i with
        | zero => simp at he; rw [← he]
        | succ i => exact h3 i e (by omega) (by simpa using he)
      · rw [List.set_cons_succ, flatF, h4]; simp
    | cons v M =>
      rw [flatF] at h
      simp only [List.map_cons, List.cons_append, List.cons.injEq] at h
      exact ⟨0, p, v, M, rfl, by rw [← h.1]; rfl, fun i e hi => by omega, by rw [List.set_cons_zero, flatF, ← h.2]⟩

set_option maxHeartbeats 2000000 in
set_option maxRecDepth 100000 in
theorem first_at (w0 w : World) (l : List Thing) (ao : Option Addr) (n cap : Nat) (E : List Eb) (hn : E.length = n) (hn2 : n ≤ 100) (hok : ∀ e ∈ E, okE e) (j : Nat) (p : Option Nat) (v : Int) (M : List Int) (hj : E[j]? = some (p, v :: M)) (hem : ∀ (i : Nat) e, i < j → E[i]? = some e → e.2 = [])
    (h : Own w0 w (Row 43 1 (.slice ao n cap) n (prow E) :: (things E ++ l))) :
    Calls Try.prog 25 #[.slice ao n cap] w fun r w' => r = .returned (.tuple #[.int .i64 (j : Int), .int .i64 v, .bool true]) ∧ Own w0 w' (Row 43 1 (.slice ao n cap) n (prow E) :: (things (E.set j (p, M)) ++ l)) := by
  have hjn : j < n := by rw [← hn]; exact (List.getElem?_eq_some_iff.1 hj).1
  obtain ⟨g, c, hv, _⟩ := row_shape h.row (by omega)
  have hg := (Value.slice.inj hv).1
  subst hg
  have HP : Hid (E.length = n ∧ (∀ e ∈ E, okE e) ∧ E[j]? = some (p, v :: M) ∧ ∀ (i : Nat) e, i < j → E[i]? = some e → e.2 = []) := ⟨hn, hok, hj, hem⟩
  have H : Hid (Own w0 w (Row 43 1 (.slice (some ⟨g, 0, none⟩) n cap) n (prow E) :: (things E ++ l))) := h
  clear h hn hok hj hem hv
  go_enter Try.func25, Try.ntmps25
  go_wp2
  go_loopw [12] (fun cc wr => ∃ k : Nat, k ≤ j ∧ cc = .int .i64 k ∧ Own w0 wr (Row 43 1 (.slice (some ⟨g, 0, none⟩) n cap) n (prow E) :: (things E ++ l))) (fun cc _ => n - (intOf cc).toNat)
  case atStart => exact ⟨0, Nat.zero_le _, rfl, H.out⟩
  case round =>
    obtain ⟨k, hk, rfl, hO⟩ := hrel
    have HO : Hid (Own w0 wr _) := hO
    clear hO H
    obtain ⟨e, he⟩ : ∃ e, E[k]? = some e := ⟨_, List.getElem?_eq_getElem (by rw [HP.out.1]; omega)⟩
    have cx : wr.cell? ⟨g, k, none⟩ = some (pval e) := by rw [HO.out.row.cellAt k (by omega)]; exact prow_at E k e he
    have hlt' : (k : Int) < (n : Int) := by omega
    have hpk := HP.out.2.1 e (List.mem_of_getElem? he)
    have HE : Hid (E[k]? = some e) := he
    have HT : Hid (Calls _ _ _ _ _) := mtake_e w0 wr _ e (HO.out.pick he) hpk
    unfold pval at cx HT
    by_cases hkj : k < j
    · have h0 := HP.out.2.2.2 k e hkj he
      rw [h0] at HT
      have HSE : Hid (E.set k (e.1, ([] : List Int).tail) = E) := set_same E k e he h0
      have HT2 : Hid (Calls Try.prog 21 #[.pointer (e.1.map fun b => ⟨b, 0, none⟩)] wr fun r w' => r = .returned (.tuple #[.int .i64 0, .bool false]) ∧ Own w0 w' _) := HT.out
      clear he h0 hpk HT
      generalize (e.1.map fun b => (⟨b, 0, none⟩ : Addr)) = pe at *
      go_wp2_with fail
      refine HT2.out.mono ?_
      rintro r w2 ⟨rfl, hO2⟩
      have H2 : Hid (Own w0 w2 (Row 43 1 (.slice (some ⟨g, 0, none⟩) n cap) n (prow E) :: (things E ++ l))) := by
        have := hO2.unpick HE.out
        rw [HSE.out] at this; exact this
      clear hO2 HT2 HO cx
      go_wp2
      go_roundw
      case rel => exact ⟨k + 1, by omega, by go_num, H2.out⟩
      case measure => simp [intOf]; omega
    · have hkj' : k = j := by omega
      subst hkj'
      have hee : e = (p, v :: M) := by rw [HP.out.2.2.1] at he; exact (Option.some.inj he).symm
      subst hee
      have HT2 : Hid (Calls Try.prog 21 #[.pointer (p.map fun b => ⟨b, 0, none⟩)] wr fun r w' => r = .returned (.tuple #[.int .i64 v, .bool true]) ∧ Own w0 w' (bxE (p, M) :: _)) := HT.out
      clear he hpk HT
      simp only at cx
      generalize (p.map fun b => (⟨b, 0, none⟩ : Addr)) = pe at *
      go_wp2_with fail
      refine HT2.out.mono ?_
      rintro r w2 ⟨rfl, hO2⟩
      have H2 : Hid (Own w0 w2 (Row 43 1 (.slice (some ⟨g, 0, none⟩) n cap) n (prow E) :: (things (E.set k (p, M)) ++ l))) := hO2.unpick HE.out
      clear hO2 HT2 HO cx
      go_wp2
      go_ret3
      exact ⟨rfl, H2.out⟩
set_option maxHeartbeats 2000000 in
set_option maxRecDepth 100000 in
theorem first_no (w0 w : World) (l : List Thing) (ao : Option Addr) (n cap : Nat) (E : List Eb) (hn : E.length = n) (hn2 : n ≤ 100) (hem : ∀ e ∈ E, e.2 = [])
    (h : Own w0 w (Row 43 1 (.slice ao n cap) n (prow E) :: (things E ++ l))) :
    Calls Try.prog 25 #[.slice ao n cap] w fun r w' => r = .returned (.tuple #[.int .i64 0, .int .i64 0, .bool false]) ∧ Own w0 w' (Row 43 1 (.slice ao n cap) n (prow E) :: (things E ++ l)) := by
  have HP : Hid (E.length = n ∧ ∀ e ∈ E, e.2 = []) := ⟨hn, hem⟩
  have H : Hid (Own w0 w (Row 43 1 (.slice ao n cap) n (prow E) :: (things E ++ l))) := h
  clear h hn hem
  go_enter Try.func25, Try.ntmps25
  go_wp2
  go_loopw [12] (fun cc wr => ∃ k : Nat, k ≤ n ∧ cc = .int .i64 k ∧ Own w0 wr (Row 43 1 (.slice ao n cap) n (prow E) :: (things E ++ l))) (fun cc _ => n - (intOf cc).toNat)
  case atStart => exact ⟨0, Nat.zero_le _, rfl, H.out⟩
  case round =>
    obtain ⟨k, hk, rfl, hO⟩ := hrel
    have HO : Hid (Own w0 wr _) := hO
    clear H
    by_cases hlt : k < n
    · obtain ⟨g, c, hv, _⟩ := row_shape hO.row (by omega)
      have hg := (Value.slice.inj hv).1
      subst hg
      clear hv hO
      obtain ⟨e, he⟩ : ∃ e, E[k]? = some e := ⟨_, List.getElem?_eq_getElem (by rw [HP.out.1]; omega)⟩
      have cx : wr.cell? ⟨g, k, none⟩ = some (pval e) := by rw [HO.out.row.cellAt k (by omega)]; exact prow_at E k e he
      have hlt' : (k : Int) < (n : Int) := by omega
      have h0 := HP.out.2 e (List.mem_of_getElem? he)
      have HE : Hid (E[k]? = some e) := he
      have HT : Hid (Calls _ _ _ _ _) := mtake_e w0 wr _ e (HO.out.pick he) (fun _ => h0)
      unfold pval at cx HT
      rw [h0] at HT
      have HSE : Hid (E.set k (e.1, ([] : List Int).tail) = E) := set_same E k e he h0
      have HT2 : Hid (Calls Try.prog 21 #[.pointer (e.1.map fun b => ⟨b, 0, none⟩)] wr fun r w' => r = .returned (.tuple #[.int .i64 0, .bool false]) ∧ Own w0 w' _) := HT.out
      clear he h0 HT
      generalize (e.1.map fun b => (⟨b, 0, none⟩ : Addr)) = pe at *
      go_wp2_with fail
      refine HT2.out.mono ?_
      rintro r w2 ⟨rfl, hO2⟩
      have H2 : Hid (Own w0 w2 (Row 43 1 (.slice (some ⟨g, 0, none⟩) n cap) n (prow E) :: (things E ++ l))) := by
        have := hO2.unpick HE.out
        rw [HSE.out] at this; exact this
      clear hO2 HT2 HO cx
      go_wp2
      go_roundw
      case rel => exact ⟨k + 1, by omega, by go_num, H2.out⟩
      case measure => simp [intOf]; omega
    · have hlt' : ¬ (k : Int) < (n : Int) := by omega
      clear hO
      go_wp2
      go_ret3
      exact ⟨rfl, HO.out⟩
end Go.Proofs.Ytijhbgkfffnioaa
