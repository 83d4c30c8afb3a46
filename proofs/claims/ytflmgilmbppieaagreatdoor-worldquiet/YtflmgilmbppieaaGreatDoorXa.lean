/-
  Slots as plain lists: what is taken, what is freed; no program is named here.
-/
import Derived.Test.YtflmgilmbppieaaGreatDoorXm
namespace Go.Proofs.YtflmgilmbppieaaGreatDoor
set_option linter.unusedVariables false

structure St where
  n : Nat
  first : Nat
  last : List Nat
  used : List Bool
  freed : List Nat
  live : Nat

/-- what is so of slots at all times -/
structure St.Ok (S : St) : Prop where
  n1 : 1 ≤ S.n
  n2 : S.n ≤ 1024
  f1 : 1 ≤ S.first
  f2 : S.first ≤ 4194303
  ul : S.used.length = S.last.length
  le : S.last.length ≤ S.n
  id : ∀ i x, S.last[i]? = some x → x % 1024 = i ∧ 1 ≤ x / 1024 ∧ x < 4294967296
  nodup : S.freed.Nodup
  fr : ∀ f ∈ S.freed, S.used[f]? = some false ∧ ∃ x, S.last[f]? = some x ∧ x / 1024 < 4194303
  cnt : S.freed.length + S.live ≤ S.last.length
  live : S.live = S.used.count true

def St.new (n first : Nat) : St := ⟨n, first, [], [], [], 0⟩
theorem St.new_ok (n first : Nat) (h1 : 1 ≤ n) (h2 : n ≤ 1024) (h3 : 1 ≤ first) (h4 : first ≤ 4194303) : (St.new n first).Ok :=
  ⟨h1, h2, h3, h4, rfl, by simp [St.new], by simp [St.new], by simp [St.new], by simp [St.new], by simp [St.new], by simp [St.new]⟩

/-- the slot that was freed last is taken again -/
def St.again (S : St) (f : Nat) : St := { S with last := S.last.set f (S.last.getD f 0 + 1024), used := S.used.set f true, freed := S.freed.dropLast, live := S.live + 1 }
/-- the least slot that never was in use is taken -/
def St.more (S : St) : St := { S with last := S.last ++ [S.first * 1024 + S.last.length], used := S.used ++ [true], live := S.live + 1 }
/-- an ID's use ends -/
def St.less (S : St) (id : Nat) : St := { S with used := S.used.set (id % 1024) false, live := S.live - 1, freed := if id / 1024 < 4194303 then S.freed ++ [id % 1024] else S.freed }
def St.isLive (S : St) (id : Nat) : Bool := S.used.getD (id % 1024) false && S.last.getD (id % 1024) 0 == id
/-- what Take answers, and what is then -/
def St.take (S : St) : Nat × Int × St :=
  match S.freed.getLast? with
  | some f => (S.last.getD f 0 + 1024, 0, S.again f)
  | none => if S.last.length < S.n then (S.first * 1024 + S.last.length, 0, S.more) else (0, 8, S)
def St.free (S : St) (id : Nat) : Int × St := if S.isLive id then (0, S.less id) else (7, S)
def pick : List Nat → List Bool → List Nat
  | x :: l, u :: m => if u then x :: pick l m else pick l m
  | _, _ => []
def St.list (S : St) : List Nat := pick S.last S.used
def St.room (S : St) : Nat := S.freed.length + S.n - S.last.length

theorem length_pick (l : List Nat) (m : List Bool) (h : m.length = l.length) : (pick l m).length = m.count true := by
  induction l generalizing m with
  | nil => cases m with
    | nil => rfl
    | cons u m => simp at h
  | cons x l ih => cases m with
    | nil => simp at h
    | cons u m =>
      have := ih m (by simpa using h)
      cases u <;> simp [pick, this]
theorem pick_snoc (l : List Nat) (m : List Bool) (h : m.length = l.length) (x : Nat) (u : Bool) : pick (l ++ [x]) (m ++ [u]) = pick l m ++ if u then [x] else [] := by
  induction l generalizing m with
  | nil => cases m with
    | nil => cases u <;> rfl
    | cons u m => simp at h
  | cons y l ih => cases m with
    | nil => simp at h
    | cons v m =>
      have := ih m (by simpa using h)
      cases v <;> simp [pick, this]

theorem count_set_true (l : List Bool) (i : Nat) (h : l[i]? = some false) : (l.set i true).count true = l.count true + 1 := by
  obtain ⟨hi, e⟩ := List.getElem?_eq_some_iff.1 h
  rw [List.count_set hi, e]; simp
theorem count_set_false (l : List Bool) (i : Nat) (h : l[i]? = some true) : (l.set i false).count true + 1 = l.count true := by
  obtain ⟨hi, e⟩ := List.getElem?_eq_some_iff.1 h
  have : 0 < l.count true := List.count_pos_iff.2 (List.mem_of_getElem? h)
  rw [List.count_set hi, e]; simp; omega
theorem count_le_length' (l : List Bool) : l.count true ≤ l.length := List.count_le_length

theorem St.Ok.getD {S : St} (h : S.Ok) {f x : Nat} (hx : S.last[f]? = some x) : S.last.getD f 0 = x := by rw [List.getD_eq_getElem?_getD, hx]; rfl
theorem St.Ok.lt {S : St} (h : S.Ok) {f : Nat} (hf : f ∈ S.freed) : f < S.last.length := by
  obtain ⟨h1, _⟩ := h.fr f hf
  rw [← h.ul]; exact (List.getElem?_eq_some_iff.1 h1).1
theorem dropLast_of (l : List Nat) (f : Nat) (h : l.getLast? = some f) : l = l.dropLast ++ [f] := by
  rw [List.getLast?_eq_some_iff] at h
  obtain ⟨ys, rfl⟩ := h
  simp

theorem St.again_ok {S : St} (h : S.Ok) {f : Nat} (hf : S.freed.getLast? = some f) : (S.again f).Ok := by
  have e := dropLast_of _ _ hf
  have hm : f ∈ S.freed := by rw [e]; simp
  obtain ⟨hu, x, hx, hg⟩ := h.fr f hm
  have hid := h.id f x hx
  have hgd := h.getD hx
  have hn := h.nodup
  rw [e, List.nodup_append] at hn
  have hlen : S.freed.length = S.freed.dropLast.length + 1 := by
    have := congrArg List.length e
    rw [List.length_append, List.length_singleton] at this; exact this
  have hlt := h.lt hm
  refine ⟨h.n1, h.n2, h.f1, h.f2, by simp [St.again, h.ul], by simp [St.again, h.le], ?_, hn.1, ?_, ?_, ?_⟩
  · intro i y hy
    simp only [St.again] at hy
    rw [List.getElem?_set, hgd] at hy
    split at hy
    · cases hy; omega
    · exact h.id i y hy
  · intro k hk
    have hkf : k ∈ S.freed := by rw [e]; exact List.mem_append_left _ hk
    have hne : f ≠ k := fun q => hn.2.2 k hk f (by simp) q.symm
    obtain ⟨a, y, b, c⟩ := h.fr k hkf
    exact ⟨by simp only [St.again]; rw [List.getElem?_set_ne hne]; exact a, y, by simp only [St.again]; rw [List.getElem?_set_ne hne]; exact b, c⟩
  · have := h.cnt
    simp only [St.again, List.length_set]
    omega
  · simp only [St.again]
    rw [count_set_true _ _ hu, h.live]

theorem St.more_ok {S : St} (h : S.Ok) (hf : S.freed = []) (hl : S.last.length < S.n) : S.more.Ok := by
  have h2 := h.n2
  have h3 := h.f1
  have h4 := h.f2
  refine ⟨h.n1, h.n2, h.f1, h.f2, by simp [St.more, h.ul], by simp [St.more]; omega, ?_, by simp [St.more, hf], by simp [St.more, hf], ?_, ?_⟩
  · intro i y hy
    simp only [St.more] at hy
    by_cases c : i < S.last.length
    · rw [List.getElem?_append_left c] at hy; exact h.id i y hy
    · rw [List.getElem?_append_right (by omega)] at hy
      have : i - S.last.length = 0 := by
        rcases Nat.eq_zero_or_pos (i - S.last.length) with z | z
        · exact z
        · rw [List.getElem?_eq_none (by simp; omega)] at hy; cases hy
      rw [this] at hy
      cases hy
      omega
  · have := h.cnt
    simp [St.more, hf] at this ⊢
    omega
  · simp [St.more, h.live]

theorem St.isLive_iff {S : St} (h : S.Ok) (id : Nat) : S.isLive id = true ↔ S.used[id % 1024]? = some true ∧ S.last[id % 1024]? = some id := by
  unfold St.isLive
  rw [List.getD_eq_getElem?_getD, List.getD_eq_getElem?_getD]
  constructor
  · intro hh
    simp only [Bool.and_eq_true, beq_iff_eq] at hh
    obtain ⟨a, b⟩ := hh
    cases hu : S.used[id % 1024]? with
    | none => rw [hu] at a; cases a
    | some u =>
      rw [hu] at a
      have hlt : id % 1024 < S.last.length := by rw [← h.ul]; exact (List.getElem?_eq_some_iff.1 hu).1
      rw [List.getElem?_eq_getElem hlt] at b ⊢
      simp at a b
      exact ⟨by rw [a], by rw [b]⟩
  · rintro ⟨a, b⟩
    rw [a, b]; simp

theorem St.less_ok {S : St} (h : S.Ok) {id : Nat} (hl : S.isLive id = true) : (S.less id).Ok := by
  obtain ⟨hu, hx⟩ := (S.isLive_iff h id).1 hl
  have hid := h.id _ _ hx
  have hc := count_set_false _ _ hu
  have hlv := h.live
  have hcnt := h.cnt
  have hnf : id % 1024 ∉ S.freed := by
    intro hm
    have := (h.fr _ hm).1
    rw [hu] at this; cases this
  have hlt : id % 1024 < S.used.length := (List.getElem?_eq_some_iff.1 hu).1
  refine ⟨h.n1, h.n2, h.f1, h.f2, by simp [St.less, h.ul], h.le, h.id, ?_, ?_, ?_, ?_⟩
  · simp only [St.less]
    split
    · rw [List.nodup_append]
      refine ⟨h.nodup, by simp, ?_⟩
      intro a ha b hb
      simp at hb
      rintro rfl
      rw [hb] at ha
      exact hnf ha
    · exact h.nodup
  · intro k hk
    have hold : k ∈ S.freed → (S.less id).used[k]? = some false ∧ ∃ x, (S.less id).last[k]? = some x ∧ x / 1024 < 4194303 := by
      intro hk
      have hne : id % 1024 ≠ k := fun q => hnf (q ▸ hk)
      obtain ⟨a, y, b, c⟩ := h.fr k hk
      exact ⟨by simp only [St.less]; rw [List.getElem?_set_ne hne]; exact a, y, b, c⟩
    simp only [St.less] at hk
    split at hk
    · rename_i hg
      rcases List.mem_append.1 hk with hk | hk
      · exact hold hk
      · simp at hk
        subst hk
        exact ⟨by simp only [St.less]; rw [List.getElem?_set_self hlt], id, hx, hg⟩
    · exact hold hk
  · simp only [St.less]
    split
    · rw [List.length_append, List.length_singleton]; omega
    · omega
  · simp only [St.less]; omega

theorem St.take_ok {S : St} (h : S.Ok) : S.take.2.2.Ok := by
  unfold St.take
  split
  · rename_i f hf; exact St.again_ok h hf
  · rename_i hf
    have hf' : S.freed = [] := List.getLast?_eq_none_iff.1 hf
    split
    · rename_i hl; exact St.more_ok h hf' hl
    · exact h
theorem St.free_ok {S : St} (h : S.Ok) (id : Nat) : (S.free id).2.Ok := by
  unfold St.free
  split
  · rename_i hl; exact St.less_ok h hl
  · exact h
theorem St.take_n (S : St) : S.take.2.2.n = S.n ∧ S.take.2.2.first = S.first := by
  unfold St.take
  split
  · exact ⟨rfl, rfl⟩
  · split <;> exact ⟨rfl, rfl⟩
theorem St.free_n (S : St) (id : Nat) : (S.free id).2.n = S.n ∧ (S.free id).2.first = S.first := by
  unfold St.free
  split <;> exact ⟨rfl, rfl⟩
theorem St.list_length {S : St} (h : S.Ok) : S.list.length = S.live := by rw [St.list, length_pick _ _ h.ul, h.live]
theorem St.take_lt {S : St} (h : S.Ok) : S.take.1 < 4294967296 := by
  have h2 := h.n2
  have h4 := h.f2
  unfold St.take
  split
  · rename_i f hf
    have e := dropLast_of _ _ hf
    have hm : f ∈ S.freed := by rw [e]; simp
    obtain ⟨hu, x, hx, hg⟩ := h.fr f hm
    have hid := h.id f x hx
    rw [h.getD hx]
    show x + 1024 < _
    omega
  · split
    · rename_i hl; show _ + _ < _; omega
    · show 0 < _; omega
end Go.Proofs.YtflmgilmbppieaaGreatDoor
