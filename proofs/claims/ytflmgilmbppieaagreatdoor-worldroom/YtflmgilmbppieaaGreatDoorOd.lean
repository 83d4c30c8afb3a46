/-
  What is so of a store at all times: every entity that there is stands in the table of its make, and nobody else does.
-/
import Derived.Test.YtflmgilmbppieaaGreatDoorOb
namespace Go.Proofs.YtflmgilmbppieaaGreatDoor
open Go.RowKit Go.Maps
set_option linter.unusedVariables false

theorem gd_set_same {α : Type} (l : List α) (i : Nat) (x d : α) (h : i < l.length) : (l.set i x).getD i d = x := by rw [List.getD_eq_getElem?_getD, List.getElem?_set_self h]; rfl
theorem gd_set_other {α : Type} (l : List α) (i k : Nat) (x d : α) (h : k ≠ i) : (l.set i x).getD k d = l.getD k d := by rw [List.getD_eq_getElem?_getD, List.getElem?_set_ne (fun q => h q.symm), List.getD_eq_getElem?_getD]
theorem gd_snoc_same {α : Type} (l : List α) (x d : α) (k : Nat) (h : k = l.length) : (l ++ [x]).getD k d = x := by rw [h, List.getD_eq_getElem?_getD, List.getElem?_append_right (Nat.le_refl _)]; simp
theorem gd_snoc_other {α : Type} (l : List α) (x d : α) (k : Nat) (h : k ≠ l.length) : (l ++ [x]).getD k d = l.getD k d := by
  rw [List.getD_eq_getElem?_getD, List.getD_eq_getElem?_getD]
  rcases Nat.lt_or_gt_of_ne h with c | c
  · rw [List.getElem?_append_left c]
  · rw [List.getElem?_eq_none (by simp; omega), List.getElem?_eq_none (by omega)]
theorem gd_some {α : Type} {l : List α} {i : Nat} {d x : α} (h : l[i]? = some x) : l.getD i d = x := by rw [List.getD_eq_getElem?_getD, h]; rfl
theorem gd_none {α : Type} {l : List α} {i : Nat} {d : α} (h : l.length ≤ i) : l.getD i d = d := by rw [List.getD_eq_getElem?_getD, List.getElem?_eq_none h]; rfl

theorem St.live_lt {S : St} (h : S.Ok) {id : Nat} (hl : S.isLive id = true) : id < 4294967296 ∧ id % 1024 < S.n := by
  obtain ⟨_, b⟩ := (S.isLive_iff h id).1 hl
  exact ⟨(h.id _ _ b).2.2, Nat.lt_of_lt_of_le (List.getElem?_eq_some_iff.1 b).1 h.le⟩
theorem St.live_one {S : St} (h : S.Ok) {x y : Nat} (hx : S.isLive x = true) (hy : S.isLive y = true) (he : x % 1024 = y % 1024) : x = y := by
  obtain ⟨_, a⟩ := (S.isLive_iff h x).1 hx
  obtain ⟨_, b⟩ := (S.isLive_iff h y).1 hy
  rw [he, b] at a
  exact (Option.some.inj a).symm
theorem St.take_live {S : St} (h : S.Ok) (he : S.take.2.1 = 0) : S.isLive S.take.1 = false ∧ ∀ x, S.take.2.2.isLive x = (decide (x = S.take.1) || S.isLive x) := by
  cases hf : S.freed.getLast? with
  | some f =>
    have ht : S.take = (S.last.getD f 0 + 1024, 0, S.again f) := by unfold St.take; rw [hf]
    have hm : f ∈ S.freed := by rw [dropLast_of _ _ hf]; simp
    obtain ⟨hu, x, hx, _⟩ := h.fr f hm
    obtain ⟨h1, h2, h3⟩ := h.id f x hx
    have hlt := (List.getElem?_eq_some_iff.1 hx).1
    have hlu := (List.getElem?_eq_some_iff.1 hu).1
    rw [ht]
    simp only [gd_some hx]
    have hmod : (x + 1024) % 1024 = f := by omega
    refine ⟨by unfold St.isLive; rw [hmod, gd_some hu]; rfl, fun y => ?_⟩
    unfold St.isLive St.again
    simp only [gd_some hx]
    by_cases c : y % 1024 = f
    · rw [c, gd_set_same _ _ _ _ hlu, gd_set_same _ _ _ _ hlt, gd_some hu]
      by_cases d : y = x + 1024
      · subst d; simp
      · have : ¬ x + 1024 = y := fun q => d q.symm
        simp [d, this]
    · rw [gd_set_other _ _ _ _ _ c, gd_set_other _ _ _ _ _ c]
      have d : ¬ y = x + 1024 := fun q => c (by rw [q]; exact hmod)
      simp [d]
  | none =>
    by_cases hl : S.last.length < S.n
    · have ht : S.take = (S.first * 1024 + S.last.length, 0, S.more) := by unfold St.take; rw [hf]; simp [hl]
      rw [ht]
      simp only
      have h2 := h.n2
      have hul := h.ul
      have hmod : (S.first * 1024 + S.last.length) % 1024 = S.last.length := by omega
      refine ⟨by unfold St.isLive; rw [hmod, gd_none (by omega)]; rfl, fun y => ?_⟩
      unfold St.isLive St.more
      simp only
      by_cases c : y % 1024 = S.last.length
      · rw [c, gd_snoc_same _ _ _ _ hul.symm, gd_snoc_same _ _ _ _ rfl, gd_none (l := S.used) (by omega)]
        by_cases d : y = S.first * 1024 + S.last.length
        · subst d; simp
        · have : ¬ S.first * 1024 + S.last.length = y := fun q => d q.symm
          simp [d, this]
      · rw [gd_snoc_other _ _ _ _ (by omega), gd_snoc_other _ _ _ _ c]
        have d : ¬ y = S.first * 1024 + S.last.length := fun q => c (by rw [q]; exact hmod)
        simp [d]
    · have ht : S.take = (0, 8, S) := by unfold St.take; rw [hf]; simp [hl]
      rw [ht] at he
      simp at he
theorem St.free_live {S : St} (h : S.Ok) {id : Nat} (hl : S.isLive id = true) : S.free id = (0, S.less id) ∧ ∀ x, (S.less id).isLive x = (S.isLive x && !decide (x = id)) := by
  refine ⟨by unfold St.free; rw [if_pos hl], fun x => ?_⟩
  obtain ⟨hu, hx⟩ := (S.isLive_iff h id).1 hl
  have hlu := (List.getElem?_eq_some_iff.1 hu).1
  unfold St.isLive St.less
  simp only
  by_cases c : x % 1024 = id % 1024
  · rw [c, gd_set_same _ _ _ _ hlu, gd_some hu, gd_some hx]
    by_cases d : x = id
    · subst d; simp
    · have : ¬ id = x := fun q => d q.symm
      simp [d, this]
  · rw [gd_set_other _ _ _ _ _ c]
    have d : ¬ x = id := fun q => c (by rw [q])
    simp [d]

structure Sto.Ok (σ : Sto) : Prop where
  s : σ.S.Ok
  ml : σ.mks.length = σ.S.n
  t : ∀ m, m < 64 → TOk m (σ.T m)
  lv : ∀ m, m < 64 → ∀ e ∈ σ.T m, σ.S.isLive e.1 = true ∧ σ.mks[e.1 % 1024]? = some m
  hm : ∀ x, σ.S.isLive x = true → ∃ m, m < 64 ∧ σ.mks[x % 1024]? = some m ∧ ∃ r, plc (σ.T m) x = some r
/-- all is right, but this one has no row -/
structure Sto.Lack (σ : Sto) (id : Nat) : Prop where
  s : σ.S.Ok
  ml : σ.mks.length = σ.S.n
  t : ∀ m, m < 64 → TOk m (σ.T m)
  li : σ.S.isLive id = true
  lv : ∀ m, m < 64 → ∀ e ∈ σ.T m, e.1 ≠ id ∧ σ.S.isLive e.1 = true ∧ σ.mks[e.1 % 1024]? = some m
  hm : ∀ x, x ≠ id → σ.S.isLive x = true → ∃ m, m < 64 ∧ σ.mks[x % 1024]? = some m ∧ ∃ r, plc (σ.T m) x = some r
theorem msk64 (C : List Cp) : msk C < 64 := mskN_lt C 6
theorem Sto.Lack.none {σ : Sto} {id : Nat} (h : σ.Lack id) {m : Nat} (hm : m < 64) : plc (σ.T m) id = Option.none := (plc_none _ _).2 (fun e he => (h.lv m hm e he).1)
theorem Sto.Lack.put {σ : Sto} {id : Nat} (h : σ.Lack id) {C : List Cp} (hC : lst (-1) C = 0) : (σ.put id C).Ok := by
  have h6 := msk64 C
  obtain ⟨hi, hn⟩ := St.live_lt h.s h.li
  rw [← h.ml] at hn
  have hset : (σ.mks.set (id % 1024) (msk C))[id % 1024]? = some (msk C) := List.getElem?_set_self hn
  have hother : ∀ x, x ≠ id → σ.S.isLive x = true → (σ.mks.set (id % 1024) (msk C))[x % 1024]? = σ.mks[x % 1024]? := fun x hx hl => List.getElem?_set_ne (fun q => hx (St.live_one h.s hl h.li q.symm))
  refine ⟨h.s, by simp [Sto.put, h.ml], ?_, ?_, ?_⟩
  · intro m hm
    show TOk m (upd σ.T (msk C) _ m)
    by_cases c : m = msk C
    · subst c
      rw [upd_same]
      exact (h.t _ hm).snoc (id, C) hi (h.none hm) hC rfl
    · rw [upd_other _ _ _ c]; exact h.t m hm
  · intro m hm e he
    show σ.S.isLive e.1 = true ∧ (σ.mks.set (id % 1024) (msk C))[e.1 % 1024]? = some m
    replace he : e ∈ upd σ.T (msk C) (σ.T (msk C) ++ [(id, C)]) m := he
    have old : e ∈ σ.T m → σ.S.isLive e.1 = true ∧ (σ.mks.set (id % 1024) (msk C))[e.1 % 1024]? = some m := fun he => by
      obtain ⟨a, b, c⟩ := h.lv m hm e he
      exact ⟨b, by rw [hother _ a b]; exact c⟩
    by_cases c : m = msk C
    · subst c
      rw [upd_same] at he
      rcases List.mem_append.1 he with he | he
      · exact old he
      · simp at he
        subst he
        exact ⟨h.li, hset⟩
    · rw [upd_other _ _ _ c] at he; exact old he
  · intro x hl
    by_cases hx : x = id
    · subst hx
      refine ⟨msk C, h6, hset, (σ.T (msk C)).length, ?_⟩
      show plc (upd σ.T (msk C) _ (msk C)) x = _
      rw [upd_same, plc_snoc _ (x, C) (h.none h6)]; simp
    · obtain ⟨m, hm, h1, r, h2⟩ := h.hm x hx hl
      refine ⟨m, hm, (hother x hx hl).trans h1, r, ?_⟩
      show plc (upd σ.T (msk C) _ m) x = _
      by_cases c : m = msk C
      · subst c
        rw [upd_same, plc_snoc _ (id, C) (h.none hm), if_neg hx]; exact h2
      · rw [upd_other _ _ _ c]; exact h2
theorem Sto.Ok.home {σ : Sto} (h : σ.Ok) {id : Nat} (hl : σ.S.isLive id = true) : σ.hom id < 64 ∧ id % 1024 < σ.mks.length ∧ ∃ r e, plc (σ.T (σ.hom id)) id = some r ∧ (σ.T (σ.hom id))[r]? = some e ∧ e.1 = id := by
  obtain ⟨m, hm, h1, r, h2⟩ := h.hm id hl
  have e : σ.hom id = m := gd_some h1
  obtain ⟨en, he, hx⟩ := (plc_some (h.t m hm).ap id r).1 h2
  rw [e]
  exact ⟨hm, (List.getElem?_eq_some_iff.1 h1).1, r, en, h2, he, hx⟩
theorem Sto.Ok.out {σ : Sto} (h : σ.Ok) {id r : Nat} (hl : σ.S.isLive id = true) (hr : plc (σ.T (σ.hom id)) id = some r) : (σ.out (σ.hom id) r).Lack id := by
  obtain ⟨h6, hn, _⟩ := h.home hl
  generalize hk : σ.hom id = k at *
  have hlt := plc_lt hr
  have hT := h.t k h6
  obtain ⟨last, hlast⟩ : ∃ e, (σ.T k)[(σ.T k).length - 1]? = some e := ⟨_, List.getElem?_eq_getElem (by omega)⟩
  have hmk : σ.mks[id % 1024]? = some k := by
    obtain ⟨m, _, h1, _⟩ := h.hm id hl
    rw [h1, ← hk]; congr 1; exact (gd_some h1).symm
  refine ⟨h.s, h.ml, ?_, hl, ?_, ?_⟩
  · intro m hm
    show TOk m (upd σ.T k _ m)
    by_cases c : m = k
    · subst c; rw [upd_same]; exact hT.outr r hlt
    · rw [upd_other _ _ _ c]; exact h.t m hm
  · intro m hm e he
    replace he : e ∈ upd σ.T k (outr (σ.T k) r) m := he
    by_cases c : m = k
    · subst c
      rw [upd_same] at he
      refine ⟨?_, h.lv m hm e (mem_outr hlt he)⟩
      have hp := plc_outr hT.ap hr hlast id
      rw [if_pos rfl, plc_none] at hp
      exact hp e he
    · rw [upd_other _ _ _ c] at he
      obtain ⟨a, b⟩ := h.lv m hm e he
      refine ⟨?_, a, b⟩
      intro q
      rw [q, hmk] at b
      exact c (Option.some.inj b).symm
  · intro x hx hlx
    obtain ⟨m, hm, h1, r', h2⟩ := h.hm x hlx
    refine ⟨m, hm, h1, ?_⟩
    show ∃ r', plc (upd σ.T k _ m) x = some r'
    by_cases c : m = k
    · subst c
      rw [upd_same, plc_outr hT.ap hr hlast x, if_neg hx]
      split
      · exact ⟨_, rfl⟩
      · exact ⟨_, h2⟩
    · rw [upd_other _ _ _ c]; exact ⟨_, h2⟩
theorem Sto.Ok.take {σ : Sto} (h : σ.Ok) (he : σ.S.take.2.1 = 0) : (Sto.Lack { σ with S := σ.S.take.2.2 } σ.S.take.1) := by
  obtain ⟨h1, h2⟩ := St.take_live h.s he
  have hne : ∀ x, σ.S.isLive x = true → x ≠ σ.S.take.1 := fun x hx q => by rw [q, h1] at hx; cases hx
  refine ⟨St.take_ok h.s, h.ml.trans (St.take_n _).1.symm, h.t, by simp [h2], ?_, ?_⟩
  · intro m hm e hx
    obtain ⟨a, b⟩ := h.lv m hm e hx
    exact ⟨hne _ a, by simp [h2, a], b⟩
  · intro x hx hl
    simp [h2, hx] at hl
    exact h.hm x hl
theorem Sto.Lack.free {σ : Sto} {id : Nat} (h : σ.Lack id) : (Sto.Ok { σ with S := σ.S.less id }) := by
  obtain ⟨_, h2⟩ := St.free_live h.s h.li
  refine ⟨St.less_ok h.s h.li, h.ml, h.t, ?_, ?_⟩
  · intro m hm e he
    obtain ⟨a, b, c⟩ := h.lv m hm e he
    exact ⟨by simp [h2, b, a], c⟩
  · intro x hx
    simp [h2] at hx
    exact h.hm x hx.2 hx.1
def Sto.new (n f : Nat) : Sto := ⟨St.new n f, List.replicate n 0, fun _ => []⟩
theorem Sto.new_ok (n f : Nat) (h1 : 1 ≤ n) (h2 : n ≤ 1024) (h3 : 1 ≤ f) (h4 : f ≤ 4194303) : (Sto.new n f).Ok :=
  ⟨St.new_ok n f h1 h2 h3 h4, by simp [Sto.new, St.new], fun m hm => TOk.nil hm, by simp [Sto.new], fun x hx => by simp [Sto.new, St.new, St.isLive] at hx⟩
end Go.Proofs.YtflmgilmbppieaaGreatDoor
