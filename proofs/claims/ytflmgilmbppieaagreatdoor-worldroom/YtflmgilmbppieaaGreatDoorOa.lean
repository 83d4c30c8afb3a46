/-
  Stores as plain tables by makes; what a store has in memory.
-/
import Derived.Test.YtflmgilmbppieaaGreatDoorXg
import Derived.Test.YtflmgilmbppieaaGreatDoorUa
namespace Go.Proofs.YtflmgilmbppieaaGreatDoor
open Go.RowKit Go.Maps
set_option linter.unusedVariables false

theorem Own.imp {w0 w : World} {P Q : Thing} {l : List Thing} (h : Own w0 w (P :: l)) (hq : ∀ w A, P.is w A → Q.is w A) : Own w0 w (Q :: l) := by
  obtain ⟨A, ⟨B, C, hB, r⟩, s⟩ := h
  exact ⟨A, ⟨B, C, hq _ _ hB, r⟩, s⟩
theorem Sep.imp {α : Type} {f g : α → Thing} (hq : ∀ a w A, (f a).is w A → (g a).is w A) (is : List α) : ∀ w A, (Sep (is.map f)).is w A → (Sep (is.map g)).is w A := by
  induction is with
  | nil => exact fun w A h => h
  | cons a is ih =>
    rintro w A ⟨B, C, hB, hC, r⟩
    exact ⟨B, C, hq a w B hB, ih w C hC, r⟩
def pp (p : Option Nat) : Option Addr := p.map fun b => ⟨b, 0, none⟩
/-- a table that is there just if it has rows -/
def TbS (p : Option Nat) (m : Nat) (L : List Ent) (K : Nat) : Thing := match p with
  | none => Ex (fun _ : PLift (L = []) => [])
  | some b => Ex (fun c : {c : Nat // c ≤ K ∧ L ≠ [] ∧ L.length ≤ K} => [Table b m L c.1])
def TabsOn (is : List Nat) (p : Nat → Option Nat) (T : Nat → List Ent) (K : Nat) : Thing := Ex (fun _ : Unit => is.map (fun m => TbS (p m) m (T m) K))
def Tabs (p : Nat → Option Nat) (T : Nat → List Ent) (K : Nat) : Thing := TabsOn (List.range 64) p T K
def TabsBut (k : Nat) (p : Nat → Option Nat) (T : Nat → List Ent) (K : Nat) : Thing := TabsOn ((List.range 64).erase k) p T K
section
variable {w0 w : World} {l : List Thing} {is : List Nat} {p p' : Nat → Option Nat} {T T' : Nat → List Ent} {K K' k : Nat}
theorem TabsOn.pull (hk : k ∈ is) : Own w0 w (TabsOn is p T K :: l) ↔ Own w0 w (TbS (p k) k (T k) K :: TabsOn (is.erase k) p T K :: l) := by
  have hp : (is.map (fun m => TbS (p m) m (T m) K)).Perm (TbS (p k) k (T k) K :: (is.erase k).map (fun m => TbS (p m) m (T m) K)) := (List.perm_cons_erase hk).map (fun m => TbS (p m) m (T m) K)
  constructor
  · intro h
    obtain ⟨_, h⟩ := Own.ex_iff.1 h
    exact Own.ex2.2 ⟨(), h.perm (hp.append_right l)⟩
  · intro h
    obtain ⟨_, h⟩ := Own.ex2.1 h
    exact Own.ex_iff.2 ⟨(), h.perm (hp.append_right l).symm⟩
theorem TabsOn.congr (h : ∀ m ∈ is, p m = p' m ∧ T m = T' m) : TabsOn is p T K = TabsOn is p' T' K := by
  unfold TabsOn
  have : is.map (fun m => TbS (p m) m (T m) K) = is.map (fun m => TbS (p' m) m (T' m) K) := List.map_congr_left (fun m hm => by rw [(h m hm).1, (h m hm).2])
  rw [this]
theorem TbS.mono {q : Option Nat} {L : List Ent} (hK : K ≤ K') : ∀ w A, (TbS q k L K).is w A → (TbS q k L K').is w A := by
  intro w A h
  cases q with
  | none => exact h
  | some b =>
    obtain ⟨⟨c, h1, h2, h3⟩, h⟩ := h
    exact ⟨⟨c, by omega, h2, by omega⟩, h⟩
theorem TabsOn.mono (hK : K ≤ K') (h : Own w0 w (TabsOn is p T K :: l)) : Own w0 w (TabsOn is p T K' :: l) :=
  h.imp (fun w A => fun ⟨u, h⟩ => ⟨u, Sep.imp (fun m => TbS.mono hK) is w A h⟩)
theorem Own.tabOut (h : Own w0 w (Tabs p T K :: l)) (k : Nat) (hk : k < 64) : Own w0 w (TbS (p k) k (T k) K :: TabsBut k p T K :: l) := (TabsOn.pull (by simpa using hk)).1 h
theorem but_mem {m k : Nat} (h : m ∈ (List.range 64).erase k) : m ≠ k := fun e => by subst e; exact absurd h (List.Nodup.not_mem_erase List.nodup_range)
theorem Own.tabIn {q : Option Nat} {L : List Ent} (hk : k < 64) (hK : K ≤ K') (h : Own w0 w (TbS q k L K' :: TabsBut k p T K :: l)) : Own w0 w (Tabs (upd p k q) (upd T k L) K' :: l) := by
  refine (TabsOn.pull (k := k) (by simpa using hk)).2 ?_
  rw [upd_same, upd_same]
  have h2 := (TabsOn.mono hK h.two).two
  rw [TabsOn.congr (p' := upd p k q) (T' := upd T k L) (fun m hm => ⟨(upd_other _ _ _ (but_mem hm)).symm, (upd_other _ _ _ (but_mem hm)).symm⟩)] at h2
  exact h2
theorem Own.tabBack (hk : k < 64) (h : Own w0 w (TbS (p k) k (T k) K :: TabsBut k p T K :: l)) : Own w0 w (Tabs p T K :: l) := (TabsOn.pull (by simpa using hk)).2 h
theorem Own.tabNone (h : Own w0 w (TbS none k (T k) K :: l)) : T k = [] := by
  obtain ⟨⟨e⟩, _⟩ := Own.ex_iff.1 h
  exact e
theorem Own.tabsNew (h : Own w0 w l) (K : Nat) : Own w0 w (Tabs (fun _ => none) (fun _ => []) K :: l) := by
  refine Own.ex_iff.2 ⟨(), ?_⟩
  suffices H : ∀ is : List Nat, Own w0 w (is.map (fun m => TbS ((fun _ => none : Nat → Option Nat) m) m ((fun _ => [] : Nat → List Ent) m) K) ++ l) from H _
  intro is
  induction is with
  | nil => exact h
  | cons a is ih => exact Own.ex_iff.2 ⟨⟨rfl⟩, ih⟩
end

def ptrs (p : Nat → Option Nat) : List Value := (List.range 64).map (fun m => Value.pointer (pp (p m)))
def scells (bs : Nat) (v : Value) (p : Nat → Option Nat) : Array Value := (Value.pointer (some ⟨bs, 0, none⟩) :: v :: ptrs p).toArray
theorem scells_ids (bs : Nat) (v : Value) (p : Nat → Option Nat) : (scells bs v p)[0]? = some (.pointer (some ⟨bs, 0, none⟩)) := by simp [scells]
theorem scells_mk (bs : Nat) (v : Value) (p : Nat → Option Nat) : (scells bs v p)[1]? = some v := by simp [scells]
theorem scells_tab (bs : Nat) (v : Value) (p : Nat → Option Nat) (k : Nat) (hk : k < 64) : (scells bs v p)[2 + k]? = some (.pointer (pp (p k))) := by
  have : 2 + k = k + 1 + 1 := by omega
  rw [this]
  simp [scells, ptrs, hk]
theorem scells_set (bs : Nat) (v : Value) (p : Nat → Option Nat) (k : Nat) (hk : k < 64) (q : Option Nat) : (scells bs v p).setIfInBounds (2 + k) (.pointer (pp q)) = scells bs v (upd p k q) := by
  have : 2 + k = k + 1 + 1 := by omega
  rw [this]
  unfold scells
  rw [List.setIfInBounds_toArray, List.set_cons_succ, List.set_cons_succ]
  have : (ptrs p).set k (.pointer (pp q)) = ptrs (upd p k q) := by
    apply List.ext_getElem?
    intro i
    rw [List.getElem?_set]
    simp only [ptrs, List.length_map, List.length_range, List.getElem?_map]
    by_cases c : k = i
    · subst c; simp [hk, upd]
    · rw [if_neg c]
      by_cases d : i < 64
      · have e : ¬ i = k := fun h => c h.symm
        simp [d, upd, e]
      · simp [d]
  rw [this]

/-- a store: its numbers, the makes by slots, the tables by makes -/
structure Sto where
  S : St
  mks : List Nat
  T : Nat → List Ent
def StoX (b : Nat) (σ : Sto) (K : Nat) (x : Nat × Value × (Nat → Option Nat)) : Thing :=
  Ex (fun _ : Unit => [Cells b (scells x.1 x.2.1 x.2.2) 199, Slots x.1 σ.S, Row 5 1 x.2.1 σ.mks.length (irow .u8 σ.mks), Tabs x.2.2 σ.T K])
def Store (b : Nat) (σ : Sto) (K : Nat) : Thing := Ex (fun x : Nat × Value × (Nat → Option Nat) => [StoX b σ K x])
section
variable {w0 w : World} {l : List Thing} {b bs : Nat} {v : Value} {p : Nat → Option Nat} {σ : Sto} {K : Nat}
theorem Own.stoX (h : Own w0 w (Store b σ K :: l)) : ∃ bs v p, Own w0 w (StoX b σ K (bs, v, p) :: l) := by
  obtain ⟨⟨bs, v, p⟩, h⟩ := Own.ex_iff.1 h
  exact ⟨bs, v, p, h⟩
theorem Own.xSto {x : Nat × Value × (Nat → Option Nat)} (h : Own w0 w (StoX b σ K x :: l)) : Own w0 w (Store b σ K :: l) := Own.ex_iff.2 ⟨x, h⟩
theorem Own.stoO (h : Own w0 w (StoX b σ K (bs, v, p) :: l)) : Own w0 w (Cells b (scells bs v p) 199 :: Slots bs σ.S :: Row 5 1 v σ.mks.length (irow .u8 σ.mks) :: Tabs p σ.T K :: l) := by
  obtain ⟨_, h⟩ := Own.ex_iff.1 h
  exact h
theorem Own.stoS (h : Own w0 w (Cells b (scells bs v p) 199 :: Slots bs σ.S :: Row 5 1 v σ.mks.length (irow .u8 σ.mks) :: Tabs p σ.T K :: l)) : Own w0 w (StoX b σ K (bs, v, p) :: l) := Own.ex_iff.2 ⟨(), h⟩
end
end Go.Proofs.YtflmgilmbppieaaGreatDoor
