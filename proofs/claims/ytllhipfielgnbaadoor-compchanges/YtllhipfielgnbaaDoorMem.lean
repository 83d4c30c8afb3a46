/-
  What a writer and a reader are in memory, and what a call leaves as it was: predicates on worlds, and how they are kept.
-/
import Derived.Test.YtllhipfielgnbaaDoorRows
import Derived.Test.YtllhipfielgnbaaDoorPl
import Derived.WalkKit
import Derived.WalkSpells
import Derived.WalkLawsBesides
namespace Go.Proofs.YtllhipfielgnbaaDoor
open Go.RowKit

theorem Tryd.infoB : (Tryd.prog.info? 5).map (fun i => (i.zero, i.size, i.bytes)) = some (some (.int .u8 0), 1, 1) := by kernel_rfl
theorem Tryd.infoBool : (Tryd.prog.info? 4).map (fun i => (i.zero, i.size, i.bytes)) = some (some (.bool false), 1, 1) := by kernel_rfl

/-- Blocks that were there and are none of S are as they were. -/
structure Fr (S : Nat → Prop) (w w' : World) : Prop where
  os : w'.os = w.os
  tape : w'.tape = w.tape
  output : w'.output = w.output
  size : w.heap.size ≤ w'.heap.size
  block : ∀ k, k < w.heap.size → ¬ S k → w'.heap[k]? = w.heap[k]?

def Nobody (_ : Nat) : Prop := False
/-- the blocks of an object: its own, and its row's -/
def At (b : Nat) (g : Option Nat) (k : Nat) : Prop := k = b ∨ some k = g

theorem Fr.refl (S : Nat → Prop) (w : World) : Fr S w w := ⟨rfl, rfl, rfl, Nat.le_refl _, fun _ _ _ => rfl⟩
theorem Fr.trans {S : Nat → Prop} {a b c : World} (h : Fr S a b) (k : Fr S b c) : Fr S a c :=
  ⟨k.os.trans h.os, k.tape.trans h.tape, k.output.trans h.output, Nat.le_trans h.size k.size, fun i hi hs => (k.block i (Nat.lt_of_lt_of_le hi h.size) hs).trans (h.block i hi hs)⟩
theorem Fr.mono {S T : Nat → Prop} {a b : World} (h : Fr S a b) (hs : ∀ k, k < a.heap.size → S k → T k) : Fr T a b := ⟨h.os, h.tape, h.output, h.size, fun k hk ht => h.block k hk fun s => ht (hs k hk s)⟩
theorem Fr.drew {S : Nat → Prop} {a b : World} (h : Fr S a b) : Fr S a b.drew := ⟨h.os, h.tape, h.output, h.size, h.block⟩
theorem Fr.drewN {S : Nat → Prop} {a b : World} (h : Fr S a b) (n : Nat) : Fr S a (b.drewN n) := by
  induction n with
  | zero => exact h
  | succ n ih => exact ih.drew
theorem Fr.alloc {S : Nat → Prop} {a w : World} (h : Fr S a w) (o : Obj) : Fr S a (w.alloc o) :=
  ⟨h.os, h.tape, h.output, by have := h.size; simp; omega, fun k hk hs => (Below.heap_alloc w o k (Nat.lt_of_lt_of_le hk h.size)).trans (h.block k hk hs)⟩
theorem Fr.setCell {S : Nat → Prop} {a w : World} (h : Fr S a w) {p : Addr} (hp : S p.block ∨ a.heap.size ≤ p.block) (u : Value) : Fr S a (w.setCell p u) :=
  ⟨h.os, h.tape, h.output, by have := h.size; simp [World.setCell]; omega, fun k hk hs => (Below.heap_setCell w p u k (fun e => by subst e; rcases hp with hp | hp; exact hs hp; omega)).trans (h.block k hk hs)⟩
theorem Fr.grown {S : Nat → Prop} {a w w' : World} {row : Option Nat} (h : Fr S a w) (hg : w.grownBy w' row) (hr : ∀ k, row = some k → S k ∨ a.heap.size ≤ k) : Fr S a w' :=
  ⟨hg.os.trans h.os, hg.tape.trans h.tape, hg.output.trans h.output, Nat.le_trans h.size hg.size, fun k hk hs => (hg.block k (Nat.lt_of_lt_of_le hk h.size) (fun e => by rcases hr k e.symm with h' | h'; exact hs h'; omega)).trans (h.block k hk hs)⟩
theorem Fr.below {S : Nat → Prop} {B : Nat} {w w' : World} (h : Fr S w w') (hB : B ≤ w.heap.size) (hs : ∀ k, k < B → ¬ S k) : Below B w w' := ⟨h.os, h.tape, h.output, h.size, fun k hk => h.block k (by omega) (hs k hk)⟩
theorem Fr.of_below {S : Nat → Prop} {w w' : World} (h : Below w.heap.size w w') : Fr S w w' := ⟨h.os, h.tape, h.output, h.size, fun k hk _ => h.block k hk⟩
theorem Fr.cell {S : Nat → Prop} {w w' : World} (h : Fr S w w') {p : Addr} (hp : p.block < w.heap.size) (hs : ¬ S p.block) : w'.cell? p = w.cell? p := World.cell?_of_block (w := w) (h.block p.block hp hs)

/-- A row that is owned stays so. -/
theorem Fr.row {S : Nat → Prop} {w w' : World} (h : Fr S w w') {base : Nat} {e : TypeId} {size n : Nat} {v : Value} {xs : List Value} (ho : w.ownsRow base e size v n xs) (hs : ∀ k, v.ownBlock = some k → ¬ S k) : w'.ownsRow base e size v n xs := by
  refine ⟨ho.1, ?_⟩
  rcases ho.2 with hn | ⟨g, cap, cur, rfl, hb, hgg, rest⟩
  · exact .inl hn
  · refine .inr ⟨g, cap, cur, rfl, hb, ?_, rest⟩
    rw [h.block g (Array.getElem?_eq_some_iff.1 hgg).1 (hs g rfl)]
    exact hgg

theorem row_setCell {w : World} {base : Nat} {e : TypeId} {size n : Nat} {v : Value} {xs : List Value} (ho : w.ownsRow base e size v n xs) (p : Addr) (u : Value) (h : v.ownBlock ≠ some p.block) : (w.setCell p u).ownsRow base e size v n xs := by
  have hf : Fr (fun k => k = p.block) w (w.setCell p u) := Fr.setCell (S := fun k => k = p.block) (Fr.refl _ w) (.inl rfl) u
  exact hf.row ho (fun k hk e => h (by rw [hk, e]))

/-- A WRITER at block b that holds the bits L; g: the block of its bytes. -/
structure Wr (B : Nat) (w : World) (b : Nat) (g : Option Nat) (L : List Bool) : Prop where
  low : B ≤ b
  glow : ∀ k, g = some k → B ≤ k
  ne : g ≠ some b
  obj : ∃ v, w.heap[b]? = some (.cells #[v, .int .i64 (L.length : Int)] 66 (0, 0)) ∧ w.ownsRow 0 5 1 v (nb L.length) (vrow (pack L)) ∧ v.ownBlock = g

theorem Wr.lt {B : Nat} {w : World} {b : Nat} {g : Option Nat} {L : List Bool} (h : Wr B w b g L) : b < w.heap.size := by
  obtain ⟨v, hb, _⟩ := h.obj
  exact (Array.getElem?_eq_some_iff.1 hb).1
theorem Wr.glt {B : Nat} {w : World} {b : Nat} {g : Option Nat} {L : List Bool} (h : Wr B w b g L) : ∀ k, g = some k → k < w.heap.size := by
  intro k hk
  obtain ⟨v, _, ho, hv⟩ := h.obj
  exact (ho.lt k (hv.trans hk)).2
theorem Wr.keep {S : Nat → Prop} {B : Nat} {w w' : World} {b : Nat} {g : Option Nat} {L : List Bool} (h : Wr B w b g L) (hf : Fr S w w') (hb : ¬ S b) (hg : ∀ k, g = some k → ¬ S k) : Wr B w' b g L := by
  refine ⟨h.low, h.glow, h.ne, ?_⟩
  have hl := h.lt
  obtain ⟨v, h1, h2, h3⟩ := h.obj
  exact ⟨v, (hf.block b hl hb).trans h1, hf.row h2 (fun k hk => hg k (h3.symm.trans hk)), h3⟩
theorem Wr.mono {B B' : Nat} {w : World} {b : Nat} {g : Option Nat} {L : List Bool} (h : Wr B w b g L) (hB : B' ≤ B) : Wr B' w b g L :=
  ⟨Nat.le_trans hB h.low, fun k hk => Nat.le_trans hB (h.glow k hk), h.ne, h.obj⟩

/-- What a call on the object at b does: only its own two blocks are touched; its row is the old one, or new. -/
structure Step (w : World) (b : Nat) (g : Option Nat) (w' : World) (g' : Option Nat) : Prop where
  fr : Fr (At b g) w w'
  row : g' = g ∨ ∃ k, g' = some k ∧ w.heap.size ≤ k
theorem Step.refl (w : World) (b : Nat) (g : Option Nat) : Step w b g w g := ⟨Fr.refl _ _, .inl rfl⟩
theorem Step.trans {w w1 w2 : World} {b : Nat} {g g1 g2 : Option Nat} (h : Step w b g w1 g1) (k : Step w1 b g1 w2 g2) : Step w b g w2 g2 := by
  refine ⟨⟨k.fr.os.trans h.fr.os, k.fr.tape.trans h.fr.tape, k.fr.output.trans h.fr.output, Nat.le_trans h.fr.size k.fr.size, fun i hi hs => ?_⟩, ?_⟩
  · refine (k.fr.block i (Nat.lt_of_lt_of_le hi h.fr.size) ?_).trans (h.fr.block i hi hs)
    rintro (e | e)
    · exact hs (.inl e)
    · rcases h.row with r | ⟨j, r, hj⟩
      · exact hs (.inr (e.trans r))
      · rw [r] at e; cases e; omega
  · rcases k.row with r | ⟨j, r, hj⟩
    · rw [r]; exact h.row
    · exact .inr ⟨j, r, Nat.le_trans h.fr.size hj⟩
theorem Step.of_fr {w w' : World} {b : Nat} {g : Option Nat} (h : Fr Nobody w w') : Step w b g w' g := ⟨h.mono (fun _ _ k => k.elim), .inl rfl⟩

end Go.Proofs.YtllhipfielgnbaaDoor
