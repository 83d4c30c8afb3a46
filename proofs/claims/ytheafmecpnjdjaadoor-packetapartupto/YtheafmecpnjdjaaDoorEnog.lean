/-
  Slices of numbers that can be read; Same of two lists of IDs.
-/
import Derived.Test.YtheafmecpnjdjaaDoorYa
import Derived.Test.YtheafmecpnjdjaaDoorYx
import Derived.Test.YtheafmecpnjdjaaDoorPkpg
import Derived.Test.YtheafmecpnjdjaaDoorEnfg
namespace Go.Proofs.YtheafmecpnjdjaaDoor
open Go.RowKit
set_option linter.unusedVariables false

/-- a slice that can be read: these numbers -/
def Nums (k : IntKind) (w : World) (v : Value) (X : List Nat) : Prop := ∃ ao cap, v = .slice ao X.length cap ∧ (X = [] ∨ ∃ g o, ao = some ⟨g, o, none⟩ ∧ ∀ (j x : Nat), X[j]? = some x → w.cell? ⟨g, o + j, none⟩ = some (.int k (x : Int)))
theorem Own.nums {w0 w : World} {l : List Thing} {e : TypeId} {k : IntKind} {v : Value} {X : List Nat} (h : Own w0 w (Row e 1 v X.length (irow k X) :: l)) : Nums k w v X := by
  have r := h.row
  obtain ⟨ao, cap, rfl⟩ := row_any r
  refine ⟨ao, cap, rfl, ?_⟩
  by_cases h0 : X.length = 0
  · exact .inl (List.eq_nil_of_length_eq_zero h0)
  · right
    obtain ⟨g, c, he, _⟩ := row_shape r (by omega)
    cases he
    refine ⟨g, 0, rfl, fun j x hx => ?_⟩
    have hj := (List.getElem?_eq_some_iff.1 hx).1
    rw [Nat.zero_add, r.cellAt _ (by omega), getElem?_irow, hx]; rfl
theorem Nums.quiet {k : IntKind} {w w' : World} {v : Value} {X : List Nat} (h : Nums k w v X) (hf : Fr Nobody w w') : Nums k w' v X := by
  obtain ⟨ao, cap, rfl, h⟩ := h
  refine ⟨ao, cap, rfl, ?_⟩
  rcases h with h | ⟨g, o, ha, hc⟩
  · exact .inl h
  · refine .inr ⟨g, o, ha, fun j x hx => ?_⟩
    have h1 := hc j x hx
    exact (hf.cell (p := ⟨g, o + j, none⟩) (World.block_lt_of_cell? w _ h1) id).trans h1

end Go.Proofs.YtheafmecpnjdjaaDoor


/-
  Lists of IDs, changes, deltas: are they alike?
-/
namespace Go.Proofs.YtheafmecpnjdjaaDoor
open Go.RowKit
set_option linter.unusedVariables false
set_option maxRecDepth 100000

instance : DecidableEq Chg := fun x y => decidable_of_iff (x.id = y.id ∧ x.lost = y.lost ∧ x.new = y.new ∧ x.set = y.set) (by cases x; cases y; simp)
instance : DecidableEq Dl := fun x y => decidable_of_iff (x.gone = y.gone ∧ x.come = y.come ∧ x.chg = y.chg) (by cases x; cases y; simp)
theorem Nums.at {k : IntKind} {w : World} {ao : Option Addr} {n cap : Nat} {X : List Nat} (h : Nums k w (.slice ao n cap) X) {j x : Nat} (hx : X[j]? = some x) : ∃ g o, ao = some ⟨g, o, none⟩ ∧ w.cell? ⟨g, o + j, none⟩ = some (.int k (x : Int)) := by
  obtain ⟨a, c, e, h⟩ := h
  simp only [Value.slice.injEq] at e
  rcases h with h | ⟨g, o, ha, hc⟩
  · rw [h] at hx; simp at hx
  · exact ⟨g, o, by rw [e.1, ha], hc j x hx⟩
theorem Nums.len {k : IntKind} {w : World} {ao : Option Addr} {n cap : Nat} {X : List Nat} (h : Nums k w (.slice ao n cap) X) : X.length = n := by
  obtain ⟨a, c, e, h⟩ := h
  simp only [Value.slice.injEq] at e
  exact e.2.1.symm
/-- a list of changes that can be read -/
def ChsAt (w : World) (ao : Option Addr) (L : List ChE) : Prop := (L = [] ∨ ∃ g o, ao = some ⟨g, o, none⟩ ∧ ∀ (j : Nat) x, L[j]? = some x → w.cell? ⟨g, o + j * 4, none⟩ = some (.int .u32 (x.id : Int)) ∧ w.cell? ⟨g, o + j * 4 + 1, none⟩ = some (.int .u8 (x.lost : Int)) ∧ w.cell? ⟨g, o + j * 4 + 2, none⟩ = some (.slice x.na x.N.length x.nc) ∧ w.cell? ⟨g, o + j * 4 + 3, none⟩ = some (.slice x.sa x.S.length x.sc)) ∧ ∀ x ∈ L, Cs w x.na x.N ∧ Cs w x.sa x.S
theorem ChsAt.quiet {w w' : World} {ao : Option Addr} {L : List ChE} (h : ChsAt w ao L) (hf : Fr Nobody w w') : ChsAt w' ao L := by
  refine ⟨?_, fun x hx => ⟨(h.2 x hx).1.quiet hf, (h.2 x hx).2.quiet hf⟩⟩
  rcases h.1 with h | ⟨g, o, ha, hc⟩
  · exact .inl h
  · refine .inr ⟨g, o, ha, fun j x hx => ?_⟩
    obtain ⟨h0, h1, h2, h3⟩ := hc j x hx
    have hb := World.block_lt_of_cell? w _ h0
    exact ⟨(hf.cell (p := ⟨g, o + j * 4, none⟩) hb id).trans h0, (hf.cell (p := ⟨g, o + j * 4 + 1, none⟩) hb id).trans h1, (hf.cell (p := ⟨g, o + j * 4 + 2, none⟩) hb id).trans h2, (hf.cell (p := ⟨g, o + j * 4 + 3, none⟩) hb id).trans h3⟩
theorem ChsAt.at {w : World} {ao : Option Addr} {L : List ChE} (h : ChsAt w ao L) {j : Nat} {x : ChE} (hx : L[j]? = some x) : ∃ g o, ao = some ⟨g, o, none⟩ ∧ (w.cell? ⟨g, o + j * 4, none⟩ = some (.int .u32 (x.id : Int)) ∧ w.cell? ⟨g, o + j * 4 + 1, none⟩ = some (.int .u8 (x.lost : Int)) ∧ w.cell? ⟨g, o + j * 4 + 2, none⟩ = some (.slice x.na x.N.length x.nc) ∧ w.cell? ⟨g, o + j * 4 + 3, none⟩ = some (.slice x.sa x.S.length x.sc)) ∧ Cs w x.na x.N ∧ Cs w x.sa x.S := by
  rcases h.1 with h0 | ⟨g, o, ha, hc⟩
  · subst h0; simp at hx
  · exact ⟨g, o, ha, hc j x hx, h.2 x (List.mem_of_getElem? hx)⟩
def chv (L : List ChE) : List Chg := L.map ChE.v
theorem chv_len (L : List ChE) : (chv L).length = L.length := by simp [chv]
theorem chv_at {L : List ChE} {j : Nat} {x : ChE} (h : L[j]? = some x) : (chv L)[j]? = some x.v := by simp [chv, h]
/-- how many components in changes -/
def hsz : List ChE → Nat
  | [] => 0
  | x :: t => x.N.length + x.S.length + hsz t
theorem hsz_mem {L : List ChE} {x : ChE} (h : x ∈ L) : x.N.length + x.S.length ≤ hsz L := by
  induction L with
  | nil => cases h
  | cons y t ih =>
    simp only [hsz]
    rcases List.mem_cons.1 h with rfl | h
    · omega
    · have := ih h; omega
theorem chg_dec (x y : ChE) : decide (x.v = y.v) = (decide (x.id = y.id) && decide (x.lost = y.lost) && decide (x.N = y.N) && decide (x.S = y.S)) := by
  unfold ChE.v
  rw [Bool.eq_iff_iff]
  simp
  constructor
  · rintro ⟨a, b, c, d⟩; exact ⟨⟨⟨a, b⟩, c⟩, d⟩
  · rintro ⟨⟨⟨a, b⟩, c⟩, d⟩; exact ⟨a, b, c, d⟩
end Go.Proofs.YtheafmecpnjdjaaDoor


/-
  Deltas held against each other: the program's same, the document's Same.
-/
namespace Go.Proofs.YtheafmecpnjdjaaDoor
open Go.RowKit
set_option linter.unusedVariables false
set_option maxRecDepth 100000

/-- a delta that can be read -/
structure DlAt (w : World) (d : DlE) : Prop where
  g : Nums .u32 w (.slice d.ga d.G.length d.gc) d.G
  m : EntsAt w d.ma d.M
  h : ChsAt w d.ha d.H
theorem DlAt.quiet {w w' : World} {d : DlE} (h : DlAt w d) (hf : Fr Nobody w w') : DlAt w' d := ⟨h.g.quiet hf, h.m.quiet hf, h.h.quiet hf⟩
/-- not too much of it -/
structure DlIn (d : DlE) : Prop where
  g : d.G.length ≤ 1000000
  m : esz d.M ≤ 1000000
  h : d.H.length + hsz d.H ≤ 1000000
  l : ∀ x ∈ d.H, x.lost < 256
theorem dl_dec (a b : DlE) : decide (a.v = b.v) = (decide (a.G = b.G) && decide (evs a.M = evs b.M) && decide (chv a.H = chv b.H)) := by
  unfold DlE.v chv
  rw [Bool.eq_iff_iff]
  simp
  constructor
  · rintro ⟨a, b, c⟩; exact ⟨⟨a, b⟩, c⟩
  · rintro ⟨⟨a, b⟩, c⟩; exact ⟨a, b, c⟩
theorem hrows_in {H : List ChE} {x : ChE} (hx : x ∈ H) : ∃ A B, hrows H = A ++ (x.nrow :: x.srow :: B) := by
  obtain ⟨L1, L2, rfl⟩ := List.append_of_mem hx
  exact ⟨hrows L1, hrows L2, by simp [hrows, ChE.rows]⟩
theorem Own.dlAt {w0 w : World} {d : DlE} {l : List Thing} (h : Own w0 w (d.things ++ l)) : DlAt w d := by
  have h1 : Own w0 w (grow1 d.G d.ga d.gc :: EntsT d.ma d.mc d.M :: hrow1 d.H d.ha d.hc :: (hrows d.H ++ l)) := h
  refine ⟨Own.nums h1, h1.two.entsAt, ?_, fun x hx => ?_⟩
  · have hr := h1.three.row
    rcases Nat.eq_zero_or_pos d.H.length with h0 | h0
    · exact .inl (List.eq_nil_of_length_eq_zero h0)
    · obtain ⟨g, cp, hv, _⟩ := row_shape hr h0
      refine .inr ⟨g, 0, (Value.slice.inj hv).1, fun j x hx => ?_⟩
      have hva := (Value.slice.inj hv).1
      rw [hva] at hr
      have hj := (List.getElem?_eq_some_iff.1 hx).1
      rw [Nat.zero_add, hr.cellAt _ (by omega), hr.cellAt _ (by omega), hr.cellAt _ (by omega), hr.cellAt _ (by omega)]
      exact ⟨cat_at ChE.cs 4 (fun _ => rfl) d.H j 0 x hx (by decide), cat_at ChE.cs 4 (fun _ => rfl) d.H j 1 x hx (by decide), cat_at ChE.cs 4 (fun _ => rfl) d.H j 2 x hx (by decide), cat_at ChE.cs 4 (fun _ => rfl) d.H j 3 x hx (by decide)⟩
  · obtain ⟨A, B, e⟩ := hrows_in hx
    have h2 := h1.tail.tail.tail
    rw [e, List.append_assoc] at h2
    have h3 : Own w0 w (x.nrow :: x.srow :: (B ++ l)) := h2.dropA
    exact ⟨Own.cs (h3.view (by decide)) rfl, Own.cs (h3.two.view (by decide)) rfl⟩
end Go.Proofs.YtheafmecpnjdjaaDoor

