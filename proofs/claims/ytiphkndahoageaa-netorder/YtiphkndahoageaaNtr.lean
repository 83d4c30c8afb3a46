/-
  Lists of bytes that come in, none of them too long for a copy.
-/
import Derived.Test.YtiphkndahoageaaNtn
import Derived.SizedLaws
namespace Go.Proofs.Ytiphkndahoageaa
open Go.ChangeShapes Go.WideShapes Go.ChangeAt Go.RowKit Go.Deep
set_option linter.unusedVariables false
set_option maxRecDepth 100000

theorem weights_all {H : Type} (P : Program) (e : TypeId) (l : List (DataW H)) (d : DataW H) (hd : d ∈ l) (y : Nat) (hy : y ∈ d.weights P e) : y ∈ DataW.weightsAll P e l := by
  induction l with
  | nil => simp at hd
  | cons x l ih =>
    rw [DataW.weightsAll]
    rcases List.mem_cons.1 hd with rfl | hd
    · exact List.mem_append_left _ hy
    · exact List.mem_append_right _ (ih hd)
theorem open_rowsD {H : Type} {enc : TypeId × Value → H} {P : Program} {W : World} {ao : Option Addr} {len cap : Nat} {d : DataW H} {p : List MemPlace} {α : Type} [Inhabited α] {t e : TypeId} (s : Nat) (ht : P.underlying t = some (.slice e)) (hs : P.cellsOf e = s) (h0s : 0 < s) (G : List Value → α → Prop) (M : Nat)
    (hG : ∀ fuel cs x, DataW.trod enc P W 0 (fun _ => true) true fuel e cs = some x → (∀ y ∈ x.1.weights P e, y ≤ M) → ∃ q, G cs q)
    (h : DataW.Trod enc P W 0 (fun _ => true) true t (.slice ao len cap) d p) (hM : ∀ y ∈ d.weights P t, y ≤ M) :
    ∃ Q : List α, Q.length = len ∧ len ≤ cap ∧ cap ≤ maxLen ∧ RowsAt G s W ao Q := by
  obtain ⟨fuel, hf⟩ := h
  rcases open_slice ht hf with ⟨hc, _⟩ | ⟨a, l, c, m, n, D, Pl, hc, _, hl, hm, hmm, hxx, hx⟩
  · simp [Value.cells] at hc
    obtain ⟨rfl, rfl, rfl⟩ := hc
    exact ⟨[], rfl, Nat.le_refl _, Nat.zero_le _, .inl rfl⟩
  · simp [Value.cells] at hc
    obtain ⟨rfl, rfl, rfl⟩ := hc
    have hd : d = .slice ((List.range len).map D) ((List.range (m - len)).map fun j => D (len + j)) := (Prod.mk.inj hxx).1
    have hml : len ≤ m := by rw [hmm]; simp; omega
    have hW : ∀ i, i < len → ∀ y ∈ (D i).weights P e, y ≤ M := by
      intro i hi y hy
      apply hM
      rw [hd, DataW.weights, ht]
      refine List.mem_cons_of_mem _ (List.mem_append_left _ (weights_all P e _ (D i) ?_ y hy))
      exact List.mem_map.2 ⟨i, List.mem_range.2 hi, rfl⟩
    have each : ∀ i, i < len → ∃ q : α, ∃ cs, G cs q ∧ cs.length = s ∧ ∀ r, r < s → W.cell? ((a.add (i * s)).add r) = cs[r]? := by
      intro i hi
      obtain ⟨cs', h1, h2⟩ := hx i (by omega)
      rw [hs] at h1
      obtain ⟨_, hlen, hcell⟩ := World.cells?_some h1
      obtain ⟨q, hq⟩ := hG _ _ _ h2 (hW i hi)
      exact ⟨q, cs', hq, hlen, fun r hr => by rw [hcell r hr, List.getElem?_eq_getElem (by omega)]⟩
    obtain ⟨f, hfn⟩ := choose_lt each
    refine ⟨(List.range len).map f, by simp, hl, hm, ?_⟩
    by_cases h0 : len = 0
    · subst h0; left; rfl
    · right
      obtain ⟨g, o, spot⟩ := a
      obtain ⟨cs, _, hcl, hcc⟩ := hfn 0 (by omega)
      have h1 := hcc 0 h0s
      rw [List.getElem?_eq_getElem (by omega)] at h1
      have hsp : spot = none := by simpa [Addr.add] using World.cell?_spot h1
      subst hsp
      refine ⟨g, o, rfl, fun j q hj => ?_⟩
      have hjl : j < len := by
        have := (List.getElem?_eq_some_iff.1 hj).1
        simpa using this
      rw [List.getElem?_map, List.getElem?_range hjl] at hj
      simp at hj
      subst hj
      obtain ⟨cs, h1, h2, h3⟩ := hfn j hjl
      exact ⟨cs, h1, h2, fun r hr => by rw [← h3 r hr, addr_add, addr_add]⟩
/-- bytes that came in -/
structure FrE where
  a : Option Addr
  l : Nat
  c : Nat
  P : List Nat
instance : Inhabited FrE := ⟨⟨none, 0, 0, []⟩⟩
def SlT (W : World) (cs : List Value) (q : FrE) : Prop := cs = [.slice q.a q.l q.c] ∧ In W q.a q.l q.c q.P ∧ q.l ≤ 140737488351232
theorem bytesB : Try.prog.bytesOf 5 = 1 := by kernel_rfl
theorem sl_is {H : Type} {enc : TypeId × Value → H} {W : World} (fuel : Nat) (cs : List Value) (x : DataW H × List MemPlace)
    (h : DataW.trod enc Try.prog W 0 (fun _ => true) true fuel 31 cs = some x) (hM : ∀ y ∈ x.1.weights Try.prog 31, y ≤ reachBytes) : ∃ q, SlT W cs q := by
  have key : ∃ ao len cap zs, cs = [.slice ao len cap] ∧ IsRow .u8 W ao len cap zs ∧ len ≤ 140737488351232 := by
    rcases open_ints Try.underlying31 Try.underlying5 (by kernel_rfl) h with ⟨hcs, _⟩ | ⟨a, l, c, zs, hcs, _, hl, hm, hz, hx, hcell, hwz⟩
    · exact ⟨none, 0, 0, [], hcs, .inl ⟨rfl, rfl, rfl, rfl⟩, by omega⟩
    · refine ⟨_, _, _, zs, hcs, .inr ⟨_, rfl, hl, hm, by simpa using hz, hcell, hwz⟩, ?_⟩
      have h1 : x.1 = .slice (lits .u8 (zs.take l)) (lits .u8 (zs.drop l)) := by rw [hx]
      have h2 := hM ((lits .u8 (zs.take l) : List (DataW H)).length + (lits .u8 (zs.drop l) : List (DataW H)).length) (by
        rw [h1, DataW.weights, Try.underlying31]
        simp [bytesB])
      simp [lits, reachBytes] at h2
      have hz2 : zs.length = c := by simpa using hz
      omega
  obtain ⟨ao, len, cap, zs, hv, hr, hb⟩ := key
  obtain ⟨_, P, hP⟩ := in_row hr
  exact ⟨⟨ao, len, cap, P⟩, hv, hP, hb⟩
def IsFrs (w : World) (ao : Option Addr) (len cap : Nat) (Q : List FrE) : Prop := Q.length = len ∧ len ≤ cap ∧ cap ≤ maxLen ∧ RowsAt (SlT w) 1 w ao Q
theorem open_frs {H : Type} {enc : TypeId × Value → H} {W : World} {ao : Option Addr} {len cap : Nat} {d : DataW H} {p : List MemPlace}
    (h : DataW.Trod enc Try.prog W 0 (fun _ => true) true 56 (.slice ao len cap) d p) (hM : ∀ y ∈ d.weights Try.prog 56, y ≤ reachBytes) : ∃ Q, IsFrs W ao len cap Q :=
  open_rowsD 1 Try.underlying56 cellsOS (by decide) (SlT W) reachBytes (fun fuel cs x hx hy => sl_is fuel cs x hx hy) h hM
theorem fr_at {W w : World} {ao : Option Addr} {Q : List FrE} (h : RowsAt (SlT W) 1 w ao Q) (k : Nat) (hk : k < Q.length) : ∃ g o q, ao = some ⟨g, o, none⟩ ∧ Q[k]? = some q ∧ In W q.a q.l q.c q.P ∧ q.l ≤ 140737488351232 ∧ w.cell? ⟨g, o + k, none⟩ = some (.slice q.a q.l q.c) := by
  obtain ⟨q, hq⟩ : ∃ q, Q[k]? = some q := ⟨_, List.getElem?_eq_getElem hk⟩
  rcases h with h | ⟨g, o, ha, hc⟩
  · subst h; simp at hq
  · obtain ⟨cs, ⟨rfl, h4, h5⟩, _, h3⟩ := hc k q hq
    have := h3 0 (by decide)
    exact ⟨g, o, q, ha, hq, h4, h5, by simpa using this⟩
end Go.Proofs.Ytiphkndahoageaa
