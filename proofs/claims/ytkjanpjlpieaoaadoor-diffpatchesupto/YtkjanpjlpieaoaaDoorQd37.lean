/-
  Lists of entities that come in, and how many values they hold.
-/
import Derived.Test.YtkjanpjlpieaoaaDoorQd12
import Derived.Test.YtkjanpjlpieaoaaDoorQd05
import Derived.OpenShut
import Derived.Test.YtkjanpjlpieaoaaDoorQd36
namespace Go.Proofs.YtkjanpjlpieaoaaDoor
open Go.ChangeShapes Go.WideShapes Go.ChangeAt Go.RowKit Go.Deep
set_option linter.unusedVariables false
set_option maxRecDepth 100000

theorem bulk_pos {H : Type} (d : DataW H) : 1 ≤ Rows.uptoBulk d := by
  cases d with
  | lit v => cases v <;> simp [Rows.uptoBulk]
  | _ => simp [Rows.uptoBulk]
theorem bulk_in {H : Type} {d : DataW H} {m : List (DataW H)} (h : d ∈ m) : Rows.uptoBulk d ≤ Rows.uptoBulkAll m := by
  induction m with
  | nil => cases h
  | cons y m ih =>
    simp only [Rows.uptoBulkAll]
    rcases List.mem_cons.1 h with rfl | h
    · omega
    · have := ih h; omega
theorem bulk_sum {H : Type} {D : Nat → DataW H} {s : Nat → Nat} : ∀ (R : List Nat), (∀ i ∈ R, s i ≤ Rows.uptoBulk (D i)) → (R.map s).sum ≤ Rows.uptoBulkAll (R.map D) := by
  intro R
  induction R with
  | nil => intro _; exact Nat.zero_le _
  | cons i R ih =>
    intro h
    have h1 := h i (by simp)
    have h2 := ih (fun j hj => h j (List.mem_cons_of_mem _ hj))
    simp only [List.map_cons, List.sum_cons, Rows.uptoBulkAll]
    omega
theorem bulk_slice {H : Type} (a b : List (DataW H)) : Rows.uptoBulk (.slice a b) = Rows.uptoBulkAll a + Rows.uptoBulkAll b + 1 := by simp only [Rows.uptoBulk]
theorem bulk_agg {H : Type} (a : List (DataW H)) : Rows.uptoBulk (.agg a) = Rows.uptoBulkAll a + 1 := by simp only [Rows.uptoBulk]
/-- elements of a slice that comes in, and how many values they hold -/
theorem open_rowsB {H : Type} {enc : TypeId × Value → H} {P : Program} {W : World} {ao : Option Addr} {len cap : Nat} {d : DataW H} {p : List MemPlace} {α : Type} [Inhabited α] {t e : TypeId} (s : Nat) (ht : P.underlying t = some (.slice e)) (hs : P.cellsOf e = s) (h0s : 0 < s) (G : List Value → α → Prop) (sz : α → Nat)
    (hG : ∀ fuel cs x, DataW.trod enc P W 0 (fun _ => true) true fuel e cs = some x → ∃ q, G cs q ∧ sz q ≤ Rows.uptoBulk x.1)
    (h : DataW.Trod enc P W 0 (fun _ => true) true t (.slice ao len cap) d p) :
    ∃ Q : List α, Q.length = len ∧ len ≤ cap ∧ cap ≤ maxLen ∧ RowsAt G s W ao Q ∧ (Q.map sz).sum ≤ Rows.uptoBulk d := by
  obtain ⟨fuel, hf⟩ := h
  rcases open_slice ht hf with ⟨hc, hd⟩ | ⟨a, l, c, m, n, D, Pl, hc, _, hl, hm, hmm, hd, hx⟩
  · simp [Value.cells] at hc
    obtain ⟨rfl, rfl, rfl⟩ := hc
    exact ⟨[], rfl, Nat.le_refl _, Nat.zero_le _, .inl rfl, Nat.zero_le _⟩
  · simp [Value.cells] at hc
    obtain ⟨rfl, rfl, rfl⟩ := hc
    simp only [Prod.mk.injEq] at hd
    obtain ⟨rfl, _⟩ := hd
    have hml : len ≤ m := by rw [hmm]; simp; omega
    have each : ∀ i, i < len → ∃ q : α, sz q ≤ Rows.uptoBulk (D i) ∧ ∃ cs, G cs q ∧ cs.length = s ∧ ∀ r, r < s → W.cell? ((a.add (i * s)).add r) = cs[r]? := by
      intro i hi
      obtain ⟨cs', h1, h2⟩ := hx i (by omega)
      rw [hs] at h1
      obtain ⟨_, hlen, hcell⟩ := World.cells?_some h1
      obtain ⟨q, hq, hb⟩ := hG _ _ _ h2
      exact ⟨q, hb, cs', hq, hlen, fun r hr => by rw [hcell r hr, List.getElem?_eq_getElem (by omega)]⟩
    obtain ⟨f, hfn⟩ := choose_lt each
    refine ⟨(List.range len).map f, by simp, hl, hm, ?_, ?_⟩
    · by_cases h0 : len = 0
      · subst h0; left; rfl
      · right
        obtain ⟨g, o, spot⟩ := a
        obtain ⟨_, cs, _, hcl, hcc⟩ := hfn 0 (by omega)
        have h1 := hcc 0 h0s
        rw [List.getElem?_eq_getElem (by omega)] at h1
        have hsp : spot = none := by simpa [Addr.add] using World.cell?_spot h1
        subst hsp
        refine ⟨g, o, rfl, fun j q hj => ?_⟩
        have hjl : j < len := by
          have := (List.getElem?_eq_some_iff.1 hj).1
          simpa using this
        rw [List.getElem?_map, List.getElem?_range hjl] at hj
        simp only [Option.map_some, Option.some.injEq] at hj
        obtain ⟨_, cs, h1, h2, h3⟩ := hfn j hjl
        rw [hj] at h1
        refine ⟨cs, h1, h2, fun r hr => ?_⟩
        have := h3 r hr
        rw [addr_add, addr_add] at this
        exact this
    · have h1 := bulk_sum (D := D) (s := fun i => sz (f i)) (List.range len) (fun i hi => (hfn i (by simpa using hi)).1)
      rw [bulk_slice, List.map_map]
      have e : sz ∘ f = fun i => sz (f i) := rfl
      rw [e]
      omega
theorem cellsEnt : Tryd.prog.cellsOf 43 = 2 := by kernel_rfl
theorem cellsEntC : Tryd.prog.cellsOf 41 = 1 := by kernel_rfl
theorem cellsEntI : Tryd.prog.cellsOf 40 = 1 := by kernel_rfl
theorem duo {β : Type} {l : List β} (h : l.length = 2) : ∃ a b, l = [a, b] := by
  match l, h with
  | [a, b], _ => exact ⟨a, b, rfl⟩
def EntI (W : World) (cs : List Value) (x : EnE) : Prop := cs = x.cs ∧ x.id < 4294967296 ∧ IsComps W x.ao x.C.length x.cap x.C
theorem ones_sum {α : Type} (Q : List α) : (Q.map (fun _ => 1)).sum = Q.length := by
  induction Q with
  | nil => rfl
  | cons a t ih => rw [List.map_cons, List.sum_cons, ih, List.length_cons]; omega
/-- components that come in, and how many there are -/
theorem open_csB {H : Type} {enc : TypeId × Value → H} {W : World} {fuel : Nat} {cs : List Value} {x : DataW H × List MemPlace} (h : DataW.trod enc Tryd.prog W 0 (fun _ => true) true fuel 41 cs = some x) : ∃ ao cap C, cs = [.slice ao (List.length C) cap] ∧ IsComps W ao (List.length C) cap C ∧ C.length ≤ Rows.uptoBulk x.1 := by
  obtain ⟨ao, len, cap, hv⟩ : ∃ ao len cap, cs = [.slice ao len cap] := by
    rcases open_slice Tryd.underlying41 h with ⟨hc, _⟩ | ⟨a, l, c, m, n, D, Pl, hc, _⟩
    · exact ⟨_, _, _, hc⟩
    · exact ⟨_, _, _, hc⟩
  subst hv
  obtain ⟨d, p⟩ := x
  obtain ⟨Q, h1, h2, h3, h4, h5⟩ := open_rowsB 4 Tryd.underlying41 cellsComp (by decide) CompIs (fun _ => 1) (fun fuel cs x hx => by
    obtain ⟨k, a, b, c, g1, g2, g3, g4, hcs, _⟩ := comp_cells hx
    obtain ⟨n, rfl, hn⟩ := ok8_nat g1
    exact ⟨⟨n, a, b, c⟩, ⟨hcs, hn⟩, bulk_pos _⟩) (d := d) (p := p) ⟨fuel, h⟩
  subst h1
  refine ⟨ao, cap, Q, rfl, ⟨rfl, h2, h3, h4⟩, ?_⟩
  rw [ones_sum] at h5
  exact h5
theorem ent_is {H : Type} {enc : TypeId × Value → H} {W : World} (fuel : Nat) (cs : List Value) (x : DataW H × List MemPlace)
    (h : DataW.trod enc Tryd.prog W 0 (fun _ => true) true fuel 43 cs = some x) : ∃ e, EntI W cs e ∧ e.C.length + 1 ≤ Rows.uptoBulk x.1 := by
  obtain ⟨xs, n, _, hx, hl, hlen, hf⟩ := DataW.trod_struct Tryd.underlying43 h
  rw [cellsEnt] at hl
  obtain ⟨c0, c1, rfl⟩ := duo hl
  obtain ⟨y0, y1, rfl⟩ := duo hlen
  have h0 := hf 0 _ rfl
  have h1 := hf 1 _ rfl
  simp [cellsEntC, cellsEntI] at h0 h1
  obtain ⟨b, b0, _, wb⟩ := DataW.trod_int Tryd.underlying40 h0
  simp at b0
  subst b0
  have hb : 0 ≤ b ∧ b ≤ 4294967295 := by simpa [Lit.wf, IntKind.min, IntKind.max, IntKind.signed, IntKind.bits] using wb
  obtain ⟨bn, rfl⟩ := Int.eq_ofNat_of_zero_le hb.1
  obtain ⟨ao, cap, C, hv, hC, hs⟩ := open_csB h1
  simp at hv
  subst hv
  refine ⟨⟨bn, ao, cap, C⟩, ⟨rfl, by show bn < _; omega, hC⟩, ?_⟩
  subst hx
  show _ ≤ Rows.uptoBulk (.agg [y0.1, y1.1])
  rw [bulk_agg]
  have := bulk_in (d := y1.1) (m := [y0.1, y1.1]) (by simp)
  show C.length + 1 ≤ _
  omega
def IsEnts (w : World) (ao : Option Addr) (len cap : Nat) (Q : List EnE) : Prop := Q.length = len ∧ len ≤ cap ∧ cap ≤ maxLen ∧ RowsAt (EntI w) 2 w ao Q
theorem esz_sum (Q : List EnE) : (Q.map (fun x => x.C.length + 1)).sum = esz Q := by
  unfold esz
  induction Q with
  | nil => rfl
  | cons x t ih => simp only [List.map_cons, List.sum_cons, List.length_cons, csz, ih]; omega
theorem open_ents {H : Type} {enc : TypeId × Value → H} {W : World} {ao : Option Addr} {len cap : Nat} {d : DataW H} {p : List MemPlace}
    (h : DataW.Trod enc Tryd.prog W 0 (fun _ => true) true 22 (.slice ao len cap) d p) : ∃ Q, IsEnts W ao len cap Q ∧ esz Q ≤ Rows.uptoBulk d := by
  haveI : Inhabited EnE := ⟨⟨0, none, 0, []⟩⟩
  obtain ⟨Q, h1, h2, h3, h4, h5⟩ := open_rowsB 2 Tryd.underlying22 cellsEnt (by decide) (EntI W) (fun x => x.C.length + 1) (fun fuel cs x hx => ent_is fuel cs x hx) h
  rw [esz_sum] at h5
  exact ⟨Q, ⟨h1, h2, h3, h4⟩, h5⟩
theorem IsEnts.ents {w : World} {ao : Option Addr} {len cap : Nat} {Q : List EnE} (h : IsEnts w ao len cap Q) : EntsAt w ao Q ∧ EIn Q := by
  obtain ⟨hl, _, _, hR⟩ := h
  have key : ∀ x ∈ Q, x.id < 4294967296 ∧ IsComps w x.ao x.C.length x.cap x.C := by
    intro x hx
    obtain ⟨j, hj⟩ := List.getElem?_of_mem hx
    rcases hR with h | ⟨g, of, ha, hc⟩
    · subst h; simp at hj
    · obtain ⟨cs, ⟨_, h3, h4⟩, _⟩ := hc j x hj
      exact ⟨h3, h4⟩
  refine ⟨⟨?_, fun x hx => (key x hx).2.cs.1⟩, fun x hx => ⟨(key x hx).1, (key x hx).2.cs.2⟩⟩
  rcases hR with h | ⟨g, of, ha, hc⟩
  · exact .inl h
  · refine .inr ⟨g, of, ha, fun j x hj => ?_⟩
    obtain ⟨cs, ⟨rfl, _⟩, _, h3⟩ := hc j x hj
    exact ⟨h3 0 (by decide), h3 1 (by decide)⟩
end Go.Proofs.YtkjanpjlpieaoaaDoor

/-
  What a delta between two snapshots is made of.
-/
namespace Go.Proofs.YtkjanpjlpieaoaaDoor
open Go.RowKit
set_option linter.unusedVariables false
set_option maxRecDepth 100000

theorem Own.rowCap {w0 w : World} {l : List Thing} {e : TypeId} {z : Nat} {ao : Option Addr} {cap n : Nat} {xs : List Value} (h : Own w0 w (Row e z (.slice ao n cap) n xs :: l)) : n ≤ cap ∧ cap ≤ 9223372036854775807 := by
  rcases h.row.2 with ⟨hv, h0⟩ | ⟨g, cp, cur, hv, _, _, h3, h4, _⟩
  · simp only [Value.slice.injEq] at hv
    omega
  · simp only [Value.slice.injEq] at hv
    unfold maxLen at h4
    omega
end Go.Proofs.YtkjanpjlpieaoaaDoor

/-
  Whom a delta names.
-/
namespace Go.Proofs.YtkjanpjlpieaoaaDoor
open Go.RowKit
set_option linter.unusedVariables false
set_option maxRecDepth 100000

theorem fstE_some {L : List En} {i : Nat} {e : En} (h : fstE L i = some e) : e ∈ L ∧ e.1 = i := by
  unfold fstE at h
  exact ⟨List.mem_of_find?_eq_some h, by simpa using List.find?_some h⟩
theorem fstE_isNone {L : List En} {i : Nat} : (fstE L i).isNone = true ↔ ∀ x ∈ L, x.1 ≠ i := by
  unfold fstE
  simp
theorem up_eq {L : List En} (h : L.Pairwise (fun a b => a.1 < b.1)) {x y : En} (hx : x ∈ L) (hy : y ∈ L) (e : x.1 = y.1) : x = y := by
  induction L with
  | nil => cases hx
  | cons z t ih =>
    have h1 := List.pairwise_cons.1 h
    rcases List.mem_cons.1 hx with hxz | hxt
    · rcases List.mem_cons.1 hy with hyz | hyt
      · rw [hxz, hyz]
      · have := h1.1 y hyt; rw [hxz] at e; omega
    · rcases List.mem_cons.1 hy with hyz | hyt
      · have := h1.1 x hxt; rw [hyz] at e; omega
      · exact ih h1.2 hxt hyt
end Go.Proofs.YtkjanpjlpieaoaaDoor

/-
  What becomes of one entity, kind by kind.
-/
namespace Go.Proofs.YtkjanpjlpieaoaaDoor
open Go.RowKit
set_option linter.unusedVariables false
set_option maxRecDepth 100000

/-- the components of the kinds below k -/
def bel (B : List Cp) (k : Nat) : List Cp := B.filter (fun q => decide (q.k < k))
theorem bel_none {B : List Cp} {k : Nat} (h : ∀ q ∈ B, k ≤ q.k) : bel B k = [] := by
  unfold bel
  rw [List.filter_eq_nil_iff]
  intro q hq
  have := h q hq
  simp; omega
theorem bel_all {B : List Cp} (h : ∀ q ∈ B, q.k < 6) : bel B 6 = B := by
  unfold bel
  rw [List.filter_eq_self]
  intro q hq
  simpa using h q hq
theorem bel_succ {B : List Cp} (k : Nat) : B.Pairwise (fun x y => x.k < y.k) → bel B (k + 1) = bel B k ++ (fst B k).toList := by
  induction B with
  | nil => intro _; rfl
  | cons q t ih =>
    intro h
    have h1 := List.pairwise_cons.1 h
    by_cases c1 : q.k < k
    · have e1 : bel (q :: t) (k + 1) = q :: bel t (k + 1) := by
        have : q.k < k + 1 := by omega
        simp [bel, this]
      have e2 : bel (q :: t) k = q :: bel t k := by simp [bel, c1]
      have e3 : fst (q :: t) k = fst t k := by
        have : q.k ≠ k := by omega
        simp [fst, this]
      rw [e1, e2, e3, ih h1.2]; rfl
    · have n1 : bel t (k + 1) = [] := bel_none (fun x hx => by have := h1.1 x hx; omega)
      have n2 : bel (q :: t) k = [] := bel_none (fun x hx => by
        rcases List.mem_cons.1 hx with rfl | hx
        · omega
        · have := h1.1 x hx; omega)
      by_cases c2 : q.k = k
      · have e1 : bel (q :: t) (k + 1) = q :: bel t (k + 1) := by
          have : q.k < k + 1 := by omega
          simp [bel, this]
        have e3 : fst (q :: t) k = some q := by simp [fst, c2]
        rw [e1, n1, n2, e3]; rfl
      · have e1 : bel (q :: t) (k + 1) = [] := bel_none (fun x hx => by
          rcases List.mem_cons.1 hx with rfl | hx
          · omega
          · have := h1.1 x hx; omega)
        have e3 : fst (q :: t) k = none := by
          unfold fst
          rw [List.find?_eq_none]
          intro x hx
          rcases List.mem_cons.1 hx with rfl | hx
          · simpa using c2
          · have := h1.1 x hx; simp; omega
        rw [e1, n2, e3]; rfl
def newK (A B : List Cp) (k : Nat) : List Cp := (bel B k).filter (isNew A)
def setK (A B : List Cp) (k : Nat) : List Cp := (bel B k).filter (isSet A)
theorem newK_le (A B : List Cp) (k : Nat) : (newK A B k).length ≤ B.length := Nat.le_trans (List.length_filter_le _ _) (List.length_filter_le _ _)
theorem setK_le (A B : List Cp) (k : Nat) : (setK A B k).length ≤ B.length := Nat.le_trans (List.length_filter_le _ _) (List.length_filter_le _ _)
theorem k_none {A B : List Cp} {k : Nat} (hB : B.Pairwise (fun x y => x.k < y.k)) (h : fst B k = none) : newK A B (k + 1) = newK A B k ∧ setK A B (k + 1) = setK A B k := by
  unfold newK setK
  rw [bel_succ k hB, h]
  simp
theorem k_new {A B : List Cp} {k : Nat} {y : Cp} (hB : B.Pairwise (fun x y => x.k < y.k)) (h : fst B k = some y) (ha : fst A k = none) : newK A B (k + 1) = newK A B k ++ [y] ∧ setK A B (k + 1) = setK A B k := by
  have hy := (fst_some h).2
  have e1 : isNew A y = true := by unfold isNew; rw [hy, fst_has ha]; rfl
  have e2 : isSet A y = false := by unfold isSet; rw [hy, ha]
  unfold newK setK
  rw [bel_succ k hB, h]
  simp [e1, e2]
theorem k_set {A B : List Cp} {k : Nat} {x y : Cp} (hB : B.Pairwise (fun x y => x.k < y.k)) (h : fst B k = some y) (ha : fst A k = some x) : newK A B (k + 1) = newK A B k ∧ setK A B (k + 1) = setK A B k ++ (if decide (x = y) = true then [] else [y]) := by
  have hy := (fst_some h).2
  have hk := mem_hasK (fst_some ha).1
  rw [(fst_some ha).2] at hk
  have e1 : isNew A y = false := by unfold isNew; rw [hy, hk]; rfl
  have e2 : isSet A y = !decide (x = y) := by unfold isSet; rw [hy, ha]
  unfold newK setK
  rw [bel_succ k hB, h]
  cases hd : decide (x = y) <;> simp [e1, e2, hd]
theorem lostN_lt (A B : List Cp) (k : Nat) : lostN A B k < 2 ^ k := by
  induction k with
  | zero => simp [lostN]
  | succ n ih =>
    rw [lostN, Nat.pow_succ]
    split <;> omega
theorem lost_yes {A B : List Cp} {k : Nat} {x : Cp} (ha : fst A k = some x) (hb : fst B k = none) : lostN A B (k + 1) = lostN A B k + 2 ^ k := by
  have hk := mem_hasK (fst_some ha).1
  rw [(fst_some ha).2] at hk
  rw [lostN, hk, fst_has hb]; simp
theorem lost_no {A B : List Cp} {k : Nat} (h : fst A k = none ∨ ∃ y, fst B k = some y) : lostN A B (k + 1) = lostN A B k := by
  rw [lostN]
  rcases h with h | ⟨y, h⟩
  · rw [fst_has h]; simp
  · have hk := mem_hasK (fst_some h).1
    rw [(fst_some h).2] at hk
    rw [hk]; simp
theorem chg1_k {i j : Nat} {A B : List Cp} (hB : ∀ q ∈ B, q.k < 6) : chg1 (i, A) (j, B) = ⟨j, lostN A B 6, newK A B 6, setK A B 6⟩ := by
  unfold chg1 newK setK lostm
  rw [bel_all hB]
theorem shl_u8 (k : Nat) (hk : k < 6) : IntKind.u8.wrap (1 * 2 ^ k) = ((2 ^ k : Nat) : Int) := by
  have h : k = 0 ∨ k = 1 ∨ k = 2 ∨ k = 3 ∨ k = 4 ∨ k = 5 := by omega
  rcases h with rfl | rfl | rfl | rfl | rfl | rfl <;> rfl
end Go.Proofs.YtkjanpjlpieaoaaDoor

