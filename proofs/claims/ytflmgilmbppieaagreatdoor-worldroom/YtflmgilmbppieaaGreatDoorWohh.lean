/-
  Rows that the library's sort has sorted: as things.
-/
import Derived.Test.YtflmgilmbppieaaGreatDoorYa
import Derived.Shelf.SlSortCmp.WholeK
import Derived.Test.YtflmgilmbppieaaGreatDoorXm
import Derived.Maps.OwnSet
import Derived.Maps.Range
import Derived.DeepKeys4
import Derived.Deep.RegionHeld3
import Derived.Shelf.SlGeneric
namespace Go.Proofs.YtflmgilmbppieaaGreatDoor
open Go.RowKit Go.Sort Go.Shelf
set_option linter.unusedVariables false
set_option maxRecDepth 100000

section
variable {α : Type} {enc : α → List Value} {k : Nat}
theorem cat_lenK (hk : ∀ x, (enc x).length = k) (L : List α) : (cat enc L).length = L.length * k := by
  induction L with
  | nil => simp [cat]
  | cons a L ih =>
    have : cat enc (a :: L) = enc a ++ cat enc L := by simp [cat]
    rw [this, List.length_append, ih, hk, List.length_cons, Nat.succ_mul, Nat.add_comm]
variable [Inhabited α]
theorem flat_cat (hk : ∀ x, (enc x).length = k) (hk0 : 0 < k) (L : List α) : (flatK enc k L.toArray).toList = cat enc L := by
  apply List.ext_getElem?
  intro t
  by_cases ht : t < L.length * k
  · have h1 : t < (flatK enc k L.toArray).size := by rw [size_flatK]; simpa using ht
    have h2 := get_flatK enc k L.toArray t (by simpa using ht)
    have hd : t / k < L.length := Nat.div_lt_of_lt_mul (by rw [Nat.mul_comm]; exact ht)
    have hr : t % k < k := Nat.mod_lt _ hk0
    rw [Array.getElem?_toList, Array.getElem?_eq_getElem h1, ← getElem!_pos (flatK enc k L.toArray) t h1, h2]
    have e := cat_at enc k hk L (t / k) (t % k) L[t / k] (List.getElem?_eq_getElem hd) hr
    rw [Nat.mul_comm, Nat.div_add_mod] at e
    rw [e]
    have e3 : L.toArray[t / k]! = L[t / k] := by rw [getElem!_pos L.toArray (t / k) (by simpa using hd)]; simp
    rw [e3]
    have hl : t % k < (enc L[t / k]).length := by rw [hk]; exact hr
    rw [List.getElem?_eq_getElem hl, getElem!_pos (enc L[t / k]) (t % k) hl]
  · have h1 : (flatK enc k L.toArray).size ≤ t := by rw [size_flatK]; simpa using Nat.le_of_not_lt ht
    rw [Array.getElem?_toList, Array.getElem?_eq_none h1, List.getElem?_eq_none (by rw [cat_lenK hk]; omega)]
variable {w0 w : World} {l : List Thing} {e : TypeId} {g cap : Nat} {L L' : List α}
theorem Own.holdsK (hk : ∀ x, (enc x).length = k) (hk0 : 0 < k) (h : Own w0 w (Row e k (.slice (some ⟨g, 0, none⟩) L.length cap) L.length (cat enc L) :: l)) : HoldsK enc k w g 0 L.toArray := by
  intro j hj
  have hr := h.row
  have hj2 : j < L.length * k := by rw [size_flatK] at hj; simpa using hj
  refine ⟨?_, hr.frozenAt _⟩
  rw [Nat.zero_add, hr.cellAt _ hj2, ← flat_cat hk hk0, Array.getElem?_toList, Array.getElem?_eq_getElem hj, getElem!_pos _ j hj]
  rfl
theorem sort_heap (m : Nat) (d : Array α) (os : Array Obj) (j : Nat) (hj : j < w.heap.size) : (sortWorldK enc k w g 0 m d os).heap[j]? = if g = j then (w.heap[j]?).map (onCells (putCells id 0 (flatK enc k d))) else w.heap[j]? := by
  show ((w.heap.modify g (onCells (putCells id 0 (flatK enc k d)))) ++ os)[j]? = _
  rw [Array.getElem?_append_left (by simpa using hj), Array.getElem?_modify]
theorem Own.sortK (hk : ∀ x, (enc x).length = k) (hk0 : 0 < k) (h : Own w0 w (Row e k (.slice (some ⟨g, 0, none⟩) L.length cap) L.length (cat enc L) :: l)) (hl : L'.length = L.length) (m : Nat) (os : Array Obj) : Own w0 (sortWorldK enc k w g 0 m L'.toArray os) (Row e k (.slice (some ⟨g, 0, none⟩) L'.length cap) L'.length (cat enc L') :: l) := by
  obtain ⟨h1, h2⟩ := h.row
  rcases h2 with ⟨hv, _⟩ | ⟨g', cap', cur, hv, hb, hgg, hc1, hc2, hc3, hc4⟩
  · cases hv
  · obtain ⟨rfl, rfl⟩ : g' = g ∧ cap' = cap := by
      simp only [Value.slice.injEq, Option.some.injEq, Addr.mk.injEq] at hv
      exact ⟨hv.1.1.symm, hv.2.2.symm⟩
    have hlt : g' < w.heap.size := (Array.getElem?_eq_some_iff.1 hgg).1
    refine h.grow (v' := .slice (some ⟨g', 0, none⟩) L'.length cap') ⟨by rw [cat_lenK hk], .inr ⟨g', cap', putCells id 0 (flatK enc k L'.toArray) cur, rfl, Nat.zero_le _, ?_, by omega, hc2, ?_, ?_⟩⟩ ⟨rfl, rfl, rfl, ?_, ?_⟩ (fun q hq => .inl hq)
    · rw [sort_heap _ _ _ _ hlt, if_pos rfl, hgg]
      rfl
    · simp [putCells, hc3]
    · apply List.ext_getElem?
      intro t
      rw [← flat_cat hk hk0]
      by_cases ht : t < L'.length * k
      · have h1' : t < (flatK enc k L'.toArray).size := by rw [size_flatK]; simpa using ht
        have htc : t < cur.size := by
          rw [hc3]
          have : L'.length * k ≤ cap' * k := Nat.mul_le_mul_right k (by omega)
          omega
        rw [List.getElem?_take_of_lt ht, Array.getElem?_toList, Array.getElem?_toList]
        simp only [putCells, Array.getElem?_mapIdx, Array.getElem?_eq_getElem htc, Option.map_some, Nat.zero_le, true_and, Nat.zero_add, Nat.sub_zero]
        rw [if_pos h1', Array.getElem?_eq_getElem h1', getElem!_pos _ t h1']
        rfl
      · rw [List.getElem?_eq_none (by rw [List.length_take]; omega), List.getElem?_eq_none (by rw [Array.length_toList, size_flatK]; simpa using Nat.le_of_not_lt ht)]
    · show w.heap.size ≤ ((w.heap.modify g' (onCells (putCells id 0 (flatK enc k L'.toArray)))) ++ os).size
      simp
    · intro q hq hne
      rw [sort_heap _ _ _ _ hq, if_neg (fun e => hne (by rw [← e]; rfl))]
end
end Go.Proofs.YtflmgilmbppieaaGreatDoor

/-
  The map of what was seen: by entity and kind.
-/
namespace Go.Proofs.YtflmgilmbppieaaGreatDoor
open Go.RowKit Go.Maps
set_option linter.unusedVariables false
set_option maxRecDepth 100000

def spv (id k : Nat) : Value := .agg #[.int .u32 (id : Int), .int .u8 (k : Int)]
def spl (id k : Nat) : Lit := .string (keyBytes [.int .u32 (id : Int), .int .u8 (k : Int)])
theorem spCells : Tryz.prog.cellsOf 189 = 2 := by kernel_rfl
theorem spCells1 : Tryz.prog.cellsOf 38 = 1 := by kernel_rfl
theorem spCells2 : Tryz.prog.cellsOf 5 = 1 := by kernel_rfl
theorem spKey : Tryz.prog.keyType 189 = true := by kernel_rfl
theorem spLaid : laidOutB Tryz.prog = true := by kernel_rfl
theorem spSize : ∃ m, Tryz.prog.types.size = m + 1 := ⟨Tryz.prog.types.size - 1, by have : 0 < Tryz.prog.types.size := of_decide_eq_true (by kernel_rfl); omega⟩
theorem keySpot : Keyed Tryz.prog 189 := Keyed.of_law (deep_law_laid spLaid (m := 2) (by omega) (of_decide_eq_true (by kernel_rfl)) (by kernel_rfl) (by rw [Tryz.underlying189]))
theorem wfU32 {n : Nat} (h : n < 4294967296) : (Lit.int .u32 (n : Int)).wf = true := by
  simp [Lit.wf, IntKind.min, IntKind.max, IntKind.signed, IntKind.bits]; omega
theorem wfU8 {n : Nat} (h : n < 256) : (Lit.int .u8 (n : Int)).wf = true := by
  simp [Lit.wf, IntKind.min, IntKind.max, IntKind.signed, IntKind.bits]; omega
theorem spk (id k : Nat) (h1 : id < 4294967296) (h2 : k < 256) : keyOf Tryz.prog 189 (spv id k) = some (spl id k) := by
  obtain ⟨m, hm⟩ := spSize
  have hf : (spv id k).formed Tryz.prog 189 = true := by simp [spv, Value.formed, Tryz.underlying189, spCells]
  have hl : Tryz.prog.keyLits (Tryz.prog.types.size + 1) 189 (spv id k).cells.toList = some [.int .u32 (id : Int), .int .u8 (k : Int)] := by
    rw [hm]
    simp [Program.keyLits, Tryz.underlying189, Tryz.underlying38, Tryz.underlying5, spCells, spCells1, spCells2, spv, Value.cells, wfU32 h1, wfU8 h2]
  unfold keyOf
  rw [Tryz.underlying189]
  simp only [spKey, hf, hl, Bool.and_self, if_true, Option.map_some]
  rfl
theorem lit1 {P : Program} {t : TypeId} {q : IntKind} (hu : P.underlying t = some (.int q)) {d : Nat} {a : Value} {x : List Lit} (h : P.keyLits (d + 1) t [a] = some x) : ∃ n, a = .int q n ∧ (Lit.int q n).wf = true ∧ x = [.int q n] := by
  unfold Program.keyLits at h
  rw [hu] at h
  cases a <;> simp at h
  rename_i q' n
  obtain ⟨⟨rfl, hw⟩, rfl⟩ := h
  exact ⟨n, rfl, hw, rfl⟩
theorem spk_inv {v : Value} {l : Lit} (h : keyOf Tryz.prog 189 v = some l) : ∃ id k : Nat, id < 4294967296 ∧ k < 256 ∧ v = spv id k ∧ l = spl id k := by
  obtain ⟨m, hm⟩ := spSize
  unfold keyOf at h
  rw [Tryz.underlying189] at h
  simp only [spKey, Bool.true_and] at h
  split at h
  · rename_i hf
    cases v with
    | agg cs =>
      have hs : cs.size = 2 := by simpa [Value.formed, Tryz.underlying189, spCells] using hf
      obtain ⟨a, b, rfl⟩ : ∃ a b, cs = #[a, b] := by
        obtain ⟨L⟩ := cs
        match L, hs with
        | [a, b], _ => exact ⟨a, b, rfl⟩
      rw [hm] at h
      obtain ⟨ls, h1, h2⟩ := Option.map_eq_some_iff.1 h
      unfold Program.keyLits at h1
      rw [Tryz.underlying189] at h1
      simp [spCells, spCells1, spCells2, Value.cells] at h1
      obtain ⟨x, hx, h1⟩ := Option.bind_eq_some_iff.1 h1
      simp only [Function.comp] at h1
      obtain ⟨y, hy, h1⟩ := Option.map_eq_some_iff.1 h1
      obtain ⟨t, ht, hy⟩ := Option.bind_eq_some_iff.1 hy
      obtain ⟨u, hu, ht⟩ := Option.bind_eq_some_iff.1 ht
      obtain ⟨n1, rfl, w1, rfl⟩ := lit1 Tryz.underlying38 hx
      obtain ⟨n2, rfl, w2, rfl⟩ := lit1 Tryz.underlying5 hu
      cases ht
      cases hy
      have r1 : 0 ≤ n1 ∧ n1 ≤ 4294967295 := by simpa [Lit.wf, IntKind.min, IntKind.max, IntKind.signed, IntKind.bits] using w1
      have r2 : 0 ≤ n2 ∧ n2 ≤ 255 := by simpa [Lit.wf, IntKind.min, IntKind.max, IntKind.signed, IntKind.bits] using w2
      obtain ⟨i, rfl⟩ := Int.eq_ofNat_of_zero_le r1.1
      obtain ⟨j, rfl⟩ := Int.eq_ofNat_of_zero_le r2.1
      refine ⟨i, j, by omega, by omega, rfl, ?_⟩
      rw [← h2, ← h1]
      rfl
    | _ => simp [Value.formed, Tryz.underlying189] at hf
  · cases h
theorem spl_inj {i k i' k' : Nat} (h1 : i < 4294967296) (h2 : k < 256) (h3 : i' < 4294967296) (h4 : k' < 256) (h : spl i k = spl i' k') : i = i' ∧ k = k' := by
  have a := spk i k h1 h2
  have b := spk i' k' h3 h4
  rw [← h] at b
  have e := keySpot.inj a b
  unfold spv at e
  simp only [Value.agg.injEq, Array.mk.injEq, List.cons.injEq, Value.int.injEq, and_true, true_and] at e
  exact ⟨by omega, by omega⟩
def hldE (v : Value) : Option (DataW Value × List MemPlace) := some (.held v, [])
def rdS (p : Option Value) (z : DataW Value) : DataW Value := match p with
  | none => z
  | some v => .held v
/-- what was seen: entity and kind by entity and kind what is held -/
def SMap (b n : Nat) (p : Nat → Nat → Option Value) : Thing where
  is := fun w A => (∃ D : DataW Value, w.ownsMap Tryz.prog 189 hldE b n D ∧ ∀ i k : Nat, i < 4294967296 → k < 256 → ∀ z, D.atKey (spl i k) z = rdS (p i k) z) ∧ ∀ k, A k ↔ k = b
  lt := by
    rintro w A k ⟨⟨D, h, _⟩, hA⟩ a
    rw [(hA k).1 a]; exact h.lt
  keep := by
    rintro w w' A B ⟨⟨D, h, hk⟩, hA⟩ hf hn
    refine ⟨⟨D, ?_, hk⟩, hA⟩
    have hlt := h.lt
    obtain ⟨es, clock, hb, F, hs, hD⟩ := h
    exact ⟨es, clock, (hf.block b hlt (hn b ((hA b).2 rfl))).trans hb, F, hs, hD⟩
def zSight : Value := .agg #[.int .u8 0, .int .i32 0, .int .i32 0, .int .i32 0, .int .u32 0]
theorem zeroSight (w : World) : (zeroValue 186).run Tryz.prog w = .ok zSight w := by kernel_rfl
/-- what 's, ok := m[at]' gives -/
def lkS (p : Option Value) : Value := match p with
  | none => .tuple #[zSight, .bool false]
  | some v => .tuple #[v, .bool true]
section
variable {w0 w : World} {l : List Thing} {b n : Nat} {p q : Nat → Nat → Option Value}
theorem Own.smLook (h : Own w0 w (SMap b n p :: l)) (i k : Nat) (hi : i < 4294967296) (hk : k < 256) :
    (Instr.lookup 115 (.map (some b)) (spv i k) true).run Tryz.prog w = .ok (lkS (p i k)) w := by
  obtain ⟨A, ⟨B, C, ⟨⟨D, hm, hd⟩, _⟩, _⟩, _⟩ := h
  obtain ⟨v, ps, hrun, hv⟩ := hm.look_ok keySpot Tryz.underlying115 (zeroSight w) (show hldE _ = some (.held _, []) from rfl) (spk i k hi hk)
  have hd := hd i k hi hk
  have hx := (Prod.mk.inj (Option.some.inj hv)).1
  rw [hd] at hx
  cases hp : p i k with
  | none =>
    rw [hp] at hd hx
    rw [has_false_of_atKey hd] at hrun
    have : v = zSight := by simpa [rdS] using hx
    subst this
    exact hrun
  | some u =>
    rw [hp] at hd hx
    rw [has_true_of_atKey hd] at hrun
    have : v = u := by simpa [rdS] using hx
    subst this
    exact hrun
theorem Own.smPut (h : Own w0 w (SMap b n p :: l)) (i k : Nat) (v : Value) (hi : i < 4294967296) (hk : k < 256) (hn : n < maxLen) :
    ∃ w', (Instr.mapUpdate 115 (.map (some b)) (spv i k) v).run Tryz.prog w = .ok () w' ∧ Own w0 w' (SMap b (n + 1) (fun x y => if x = i ∧ y = k then some v else p x y) :: l) := by
  obtain ⟨A, ⟨⟨D, hm, hd⟩, hA⟩, hlo, act⟩ := h.act
  obtain ⟨w', hrun, hm', hg⟩ := hm.update keySpot Tryz.underlying115 hn (spk i k hi hk) (show hldE v = some (.held v, []) from rfl)
  refine ⟨w', hrun, act w' (SMap b (n + 1) _) A ⟨⟨_, hm', ?_⟩, hA⟩ ((Fr.refl _ _).grown hg (fun k hk => .inl ((hA k).2 (by cases hk; rfl)))) (fun _ a => .inl a)⟩
  intro x y hx hy z
  by_cases e : x = i ∧ y = k
  · obtain ⟨rfl, rfl⟩ := e
    rw [atKey_put_same hm.isMap (k := spl x y) trivial]; simp [rdS]
  · rw [atKey_put_other (by intro q; apply e; exact spl_inj hx hy hi hk q), hd x y hx hy]; simp [e]
theorem Own.smNew (h : Own w0 w l) : Own w0 (w.alloc (.map #[] 0)) (SMap w.heap.size 0 (fun _ _ => none) :: l) :=
  h.new (SMap w.heap.size 0 (fun _ _ => none)) (fun k => k = w.heap.size) ⟨⟨.map [], World.ownsMap_made _ _ _ _, fun i k _ _ z => by simp [DataW.atKey, rdS]⟩, fun _ => Iff.rfl⟩ ((Fr.refl _ _).alloc _) (fun k hk => by omega)
end
end Go.Proofs.YtflmgilmbppieaaGreatDoor

/-
  Through the map of what was seen, in whatever order.
-/
namespace Go.Proofs.YtflmgilmbppieaaGreatDoor
open Go.RowKit Go.Maps
set_option linter.unusedVariables false
set_option maxRecDepth 100000

/-- the map while one goes through it: what is still to come -/
def SIter (b r n : Nat) (p : Nat → Nat → Option Value) (left : Nat → Nat → Bool) (cnt : Nat) : Thing where
  is := fun w A => (∃ (D : DataW Value) (lf : Lit → Bool), w.ranges Tryz.prog 189 hldE b r n D lf cnt ∧ (∀ i k : Nat, i < 4294967296 → k < 256 → ∀ z, D.atKey (spl i k) z = rdS (p i k) z) ∧ ∀ i k : Nat, i < 4294967296 → k < 256 → lf (spl i k) = left i k) ∧ ∀ k, A k ↔ k = b ∨ k = r
  lt := by
    rintro w A k ⟨⟨D, lf, h, _⟩, hA⟩ a
    rcases (hA k).1 a with rfl | rfl
    · exact h.owns.lt
    · exact h.lt
  keep := by
    rintro w w' A B ⟨⟨D, lf, h, hk, hl⟩, hA⟩ hf hn
    refine ⟨⟨D, lf, ?_, hk, hl⟩, hA⟩
    have hbl := h.owns.lt
    have hrl := h.lt
    obtain ⟨es, clock, since, seen, c0, hb, F, hs, hD, hr, rest⟩ := h
    exact ⟨es, clock, since, seen, c0, (hf.block b hbl (hn b ((hA b).2 (.inl rfl)))).trans hb, F, hs, hD, (hf.block r hrl (hn r ((hA r).2 (.inr rfl)))).trans hr, rest⟩
def strk (left : Nat → Nat → Bool) (i k x y : Nat) : Bool := left x y && !decide (x = i ∧ y = k)
section
variable {w0 w : World} {l : List Thing} {b r n cnt : Nat} {p q : Nat → Nat → Option Value} {left : Nat → Nat → Bool}
theorem Own.smRange (h : Own w0 w (SMap b n p :: l)) : ∃ w' cnt, cnt ≤ n ∧ (Instr.range 115 (.map (some b))).run Tryz.prog w = .ok (.pointer (some ⟨w.heap.size, 0, none⟩)) w' ∧ Own w0 w' (SIter b w.heap.size n p (fun i k => (p i k).isSome) cnt :: l) := by
  obtain ⟨A, ⟨⟨D, hm, hd⟩, hA⟩, hlo, act⟩ := h.act
  obtain ⟨w', hrun, hR, hg, hsz⟩ := hm.range keySpot Tryz.underlying115
  have hc : Maps.size D ≤ n := by
    obtain ⟨es, clock, _, _, hs, rfl⟩ := hm
    simpa [Maps.size, length_sorted] using hs
  refine ⟨w', _, hc, hrun, act w' (SIter b w.heap.size n p _ _) (fun k => k = b ∨ k = w.heap.size) ⟨⟨D, _, hR, hd, fun i k hi hk => ?_⟩, fun _ => Iff.rfl⟩ ((Fr.refl _ _).grown hg (fun k hk => by cases hk)) (fun k a => ?_)⟩
  · have h1 := hd i k hi hk
    cases hp : p i k with
    | none => rw [hp] at h1; rw [has_false_of_atKey h1]; simp [hp]
    | some v => rw [hp] at h1; rw [has_true_of_atKey h1]; simp [hp]
  · rcases a with rfl | rfl
    · exact .inl ((hA _).2 rfl)
    · exact .inr (Nat.le_refl _)
theorem Own.siMap (h : Own w0 w (SIter b r n p left cnt :: l)) : Own w0 w (SMap b n p :: l) := by
  obtain ⟨A, ⟨⟨D, lf, hR, hd, _⟩, hA⟩, hlo, act⟩ := h.act
  exact act w (SMap b n p) (fun k => k = b) ⟨⟨D, hR.owns, hd⟩, fun _ => Iff.rfl⟩ (Fr.refl _ _) (fun k a => .inl ((hA k).2 (.inl a)))
theorem Own.smNext (h : Own w0 w (SIter b r n p left cnt :: l)) (ty : TypeId) :
    (cnt = 0 ∧ (∀ i k : Nat, i < 4294967296 → k < 256 → left i k = false) ∧ (Instr.next (.pointer (some ⟨r, 0, none⟩)) false ty).run Tryz.prog w = .ok (.tuple #[.bool false]) w) ∨
    ∃ (i k : Nat) (v : Value) (w' : World) (cnt' : Nat), i < 4294967296 ∧ k < 256 ∧ left i k = true ∧ p i k = some v ∧ (Instr.next (.pointer (some ⟨r, 0, none⟩)) false ty).run Tryz.prog w = .ok (.tuple #[.bool true, spv i k, v]) w' ∧ (Instr.entry (.pointer (some ⟨r, 0, none⟩))).run Tryz.prog w' = .ok (.tuple #[spv i k, v]) w' ∧ cnt' < cnt ∧ Own w0 w' (SIter b r n p (strk left i k) cnt' :: l) := by
  obtain ⟨A, ⟨⟨D, lf, hR, hd, hl⟩, hA⟩, hlo, act⟩ := h.act
  rcases hR.next keySpot ty with ⟨h0, h1, hrun⟩ | ⟨key, v, kl, y, w', cnt', hkey, hleft, hv, hat, hrun, hR', hlt, hg, hsz, hent⟩
  · exact .inl ⟨h0, fun i k hi hk => by rw [← hl i k hi hk]; exact h1 _, hrun⟩
  · obtain ⟨i, k, hi, hk, rfl, rfl⟩ := spk_inv hkey
    have hy : y = (.held v, []) := (Option.some.inj hv).symm
    subst hy
    have h2 := hat (.held zSight)
    have h3 := hat .nil
    rw [hd i k hi hk] at h2 h3
    have hp : p i k = some v := by
      cases hp : p i k with
      | none => rw [hp] at h3; simp [rdS] at h3
      | some u => rw [hp] at h3; simp only [rdS, DataW.held.injEq] at h3; rw [h3]
    refine .inr ⟨i, k, v, w', cnt', hi, hk, by rw [← hl i k hi hk]; exact hleft, hp, hrun, hent, hlt, ?_⟩
    refine act w' (SIter b r n p _ cnt') A ⟨⟨D, _, hR', hd, fun x y hx hy => ?_⟩, hA⟩ ((Fr.refl _ _).grown hg (fun j hj => .inl ((hA j).2 (by cases hj; exact .inr rfl)))) (fun _ a => .inl a)
    unfold strk
    rw [hl x y hx hy]
    congr 2
    rw [Bool.eq_iff_iff, decide_eq_true_iff]
    constructor
    · intro e
      exact spl_inj hx hy hi hk (WideAt.sameKey_eq e)
    · rintro ⟨rfl, rfl⟩
      exact WideAt.sameKey_self trivial
end
end Go.Proofs.YtflmgilmbppieaaGreatDoor

/-
  Whose place was left, whose was reached.
-/
namespace Go.Proofs.YtflmgilmbppieaaGreatDoor
open Go.RowKit Go.Maps
set_option linter.unusedVariables false
set_option maxRecDepth 100000

/-- where one is -/
structure PlE where
  id : Nat
  on : Bool
  x : Int
  y : Int
def PlE.cs (q : PlE) : List Value := [.int .u32 (q.id : Int), .bool q.on, .int .i32 q.x, .int .i32 q.y]
theorem Tryz.infoPl : (Tryz.prog.info? 63).map (fun i => (i.zero, i.size, i.bytes)) = some (some (.agg #[.int .u32 0, .bool false, .int .i32 0, .int .i32 0]), 4, 16) := by kernel_rfl
theorem Own.siCnt {w0 w : World} {l : List Thing} {b r n cnt : Nat} {p : Nat → Nat → Option Value} {left : Nat → Nat → Bool} (h : Own w0 w (SIter b r n p left cnt :: l)) : w.rangeLeft b r = cnt := by
  obtain ⟨A, ⟨⟨D, lf, hR, _⟩, _⟩, _⟩ := h.act
  exact hR.left_eq
/-- those of whom a place is told as left, as far as one has come -/
def LeftOf (p p' : Nat → Nat → Option Value) (left : Nat → Nat → Bool) (L : List PlE) : Prop :=
  (L.map PlE.id).Nodup ∧ (∀ q ∈ L, q.id < 4294967296 ∧ q.on = false ∧ q.x = 0 ∧ q.y = 0) ∧ ∀ i, i < 4294967296 → (i ∈ L.map PlE.id ↔ left i 0 = false ∧ (p i 0).isSome = true ∧ p' i 0 = none)
theorem LeftOf.skip {p p' : Nat → Nat → Option Value} {left : Nat → Nat → Bool} {L : List PlE} (h : LeftOf p p' left L) {i k : Nat} (hk : k ≠ 0 ∨ p' i 0 ≠ none) : LeftOf p p' (strk left i k) L := by
  obtain ⟨h1, h2, h3⟩ := h
  refine ⟨h1, h2, fun x hx => ?_⟩
  rw [h3 x hx]
  unfold strk
  simp only [Bool.and_eq_false_iff, Bool.not_eq_false', decide_eq_true_iff]
  constructor
  · rintro ⟨a, b, c⟩
    exact ⟨.inl a, b, c⟩
  · rintro ⟨a | a, b, c⟩
    · exact ⟨a, b, c⟩
    · obtain ⟨rfl, hk0⟩ := a
      rcases hk with hk | hk
      · exact absurd hk0.symm hk
      · exact absurd c hk
theorem LeftOf.more {p p' : Nat → Nat → Option Value} {left : Nat → Nat → Bool} {L : List PlE} (h : LeftOf p p' left L) {i : Nat} (hi : i < 4294967296) (hl : left i 0 = true) (hp : (p i 0).isSome = true) (hp' : p' i 0 = none) : LeftOf p p' (strk left i 0) (L ++ [⟨i, false, 0, 0⟩]) := by
  obtain ⟨h1, h2, h3⟩ := h
  have hni : i ∉ L.map PlE.id := fun hm => by have := ((h3 i hi).1 hm).1; rw [hl] at this; cases this
  refine ⟨?_, ?_, fun x hx => ?_⟩
  · rw [List.map_append, List.nodup_append]
    exact ⟨h1, by simp, fun a ha b hb e => by simp at hb; subst hb; exact hni (e ▸ ha)⟩
  · intro q hq
    rcases List.mem_append.1 hq with hq | hq
    · exact h2 q hq
    · rw [List.mem_singleton.1 hq]; exact ⟨hi, rfl, rfl, rfl⟩
  · rw [List.map_append, List.mem_append, h3 x hx]
    unfold strk
    simp only [List.map_cons, List.map_nil, List.mem_singleton, Bool.and_eq_false_iff, Bool.not_eq_false', decide_eq_true_iff]
    constructor
    · rintro (⟨a, b, c⟩ | rfl)
      · exact ⟨.inl a, b, c⟩
      · exact ⟨.inr (by simp), hp, hp'⟩
    · rintro ⟨a | ⟨rfl, _⟩, b, c⟩
      · exact .inl ⟨a, b, c⟩
      · exact .inr rfl
set_option maxHeartbeats 4000000 in
theorem left_ok (w0 w : World) (l : List Thing) (b : Nat) (wc : Array Value) (ms n mn n' : Nat) (p p' : Nat → Nat → Option Value) (hwc : wc[3]? = some (.map (some ms))) (hn : n ≤ 1000000) (hz : ∀ i k v, p' i k = some v → ∃ a0 a1 a2 a3 a4, v = .agg #[.int .u8 a0, .int .i32 a1, .int .i32 a2, .int .i32 a3, .int .u32 a4])
    (h : Own w0 w (SMap ms n p :: SMap mn n' p' :: Cells b wc 117 :: l)) :
    Calls Tryz.prog 116 #[.pointer (some ⟨b, 0, none⟩), .map (some mn)] w fun e w' => ∃ ao cap L, e = .returned (.slice ao L.length cap) ∧ L.length ≤ n ∧ LeftOf p p' (fun _ _ => false) L ∧ Own w0 w' (Row 63 4 (.slice ao L.length cap) L.length (cat PlE.cs L) :: SMap ms n p :: SMap mn n' p' :: Cells b wc 117 :: l) := by
  obtain ⟨i0, hi, hz0, hz1, hz2⟩ := info_parts Tryz.infoPl
  have c3 := h.three.cell 3
  rw [hwc] at c3
  obtain ⟨w1, cnt, hcn, hrun, hO1⟩ := h.smRange
  have H1 : Hid (Own w0 w1 _) := hO1.nilRow 63 4
  clear h hO1
  obtain ⟨r, hr⟩ : ∃ r, r = w.heap.size := ⟨_, rfl⟩
  rw [← hr] at hrun H1
  clear hr
  go_enter Tryz.func116, Tryz.ntmps116
  go_wp2
  clear hrun c3
  go_loopw [5] (fun v5 wr => ∃ (L : List PlE) (left : Nat → Nat → Bool) (cn : Nat) (a1 : Option Addr) (c1 : Nat), v5 = .slice a1 L.length c1 ∧ L.length + cn ≤ n ∧ LeftOf p p' left L ∧ Own w0 wr (Row 63 4 (.slice a1 L.length c1) L.length (cat PlE.cs L) :: SIter ms r n p left cn :: SMap mn n' p' :: Cells b wc 117 :: l)) (fun _ wr => wr.rangeLeft ms r)
  case atStart =>
    refine ⟨[], _, cnt, none, 0, rfl, by simpa using hcn, ⟨by simp, fun q hq => by simp at hq, fun i hi => ?_⟩, H1.out⟩
    simp only [List.map_nil, List.not_mem_nil, false_iff]
    rintro ⟨a, c, _⟩
    rw [a] at c
    cases c
  case round =>
    obtain ⟨L, left, cn, a1, c1, rfl, hLn, hLf, hO⟩ := hrel
    have HLf : Hid (LeftOf p p' left L) := hLf
    have HM0 : Hid (World.rangeLeft wr ms r = cn) := hO.two.siCnt
    clear H1 hLf
    generalize hll : L.length = ll at *
    have HLL : Hid (L.length = ll) := hll
    clear hll
    rcases hO.two.smNext 0 with ⟨h0, hall, hnx⟩ | ⟨i, k, v, w2, cn', hi', hk', hlf, hpv, hnx, hent, hlt, hO2⟩
    · have HO : Hid (Own w0 wr _) := hO.two.siMap.two
      have HE : Hid (LeftOf p p' (fun _ _ => false) L) := by
        obtain ⟨h1, h2, h3⟩ := HLf.out
        refine ⟨h1, h2, fun i hi => ?_⟩
        rw [h3 i hi]
        simp [hall i 0 hi (by decide)]
      clear hO
      go_wp2
      go_ret
      exact ⟨a1, c1, L, by rw [HLL.out]; rfl, by rw [HLL.out]; omega, HE.out, by rw [HLL.out]; exact HO.out⟩
    · simp only [spv] at hnx hent
      have hO3 := hO2.allocC #[.int .u32 (i : Int), .int .u8 (k : Int)] 189
      have hlk := Own.smLook hO3.four i k hi' hk'
      simp only [spv] at hlk
      have x0 := hO3.cell 0
      have x1 := hO3.cell 1
      simp at x0 x1
      cases hp' : p' i k with
      | some v' =>
        obtain ⟨a0, a1', a2, a3, a4, hv'⟩ := hz i k v' hp'
        rw [hp', hv'] at hlk
        simp only [lkS] at hlk
        have hO4 := hO3.allocC #[.int .u8 a0, .int .i32 a1', .int .i32 a2, .int .i32 a3, .int .u32 a4] 186
        have hne : k ≠ 0 ∨ p' i 0 ≠ none := by
          by_cases hk0 : k = 0
          · subst hk0; exact .inr (by rw [hp']; simp)
          · exact .inl hk0
        have HS : Hid (LeftOf p p' (strk left i k) L) := HLf.out.skip hne
        have H4 : Hid (Own w0 _ _) := hO4.tail.tail.two
        clear hO2 hO3 hO4 hlf hpv
        go_wp2
        go_roundw
        case rel => exact ⟨L, _, cn', a1, c1, by rw [HLL.out], by rw [HLL.out]; omega, HS.out, by rw [HLL.out]; exact H4.out⟩
        case measure => rw [HM0.out, H4.out.two.siCnt]; exact hlt
      | none =>
        rw [hp'] at hlk
        simp only [lkS, zSight] at hlk
        have hO4 := hO3.allocC #[.int .u8 0, .int .i32 0, .int .i32 0, .int .i32 0, .int .u32 0] 186
        by_cases hk0 : k = 0
        · have hk00 : ((k : Int) == 0) = true := by rw [beq_iff_eq]; omega
          have HS : Hid (LeftOf p p' (strk left i k) (L ++ [⟨i, false, 0, 0⟩])) := by
            subst hk0
            exact HLf.out.more hi' hlf (by rw [hpv]; rfl) hp'
          clear hk0
          have H4 : Hid (Own w0 _ _) := hO4.four
          clear hO2 hO3 hO4 hlf hpv
          go_wp2_with (at_builtin; refine append1_own rfl _ _ 60 rfl 63 i0 (.agg #[.int .u32 0, .bool false, .int .i32 0, .int .i32 0]) 4 16 Tryz.underlying60 hi hz0 hz1 hz2 rfl (by decide) _ _ _ rfl H4.out _ _ (by simp) rfl rfl (fun u hu => by simp at hu; rcases hu with rfl | rfl | rfl | rfl <;> rfl) (by unfold maxLen; omega) (by omega) ?_)
          intro g6 c6 w6 hO6 hsz6
          have H6 : Hid (Own w0 w6 (Row 63 4 (.slice (some ⟨g6, 0, none⟩) (ll + 1) c6) (ll + 1) (cat PlE.cs (L ++ [⟨i, false, 0, 0⟩])) :: SIter ms r n p (strk left i k) cn' :: SMap mn n' p' :: Cells b wc 117 :: l)) := by
            show Own _ _ _
            rw [cat_append]
            exact hO6.two.tail.two.tail
          have HL6 : Hid ((L ++ [(⟨i, false, 0, 0⟩ : PlE)]).length = ll + 1) := by show _ = _; rw [List.length_append, HLL.out]; rfl
          clear hO6 hsz6 H4
          go_wp2
          go_roundw
          case rel => exact ⟨L ++ [⟨i, false, 0, 0⟩], _, cn', _, _, by rw [HL6.out], by rw [HL6.out]; omega, HS.out, by rw [HL6.out]; exact H6.out⟩
          case measure => rw [HM0.out, H6.out.two.siCnt]; exact hlt
        · have hk00 : ((k : Int) == 0) = false := by rw [beq_eq_false_iff_ne]; omega
          have HS : Hid (LeftOf p p' (strk left i k) L) := HLf.out.skip (.inl hk0)
          have H4 : Hid (Own w0 _ _) := hO4.tail.tail.two
          clear hO2 hO3 hO4 hlf hpv
          go_wp2
          go_roundw
          case rel => exact ⟨L, _, cn', a1, c1, by rw [HLL.out], by rw [HLL.out]; omega, HS.out, by rw [HLL.out]; exact H4.out⟩
          case measure => rw [HM0.out, H4.out.two.siCnt]; exact hlt
end Go.Proofs.YtflmgilmbppieaaGreatDoor

/-
  Places are sorted by their IDs.
-/
namespace Go.Proofs.YtflmgilmbppieaaGreatDoor
open Go.RowKit Go.Sort Go.Shelf
set_option linter.unusedVariables false
set_option maxRecDepth 100000

def sortPl_ren : Go.Shelf.Ren := ⟨fun | 6 => 118 | 15 => 153 | 14 => 179 | 28 => 196 | 29 => 197 | 20 => 214 | 21 => 215 | 22 => 216 | 23 => 217 | 24 => 218 | 25 => 219 | 26 => 220 | 27 => 221 | 46 => 247 | 47 => 225 | 48 => 226 | 49 => 248 | 50 => 249 | 57 => 259 | n => n, fun | 22 => 60 | 24 => 63 | 25 => 215 | 3 => 3 | 39 => 250 | 0 => 0 | 53 => 22 | 55 => 301 | 4 => 4 | 46 => 294 | 45 => 293 | 50 => 278 | 5 => 5 | 9 => 9 | 66 => 330 | 70 => 334 | 76 => 349 | 77 => 350 | n => n, fun | n => n⟩
theorem sortPl : Go.Proofs.SlLaysF0.n6 Tryz.prog sortPl_ren := {
  mixed := by kernel_rfl
  f6 := ⟨Tryz.f118.name, by decide, Tryz.func118.trans (congrArg some (by kernel_rfl))⟩
  f14 := ⟨Tryz.f179.name, by decide, Tryz.func179.trans (congrArg some (by kernel_rfl))⟩
  f15 := Tryz.func153.trans (congrArg some (by kernel_rfl))
  f20 := ⟨Tryz.f214.name, by decide, Tryz.func214.trans (congrArg some (by kernel_rfl))⟩
  f21 := ⟨Tryz.f215.name, by decide, Tryz.func215.trans (congrArg some (by kernel_rfl))⟩
  f22 := ⟨Tryz.f216.name, by decide, Tryz.func216.trans (congrArg some (by kernel_rfl))⟩
  f23 := ⟨Tryz.f217.name, by decide, Tryz.func217.trans (congrArg some (by kernel_rfl))⟩
  f24 := ⟨Tryz.f218.name, by decide, Tryz.func218.trans (congrArg some (by kernel_rfl))⟩
  f25 := ⟨Tryz.f219.name, by decide, Tryz.func219.trans (congrArg some (by kernel_rfl))⟩
  f26 := ⟨Tryz.f220.name, by decide, Tryz.func220.trans (congrArg some (by kernel_rfl))⟩
  f27 := ⟨Tryz.f221.name, by decide, Tryz.func221.trans (congrArg some (by kernel_rfl))⟩
  f28 := Tryz.func196.trans (congrArg some (by kernel_rfl))
  f29 := Tryz.func197.trans (congrArg some (by kernel_rfl))
  f46 := ⟨Tryz.f247.name, by decide, Tryz.func247.trans (congrArg some (by kernel_rfl))⟩
  f47 := Tryz.func225.trans (congrArg some (by kernel_rfl))
  f48 := Tryz.func226.trans (congrArg some (by kernel_rfl))
  f49 := ⟨Tryz.f248.name, by decide, Tryz.func248.trans (congrArg some (by kernel_rfl))⟩
  f50 := ⟨Tryz.f249.name, by decide, Tryz.func249.trans (congrArg some (by kernel_rfl))⟩
  f57 := ⟨Tryz.f259.name, by decide, Tryz.func259.trans (congrArg some (by kernel_rfl))⟩
  t0 := Tryz.underlying0
  a0 := Tryz.isAgg0
  z0 := Tryz.sizeOf0
  v0 := Tryz.zeroValue0
  t3 := Tryz.underlying3
  a3 := Tryz.isAgg3
  z3 := Tryz.sizeOf3
  v3 := Tryz.zeroValue3
  t4 := Tryz.underlying4
  a4 := Tryz.isAgg4
  z4 := Tryz.sizeOf4
  v4 := Tryz.zeroValue4
  t5 := Tryz.underlying5
  a5 := Tryz.isAgg5
  z5 := Tryz.sizeOf5
  v5 := Tryz.zeroValue5
  t9 := Tryz.underlying9
  a9 := Tryz.isAgg9
  z9 := Tryz.sizeOf9
  v9 := Tryz.zeroValue9
  t22 := Tryz.underlying60
  a22 := Tryz.isAgg60
  z22 := Tryz.sizeOf60
  v22 := Tryz.zeroValue60
  t25 := Tryz.underlying215
  a25 := Tryz.isAgg215
  z25 := Tryz.sizeOf215
  v25 := Tryz.zeroValue215
  t39 := Tryz.underlying250
  a39 := Tryz.isAgg250
  z39 := Tryz.sizeOf250
  v39 := Tryz.zeroValue250
  t45 := Tryz.underlying293
  a45 := Tryz.isAgg293
  z45 := Tryz.sizeOf293
  v45 := Tryz.zeroValue293
  t46 := Tryz.underlying294
  a46 := Tryz.isAgg294
  z46 := Tryz.sizeOf294
  v46 := Tryz.zeroValue294
  t50 := Tryz.underlying278
  a50 := Tryz.isAgg278
  z50 := Tryz.sizeOf278
  v50 := Tryz.zeroValue278
  t53 := Tryz.underlying22
  a53 := Tryz.isAgg22
  z53 := Tryz.sizeOf22
  v53 := Tryz.zeroValue22
  t55 := Tryz.underlying301
  a55 := Tryz.isAgg301
  z55 := Tryz.sizeOf301
  v55 := Tryz.zeroValue301
  t66 := Tryz.underlying330
  a66 := Tryz.isAgg330
  z66 := Tryz.sizeOf330
  v66 := Tryz.zeroValue330
  t70 := Tryz.underlying334
  a70 := Tryz.isAgg334
  z70 := Tryz.sizeOf334
  v70 := Tryz.zeroValue334
  t76 := Tryz.underlying349
  a76 := Tryz.isAgg349
  z76 := Tryz.sizeOf349
  v76 := Tryz.zeroValue349
  t77 := Tryz.underlying350
  a77 := Tryz.isAgg350
  z77 := Tryz.sizeOf350
  v77 := Tryz.zeroValue350 }

instance : Inhabited PlE := ⟨⟨0, false, 0, 0⟩⟩
def cmpI (a b : Nat) : Int := if a < b then -1 else if b < a then 1 else 0
set_option maxHeartbeats 1000000 in
theorem isNaN_id (x : Int) (w : World) : Calls Tryz.prog 154 #[.int .u32 x] w fun e w' => e = .returned (.bool false) ∧ w' = w := by
  go_enter Tryz.func154, Tryz.ntmps154
  go_wp2
  go_ret
  exact ⟨by simp, rfl⟩
set_option maxHeartbeats 1000000 in
theorem cmp_id (a b : Nat) (w : World) : Calls Tryz.prog 99 #[.int .u32 (a : Int), .int .u32 (b : Int)] w fun e w' => e = .returned (.int .i64 (cmpI a b)) ∧ w' = w := by
  have HN : Hid (∀ (x : Int) W, Calls Tryz.prog 154 #[.int .u32 x] W fun e w' => e = .returned (.bool false) ∧ w' = W) := fun x W => isNaN_id x W
  go_enter Tryz.func99, Tryz.ntmps99
  go_wp2_with fail
  refine (HN.out _ _).mono ?_
  rintro e w1 ⟨rfl, rfl⟩
  go_wp2_with fail
  refine (HN.out _ _).mono ?_
  rintro e w1 ⟨rfl, rfl⟩
  by_cases h1 : a < b
  · have h1' : (a : Int) < (b : Int) := by omega
    go_wp2
    go_ret
    exact ⟨by simp [cmpI, h1], rfl⟩
  · have h1' : ¬ (a : Int) < (b : Int) := by omega
    by_cases h2 : b < a
    · have h2' : (b : Int) < (a : Int) := by omega
      go_wp2
      go_ret
      exact ⟨by simp [cmpI, h1, h2], rfl⟩
    · have h2' : ¬ (b : Int) < (a : Int) := by omega
      go_wp2
      go_ret
      exact ⟨by simp [cmpI, h1, h2], rfl⟩
set_option maxHeartbeats 1000000 in
theorem cls_ok (x y : PlE) (W : World) : Calls Tryz.prog 119 #[.agg x.cs.toArray, .agg y.cs.toArray] W fun e w' => e = .returned (.int .i64 (cmpI x.id y.id)) ∧ ∃ q os', w' = grow (W.drewN q) os' := by
  obtain ⟨xi, xo, xx, xy⟩ := x
  obtain ⟨yi, yo, yx, yy⟩ := y
  have HC : Hid (∀ W, Calls Tryz.prog 99 #[.int .u32 (xi : Int), .int .u32 (yi : Int)] W fun e w' => e = .returned (.int .i64 (cmpI xi yi)) ∧ w' = W) := fun W => cmp_id xi yi W
  show Calls Tryz.prog 119 #[.agg #[.int .u32 (xi : Int), .bool xo, .int .i32 xx, .int .i32 xy], .agg #[.int .u32 (yi : Int), .bool yo, .int .i32 yx, .int .i32 yy]] W fun e w' => e = .returned (.int .i64 (cmpI xi yi)) ∧ ∃ q os', w' = grow (W.drewN q) os'
  generalize cmpI xi yi = r at *
  go_enter Tryz.func119, Tryz.ntmps119
  go_wp2_with fail
  refine (HC.out _).mono ?_
  rintro e w1 ⟨rfl, rfl⟩
  go_wp2
  go_ret
  exact ⟨rfl, 0, _, by rw [alloc_eq_grow, alloc_eq_grow, grow_grow]; rfl⟩
theorem ltPl (x y : PlE) : ltOf (fun x y : PlE => cmpI x.id y.id) x y = decide (x.id < y.id) := by
  unfold ltOf cmpI
  by_cases h1 : x.id < y.id
  · simp [h1]
  · by_cases h2 : y.id < x.id <;> simp [h1, h2]
theorem swoPl : SWO (ltOf fun x y : PlE => cmpI x.id y.id) where
  irrefl x := by rw [ltPl]; simp
  trans x y z h1 h2 := by rw [ltPl] at *; simp at *; omega
  ntrans x y z h1 h2 := by rw [ltPl] at *; simp at *; omega
theorem sortPl_ok (w0 w : World) (l : List Thing) (g cap : Nat) (L : List PlE) (h : Own w0 w (Row 63 4 (.slice (some ⟨g, 0, none⟩) L.length cap) L.length (cat PlE.cs L) :: l)) (hsz : L.length < 1000000000) :
    Calls Tryz.prog 118 #[.slice (some ⟨g, 0, none⟩) L.length cap, .func (.func 119) #[] #[]] w fun e w' => e = .returned (.tuple #[]) ∧ ∃ L', L'.Perm L ∧ L'.Pairwise (fun a b => a.id ≤ b.id) ∧ Own w0 w' (Row 63 4 (.slice (some ⟨g, 0, none⟩) L.length cap) L.length (cat PlE.cs L') :: l) := by
  have eg : ∀ args w, (callFunc 119 args).run Tryz.prog w = .ok (.enter 119 args) w := enters_of Tryz.func119 (by kernel_rfl) rfl
  have hH := Own.holdsK (enc := PlE.cs) (k := 4) (fun _ => rfl) (by decide) h
  have hblk : g < w.heap.size := by
    obtain ⟨h1, h2⟩ := h.row
    rcases h2 with ⟨hv, _⟩ | ⟨g', cap', cur, hv, hb, hgg, _⟩
    · cases hv
    · simp only [Value.slice.injEq, Option.some.injEq, Addr.mk.injEq] at hv
      rw [hv.1.1]
      exact (Array.getElem?_eq_some_iff.1 hgg).1
  have hcon := AnyQ.slices_SortFunc sortPl 4 Tryz.isAgg63 Tryz.sizeOf63 PlE.cs (fun _ => rfl) (fun x v hv => by simp [PlE.cs] at hv; rcases hv with rfl | rfl | rfl | rfl <;> rfl) (fun x y => cmpI x.id y.id) swoPl 119 #[] g 0 cap L.toArray w eg (fun _ _ _ _ x y => cls_ok x y _) hH hblk (by simp; omega)
  change Calls Tryz.prog 118 _ _ _ at hcon
  rw [show L.toArray.size = L.length by simp] at hcon
  refine hcon.mono ?_
  rintro e w' ⟨rfl, d', n, os, hp, hs, rfl⟩
  obtain ⟨hsz1, _, hp3⟩ := hp
  have hd : d'.size = L.length := by rw [hsz1]; simp
  have hperm : d'.toList.Perm L := by
    have e1 : (d'.extract 0 L.length).toList = d'.toList := by rw [← hd]; simp
    have e2 : (L.toArray.extract 0 L.length).toList = L := by simp
    rw [e1, e2] at hp3
    exact hp3
  refine ⟨rfl, d'.toList, hperm, ?_, ?_⟩
  · rw [List.pairwise_iff_getElem]
    intro i j hi hj hij
    have hi' : i < d'.size := by simpa using hi
    have hj' : j < d'.size := by simpa using hj
    have a := hs i j (Nat.zero_le _) hij (by omega)
    rw [ltPl, getElem!_pos d' i hi', getElem!_pos d' j hj'] at a
    simp at a
    simpa using a
  · have hl : d'.toList.length = L.length := by simpa using hd
    have := h.sortK (enc := PlE.cs) (k := 4) (fun _ => rfl) (by decide) hl n os
    rw [hl] at this
    simpa using this
end Go.Proofs.YtflmgilmbppieaaGreatDoor
