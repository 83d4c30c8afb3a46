/-
  Slices of integers and of pairs that come in; a ring behind a put.
-/
import Derived.Test.YtdcfkjmjekbekaaYkd
import Derived.Test.YtdcfkjmjekbekaaZo
import Derived.Deep.RegionWith
import Derived.Laws.StructEq
namespace Go.Proofs.Ytdcfkjmjekbekaa
open Go.RowKit Go.ChangeShapes Go.WideShapes
set_option linter.unusedVariables false

/-- WHAT A WALK IS TOLD OF A SLICE OF INTEGERS THAT CAME IN (as the guide's shell has it). -/
def IsRow (k : IntKind) (w : World) (a : Option Addr) (len cap : Nat) (zs : List Int) : Prop :=
  (a = none ∧ len = 0 ∧ cap = 0 ∧ zs = []) ∨
  ∃ x, a = some x ∧ len ≤ cap ∧ cap ≤ maxLen ∧ zs.length = cap ∧ (∀ i, i < zs.length → w.cell? (x.add i) = some (.int k (zs.getD i 0))) ∧ ∀ n ∈ zs, (Lit.int k n).wf = true
/-- The numbers P of a slice of integers of kind k: nothing is asked of its address where there are none. -/
def Ints (k : IntKind) (w : World) (ao : Option Addr) (P : List Int) : Prop :=
  P = [] ∨ ∃ g o, ao = some ⟨g, o, none⟩ ∧ ∀ j x, P[j]? = some x → w.cell? ⟨g, o + j, none⟩ = some (.int k x)
theorem Ints.quiet {k : IntKind} {w w' : World} {ao : Option Addr} {P : List Int} (h : Ints k w ao P) (hf : Fr Nobody w w') : Ints k w' ao P := by
  rcases h with h | ⟨g, o, ha, hc⟩
  · exact .inl h
  · refine .inr ⟨g, o, ha, fun j x hx => ?_⟩
    have h1 := hc j x hx
    exact (hf.cell (p := ⟨g, o + j, none⟩) (World.block_lt_of_cell? w _ h1) id).trans h1
theorem IsRow.ints {k : IntKind} {w : World} {a : Option Addr} {len cap : Nat} {zs : List Int} (h : IsRow k w a len cap zs) : (zs.take len).length = len ∧ len ≤ maxLen ∧ Ints k w a (zs.take len) ∧ ∀ n ∈ zs.take len, (Lit.int k n).wf = true := by
  rcases h with ⟨rfl, rfl, rfl, rfl⟩ | ⟨x, rfl, hl, hm, hz, hc, hw⟩
  · exact ⟨rfl, Nat.zero_le _, .inl rfl, fun n hn => by simp at hn⟩
  · refine ⟨by rw [List.length_take]; omega, by omega, ?_, fun n hn => hw n (List.mem_of_mem_take hn)⟩
    by_cases h0 : len = 0
    · subst h0; left; simp
    · right
      obtain ⟨g, o, spot⟩ := x
      have h1 := hc 0 (by omega)
      have hs : spot = none := by simpa [Addr.add] using World.cell?_spot h1
      subst hs
      refine ⟨g, o, rfl, fun j y hy => ?_⟩
      rw [List.getElem?_take] at hy
      split at hy
      · rename_i hj
        have h2 := hc j (by omega)
        rw [addr_add] at h2
        rw [h2]
        rw [List.getD_eq_getElem?_getD, hy]; rfl
      · cases hy
abbrev Pr := Int × Bool
def PairIs (cs : List Value) (q : Pr) : Prop := cs = [.int .i32 q.1, .bool q.2]
theorem cellsPair : Try.prog.cellsOf 30 = 2 := by kernel_rfl
theorem cellsI32' : Try.prog.cellsOf 21 = 1 := by kernel_rfl
theorem cellsBool' : Try.prog.cellsOf 4 = 1 := by kernel_rfl
theorem list2 {β : Type} {l : List β} (h : l.length = 2) : ∃ a b, l = [a, b] := by
  match l, h with
  | [a, b], _ => exact ⟨a, b, rfl⟩
theorem pair_is {H : Type} {enc : TypeId × Value → H} {W : World} {base : Nat} {sp : Nat → Bool} {held : Bool} (fuel : Nat) (cs : List Value) (x : DataW H × List MemPlace)
    (h : DataW.trod enc Try.prog W base sp held fuel 30 cs = some x) : ∃ o, PairIs cs o := by
  obtain ⟨xs, n, _, hx, hl, hlen, hf⟩ := DataW.trod_struct Try.underlying30 h
  rw [cellsPair] at hl
  obtain ⟨c0, c1, rfl⟩ := list2 hl
  obtain ⟨y0, y1, rfl⟩ := list2 hlen
  have h0 := hf 0 _ rfl
  have h1 := hf 1 _ rfl
  simp [cellsI32', cellsBool'] at h0 h1
  obtain ⟨a, a0, _, wa⟩ := DataW.trod_int Try.underlying21 h0
  obtain ⟨b, b0, _⟩ := DataW.trod_bool Try.underlying4 h1
  simp at a0 b0
  subst a0 b0
  exact ⟨(a, b), rfl⟩
def IsPairs (w : World) (ao : Option Addr) (len cap : Nat) (Q : List Pr) : Prop := Q.length = len ∧ len ≤ cap ∧ cap ≤ maxLen ∧ RowsAt PairIs 2 w ao Q
set_option maxRecDepth 100000 in
theorem open_ops {H : Type} {enc : TypeId × Value → H} {W : World} {base : Nat} {ao : Option Addr} {len cap : Nat} {d : DataW H} {p : List MemPlace}
    (hv : Value.okWide Try.prog W .any base 23 (.slice ao len cap)) (h : DataW.Trod enc Try.prog W 0 (fun _ => true) true 23 (.slice ao len cap) d p) : ∃ Q, IsPairs W ao len cap Q :=
  open_rows 2 Try.underlying23 cellsPair (by decide) PairIs (fun fuel cs x hx => pair_is fuel cs x hx) h
/-- pairs that can be read -/
def Prs (w : World) (ao : Option Addr) (Q : List Pr) : Prop := Q = [] ∨ ∃ g o, ao = some ⟨g, o, none⟩ ∧ ∀ (j : Nat) q, Q[j]? = some q → w.cell? ⟨g, o + j * 2, none⟩ = some (.int .i32 q.1) ∧ w.cell? ⟨g, o + j * 2 + 1, none⟩ = some (.bool q.2)
theorem IsPairs.prs {w : World} {ao : Option Addr} {len cap : Nat} {Q : List Pr} (h : IsPairs w ao len cap Q) : Prs w ao Q := by
  rcases h.2.2.2 with h | ⟨g, o, ha, hc⟩
  · exact .inl h
  · refine .inr ⟨g, o, ha, fun j q hq => ?_⟩
    obtain ⟨cs, rfl, _, h3⟩ := hc j q hq
    exact ⟨h3 0 (by decide), h3 1 (by decide)⟩
theorem Prs.quiet {w w' : World} {ao : Option Addr} {Q : List Pr} (h : Prs w ao Q) (hf : Fr Nobody w w') : Prs w' ao Q := by
  rcases h with h | ⟨g, o, ha, hc⟩
  · exact .inl h
  · refine .inr ⟨g, o, ha, fun j q hq => ?_⟩
    obtain ⟨h0, h1⟩ := hc j q hq
    have hb := World.block_lt_of_cell? w _ h0
    exact ⟨(hf.cell (p := ⟨g, o + j * 2, none⟩) hb id).trans h0, (hf.cell (p := ⟨g, o + j * 2 + 1, none⟩) hb id).trans h1⟩
section
variable {α β : Type}
def tks (L : List (Nat × α)) : List Nat := L.map (·.1)
theorem tks_last (L : List (Nat × α)) (t : Nat) : (∃ e, L.getLast? = some e ∧ t ≤ e.1) ↔ ∃ x, (tks L).getLast? = some x ∧ t ≤ x := by
  unfold tks
  rw [List.getLast?_map]
  cases L.getLast? with
  | none => simp
  | some e => simp
theorem rput_two {k : Nat} {L : List (Nat × α)} {M : List (Nat × β)} {t : Nat} {x : α} {y : β} (h : tks L = tks M) (hl : L.length < k) (hm : M.length < k) :
    (rput k L t x = (12, L) ∧ rput k M t y = (12, M)) ∨ (rput k L t x = (0, L ++ [(t, x)]) ∧ rput k M t y = (0, M ++ [(t, y)])) := by
  unfold rput
  have e : (∃ e, L.getLast? = some e ∧ t ≤ e.1) ↔ ∃ e, M.getLast? = some e ∧ t ≤ e.1 := by rw [tks_last, tks_last, h]
  by_cases c : ∃ e, L.getLast? = some e ∧ t ≤ e.1
  · left; exact ⟨if_pos c, if_pos (e.1 c)⟩
  · right
    rw [if_neg c, if_neg (fun q => c (e.2 q)), if_neg (by omega), if_neg (by omega)]
    exact ⟨rfl, rfl⟩
theorem rget_snoc {k : Nat} {L : List (Nat × α)} {t : Nat} {x : α} (h : ROk k (L ++ [(t, x)])) : rget (L ++ [(t, x)]) t = some x := by
  have hb : below t (L ++ [(t, x)]) = L.length := by
    unfold below
    have hp := (List.pairwise_append.1 h.inc).2.2
    rw [List.takeWhile_append_of_pos (fun a ha => by
      have := hp a ha (t, x) (by simp)
      simpa using this)]
    simp
  unfold rget
  rw [hb, List.getElem?_append_right (Nat.le_refl _)]
  simp
end
end Go.Proofs.Ytdcfkjmjekbekaa
