/-
  Bytes that come in; a copy of them.
-/
import Derived.Test.YtiphkndahoageaaNtl
import Derived.ProofKit
import Derived.OpenShut
namespace Go.Proofs.Ytiphkndahoageaa
open Go.RowKit Go.ChangeShapes Go.WideShapes
set_option linter.unusedVariables false

def IsRow (k : IntKind) (w : World) (a : Option Addr) (len cap : Nat) (zs : List Int) : Prop :=
  (a = none ∧ len = 0 ∧ cap = 0 ∧ zs = []) ∨
  ∃ x, a = some x ∧ len ≤ cap ∧ cap ≤ maxLen ∧ zs.length = cap ∧ (∀ i, i < zs.length → w.cell? (x.add i) = some (.int k (zs.getD i 0))) ∧ ∀ n ∈ zs, (Lit.int k n).wf = true
/-- The numbers P of a slice of integers of kind k: nothing is asked of its address where there are none. -/
def Ints (k : IntKind) (w : World) (ao : Option Addr) (P : List Int) : Prop :=
  P = [] ∨ ∃ g o, ao = some ⟨g, o, none⟩ ∧ ∀ j x, P[j]? = some x → w.cell? ⟨g, o + j, none⟩ = some (.int k x)
theorem Ints.quiet {k : IntKind} {w w' : World} {ao : Option Addr} {P : List Int} (h : Ints k w ao P) (hf : Fr Nobody w w') : Ints k w' ao P := by
  rcases h with h | ⟨g, o, ha, hc⟩
  · exact .inl h
  · refine .inr ⟨g, o, ha, fun j x hx => ?_⟩
    have h1 := hc j x hx
    exact (hf.cell (p := ⟨g, o + j, none⟩) (World.block_lt_of_cell? w _ h1) id).trans h1
theorem IsRow.ints {k : IntKind} {w : World} {a : Option Addr} {len cap : Nat} {zs : List Int} (h : IsRow k w a len cap zs) : (zs.take len).length = len ∧ len ≤ maxLen ∧ Ints k w a (zs.take len) ∧ ∀ n ∈ zs.take len, (Lit.int k n).wf = true := by
  rcases h with ⟨rfl, rfl, rfl, rfl⟩ | ⟨x, rfl, hl, hm, hz, hc, hw⟩
  · exact ⟨rfl, Nat.zero_le _, .inl rfl, fun n hn => by simp at hn⟩
  · refine ⟨by rw [List.length_take]; omega, by omega, ?_, fun n hn => hw n (List.mem_of_mem_take hn)⟩
    by_cases h0 : len = 0
    · subst h0; left; simp
    · right
      obtain ⟨g, o, spot⟩ := x
      have h1 := hc 0 (by omega)
      have hs : spot = none := by simpa [Addr.add] using World.cell?_spot h1
      subst hs
      refine ⟨g, o, rfl, fun j y hy => ?_⟩
      rw [List.getElem?_take] at hy
      split at hy
      · rename_i hj
        have h2 := hc j (by omega)
        rw [addr_add] at h2
        rw [h2]
        rw [List.getD_eq_getElem?_getD, hy]; rfl
      · cases hy
structure In (w : World) (ao : Option Addr) (len cap : Nat) (P : List Nat) : Prop where
  at' : BytesAt w ao P
  eqn : P.length = len
  byt : ∀ x ∈ P, x < 256
  nil : ao = none → cap = 0
  le : len ≤ cap
theorem In.quiet {w w' : World} {ao : Option Addr} {len cap : Nat} {P : List Nat} (h : In w ao len cap P) (hf : Fr Nobody w w') : In w' ao len cap P := ⟨h.at'.quiet hf, h.eqn, h.byt, h.nil, h.le⟩
theorem In.cut {w : World} {ao : Option Addr} {len cap : Nat} {P : List Nat} (h : In w ao len cap P) (m : Nat) (hm : m ≤ len) : In w ao m cap (P.take m) := by
  refine ⟨?_, by rw [List.length_take, h.eqn]; omega, fun x hx => h.byt x (List.mem_of_mem_take hx), h.nil, Nat.le_trans hm h.le⟩
  rcases h.at' with h1 | ⟨g, o, h1, h2⟩
  · left; rw [h1]; simp
  · right
    refine ⟨g, o, h1, fun j x hx => h2 j x ?_⟩
    rw [List.getElem?_take] at hx
    split at hx
    · exact hx
    · cases hx
theorem In.src {w : World} {ao : Option Addr} {len cap : Nat} {P : List Nat} (h : In w ao len cap P) : Src w (.slice ao len cap) P.length (vrow P) := by
  have := h.at'.src cap h.nil
  rw [h.eqn] at this ⊢
  exact this
theorem In.some' {w : World} {ao : Option Addr} {len cap : Nat} {P : List Nat} (h : In w ao len cap P) (h0 : 0 < len) : ∃ g o, ao = some ⟨g, o, none⟩ := by
  rcases h.at' with h1 | ⟨g, o, h1, h2⟩
  · rw [← h.eqn, h1] at h0; cases h0
  · exact ⟨g, o, h1⟩
theorem In.of_row {w : World} {B g n cap : Nat} {P : List Nat} (h : w.ownsRow B 5 1 (.slice (some ⟨g, 0, none⟩) n cap) n (vrow P)) (hl : P.length = n) (hb : ∀ x ∈ P, x < 256) : In w (some ⟨g, 0, none⟩) n cap P := by
  refine ⟨.inr ⟨g, 0, rfl, fun j x hx => ?_⟩, hl, hb, (fun e => by cases e), (row_cap h).2.1⟩
  have hj : j < P.length := (List.getElem?_eq_some_iff.1 hx).1
  rw [Nat.zero_add, h.cellAt j (by omega), getElem?_vrow, hx]; rfl
theorem in_row {w : World} {ao : Option Addr} {len cap : Nat} {zs : List Int} (h : IsRow .u8 w ao len cap zs) : len ≤ maxLen ∧ ∃ P, In w ao len cap P := by
  obtain ⟨hl, hm, hI, hw⟩ := h.ints
  have hb : ∀ x ∈ zs.take len, 0 ≤ x ∧ x ≤ 255 := fun x hx => by
    have := hw x hx
    simpa [Lit.wf, IntKind.min, IntKind.max, IntKind.signed, IntKind.bits] using this
  have hc : (ao = none → cap = 0) ∧ len ≤ cap := by
    rcases h with ⟨rfl, rfl, rfl, rfl⟩ | ⟨x, rfl, hl, _⟩
    · exact ⟨fun _ => rfl, Nat.le_refl _⟩
    · exact ⟨(fun e => by cases e), hl⟩
  refine ⟨hm, (zs.take len).map Int.toNat, ?_, by rw [List.length_map, hl], ?_, hc.1, hc.2⟩
  · rcases hI with h0 | ⟨g, o, h1, h2⟩
    · left; rw [h0]; rfl
    · right
      refine ⟨g, o, h1, fun j x hx => ?_⟩
      rw [List.getElem?_map] at hx
      cases hz : (zs.take len)[j]? with
      | none => rw [hz] at hx; cases hx
      | some y =>
        rw [hz] at hx
        have hy := hb y (List.mem_of_getElem? hz)
        have hxy : y.toNat = x := by simpa using hx
        rw [h2 j y hz]
        have : y = (x : Int) := by omega
        rw [this]
  · intro x hx
    rw [List.mem_map] at hx
    obtain ⟨y, hy, rfl⟩ := hx
    have := hb y hy
    omega
theorem u16_rng {n : Int} (h : (Lit.int .u16 n).wf = true) : ∃ k : Nat, n = k ∧ k < 65536 := by
  have : 0 ≤ n ∧ n ≤ 65535 := by simpa [Lit.wf, IntKind.min, IntKind.max, IntKind.signed, IntKind.bits] using h
  exact ⟨n.toNat, by omega, by omega⟩
theorem u32_rng {n : Int} (h : (Lit.int .u32 n).wf = true) : ∃ k : Nat, n = k ∧ k < 4294967296 := by
  have : 0 ≤ n ∧ n ≤ 4294967295 := by simpa [Lit.wf, IntKind.min, IntKind.max, IntKind.signed, IntKind.bits] using h
  exact ⟨n.toNat, by omega, by omega⟩
theorem u8_rng {n : Int} (h : (Lit.int .u8 n).wf = true) : ∃ k : Nat, n = k ∧ k < 256 := by
  have : 0 ≤ n ∧ n ≤ 255 := by simpa [Lit.wf, IntKind.min, IntKind.max, IntKind.signed, IntKind.bits] using h
  exact ⟨n.toNat, by omega, by omega⟩

/-- 'append([]byte{}, p...)' -/
theorem copy_own {w0 w : World} {l : List Thing} {ops : Array Oper} {rest : List Oper} {o : Oper} {a : Act} {Q : Exit → Act → World → Prop} (hgd : o.guard = none) (s x : Operand)
    (ho : o.op = .call { callee := .builtin .append, args := #[s, x], argTypes := #[31, 31] }) (ao : Option Addr) (m cap : Nat) (P : List Nat) (h : Own w0 w l) (hS : Src w (.slice ao m cap) P.length (vrow P)) (hm : P.length = m) (hL : m ≤ 140737488351232)
    (k : Nat) (hk : k = w.heap.size) (hs : a.eval s = .slice (some ⟨k, 0, none⟩) 0 0) (hx : a.eval x = .slice ao m cap)
    (hK : ∀ ao' cap' w', Own w0 w' (Row 5 1 (.slice ao' m cap') m (vrow P) :: l) → wpList Try.prog ops Q rest (a.put o.dst (.slice ao' m cap')) w') :
    wpList Try.prog ops Q (o :: rest) a (w.alloc (.cells #[] 5)) := by
  obtain ⟨i0, hi, hz0, hz1, hz2⟩ := info_parts Try.infoB
  subst hk
  have hO := h.litRow #[] 5 1 0 (by decide) rfl
  have hS2 : Src (w.alloc (.cells #[] 5)) (.slice ao m cap) P.length (vrow P) := hS.quiet ((Fr.refl Nobody w).alloc _)
  subst hm
  rcases hS2 with ⟨hv, h0, h00⟩ | ⟨a', cap', hv, hl, hc⟩
  · have hP0 : P = [] := List.eq_nil_of_length_eq_zero h0
    subst hP0
    rw [hv] at hx
    refine wpList_plain hgd fun K hK' => ?_
    have hr := run_append_owned_none (P := Try.prog) (w.alloc (.cells #[] 5)) 0 31 o.type 5 i0 1 Try.underlying31 hi _ 0 [] hO.row
    unfold Oper.wp
    simp [execOp, ho, resolve, invoke, builtin, hs, hx, hr, Result.andThen]
    exact hK' _ _ (hK _ _ _ hO)
  · obtain ⟨rfl, _, rfl⟩ := Value.slice.inj hv
    rcases Nat.eq_zero_or_pos P.length with h0 | h0
    · have hP0 : P = [] := List.eq_nil_of_length_eq_zero h0
      subst hP0
      refine wpList_plain hgd fun K hK' => ?_
      have hr := run_append_empty (P := Try.prog) (w.alloc (.cells #[] 5)) 0 31 o.type 5 i0 1 Try.underlying31 hi _ 0 [] hO.row (some a') cap
      simp only [List.length_nil] at hx
      unfold Oper.wp
      simp [execOp, ho, resolve, invoke, builtin, hs, hx, hr, Result.andThen]
      exact hK' _ _ (hK _ _ _ hO)
    · refine append_own hgd s x 31 ho 5 i0 (.int .u8 0) 1 1 Try.underlying31 hi hz0 hz1 hz2 rfl (by decide) _ 0 [] hs hO a' P.length cap (vrow P) hx (by rw [length_vrow]; omega) hc (one_vrow P) h0 (by unfold maxLen; omega) (by omega) ?_
      intro g' cap' w' hO' _
      simp only [Nat.zero_add, List.nil_append] at hO' ⊢
      exact hK _ _ _ hO'
end Go.Proofs.Ytiphkndahoageaa
