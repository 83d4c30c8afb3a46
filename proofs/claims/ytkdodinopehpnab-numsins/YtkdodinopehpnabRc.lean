/-
  Slices that came in; a writer and a list side by side; what 'written' of the laws makes.
-/
import Derived.Test.YtkdodinopehpnabRb
import Derived.Test.YtkdodinopehpnabAwb
namespace Go.Proofs.Ytkdodinopehpnab
open Go.RowKit
set_option linter.unusedVariables false

/-- WHAT A WALK IS TOLD OF A SLICE OF INTEGERS THAT CAME IN (as the guide's shell has it). -/
def IsRow (k : IntKind) (w : World) (a : Option Addr) (len cap : Nat) (zs : List Int) : Prop :=
  (a = none ∧ len = 0 ∧ cap = 0 ∧ zs = []) ∨
  ∃ x, a = some x ∧ len ≤ cap ∧ cap ≤ maxLen ∧ zs.length = cap ∧ (∀ i, i < zs.length → w.cell? (x.add i) = some (.int k (zs.getD i 0))) ∧ ∀ n ∈ zs, (Lit.int k n).wf = true

/-- The numbers P of a slice of integers of kind k: nothing is asked of its address where there are none. -/
def Ints (k : IntKind) (w : World) (ao : Option Addr) (P : List Int) : Prop :=
  P = [] ∨ ∃ g o, ao = some ⟨g, o, none⟩ ∧ ∀ j x, P[j]? = some x → w.cell? ⟨g, o + j, none⟩ = some (.int k x)
theorem Ints.quiet {k : IntKind} {w w' : World} {ao : Option Addr} {P : List Int} (h : Ints k w ao P) (hf : Fr Nobody w w') : Ints k w' ao P := by
  rcases h with h | ⟨g, o, ha, hc⟩
  · exact .inl h
  · refine .inr ⟨g, o, ha, fun j x hx => ?_⟩
    have h1 := hc j x hx
    exact (hf.cell (p := ⟨g, o + j, none⟩) (World.block_lt_of_cell? w _ h1) id).trans h1
theorem IsRow.ints {k : IntKind} {w : World} {a : Option Addr} {len cap : Nat} {zs : List Int} (h : IsRow k w a len cap zs) : (zs.take len).length = len ∧ len ≤ maxLen ∧ Ints k w a (zs.take len) ∧ ∀ n ∈ zs.take len, (Lit.int k n).wf = true := by
  rcases h with ⟨rfl, rfl, rfl, rfl⟩ | ⟨x, rfl, hl, hm, hz, hc, hw⟩
  · exact ⟨rfl, Nat.zero_le _, .inl rfl, fun n hn => by simp at hn⟩
  · refine ⟨by rw [List.length_take]; omega, by omega, ?_, fun n hn => hw n (List.mem_of_mem_take hn)⟩
    by_cases h0 : len = 0
    · subst h0; left; simp
    · right
      obtain ⟨g, o, spot⟩ := x
      have h1 := hc 0 (by omega)
      have hs : spot = none := by simpa [Addr.add] using World.cell?_spot h1
      subst hs
      refine ⟨g, o, rfl, fun j y hy => ?_⟩
      rw [List.getElem?_take] at hy
      split at hy
      · rename_i hj
        have h2 := hc j (by omega)
        rw [addr_add] at h2
        rw [h2]
        rw [List.getD_eq_getElem?_getD, hy]; rfl
      · cases hy

/-- A writer and a list of bits, both of the same bits. -/
def Both (w0 w : World) (b : Nat) (v : Value) (L : List Bool) : Prop := Ow w0 w b L ∧ Bo w0.heap.size w v L
theorem Ow.apart {w0 w : World} {b : Nat} {M : List Bool} (h : Ow w0 w b M) : ∃ g, Wr w0.heap.size w b g M ∧ ∀ k cur, w.heap[k]? = some (.cells cur 4 (0, 0)) → ¬ At b g k := by
  obtain ⟨g, hW, _⟩ := h
  exact ⟨g, hW, hW.apart⟩
theorem Both.fr {w0 w : World} {b : Nat} {v : Value} {L : List Bool} (h : Both w0 w b v L) : Fr Nobody w0 w := h.1.fr
/-- Put into the writer; the list stays -/
theorem put_keep (w0 w : World) (b : Nat) (v : Value) (L M : List Bool) (x n : Nat) (h : Ow w0 w b L) (hb : Bo w0.heap.size w v M) (hn : n ≤ 64) (hv : x < 2 ^ n) (hv2 : x < 18446744073709551616) (hl : L.length + n ≤ 1048576) :
    Calls Try.prog 37 #[.pointer (some ⟨b, 0, none⟩), .int .u64 x, .int .i64 n] w fun e w' => e = .returned (.int .i64 0) ∧ Ow w0 w' b (L ++ bitsN n x) ∧ Bo w0.heap.size w' v M := by
  obtain ⟨g, hW, hF⟩ := h
  refine (put_ok _ w b g L x n hW hn hv hv2 hl).mono ?_
  rintro e w' ⟨rfl, g', hW', hS⟩
  exact ⟨rfl, ⟨g', hW', hF.fresh hS.fr hW.lowAt⟩, hb.keep hS.fr hW.apart⟩
/-- Put on the list; the writer stays -/
theorem rput_keep (w0 w : World) (b : Nat) (v : Value) (L M : List Bool) (x n : Nat) (h : Ow w0 w b L) (hb : Bo w0.heap.size w v M) (hL : M.length + n ≤ 1048576) (hx : x < 2 ^ n) (hx2 : x < 18446744073709551616) (hn : n ≤ 64) :
    Calls Try.prog 38 #[v, .int .u64 x, .int .i64 n] w fun e w' => ∃ v', e = .returned (.tuple #[v', .int .i64 0]) ∧ Bo w0.heap.size w' v' (M ++ bitsN n x) ∧ Ow w0 w' b L := by
  refine (rput_own w0.heap.size w v M x n hb h.fr.size (by omega) hx2 hn).mono ?_
  have e1 : x / 2 ^ n = 0 := Nat.div_eq_of_lt hx
  have e2 : rputE M x n = 0 := by unfold rputE; rw [if_pos e1, if_pos hL]
  have e3 : rputL M x n = M ++ bitsN n x := by unfold rputL; rw [if_pos ⟨e1, hL⟩]
  rw [e2, e3]
  rintro e w' ⟨v', rfl, hb', hf⟩
  exact ⟨v', rfl, hb', h.quiet hf⟩

set_option maxHeartbeats 1000000 in
theorem written_any (w0 w : World) (ao : Option Addr) (len cap : Nat) (P : List Int) (hf : Fr Nobody w0 w) (hP : Ints .u8 w0 ao P) (hl : P.length = len) (hb : ∀ x ∈ P, 0 ≤ x ∧ x ≤ 255) (hm : len ≤ maxLen) :
    Calls Try.prog 10 #[.slice ao len cap] w fun e w' => ∃ b v L, e = .returned (.tuple #[.pointer (some ⟨b, 0, none⟩), v]) ∧ Both w0 w' b v L ∧ L.length ≤ 60 ∧ L.length % 3 = 0 := by
  unfold maxLen at hm
  have HF : Hid (Fr Nobody w0 w) := hf
  have HP : Hid (Ints .u8 w0 ao P ∧ P.length = len ∧ ∀ x ∈ P, 0 ≤ x ∧ x ≤ 255) := ⟨hP, hl, hb⟩
  clear hf hP hl hb
  go_enter Try.func10, Try.ntmps10
  go_wp2_with fail
  refine ((new_any w0.heap.size w HF.out.size)).mono ?_
  rintro e w1 ⟨b, rfl, hb, hW, hf⟩
  have H1 : Hid (Ow w0 w1 b [] ∧ Fr Nobody w w1) := ⟨⟨none, hW, HF.out.trans hf⟩, hf⟩
  clear hb hW hf HF
  go_wp2
  go_loopw [5, 11] (fun u c wr => ∃ (k : Nat) (L : List Bool), k ≤ len ∧ k ≤ 20 ∧ c = .int .i64 k ∧ L.length = 3 * k ∧ Both w0 wr b u L) (fun _ c _ => len - (intOf c).toNat)
  case atStart => exact ⟨0, [], Nat.zero_le _, by decide, rfl, rfl, ⟨H1.out.1, Bo.nil _ _⟩⟩
  case round =>
    obtain ⟨k, L, hk, hk20, rfl, hL, hB⟩ := hrel
    have HL : Hid (L.length = 3 * k) := hL
    have HB : Hid (Both w0 wr b _ L) := hB
    have HI : Hid (Ints .u8 wr ao P) := HP.out.1.quiet hB.fr
    clear hL hB H1
    by_cases hlt : k < len
    · obtain ⟨x, hx⟩ : ∃ x, P[k]? = some x := ⟨_, List.getElem?_eq_getElem (by rw [HP.out.2.1]; exact hlt)⟩
      have hx2 := HP.out.2.2 x (List.mem_of_getElem? hx)
      obtain ⟨xn, rfl⟩ := Int.eq_ofNat_of_zero_le hx2.1
      obtain ⟨g, o, hao, cx⟩ : ∃ g o, ao = some ⟨g, o, none⟩ ∧ wr.cell? ⟨g, o + k, none⟩ = some (.int .u8 (xn : Int)) := by
        rcases HI.out with h | ⟨g, o, ha, hc⟩
        · subst h; simp at hx
        · exact ⟨g, o, ha, hc k _ hx⟩
      subst hao
      clear hx
      by_cases h20 : k < 20
      · obtain ⟨y, hy⟩ : ∃ y : Nat, (xn : Int) % 8 = (y : Int) := ⟨xn % 8, by omega⟩
        have hy8 : y < 8 := by omega
        go_wp2_with fail
        refine (put_keep w0 wr b _ L L y 3 HB.out.1 HB.out.2 (by decide) hy8 (by omega) (by have := HL.out; omega)).mono ?_
        rintro e w2 ⟨rfl, hO, hO2⟩
        have H2 : Hid (Ow w0 w2 b (L ++ bitsN 3 y) ∧ Bo w0.heap.size w2 _ L) := ⟨hO, hO2⟩
        have c2 : Hid (Fr Nobody w0 w2) := hO.fr
        clear hO hO2 HB
        go_wp2_with fail
        refine (rput_keep w0 w2 b _ _ L y 3 H2.out.1 H2.out.2 (by have := HL.out; omega) hy8 (by omega) (by decide)).mono ?_
        rintro e w3 ⟨v3, rfl, hO, hO2⟩
        have H3 : Hid (Both w0 w3 b v3 (L ++ bitsN 3 y) ∧ (L ++ bitsN 3 y).length = 3 * (k + 1)) := ⟨⟨hO2, hO⟩, by rw [List.length_append, length_bitsN, HL.out]; omega⟩
        clear hO hO2 H2 c2
        go_wp2
        go_roundw
        case rel => exact ⟨k + 1, L ++ bitsN 3 y, by omega, by omega, by go_num, H3.out.2, H3.out.1⟩
        case measure => simp [intOf]; omega
      · have H9 : Hid (L.length ≤ 60 ∧ L.length % 3 = 0) := by have := HL.out; show _ ∧ _; omega
        go_wp2
        go_ret2
        exact ⟨b, _, L, rfl, HB.out, H9.out⟩
    · have H9 : Hid (L.length ≤ 60 ∧ L.length % 3 = 0) := by have := HL.out; show _ ∧ _; omega
      go_wp2
      go_ret2
      exact ⟨b, _, L, rfl, HB.out, H9.out⟩

end Go.Proofs.Ytkdodinopehpnab
