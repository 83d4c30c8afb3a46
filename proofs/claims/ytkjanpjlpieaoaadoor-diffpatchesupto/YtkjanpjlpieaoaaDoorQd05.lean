/-
  The document's Check.
-/
import Derived.Test.YtkjanpjlpieaoaaDoorQd04
import Derived.Test.YtkjanpjlpieaoaaDoorQd01
import Derived.Deep.SlicePairs
import Derived.ProofKit
import Derived.OpenShut
import Derived.BigRegion
import Derived.BigQuiet
import Derived.Deep.QuietTactic
import Derived.Deep.RegionLaw
import Derived.Laws.CopyRow
namespace Go.Proofs.YtkjanpjlpieaoaaDoor
open Go.RowKit
set_option linter.unusedVariables false
set_option maxRecDepth 100000

set_option maxHeartbeats 2000000 in
theorem rcheck_any (w : World) (k : Nat) (hk : k < 256) (F : Nat → Int) :
    Calls Tryd.prog 64 #[.agg (cmp k F)] w fun e w' => e = .returned (.int .i64 ((chk k F : Nat) : Int)) ∧ Fr Nobody w w' := by
  have hc := cnt_le k
  have HC : Hid (∀ w, Calls Tryd.prog 82 #[.int .u8 (k : Int)] w fun e w' => e = .returned (.int .i64 ((cnt k : Nat) : Int)) ∧ Fr Nobody w w') := fun w => rcount_any w k hk
  have HB : Hid (Box (w.alloc (.cells (cmp k F) 46)) w.heap.size k F) := Box.new w k F
  have HF : Hid (Fr Nobody w (w.alloc (.cells (cmp k F) 46))) := (Fr.refl _ _).alloc _
  by_cases h6 : 6 ≤ k
  · have e1 : chk k F = 1 := by unfold chk; rw [if_pos h6]
    rw [e1]
    rw [cnt_out k h6] at HC
    clear e1 hc
    unfold cmp at *
    go_enter Tryd.func64, Tryd.ntmps64
    go_wp2_with fail
    refine (HC.out _).mono ?_
    rintro e w1 ⟨rfl, hf1⟩
    have HF1 : Hid _ := HF.out.trans hf1
    clear hf1
    go_wp2
    go_ret
    exact ⟨rfl, HF1.out⟩
  · have h1 := cnt_pos k (by omega)
    obtain ⟨c, ec⟩ : ∃ c, cnt k = c := ⟨_, rfl⟩
    have EC : Hid (cnt k = c) := ec
    rw [ec] at hc HC h1
    clear ec
    have HS4 : Hid (stray k F = true → chk k F = 4) := fun h => by unfold chk; rw [if_neg h6, if_pos h]
    have HS5 : Hid (stray k F = false → outside k F = true → chk k F = 5) := fun h h' => by unfold chk; rw [if_neg h6, h, if_neg (by decide), if_pos h']
    have HS0 : Hid (stray k F = false → outside k F = false → chk k F = 0) := fun h h' => by unfold chk; rw [if_neg h6, h, h', if_neg (by decide), if_neg (by decide)]
    unfold cmp
    have hc0 : ((c : Int) == 0) = false := by rw [beq_eq_false_iff_ne]; omega
    clear h1
    go_enter Tryd.func64, Tryd.ntmps64
    go_wp2_with fail
    refine (HC.out _).mono ?_
    rintro e w1 ⟨rfl, hf1⟩
    have HF1 : Hid _ := HF.out.trans hf1
    have HB1 : Hid _ := HB.out.quiet hf1
    clear hf1
    go_wp2
    go_loopw [4] (fun a wr => ∃ j : Nat, c ≤ j ∧ j ≤ 3 ∧ a = .int .i64 j ∧ (∀ i, c ≤ i → i < j → F i = 0) ∧ Box wr w.heap.size k F ∧ Fr Nobody w wr) (fun b _ => 3 - (intOf b).toNat)
    case atStart => exact ⟨c, Nat.le_refl _, hc, rfl, fun i h1 h2 => by omega, HB1.out, HF1.out⟩
    case round =>
      obtain ⟨j, hcj, hj, rfl, hz, hb, hf⟩ := hrel
      have HZ : Hid (∀ i, c ≤ i → i < j → F i = 0) := hz
      have HG1 : Hid (Fr Nobody w wr) := hf
      have HB2 : Hid (Box wr w.heap.size k F) := hb
      clear hf hz hb
      by_cases hlt : j < 3
      · have hx := HB2.out.at j hlt
        by_cases h0 : F j = 0
        · have HZ2 : Hid (∀ i, c ≤ i → i < j + 1 → F i = 0) := by
            intro i h1 h2
            by_cases e : i = j
            · rw [e]; exact h0
            · exact HZ.out i h1 (by omega)
          rw [h0] at hx
          clear h0
          go_wp2
          go_roundw
          case rel => exact ⟨j + 1, by omega, by omega, by go_num, HZ2.out, HB2.out, HG1.out⟩
          case measure => simp [intOf]; omega
        · have HS : Hid (chk k F = 4) := HS4.out (stray_true k j F (by rw [EC.out]; exact hcj) hlt h0)
          have h1 : (F j != 0) = true := by simpa using h0
          generalize F j = x at *
          clear h0
          go_wp2
          go_ret
          exact ⟨by rw [HS.out]; rfl, HG1.out⟩
      · have HS : Hid (stray k F = false) := stray_false k F (fun i h1 h2 => HZ.out i (by rw [← EC.out]; exact h1) (by omega))
        clear HZ hcj
        go_wp2
        clear HB HB1 HF HF1 HC
        go_loopw [25] (fun a wq => ∃ i : Nat, i ≤ c ∧ a = .int .i64 i ∧ (∀ t, t < i → lo k t ≤ F t ∧ F t ≤ hi k t) ∧ Box wq w.heap.size k F ∧ Fr Nobody w wq) (fun b _ => c - (intOf b).toNat)
        case atStart => exact ⟨0, Nat.zero_le _, rfl, fun i h1 => by omega, HB2.out, HG1.out⟩
        case round =>
          obtain ⟨i, hi0, rfl, hz, hb, hf⟩ := hrel
          have HZ : Hid (∀ t, t < i → lo k t ≤ F t ∧ F t ≤ hi k t) := hz
          have HG : Hid (Fr Nobody w wr) := hf
          have HB3 : Hid (Box wr w.heap.size k F) := hb
          clear hf hz hb
          by_cases hlt2 : i < c
          · have hk0 := HB3.out.kind
            have HR : Hid (∀ w, Calls Tryd.prog 83 #[.int .u8 (k : Int), .int .i64 (i : Int)] w fun e w' => e = .returned (.tuple #[.int .i32 (lo k i), .int .i32 (hi k i), .int .i64 0]) ∧ Fr Nobody w w') := fun w => rrange_ok w k i (by rw [EC.out]; exact hlt2)
            by_cases h0 : F i < lo k i
            · have HO : Hid (chk k F = 5) := HS5.out HS.out (outside_true k i F (by rw [EC.out]; exact hlt2) (.inl h0))
              go_wp2_with fail
              refine (HR.out _).mono ?_
              rintro e w2 ⟨rfl, hf2⟩
              have HG2 : Hid _ := HG.out.trans hf2
              have hx := (HB3.out.quiet hf2).at i (by omega)
              clear hf2 HR
              generalize F i = x at *
              generalize lo k i = a at *
              generalize hi k i = b at *
              go_wp2
              go_ret
              exact ⟨by rw [HO.out]; rfl, HG2.out⟩
            · by_cases h1 : hi k i < F i
              · have HO : Hid (chk k F = 5) := HS5.out HS.out (outside_true k i F (by rw [EC.out]; exact hlt2) (.inr h1))
                go_wp2_with fail
                refine (HR.out _).mono ?_
                rintro e w2 ⟨rfl, hf2⟩
                have HG2 : Hid _ := HG.out.trans hf2
                have hx := (HB3.out.quiet hf2).at i (by omega)
                clear hf2 HR
                generalize F i = x at *
                generalize lo k i = a at *
                generalize hi k i = b at *
                have d0 : decide (x < a) = false := by simpa using h0
                have d1 : decide (b < x) = true := by simpa using h1
                clear h0 h1
                go_wp2
                go_ret
                exact ⟨by rw [HO.out]; rfl, HG2.out⟩
              · have HZ2 : Hid (∀ t, t < i + 1 → lo k t ≤ F t ∧ F t ≤ hi k t) := by
                  intro t h2
                  by_cases e : t = i
                  · rw [e]; omega
                  · exact HZ.out t (by omega)
                go_wp2_with fail
                refine (HR.out _).mono ?_
                rintro e w2 ⟨rfl, hf2⟩
                have HG2 : Hid _ := HG.out.trans hf2
                have HB4 : Hid (Box w2 w.heap.size k F) := HB3.out.quiet hf2
                have hx := HB4.out.at i (by omega)
                clear hf2 HR
                generalize F i = x at *
                generalize lo k i = a at *
                generalize hi k i = b at *
                have d0 : decide (x < a) = false := by simpa using h0
                have d1 : decide (b < x) = false := by simpa using h1
                clear h0 h1
                go_wp2
                go_roundw
                case rel => exact ⟨i + 1, by omega, by go_num, HZ2.out, HB4.out, HG2.out⟩
                case measure => simp [intOf]; omega
          · have HO : Hid (chk k F = 0) := HS0.out HS.out (outside_false k F (fun t h1 => HZ.out t (by rw [EC.out] at h1; omega)))
            go_wp2
            go_ret
            exact ⟨by rw [HO.out]; rfl, HG.out⟩

/-- three fields -/
def f3 (a b c : Int) : Nat → Int
  | 0 => a
  | 1 => b
  | 2 => c
  | _ => 0
theorem check3 (w : World) (ht : Tab w) (k : Nat) (hk : k < 256) (a b c : Int) :
    Calls Tryd.prog 49 #[.agg #[.int .u8 (k : Int), .int .i32 a, .int .i32 b, .int .i32 c]] w fun e w' => e = .returned (.int .i64 ((chk k (f3 a b c) : Nat) : Int)) ∧ Fr Nobody w w' := check_any w ht k hk (f3 a b c)
theorem rcheck3 (w : World) (k : Nat) (hk : k < 256) (a b c : Int) :
    Calls Tryd.prog 64 #[.agg #[.int .u8 (k : Int), .int .i32 a, .int .i32 b, .int .i32 c]] w fun e w' => e = .returned (.int .i64 ((chk k (f3 a b c) : Nat) : Int)) ∧ Fr Nobody w w' := rcheck_any w k hk (f3 a b c)
end Go.Proofs.YtkjanpjlpieaoaaDoor

/-
  Components that come in, by value: read, and read again.
-/
namespace Go.Proofs.YtkjanpjlpieaoaaDoor
open Go.ChangeShapes Go.WideShapes Go.ChangeAt Go.WideMaps Go.WideElems Go.RowKit
set_option linter.unusedVariables false
set_option maxRecDepth 100000

theorem cellsComp : Tryd.prog.cellsOf 46 = 4 := by kernel_rfl
theorem cellsA3 : Tryd.prog.cellsOf 44 = 3 := by kernel_rfl
theorem cellsByte : Tryd.prog.cellsOf 5 = 1 := by kernel_rfl
theorem cellsI32 : Tryd.prog.cellsOf 21 = 1 := by kernel_rfl
/-- a component's datum -/
def cdat {H : Type} (k : Int) (a b c : Int) : DataW H := .agg [.lit (.int .u8 k), .agg [.lit (.int .i32 a), .lit (.int .i32 b), .lit (.int .i32 c)]]
def ok8 (k : Int) : Prop := (Lit.int .u8 k).wf = true
def ok32 (a : Int) : Prop := (Lit.int .i32 a).wf = true
/-- the cells of a component that is read as data -/
theorem comp_cells {H : Type} {enc : TypeId × Value → H} {W : World} {base : Nat} {sp : Nat → Bool} {held : Bool} {fuel : Nat} {cs : List Value} {x : DataW H × List MemPlace}
    (h : DataW.trod enc Tryd.prog W base sp held fuel 46 cs = some x) : ∃ k a b c, ok8 k ∧ ok32 a ∧ ok32 b ∧ ok32 c ∧ cs = [.int .u8 k, .int .i32 a, .int .i32 b, .int .i32 c] ∧ x = (cdat k a b c, []) := by
  obtain ⟨xs, n, _, hx, hl, hlen, hf⟩ := DataW.trod_struct Tryd.underlying46 h
  rw [cellsComp] at hl
  match cs, hl with
  | [c0, c1, c2, c3], _ =>
  match xs, hlen with
  | [y0, y1], _ =>
    have h0 := hf 0 _ rfl
    have h1 := hf 1 _ rfl
    simp [cellsByte, cellsA3] at h0 h1
    obtain ⟨k, e0, e0', w0⟩ := DataW.trod_int Tryd.underlying5 h0
    obtain ⟨zs, m, _, hz, hzl, hzlen, hzf⟩ := DataW.trod_array Tryd.underlying44 h1
    match zs, hzlen with
    | [z0, z1, z2], _ =>
      have g0 := hzf 0 (by decide)
      have g1 := hzf 1 (by decide)
      have g2 := hzf 2 (by decide)
      simp [cellsI32] at g0 g1 g2
      obtain ⟨a, a0, a1, wa⟩ := DataW.trod_int Tryd.underlying21 g0
      obtain ⟨b, b0, b1, wb⟩ := DataW.trod_int Tryd.underlying21 g1
      obtain ⟨c, k0, k1, wc⟩ := DataW.trod_int Tryd.underlying21 g2
      simp at e0 a0 b0 k0
      subst e0 a0 b0 k0 e0' a1 b1 k1 hz hx
      exact ⟨k, a, b, c, w0, wa, wb, wc, rfl, by simp [cdat]⟩
theorem ok8_nat {k : Int} (h : ok8 k) : ∃ n : Nat, k = n ∧ n < 256 := by
  have : 0 ≤ k ∧ k ≤ 255 := by simpa [ok8, Lit.wf, IntKind.min, IntKind.max, IntKind.signed, IntKind.bits] using h
  exact ⟨k.toNat, by omega, by omega⟩
theorem Box.cells {w : World} {b k : Nat} {F : Nat → Int} (h : Box w b k F) : w.cell? ⟨b, 0, none⟩ = some (.int .u8 (k : Int)) ∧ w.cell? ⟨b, 1, none⟩ = some (.int .i32 (F 0)) ∧ w.cell? ⟨b, 2, none⟩ = some (.int .i32 (F 1)) ∧ w.cell? ⟨b, 3, none⟩ = some (.int .i32 (F 2)) :=
  ⟨h.kind, h.at 0 (by decide), h.at 1 (by decide), h.at 2 (by decide)⟩
end Go.Proofs.YtkjanpjlpieaoaaDoor

/-
  Slices of structs that come in: their elements' cells.
-/
namespace Go.Proofs.YtkjanpjlpieaoaaDoor
open Go.RowKit Go.ChangeShapes Go.WideShapes Go.Deep
set_option linter.unusedVariables false

/-- elements of s cells each, of which G tells what they are -/
def RowsAt {α : Type} (G : List Value → α → Prop) (s : Nat) (w : World) (ao : Option Addr) (Q : List α) : Prop :=
  Q = [] ∨ ∃ g o, ao = some ⟨g, o, none⟩ ∧ ∀ (j : Nat) q, Q[j]? = some q → ∃ cs, G cs q ∧ cs.length = s ∧ ∀ r, r < s → w.cell? ⟨g, o + j * s + r, none⟩ = cs[r]?
theorem RowsAt.quiet {α : Type} {G : List Value → α → Prop} {s : Nat} {w w' : World} {ao : Option Addr} {Q : List α} (h : RowsAt G s w ao Q) (hf : Fr Nobody w w') : RowsAt G s w' ao Q := by
  rcases h with h | ⟨g, o, ha, hc⟩
  · exact .inl h
  · refine .inr ⟨g, o, ha, fun j q hq => ?_⟩
    obtain ⟨cs, h1, h2, h3⟩ := hc j q hq
    refine ⟨cs, h1, h2, fun r hr => ?_⟩
    have h4 := h3 r hr
    have h5 : cs[r]? = some cs[r] := List.getElem?_eq_getElem (by omega)
    rw [h5] at h4 ⊢
    exact (hf.cell (p := ⟨g, o + j * s + r, none⟩) (World.block_lt_of_cell? w _ h4) id).trans h4

end Go.Proofs.YtkjanpjlpieaoaaDoor

/-
  Rows of things of several cells; the first ones of a row let go; rings as plain lists.
-/
namespace Go.Proofs.YtkjanpjlpieaoaaDoor
open Go.RowKit
set_option linter.unusedVariables false

section
variable {α : Type}
/-- the cells of a list of things -/
def cat (c : α → List Value) (L : List α) : List Value := L.flatMap c
theorem cat_append (c : α → List Value) (L M : List α) : cat c (L ++ M) = cat c L ++ cat c M := by simp [cat]
theorem length_cat (c : α → List Value) (s : Nat) (hs : ∀ x, (c x).length = s) (L : List α) : (cat c L).length = L.length * s := by
  induction L with
  | nil => simp [cat]
  | cons x L ih => rw [cat, List.flatMap_cons, List.length_append, hs, List.length_cons, Nat.succ_mul]; rw [cat] at ih; rw [ih]; omega
theorem cat_at (c : α → List Value) (s : Nat) (hs : ∀ x, (c x).length = s) (L : List α) (i r : Nat) (x : α) (hx : L[i]? = some x) (hr : r < s) : (cat c L)[i * s + r]? = (c x)[r]? := by
  induction i generalizing L with
  | zero =>
    cases L with
    | nil => simp at hx
    | cons y L =>
      simp at hx
      subst hx
      rw [cat, List.flatMap_cons, Nat.zero_mul, Nat.zero_add, List.getElem?_append_left (by rw [hs]; exact hr)]
  | succ i ih =>
    cases L with
    | nil => simp at hx
    | cons y L =>
      rw [cat, List.flatMap_cons, List.getElem?_append_right (by rw [hs, Nat.succ_mul]; omega), hs]
      have := ih L (by simpa using hx)
      rw [cat] at this
      rw [← this]; congr 1; rw [Nat.succ_mul]; omega
theorem one_cat (c : α → List Value) (h : ∀ x, ∀ u ∈ c x, u.oneCell' = true) (L : List α) : ∀ u ∈ cat c L, u.oneCell' = true := by
  intro u hu
  rw [cat, List.mem_flatMap] at hu
  obtain ⟨x, _, hx⟩ := hu
  exact h x u hx
end

section
variable {α : Type}
/-- how many have lesser ticks -/
def below (t : Nat) (L : List (Nat × α)) : Nat := (L.takeWhile (fun e => decide (e.1 < t))).length
structure ROk (k : Nat) (L : List (Nat × α)) : Prop where
  k1 : 1 ≤ k
  k2 : k ≤ 64
  le : L.length ≤ k
  inc : L.Pairwise (fun a b => a.1 < b.1)
  lt : ∀ e ∈ L, e.1 < 4294967296
theorem ROk.nil {k : Nat} (h1 : 1 ≤ k) (h2 : k ≤ 64) : ROk k ([] : List (Nat × α)) := ⟨h1, h2, by simp, by simp, by simp⟩
theorem ROk.drop {k : Nat} {L : List (Nat × α)} (h : ROk k L) (n : Nat) : ROk k (L.drop n) :=
  ⟨h.k1, h.k2, by rw [List.length_drop]; have := h.le; omega, h.inc.sublist (List.drop_sublist _ _), fun e he => h.lt e (List.mem_of_mem_drop he)⟩
end
end Go.Proofs.YtkjanpjlpieaoaaDoor

/-
  Slices that are only read, from any place of a row on; what is appended out of them.
-/
namespace Go.Proofs.YtkjanpjlpieaoaaDoor
open Go.RowKit
set_option linter.unusedVariables false

/-- a slice of n things of s cells that is read alone -/
def View (s : Nat) (v : Value) (n : Nat) (xs : List Value) : Thing where
  is := fun w A => xs.length = n * s ∧ ∃ ao cap, v = .slice ao n cap ∧ n ≤ cap ∧ cap ≤ maxLen ∧ ((n = 0 ∧ ∀ k, ¬ A k) ∨ (0 < n * s ∧ ∃ g o, ao = some ⟨g, o, none⟩ ∧ (∀ k, A k ↔ k = g) ∧ ∀ j u, xs[j]? = some u → w.cell? ⟨g, o + j, none⟩ = some u))
  lt := by
    rintro w A k ⟨hl, ao, cap, rfl, _, _, ⟨_, h⟩ | ⟨h0, g, o, _, hA, hc⟩⟩ a
    · exact (h k a).elim
    · rw [(hA k).1 a]
      have hx : xs[0]? = some xs[0] := List.getElem?_eq_getElem (by omega)
      exact World.block_lt_of_cell? w _ (hc 0 _ hx)
  keep := by
    rintro w w' A B ⟨hl, ao, cap, rfl, h1, h2, ⟨h3, h⟩ | ⟨h0, g, o, ha, hA, hc⟩⟩ hf hn
    · exact ⟨hl, ao, cap, rfl, h1, h2, .inl ⟨h3, h⟩⟩
    · refine ⟨hl, ao, cap, rfl, h1, h2, .inr ⟨h0, g, o, ha, hA, fun j u hu => ?_⟩⟩
      have h4 := hc j u hu
      exact (hf.cell (p := ⟨g, o + j, none⟩) (World.block_lt_of_cell? w _ h4) (hn g ((hA g).2 rfl))).trans h4

section
variable {w0 w w' : World} {l : List Thing} {t e : TypeId} {s n m cap g : Nat} {v u : Value} {xs ys : List Value}
theorem Own.view (h : Own w0 w (Row e s v n xs :: l)) (hs : 0 < s) : Own w0 w (View s v n xs :: l) := by
  obtain ⟨A, ⟨B, C, hB, hC, hbc, hA⟩, hF, hlo⟩ := h
  have hr := hB.1
  rcases hr.2 with ⟨rfl, rfl⟩ | ⟨g, cap, cur, rfl, _, hgg, h1, h2, h3, h4⟩
  · refine ⟨C, ⟨fun _ => False, C, ⟨hr.1, none, 0, rfl, Nat.le_refl _, Nat.zero_le _, .inl ⟨rfl, fun _ h => h⟩⟩, hC, fun _ h => h.elim, fun k => by simp⟩, hF, fun k c => hlo k ((hA k).2 (.inr c))⟩
  · rcases Nat.eq_zero_or_pos n with h0 | h0
    · refine ⟨C, ⟨fun _ => False, C, ⟨hr.1, _, _, rfl, h1, h2, .inl ⟨h0, fun _ h => h⟩⟩, hC, fun _ h => h.elim, fun k => by simp⟩, hF, fun k c => hlo k ((hA k).2 (.inr c))⟩
    · refine ⟨A, ⟨B, C, ⟨hr.1, _, _, rfl, h1, h2, .inr ⟨Nat.mul_pos h0 hs, g, 0, rfl, fun k => ?_, fun j u hu => ?_⟩⟩, hC, hbc, hA⟩, hF, hlo⟩
      · rw [hB.2 k]; simp [Value.ownBlock]; exact eq_comm
      · have hj := (List.getElem?_eq_some_iff.1 hu).1
        rw [Nat.zero_add, hr.cellAt j (by rw [← hr.1]; exact hj)]; exact hu
theorem Own.vcell (h : Own w0 w (View s v n xs :: l)) (hn : 0 < n) : ∃ g o cap, v = .slice (some ⟨g, o, none⟩) n cap ∧ n ≤ cap ∧ cap ≤ maxLen ∧ ∀ j u, xs[j]? = some u → w.cell? ⟨g, o + j, none⟩ = some u := by
  obtain ⟨A, ⟨B, C, ⟨hl, ao, cap, rfl, h1, h2, ⟨h3, _⟩ | ⟨h0, g, o, rfl, hA, hc⟩⟩, _⟩, _⟩ := h
  · omega
  · exact ⟨g, o, cap, rfl, h1, h2, hc⟩
theorem Own.litRow (h : Own w0 w l) (cs : Array Value) (e : TypeId) (s n : Nat) (hm : n ≤ maxLen) (hs : cs.size = n * s) : Own w0 (w.alloc (.cells cs e)) (Row e s (.slice (some ⟨w.heap.size, 0, none⟩) n n) n cs.toList :: l) :=
  h.new (Row e s (.slice (some ⟨w.heap.size, 0, none⟩) n n) n cs.toList) (fun k => k = w.heap.size) ⟨World.ownsRow_lit (base := 0) w cs n (Nat.zero_le _) hm hs, fun k => by simp [Value.ownBlock]; exact eq_comm⟩ ((Fr.refl _ _).alloc _) (fun k hk => by omega)
end

theorem run_append_empty {P : Program} (w : World) (base : Nat) (t ty e : TypeId) (i : TypeInfo) (size : Nat) (ht : P.underlying t = some (.slice e)) (hi : P.info? e = some i)
    (v : Value) (n : Nat) (xs : List Value) (hown : w.ownsRow base e size v n xs) (xa : Option Addr) (c : Nat) :
    (Builtin.append_ #[t, t] ty #[v, .slice xa 0 c]).run P w = .ok v w := by
  rcases hown.2 with ⟨rfl, rfl⟩ | ⟨g, cap, cur, rfl, _, _, hnc, _⟩
  · cases xa <;> simp [Builtin.append_, run_underlying ht, sizeOf, typeInfo, hi, Builtin.lenOf, Builtin.firstCells, loadCells, loadCellsFrom]
  · cases xa <;> simp [Builtin.append_, run_underlying ht, sizeOf, typeInfo, hi, Builtin.lenOf, Builtin.firstCells, hnc, storeCells, loadCells, loadCellsFrom]
end Go.Proofs.YtkjanpjlpieaoaaDoor

