/-
  Who goes leaves no gap: TableSwaps returns true, whatever its arguments, where the table of the components lies as the program's text lays it, and changes nothing that was there.
-/
import Derived.Test.YtbjnbohnhjcchaaDoorUi
namespace Go.Proofs.YtbjnbohnhjcchaaDoor
open Go.ChangeShapes Go.WideShapes Go.ChangeAt Go.RowKit
set_option linter.unusedVariables false
set_option maxRecDepth 100000

/-- WHAT A WALK IS TOLD OF A SLICE OF INTEGERS THAT CAME IN (as the guide's shell has it). -/
def IsRow (k : IntKind) (w : World) (a : Option Addr) (len cap : Nat) (zs : List Int) : Prop :=
  (a = none ∧ len = 0 ∧ cap = 0 ∧ zs = []) ∨
  ∃ x, a = some x ∧ len ≤ cap ∧ cap ≤ maxLen ∧ zs.length = cap ∧ (∀ i, i < zs.length → w.cell? (x.add i) = some (.int k (zs.getD i 0))) ∧ ∀ n ∈ zs, (Lit.int k n).wf = true
/-- The numbers P of a slice of integers of kind k: nothing is asked of its address where there are none. -/
def Ints (k : IntKind) (w : World) (ao : Option Addr) (P : List Int) : Prop :=
  P = [] ∨ ∃ g o, ao = some ⟨g, o, none⟩ ∧ ∀ j x, P[j]? = some x → w.cell? ⟨g, o + j, none⟩ = some (.int k x)
theorem Ints.quiet {k : IntKind} {w w' : World} {ao : Option Addr} {P : List Int} (h : Ints k w ao P) (hf : Fr Nobody w w') : Ints k w' ao P := by
  rcases h with h | ⟨g, o, ha, hc⟩
  · exact .inl h
  · refine .inr ⟨g, o, ha, fun j x hx => ?_⟩
    have h1 := hc j x hx
    exact (hf.cell (p := ⟨g, o + j, none⟩) (World.block_lt_of_cell? w _ h1) id).trans h1
theorem IsRow.ints {k : IntKind} {w : World} {a : Option Addr} {len cap : Nat} {zs : List Int} (h : IsRow k w a len cap zs) : (zs.take len).length = len ∧ len ≤ maxLen ∧ Ints k w a (zs.take len) ∧ ∀ n ∈ zs.take len, (Lit.int k n).wf = true := by
  rcases h with ⟨rfl, rfl, rfl, rfl⟩ | ⟨x, rfl, hl, hm, hz, hc, hw⟩
  · exact ⟨rfl, Nat.zero_le _, .inl rfl, fun n hn => by simp at hn⟩
  · refine ⟨by rw [List.length_take]; omega, by omega, ?_, fun n hn => hw n (List.mem_of_mem_take hn)⟩
    by_cases h0 : len = 0
    · subst h0; left; simp
    · right
      obtain ⟨g, o, spot⟩ := x
      have h1 := hc 0 (by omega)
      have hs : spot = none := by simpa [Addr.add] using World.cell?_spot h1
      subst hs
      refine ⟨g, o, rfl, fun j y hy => ?_⟩
      rw [List.getElem?_take] at hy
      split at hy
      · rename_i hj
        have h2 := hc j (by omega)
        rw [addr_add] at h2
        rw [h2]
        rw [List.getD_eq_getElem?_getD, hy]; rfl
      · cases hy
def mkE (x : Nat) : Ent := (x, [⟨2, (x : Int) - 1, 0, 0⟩])
theorem chk_life : ∀ y : Fin 40, chk 2 (f3 ((y.1 : Nat) : Int) 0 0) = 0 := by decide
theorem mkE_ok (x : Nat) (h1 : 1 ≤ x) (h2 : x ≤ 40) : lst (-1) (mkE x).2 = 0 ∧ msk (mkE x).2 = 4 := by
  constructor
  · show lst (-1) [⟨2, (x : Int) - 1, 0, 0⟩] = 0
    have hc : (⟨2, (x : Int) - 1, 0, 0⟩ : Cp).chk = 0 := by
      show chk 2 (f3 ((x : Int) - 1) 0 0) = 0
      have := chk_life ⟨x - 1, by omega⟩
      have e : (((x - 1 : Nat)) : Int) = (x : Int) - 1 := by omega
      rw [← e]; exact this
    rw [lst, if_neg (by simp [hc]), if_neg (by simp), lst]
  · rfl
theorem mkE_fst (X : List Nat) : ids (X.map mkE) = X := by
  unfold ids; rw [List.map_map]
  show X.map (fun x => x) = X
  simp
/-- some of 1 to 40, each once -/
structure XOk (X : List Nat) : Prop where
  lo : ∀ x ∈ X, 1 ≤ x ∧ x ≤ 40
  ap : ∀ (i j x : Nat), X[i]? = some x → X[j]? = some x → i = j
theorem XOk.tok {X : List Nat} (h : XOk X) : TOk 4 (X.map mkE) := by
  refine ⟨by decide, ?_, ?_, ?_⟩
  · intro e he
    obtain ⟨x, hx, rfl⟩ := List.mem_map.1 he
    have := h.lo x hx
    show x < _
    omega
  · intro i j e d hi hj hx
    rw [List.getElem?_map] at hi hj
    cases hxi : X[i]? with
    | none => rw [hxi] at hi; cases hi
    | some a =>
      cases hxj : X[j]? with
      | none => rw [hxj] at hj; cases hj
      | some c =>
        rw [hxi] at hi; rw [hxj] at hj
        cases hi; cases hj
        have : a = c := hx
        subst this
        exact h.ap i j a hxi hxj
  · intro e he
    obtain ⟨x, hx, rfl⟩ := List.mem_map.1 he
    have := h.lo x hx
    exact mkE_ok x this.1 this.2
theorem XOk.outr {X : List Nat} (h : XOk X) (r : Nat) (hr : r < X.length) : XOk (outr X r) := by
  refine ⟨fun x hx => h.lo x (mem_outr hr hx), fun i j x hi hj => ?_⟩
  rw [outr_at X r _ hr] at hi hj
  split at hi <;> split at hj <;> (try cases hi) <;> (try cases hj)
  split at hi <;> split at hj
  · omega
  · have := h.ap _ _ x hi hj; omega
  · have := h.ap _ _ x hi hj; omega
  · exact h.ap _ _ x hi hj
theorem XOk.plc {X : List Nat} (h : XOk X) {r x : Nat} (hx : X[r]? = some x) : plc (X.map mkE) x = some r :=
  (plc_some h.tok.ap x r).2 ⟨mkE x, by rw [List.getElem?_map, hx]; rfl, rfl⟩
def upto (j : Nat) : List Nat := (List.range j).map (· + 1)
theorem upto_succ (j : Nat) : upto (j + 1) = upto j ++ [j + 1] := by unfold upto; rw [List.range_succ, List.map_append]; rfl
theorem upto_at (j i : Nat) (h : i < j) : (upto j)[i]? = some (i + 1) := by unfold upto; rw [List.getElem?_map, List.getElem?_range h]; rfl
theorem length_upto (j : Nat) : (upto j).length = j := by simp [upto]
theorem upto_ok (j : Nat) (h : j ≤ 40) : XOk (upto j) := by
  refine ⟨fun x hx => ?_, fun a b x ha hb => ?_⟩
  · obtain ⟨i, hi, rfl⟩ := List.mem_map.1 hx
    rw [List.mem_range] at hi
    show 1 ≤ i + 1 ∧ i + 1 ≤ 40
    omega
  · have h1 := (List.getElem?_eq_some_iff.1 ha).1
    have h2 := (List.getElem?_eq_some_iff.1 hb).1
    rw [length_upto] at h1 h2
    rw [upto_at j a h1] at ha
    rw [upto_at j b h2] at hb
    have e1 := Option.some.inj ha
    have e2 := Option.some.inj hb
    omega
theorem tget_life {X : List Nat} (h : XOk X) {r x : Nat} (hx : X[r]? = some x) : tget 4 (X.map mkE) x 2 = (0, ⟨2, (x : Int) - 1, 0, 0⟩) := by
  unfold tget
  rw [h.plc hx]
  simp only
  rw [if_pos (show bt 4 2 = true from rfl), List.getElem?_map, hx]
  rfl

set_option maxHeartbeats 8000000 in
theorem tableSwaps_fr (w : World) (ht : Tab w) (n0 : Nat) (hn0 : n0 < 256) (ao : Option Addr) (len cap : Nat) (Z : List Int) (hmax : len ≤ maxLen) (hZl : Z.length = len) (hZa : Ints .u8 w ao Z) (hZb : ∀ n ∈ Z, (Lit.int .u8 n).wf = true) :
    Calls Tryd.prog 4 #[.int .u8 (n0 : Int), .slice ao len cap] w fun e w' => e = .returned (.bool true) ∧ Fr Nobody w w' := by
  unfold maxLen at hmax
  obtain ⟨i0, hi, hz0, hz1, hz2⟩ := info_parts Tryd.infoID2
  have HT : Hid (Tab w) := ht
  have HZ : Hid (Z.length = len ∧ Ints .u8 w ao Z ∧ ∀ n ∈ Z, (Lit.int .u8 n).wf = true) := ⟨hZl, hZa, hZb⟩
  clear ht hZl hZa hZb
  obtain ⟨k, hk⟩ : ∃ k, k = n0 % 40 := ⟨_, rfl⟩
  have hk40 : k ≤ 40 := by omega
  have hkm : (n0 : Int).tmod 40 = (k : Int) := by rw [hk]; rfl
  clear hk
  go_enter Tryd.func4, Tryd.ntmps4
  go_wp2_with fail
  refine (awake10 w w [] HT.out (Own.start _)).mono ?_
  rintro e w1 ⟨rfl, hO1⟩
  have H1 : Hid (Own w w1 []) := hO1
  clear hO1
  go_wp2_with fail
  refine (tnew w w1 [] 4 H1.out (by decide)).mono ?_
  rintro e w2 ⟨b, rfl, hO2⟩
  have H2 : Hid (Own w w2 [Row 32 1 (.slice none 0 0) 0 [], Table b 4 [] 0]) := hO2.nilRow _ _
  clear hO2 H1
  go_wp2
  go_loopw [8, 32] (fun vv cv wr => ∃ j : Nat, j ≤ k ∧ cv = .int .i64 j ∧ ∃ a1 c1 ck, ck ≤ j ∧ vv = .slice a1 j c1 ∧ Own w wr [Row 32 1 (.slice a1 j c1) j (irow .u32 (upto j)), Table b 4 ((upto j).map mkE) ck]) (fun _ cv _ => k - (intOf cv).toNat)
  case atStart => exact ⟨0, Nat.zero_le _, rfl, none, 0, 0, Nat.le_refl _, rfl, H2.out⟩
  case round =>
    obtain ⟨j, hj, rfl, a1, c1, ck, hck, rfl, hO⟩ := hrel
    have HO : Hid (Own w wr [Row 32 1 (.slice a1 j c1) j (irow .u32 (upto j)), Table b 4 ((upto j).map mkE) ck]) := hO
    clear hO H2
    by_cases hlt : j < k
    · have hlt' : (j : Int) < (k : Int) := by omega
      have HL := (HO.out.litRow #[.int .u8 2, .int .i32 (j : Int), .int .i32 0, .int .i32 0] 47 4 1 (by decide) rfl).three
      have hj1 : ((j + 1 : Nat) : Int) = (j : Int) + 1 := by omega
      have HOK := mkE_ok (j + 1) (by omega) (by omega)
      have hmk : (mkE (j + 1)).2 = [⟨2, (j : Int), 0, 0⟩] := by
        show [(⟨2, ((j + 1 : Nat) : Int) - 1, 0, 0⟩ : Cp)] = _
        rw [hj1, Int.add_sub_cancel]
      rw [hmk] at HOK
      have hne : plc ((upto j).map mkE) (j + 1) = none := by
        rw [plc_none]
        intro e he
        obtain ⟨x, hx, rfl⟩ := List.mem_map.1 he
        obtain ⟨i, hi, rfl⟩ := List.mem_map.1 hx
        rw [List.mem_range] at hi
        show i + 1 ≠ j + 1
        omega
      have HC : Hid (Calls _ _ _ _ _) := taddC w _ [Row 47 4 (.slice (some ⟨wr.heap.size, 0, none⟩) 1 1) 1 (ccat [⟨2, (j : Int), 0, 0⟩]), Row 32 1 (.slice a1 j c1) j (irow .u32 (upto j))] b 4 _ ck HT.out HL (upto_ok j (by omega)).tok (j + 1) (by omega) (some ⟨wr.heap.size, 0, none⟩) 1 1 [⟨2, (j : Int), 0, 0⟩] rfl (fun w'' h'' => Own.rcs h'' rfl) (by simp) (by decide) (by rw [List.length_map, length_upto]; omega) (by omega)
      rw [tadd_ok HOK.1 HOK.2 hne] at HC
      have HE : Hid ((upto (j + 1)).map mkE = (upto j).map mkE ++ [(j + 1, [⟨2, (j : Int), 0, 0⟩])]) := by
        show _ = _
        rw [upto_succ, List.map_append]
        show _ ++ [(j + 1, (mkE (j + 1)).2)] = _
        rw [hmk]
      clear HL HOK hmk hne
      rw [hj1] at HC
      go_wp2_with fail
      refine HC.out.mono ?_
      rintro e w3 ⟨rfl, hO3⟩
      have H3 : Hid (Own w w3 [Row 32 1 (.slice a1 j c1) j (irow .u32 (upto j)), Table b 4 ((upto (j + 1)).map mkE) (ck + 1)]) := by
        show Own _ _ _
        rw [HE.out]
        exact hO3.two.tail.two
      clear hO3 HO HC
      go_wp2_with (at_builtin; refine append1_own rfl _ _ 57 rfl 32 i0 (.int .u32 0) 1 4 Tryd.underlying57 hi hz0 hz1 hz2 rfl (by decide) _ _ _ rfl H3.out _ #[.int .u32 ((j : Int) + 1)] (by simp) rfl rfl (one_int _ _) (by unfold maxLen; omega) (by omega) ?_)
      intro g4 c4 w4 hO4 hsz
      have H4 : Hid (Own w w4 [Row 32 1 (.slice (some ⟨g4, 0, none⟩) (j + 1) c4) (j + 1) (irow .u32 (upto (j + 1))), Table b 4 ((upto (j + 1)).map mkE) (ck + 1)]) := by
        show Own _ _ _
        have e1 : irow .u32 (upto (j + 1)) = irow .u32 (upto j) ++ [.int .u32 ((j : Int) + 1)] := by rw [upto_succ, irow_append]; simp [irow]
        rw [e1]; exact hO4
      clear hO4 H3 hsz
      go_wp2
      go_roundw
      case rel => exact ⟨j + 1, by omega, by go_num, _, _, _, by omega, rfl, H4.out⟩
      case measure => simp [intOf]; omega
    · have hjk : j = k := by omega
      subst hjk
      have hlt' : ¬ (j : Int) < (j : Int) := by omega
      go_wp2
      go_loopw [8, 55] (fun vv cv wr => ∃ i : Nat, i ≤ len ∧ cv = .int .i64 i ∧ ∃ (X : List Nat) (a2 : Option Addr) (c2 ck2 n : Nat), XOk X ∧ X.length = n ∧ n ≤ 40 ∧ ck2 + n ≤ 80 ∧ vv = .slice a2 n c2 ∧ Own w wr [Row 32 1 (.slice a2 n c2) n (irow .u32 X), Table b 4 (X.map mkE) ck2]) (fun _ cv _ => len - (intOf cv).toNat)
      case atStart => exact ⟨0, Nat.zero_le _, rfl, upto j, a1, c1, ck, j, upto_ok j (by omega), length_upto j, by omega, by omega, rfl, HO.out⟩
      case round =>
        obtain ⟨i, hi', rfl, X, a2, c2, ck2, n, hX, hXn, hn40, hck2, rfl, hO2⟩ := hrel
        have HX : Hid (XOk X ∧ X.length = n) := ⟨hX, hXn⟩
        have HO2 : Hid (Own w _ [Row 32 1 (.slice a2 n c2) n (irow .u32 X), Table b 4 (X.map mkE) ck2]) := hO2
        clear HO hX hXn
        by_cases hlt2 : i < len
        · obtain ⟨zz, hz⟩ : ∃ z, Z[i]? = some z := ⟨_, List.getElem?_eq_getElem (by rw [HZ.out.1]; exact hlt2)⟩
          obtain ⟨o, rfl, ho⟩ := ok8_nat (HZ.out.2.2 zz (List.mem_of_getElem? hz))
          obtain ⟨g, o0, hao, cx⟩ : ∃ g o0, ao = some ⟨g, o0, none⟩ ∧ World.cell? _ ⟨g, o0 + i, none⟩ = some (.int .u8 (o : Int)) := by
            rcases HZ.out.2.1.quiet hO2.fr with h | ⟨g, o0, h1, h2⟩
            · subst h; simp at hz
            · exact ⟨g, o0, h1, h2 i _ hz⟩
          subst hao
          clear hz
          have hlt2' : (i : Int) < (len : Int) := by omega
          rcases Nat.eq_zero_or_pos n with hn0' | hnp
          · subst hn0'
            clear hO2
            go_wp2
            go_ret
            exact ⟨rfl, HO2.out.fr⟩
          · obtain ⟨n', rfl⟩ : ∃ n', n = n' + 1 := ⟨n - 1, by omega⟩
            obtain ⟨r, hr⟩ : ∃ r, r = o % (n' + 1) := ⟨_, rfl⟩
            have hrn : r < n' + 1 := by rw [hr]; exact Nat.mod_lt _ (by omega)
            have hrm : (o : Int).tmod ((n' : Int) + 1) = (r : Int) := by rw [hr]; rfl
            clear hr
            have hrn' : (r : Int) < (n' : Int) + 1 := by omega
            obtain ⟨x, hx⟩ : ∃ x, X[r]? = some x := ⟨_, List.getElem?_eq_getElem (by rw [HX.out.2]; exact hrn)⟩
            obtain ⟨xl, hxl⟩ : ∃ x, X[n']? = some x := ⟨_, List.getElem?_eq_getElem (by rw [HX.out.2]; omega)⟩
            obtain ⟨hx1, hx40⟩ := HX.out.1.lo x (List.mem_of_getElem? hx)
            obtain ⟨gi, c2', hv, _⟩ := row_shape hO2.row (by omega)
            have hg := (Value.slice.inj hv).1
            subst hg
            have d1 := hO2.row.cellAt r (by omega)
            rw [getElem?_irow, hx] at d1
            simp only [Option.map_some] at d1
            have HRM : Hid (Calls Tryd.prog 13 #[.pointer (some ⟨b, 0, none⟩), .int .u32 (x : Int)] wr fun out w' => ∃ ao cap, out = .returned (.tuple #[.slice ao 1 cap, .int .i64 0]) ∧ Own w w' [Row 47 4 (.slice ao 1 cap) 1 (ccat [⟨2, (x : Int) - 1, 0, 0⟩]), Table b 4 ((outr X r).map mkE) (ck2 + 1), Row 32 1 (.slice (some ⟨gi, 0, none⟩) (n' + 1) c2) (n' + 1) (irow .u32 X)]) := by
              have := tremC w _ _ b 4 (X.map mkE) ck2 hO2.two HX.out.1.tok x (by omega) r (mkE x) (HX.out.1.plc hx) (by rw [List.getElem?_map, hx]; rfl) (by rw [List.length_map, HX.out.2]; omega) (by omega)
              rw [← map_outr _ _ _ (by rw [HX.out.2]; exact hrn)] at this
              exact this
            have HX2 : Hid (XOk (outr X r) ∧ (outr X r).length = n') := ⟨HX.out.1.outr r (by rw [HX.out.2]; exact hrn), by rw [length_outr _ _ (by rw [HX.out.2]; exact hrn), HX.out.2]; rfl⟩
            have hcap := (row_cap hO2.row).2
            have HF : Hid (∀ w' l', Own w w' (Row 32 1 (.slice (some ⟨gi, 0, none⟩) (n' + 1) c2) (n' + 1) (irow .u32 X) :: l') → Own w (w'.setCell ⟨gi, r, none⟩ (.int .u32 (xl : Int))) (Row 32 1 (.slice (some ⟨gi, 0, none⟩) n' c2) n' (irow .u32 (outr X r)) :: l')) := by
              intro w' l' h'
              have h1 := (h'.setR r (.int .u32 (xl : Int))).cut (m := n') (by omega)
              have e : (irow .u32 (outr X r)) = ((irow .u32 X).set r (.int .u32 (xl : Int))).take (n' * 1) := by
                rw [outr_take X r xl (by rw [HX.out.2]; exact hxl), ← irow_set, Nat.mul_one, HX.out.2, ← irow_take]; rfl
              rw [e]; exact h1
            have HCL : Hid (∀ w' l', Own w w' (Row 32 1 (.slice (some ⟨gi, 0, none⟩) (n' + 1) c2) (n' + 1) (irow .u32 X) :: l') → w'.cell? ⟨gi, r, none⟩ = some (.int .u32 (x : Int)) ∧ w'.cell? ⟨gi, n', none⟩ = some (.int .u32 (xl : Int)) ∧ w'.frozen? ⟨gi, r, none⟩ = false) := by
              intro w' l' h'
              refine ⟨?_, ?_, h'.row.frozenAt r⟩
              · rw [h'.row.cellAt r (by omega), getElem?_irow, hx]; rfl
              · rw [h'.row.cellAt n' (by omega), getElem?_irow, hxl]; rfl
            have hcap2 : n' ≤ c2 := by omega
            have hcap3 : ¬ c2 = 0 := by omega
            clear hO2 hv hx hxl
            go_wp2_with fail
            refine HRM.out.mono ?_
            rintro e w3 ⟨al, cl, rfl, hO3⟩
            obtain ⟨gl, cl', hvl, _⟩ := row_shape hO3.row (by decide)
            have hgl := (Value.slice.inj hvl).1
            subst hgl
            have f1 : w3.cell? ⟨gl, 1, none⟩ = some (.int .i32 ((x : Int) - 1)) := (hO3.row.cellAt 1 (by decide)).trans rfl
            obtain ⟨p1, p2, p3⟩ := HCL.out _ _ hO3.three
            have H3 : Hid (Own w w3 [Row 32 1 (.slice (some ⟨gi, 0, none⟩) (n' + 1) c2) (n' + 1) (irow .u32 X), Table b 4 ((outr X r).map mkE) (ck2 + 1)]) := hO3.tail.two
            clear hO3 hvl HRM HO2 cx d1
            have hxx : (((x : Int) - 1) != ((x : Int) - 1)) = false := by simp
            have hx1' : (1 : Int) ≤ (x : Int) := by omega
            have hx40' : (x : Int) ≤ 40 := by omega
            go_wp2
            go_quiet (fail)
            have HL9 : Hid ((outr X r).length = n') := HX2.out.2
            go_wp2_with fail
            refine (tids w _ _ b 4 _ (ck2 + 1) (HF.out _ _ (H3.out.drewN _)).two (by rw [List.length_map, HL9.out]; omega)).mono ?_
            rw [List.length_map, HL9.out, mkE_fst]
            rintro e w5 ⟨a5, c5, rfl, hO5⟩
            have H5 : Hid (Own w w5 [Row 32 1 (.slice (some ⟨gi, 0, none⟩) n' c2) n' (irow .u32 (outr X r)), Table b 4 ((outr X r).map mkE) (ck2 + 1)]) := hO5.tail.two
            have HN : Hid (Nums .u32 w5 (.slice a5 n' c5) (outr X r) ∧ Nums .u32 w5 (.slice (some ⟨gi, 0, none⟩) n' c2) (outr X r)) := by
              rw [← HL9.out] at hO5 ⊢
              exact ⟨Own.nums hO5, Own.nums hO5.three⟩
            clear hO5 p1 p2 p3 f1 H3 HF HCL
            go_wp2_with fail
            refine (same_ok w5 _ _ (outr X r) HN.out.1 HN.out.2 (by rw [HL9.out]; omega)).mono ?_
            rintro e w6 ⟨rfl, hf6⟩
            have H6 : Hid (Own w w6 [Row 32 1 (.slice (some ⟨gi, 0, none⟩) n' c2) n' (irow .u32 (outr X r)), Table b 4 ((outr X r).map mkE) (ck2 + 1)]) := H5.out.quiet hf6
            clear hf6 H5 HN
            go_wp2
            go_loopw [118] (fun cv3 wr3 => ∃ q : Nat, q ≤ n' ∧ cv3 = .int .i64 q ∧ Own w wr3 [Row 32 1 (.slice (some ⟨gi, 0, none⟩) n' c2) n' (irow .u32 (outr X r)), Table b 4 ((outr X r).map mkE) (ck2 + 1)]) (fun cv3 _ => n' - (intOf cv3).toNat)
            case atStart => exact ⟨0, Nat.zero_le _, rfl, H6.out⟩
            case round =>
              obtain ⟨q, hq, rfl, hO7⟩ := hrel
              have H7 : Hid (Own w _ [Row 32 1 (.slice (some ⟨gi, 0, none⟩) n' c2) n' (irow .u32 (outr X r)), Table b 4 ((outr X r).map mkE) (ck2 + 1)]) := hO7
              clear H6
              by_cases hqn : q < n'
              · obtain ⟨y, hy⟩ : ∃ y, (outr X r)[q]? = some y := ⟨_, List.getElem?_eq_getElem (by rw [HL9.out]; exact hqn)⟩
                obtain ⟨hy1, hy40⟩ := HX2.out.1.lo y (List.mem_of_getElem? hy)
                have e1 := hO7.row.cellAt q (by omega)
                rw [getElem?_irow, hy] at e1
                simp only [Option.map_some] at e1
                have HG : Hid (Calls _ _ _ _ _) := tgetC w _ _ b 4 _ (ck2 + 1) hO7.two HX2.out.1.tok y (by omega) 2 (by decide)
                rw [tget_life HX2.out.1 hy] at HG
                simp only [Cp.ag] at HG
                have hqn' : (q : Int) < (n' : Int) := by omega
                have hyy : (((y : Int) - 1) != ((y : Int) - 1)) = false := by simp
                have hy1' : (1 : Int) ≤ (y : Int) := by omega
                have hy40' : (y : Int) ≤ 40 := by omega
                clear hO7 hy
                go_wp2_with fail
                refine HG.out.mono ?_
                rintro e w8 ⟨rfl, hO8⟩
                have H8 : Hid (Own w w8 [Row 32 1 (.slice (some ⟨gi, 0, none⟩) n' c2) n' (irow .u32 (outr X r)), Table b 4 ((outr X r).map mkE) (ck2 + 1)]) := hO8.two
                clear hO8 HG e1 H7
                go_wp2
                go_roundw
                case rel => exact ⟨q + 1, by omega, by go_num, H8.out.alloc _⟩
                case measure => simp [intOf]; omega
              · have hqn' : ¬ (q : Int) < (n' : Int) := by omega
                clear hO7
                go_wp2
                go_roundw
                case rel => exact ⟨i + 1, by omega, by go_num, outr X r, _, _, ck2 + 1, n', HX2.out.1, HX2.out.2, by omega, by omega, rfl, H7.out⟩
                case measure => simp [intOf]; omega
        · have hlt2' : ¬ (i : Int) < (len : Int) := by omega
          clear hO2
          go_wp2
          go_ret
          exact ⟨rfl, HO2.out.fr⟩
theorem tableSwaps_walk (w : World) (ht : Tab w) (a0 : Int) (w0 : (Lit.int .u8 a0).wf = true) (a1 : Option Addr) (len1 cap1 : Nat) (z1 : List Int) (w1 : IsRow .u8 w a1 len1 cap1 z1) :
    Calls Tryd.prog 4 #[.int .u8 a0, .slice a1 len1 cap1] w fun e w' => e = .returned (.bool true) ∧ Below w.heap.size w w' := by
  obtain ⟨m, rfl, hm⟩ := ok8_nat w0
  obtain ⟨h1, h2, h3, h4⟩ := w1.ints
  refine (tableSwaps_fr w ht m hm a1 len1 cap1 _ h2 h1 h3 h4).mono ?_
  rintro e w' ⟨rfl, hf⟩
  exact ⟨rfl, hf.below (Nat.le_refl _) (fun _ _ h => h)⟩
theorem laidOut : laidOutB Tryd.prog = true := by kernel_rfl

set_option maxRecDepth 100000 in
theorem tableSwaps_lifted (os : Os) (started : os.Started) (H : Type) (enc : TypeId × Value → H) :
    ReturnsInHanded {} Tryd.checked os 4 .any (fun w args => (Rows.tableSwapsSpec.pre enc Tryd.prog Tryd.f4 [] false w args ∧ laidMetH Tryd.prog laid1 w) ∧ sizedMet enc Tryd.prog Tryd.f4 (OpenSpec.ofChange Rows.tableSwapsSpec) false w args) (Rows.tableSwapsSpec.post enc Tryd.prog Tryd.f4 false true false false) := by
  refine returnsInHanded_of_change_and (C := Tryd.checked) (X := fun w _ => laidMetH Tryd.prog laid1 w) (fun _ _ _ hh h => h.of_heap hh) own started (by kernel_rfl) Tryd.func4
    (ChangeSpec.witness_shaped (enc := enc) (C := Tryd.checked) (os := os) (X := fun w _ => laidMetH Tryd.prog laid1 w) false (World.doorLaid Tryd.prog 400 os) #[.int .u8 0, .slice none 0 0] 8 rfl (World.shaped_of_RefB (by kernel_rfl) (by kernel_rfl)) (by kernel_rfl) (by kernel_rfl) (by kernel_rfl) (door_met os _)) ?_
  intro W base args ds gs before hval0 hW _ _ hL _
  have hval : ∀ (j : Nat) t v, Tryd.f4.params[j]? = some t → args[j]? = some v → Value.okWide Tryd.prog W .any base t v := hval0
  have hW' := hW
  obtain ⟨p, q, hA0, hV, rfl, hfz, hnd⟩ := hW
  have hA : DataW.TrodAll enc Tryd.prog W 0 (fun _ => true) true Tryd.f4.params.toList args.toList ds p := hA0
  rw [Tryd.params4] at hA hval
  obtain ⟨v0, vs0, d0, ds0, p0, q0, hargs, rfl, rfl, h0, r0⟩ := trodAll_cons hA
  obtain ⟨v1, vs1, d1, ds1, p1, q1, rfl, rfl, rfl, h1, r1⟩ := trodAll_cons r0
  obtain ⟨rfl, rfl, rfl⟩ := trodAll_nil r1
  obtain rfl : args = #[v0, v1] := by cases args; simp_all
  obtain ⟨rfl, rfl⟩ := trodVars_none hV
  obtain ⟨a0, rfl, rfl, rfl, w0⟩ := open_int Tryd.underlying5 (hval 0 5 v0 rfl rfl) h0
  obtain ⟨a1, len1, cap1, rfl⟩ := okWide_slice Tryd.underlying56 (hval 1 56 v1 rfl rfl)
  have k1 := h1
  have lt1 : ∀ x ∈ p1, x.block < W.heap.size := by obtain ⟨m, hm⟩ := k1; exact DataW.trod_lt m _ _ _ hm
  obtain ⟨z1, w1⟩ : ∃ zs, IsRow .u8 W a1 len1 cap1 zs := by
    obtain ⟨fuel, hf⟩ := h1
    rcases open_ints Tryd.underlying56 Tryd.underlying5 (by kernel_rfl) hf with ⟨hcs, _⟩ | ⟨x, l, c, zs, hcs, _, hl, hm, hz, _, hcell, hwz⟩
    · simp [Value.cells] at hcs
      obtain ⟨rfl, rfl, rfl⟩ := hcs
      exact ⟨[], .inl ⟨rfl, rfl, rfl, rfl⟩⟩
    · simp [Value.cells] at hcs
      obtain ⟨rfl, rfl, rfl⟩ := hcs
      exact ⟨zs, .inr ⟨_, rfl, hl, hm, by simpa using hz, hcell, hwz⟩⟩
  clear hA0 hval0
  refine (tableSwaps_walk W (of_laid hL) a0 w0 a1 len1 cap1 z1 w1).mono fun e W' ⟨he, bel⟩ => ?_
  subst he
  exact ⟨_, rfl, _, _, _, [], _, [], hW', trodAll_mk1 (shut_bool Tryd.underlying4 _), (trodAll_cons_mk (shut_int Tryd.underlying5 w0) (trodAll_cons_mk (Below.trod laidOut (by kernel_rfl) (of_decide_eq_true (by kernel_rfl)) k1 bel lt1) trodAll_mk0)), rfl, bel.frame _, fun h => by cases h⟩

theorem tableSwaps_row : Rows.TableSwapsSaid :=
  OpenClaim.holds_of_wide 4 Tryd.f4 rfl rfl rfl rfl rfl rfl rfl ⟨rfl, rfl, rfl, rfl, rfl⟩ rfl rfl rfl rfl rfl (by kernel_rfl) Tryd.func4 (by kernel_rfl)
    (of_decide_eq_true (by kernel_rfl)) (by unfold Func.isWrapper; first | (rw [if_pos (by decide +kernel)]; kernel_rfl) | (rw [if_neg (by decide +kernel)]; exact ⟨rfl, rfl⟩))
    (fun os started H enc _ => tableSwaps_lifted os started H enc)

theorem tableSwaps_holds : Rows.TableSwapsCardSaid :=
  Claim7.holds_tied_plain_at .later [] [.data] true (true, "baab6a04025cfc0458c5c408f8e797469d3242c3e09fe5a3ecbb22faa267c6a4") false
    tableSwaps_row (fun _ h => by cases h) (by kernel_rfl) (fun _ h => by cases h) tableSwaps_row_tie rfl ⟨rfl, rfl⟩ (by kernel_rfl) rfl
    (fun f fn hf hfn => by
      obtain rfl : f = 4 := Option.some.inj ((show Tryd.prog.funcNamed "pinnace/pinnacelaw10.TableSwaps" = some 4 by kernel_rfl).symm.trans hf) |>.symm
      obtain rfl : fn = Tryd.f4 := (Option.some.inj (Tryd.func4.symm.trans hfn)).symm
      exact ⟨by kernel_rfl, fun j t ht => by
        rw [Tryd.params4] at ht
        have hm : t ∈ [5, 56] := by simpa using Array.mem_of_getElem? ht
        have hall : ([5, 56].all fun u => !Tryd.prog.wantsStandIn u) = true := by kernel_rfl
        exact (show Tryd.prog.wantsStandIn t = false by simpa using List.all_eq_true.1 hall t hm)⟩)
    (by kernel_rfl)

end Go.Proofs.YtbjnbohnhjcchaaDoor
