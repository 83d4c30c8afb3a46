/-
  span, Width, groups, Zig and Zag of package nums.
-/
import Derived.Test.YtbencjopjdjepaaGreatDoorM05
namespace Go.Proofs.YtbencjopjdjepaaGreatDoor
open Go.RowKit
set_option linter.unusedVariables false

theorem wrapU (n : Int) : IntKind.u64.wrap n = n % 18446744073709551616 := IntKind.wrap_u64 n

set_option maxHeartbeats 400000 in
theorem span_any (lo hi : Int) (d : Nat) (w : World) (h0 : -9223372036854775808 ≤ lo) (h1 : hi ≤ 9223372036854775807) (hd : hi = lo + (d : Int)) :
    Calls Tryz.prog 165 #[.int .i64 lo, .int .i64 hi] w fun e w' => e = .returned (.int .u64 (d : Int)) ∧ w' = w := by
  have hle : lo ≤ hi := by omega
  have H : Hid (hi = lo + (d : Int)) := hd
  clear hd
  go_enter Tryz.func165, Tryz.ntmps165
  go_wp2
  go_ret
  refine ⟨ret_int ?_, rfl⟩
  have := H.out
  simp only [wrapU]
  omega

/-- how many bits a range takes -/
def wid (lo hi : Int) : Nat := if hi < lo then 0 else Lib.bitLen (hi - lo).toNat

set_option maxHeartbeats 400000 in
theorem width_any (lo hi : Int) (w : World) (h0 : -9223372036854775808 ≤ lo) (h1 : hi ≤ 9223372036854775807) (h2 : lo ≤ 9223372036854775807) (h3 : -9223372036854775808 ≤ hi) :
    Calls Tryz.prog 166 #[.int .i64 lo, .int .i64 hi] w fun e w' => e = .returned (.int .i64 (wid lo hi : Nat)) ∧ w' = w := by
  by_cases h : hi < lo
  · have e0 : wid lo hi = 0 := by unfold wid; rw [if_pos h]
    rw [e0]
    go_enter Tryz.func166, Tryz.ntmps166
    go_wp2
    go_ret
    exact ⟨rfl, rfl⟩
  · have e0 : wid lo hi = Lib.bitLen (hi - lo).toNat := by unfold wid; rw [if_neg h]
    obtain ⟨d, hd⟩ : ∃ d : Nat, d = (hi - lo).toNat := ⟨_, rfl⟩
    rw [e0, ← hd]
    have H : Hid (hi = lo + (d : Int) ∧ d < 18446744073709551616) := ⟨by omega, by omega⟩
    clear e0 hd
    go_enter Tryz.func166, Tryz.ntmps166
    go_wp2_with fail
    refine (span_any lo hi d w h0 h1 H.out.1).mono ?_
    rintro e w' ⟨rfl, rfl⟩
    go_wp2_with fail
    refine (len64_any d _ H.out.2).mono ?_
    rintro e w' ⟨rfl, rfl⟩
    go_wp2
    go_ret
    exact ⟨rfl, rfl⟩

/-- how many groups a number has -/
def grp (v : Nat) : Nat := max 1 ((Lib.bitLen v + 3) / 4)
theorem bitLen_64 (v : Nat) (h : v < 18446744073709551616) : Lib.bitLen v ≤ 64 := Lib.bitLen_le v 64 (by decide) h

set_option maxHeartbeats 400000 in
theorem groups_any (v : Nat) (w : World) (hv : v < 18446744073709551616) :
    Calls Tryz.prog 167 #[.int .u64 v] w fun e w' => e = .returned (.int .i64 (grp v : Nat)) ∧ w' = w := by
  have hb := bitLen_64 v hv
  have HG : Hid (((grp v : Nat) : Int) = max 1 ((((Lib.bitLen v : Nat) : Int) + 4 - 1) / 4)) := by show _ = _; unfold grp; omega
  go_enter Tryz.func167, Tryz.ntmps167
  go_wp2_with fail
  refine (len64_any v w hv).mono ?_
  generalize Lib.bitLen v = l at *
  rintro e w' ⟨rfl, rfl⟩
  go_wp2
  go_ret
  exact ⟨ret_int HG.out.symm, rfl⟩

theorem xor_ones (a : Nat) (ha : a < 18446744073709551616) : a ^^^ 18446744073709551615 = 18446744073709551615 - a := by
  have h := BitVec.toNat_xor (BitVec.ofNat 64 a) (BitVec.allOnes 64)
  rw [BitVec.xor_allOnes, BitVec.toNat_not, BitVec.toNat_allOnes, BitVec.toNat_ofNat, Nat.mod_eq_of_lt ha] at h
  exact h.symm
theorem u64_xor_ones (a : Nat) (ha : a < 18446744073709551616) : bits .xor .u64 (a : Int) 18446744073709551615 = 18446744073709551615 - (a : Int) := by
  have h := u64_xor_nat a 18446744073709551615 ha (by decide)
  rw [xor_ones a ha] at h
  have e : ((18446744073709551615 : Nat) : Int) = 18446744073709551615 := rfl
  rw [e] at h
  rw [h]; omega
theorem u64_xor_zero (a : Nat) (ha : a < 18446744073709551616) : bits .xor .u64 (a : Int) 0 = (a : Int) := by
  have h := u64_xor_nat a 0 ha (by decide)
  simpa using h
theorem i64_xor_zero (a : Nat) (ha : a < 9223372036854775808) : bits .xor .i64 (a : Int) 0 = (a : Int) := by
  show IntKind.i64.wrap ((BitVec.ofInt 64 (a : Int) ^^^ BitVec.ofInt 64 0).toNat : Int) = _
  rw [BitVec.toNat_xor, ofInt_u64 a (by omega), IntKind.wrap_i64]
  have e : (BitVec.ofInt 64 0).toNat = 0 := rfl
  rw [e, Nat.xor_zero]
  omega
theorem i64_xor_ones (a : Nat) (ha : a < 9223372036854775808) : bits .xor .i64 (a : Int) (-1) = -1 - (a : Int) := by
  show IntKind.i64.wrap ((BitVec.ofInt 64 (a : Int) ^^^ BitVec.ofInt 64 (-1)).toNat : Int) = _
  rw [BitVec.toNat_xor, ofInt_u64 a (by omega), IntKind.wrap_i64]
  have e : (BitVec.ofInt 64 (-1)).toNat = 18446744073709551615 := by decide
  rw [e, xor_ones a (by omega)]
  omega

/-- what Zig and Zag are -/
def zig (n : Int) : Nat := if n < 0 then (-2 * n - 1).toNat else (2 * n).toNat
def zag (v : Nat) : Int := if v % 2 = 0 then (v : Int) / 2 else -1 - (v : Int) / 2
theorem zag_zig (n : Int) : zag (zig n) = n := by
  unfold zag zig
  by_cases h : n < 0
  · rw [if_pos h]; split <;> omega
  · rw [if_neg h]; split <;> omega
set_option maxHeartbeats 400000 in
theorem zig_any (n : Int) (w : World) (h0 : -9223372036854775808 ≤ n) (h1 : n ≤ 9223372036854775807) :
    Calls Tryz.prog 250 #[.int .i64 n] w fun e w' => e = .returned (.int .u64 (zig n : Nat)) ∧ w' = w := by
  by_cases h : n < 0
  · have e : zig n = (-2 * n - 1).toNat := by unfold zig; rw [if_pos h]
    rw [e]
    go_enter Tryz.func250, Tryz.ntmps250
    go_wp2
    go_ret
    refine ⟨ret_int ?_, rfl⟩
    have e1 : IntKind.u64.wrap (IntKind.u64.wrap n * 2) = (((18446744073709551616 + 2 * n).toNat : Nat) : Int) := by simp only [wrapU]; omega
    have e2 : IntKind.u64.wrap (n / 9223372036854775808) = 18446744073709551615 := by simp only [wrapU]; omega
    rw [e1, e2, u64_xor_ones _ (by omega)]
    omega
  · have e : zig n = (2 * n).toNat := by unfold zig; rw [if_neg h]
    have h' : 0 ≤ n := by omega
    rw [e]
    clear e
    go_enter Tryz.func250, Tryz.ntmps250
    go_wp2
    go_ret
    refine ⟨ret_int ?_, rfl⟩
    have e1 : n * 2 = (((n * 2).toNat : Nat) : Int) := by omega
    have e2 : n / 9223372036854775808 = 0 := by omega
    rw [e2, e1, u64_xor_zero _ (by omega)]
    omega

theorem and_one (v : Nat) (hv : v < 18446744073709551616) : bits .and .u64 (v : Int) 1 = ((v % 2 : Nat) : Int) := by
  have h3 := u64_and_nat v 1 hv (by decide)
  have h1 : ((1 : Nat) : Int) = 1 := rfl
  rw [h1] at h3
  rw [h3, nat_mask1]

set_option maxHeartbeats 400000 in
theorem zag_any (v : Nat) (w : World) (hv : v < 18446744073709551616) :
    Calls Tryz.prog 251 #[.int .u64 v] w fun e w' => e = .returned (.int .i64 (zag v)) ∧ w' = w := by
  have ha := and_one v hv
  by_cases h : v % 2 = 0
  · have e : zag v = ((v / 2 : Nat) : Int) := by unfold zag; rw [if_pos h]; omega
    have hA : bits .and .u64 (v : Int) 1 = 0 := by rw [ha, h]; rfl
    rw [e]
    clear e ha h
    go_enter Tryz.func251, Tryz.ntmps251
    go_wp2
    go_ret
    refine ⟨ret_int ?_, rfl⟩
    have e1 : (v : Int) / 2 = ((v / 2 : Nat) : Int) := by omega
    rw [e1]
    exact i64_xor_zero _ (by omega)
  · have e : zag v = -1 - ((v / 2 : Nat) : Int) := by unfold zag; rw [if_neg h]; omega
    have hA : bits .and .u64 (v : Int) 1 = 1 := by rw [ha]; omega
    rw [e]
    clear e ha h
    go_enter Tryz.func251, Tryz.ntmps251
    go_wp2
    go_ret
    refine ⟨ret_int ?_, rfl⟩
    have e1 : (v : Int) / 2 = ((v / 2 : Nat) : Int) := by omega
    rw [e1]
    exact i64_xor_ones _ (by omega)

end Go.Proofs.YtbencjopjdjepaaGreatDoor


/-
  PutVar, PutInt and PutIn of package nums.
-/
namespace Go.Proofs.YtbencjopjdjepaaGreatDoor
open Go.RowKit
set_option linter.unusedVariables false

/-- the i-th group of a number of n groups -/
def grpAt (v n i : Nat) : Nat := v / 2 ^ (4 * i) % 16 + (if i + 1 < n then 16 else 0)
/-- the first k groups -/
def varTo (v n : Nat) : Nat → List Bool
  | 0 => []
  | k + 1 => varTo v n k ++ bitsN 5 (grpAt v n k)
/-- Var of v -/
def var (v : Nat) : List Bool := varTo v (grp v) (grp v)
theorem length_varTo (v n k : Nat) : (varTo v n k).length = 5 * k := by
  induction k with
  | zero => rfl
  | succ k ih => rw [varTo, List.length_append, ih, length_bitsN]; omega
theorem length_var (v : Nat) : (var v).length = 5 * grp v := length_varTo _ _ _
theorem grp_bd (v : Nat) (hv : v < 18446744073709551616) : 1 ≤ grp v ∧ grp v ≤ 16 := by
  have := bitLen_64 v hv
  unfold grp; omega
theorem grpAt_lt (v n i : Nat) : grpAt v n i < 32 := by unfold grpAt; split <;> omega

theorem part_val (v k : Nat) : ((v : Int) / 2 ^ (4 * k)).tmod 16 = ((v / 2 ^ (4 * k) % 16 : Nat) : Int) := by
  have h2 : ((v : Int) / 2 ^ (4 * k)) = ((v / 2 ^ (4 * k) : Nat) : Int) := by simp
  rw [h2, Int.tmod_eq_emod_of_nonneg (Int.natCast_nonneg _)]
  omega
theorem more_val (v k : Nat) : IntKind.u64.wrap (((v : Int) / 2 ^ (4 * k)).tmod 16 + 16) = ((v / 2 ^ (4 * k) % 16 + 16 : Nat) : Int) := by
  rw [part_val, wrapU]
  have := Nat.mod_lt (v / 2 ^ (4 * k)) (show 0 < 16 by decide)
  omega
end Go.Proofs.YtbencjopjdjepaaGreatDoor


/-
  Slices that came in; a writer and a list side by side; what 'written' of the laws makes.
-/
namespace Go.Proofs.YtbencjopjdjepaaGreatDoor
open Go.RowKit
set_option linter.unusedVariables false
set_option maxRecDepth 100000

/-- WHAT A WALK IS TOLD OF A SLICE OF INTEGERS THAT CAME IN (as the guide's shell has it). -/
def IsRow (k : IntKind) (w : World) (a : Option Addr) (len cap : Nat) (zs : List Int) : Prop :=
  (a = none ∧ len = 0 ∧ cap = 0 ∧ zs = []) ∨
  ∃ x, a = some x ∧ len ≤ cap ∧ cap ≤ maxLen ∧ zs.length = cap ∧ (∀ i, i < zs.length → w.cell? (x.add i) = some (.int k (zs.getD i 0))) ∧ ∀ n ∈ zs, (Lit.int k n).wf = true

/-- The numbers P of a slice of integers of kind k: nothing is asked of its address where there are none. -/
def Ints (k : IntKind) (w : World) (ao : Option Addr) (P : List Int) : Prop :=
  P = [] ∨ ∃ g o, ao = some ⟨g, o, none⟩ ∧ ∀ j x, P[j]? = some x → w.cell? ⟨g, o + j, none⟩ = some (.int k x)
theorem Ints.quiet {k : IntKind} {w w' : World} {ao : Option Addr} {P : List Int} (h : Ints k w ao P) (hf : Fr Nobody w w') : Ints k w' ao P := by
  rcases h with h | ⟨g, o, ha, hc⟩
  · exact .inl h
  · refine .inr ⟨g, o, ha, fun j x hx => ?_⟩
    have h1 := hc j x hx
    exact (hf.cell (p := ⟨g, o + j, none⟩) (World.block_lt_of_cell? w _ h1) id).trans h1
/-- A writer and a list of bits, both of the same bits. -/
def Both (w0 w : World) (b : Nat) (v : Value) (L : List Bool) : Prop := Ow w0 w b L ∧ Bo w0.heap.size w v L
theorem Ow.apart {w0 w : World} {b : Nat} {M : List Bool} (h : Ow w0 w b M) : ∃ g, Wr w0.heap.size w b g M ∧ ∀ k cur, w.heap[k]? = some (.cells cur 4 (0, 0)) → ¬ At b g k := by
  obtain ⟨g, hW, _⟩ := h
  exact ⟨g, hW, hW.apart⟩
theorem Both.fr {w0 w : World} {b : Nat} {v : Value} {L : List Bool} (h : Both w0 w b v L) : Fr Nobody w0 w := h.1.fr
end Go.Proofs.YtbencjopjdjepaaGreatDoor


/-
  PutIn of package nums, and GetIn of a nil reader.
-/
namespace Go.Proofs.YtbencjopjdjepaaGreatDoor
open Go.RowKit
set_option linter.unusedVariables false

theorem lt_bitLen (x : Nat) (h : x < 18446744073709551616) : x < 2 ^ Lib.bitLen x := by
  induction x using Nat.strongRecOn with
  | ind x ih =>
    by_cases h0 : x = 0
    · subst h0; exact Nat.two_pow_pos _
    · rw [Lib.bitLen_half x h0 h, Nat.add_comm, Nat.pow_succ]
      have := ih (x / 2) (by omega) (by omega)
      omega
theorem wid_le (lo hi : Int) (h0 : -9223372036854775808 ≤ lo) (h1 : hi ≤ 9223372036854775807) : wid lo hi ≤ 64 := by
  unfold wid
  split
  · omega
  · exact bitLen_64 _ (by omega)
theorem in_lt (n lo hi : Int) (h0 : -9223372036854775808 ≤ lo) (h1 : hi ≤ 9223372036854775807) (ha : lo ≤ n) (hb : n ≤ hi) : (n - lo).toNat < 2 ^ wid lo hi := by
  unfold wid
  rw [if_neg (by omega)]
  have := lt_bitLen (hi - lo).toNat (by omega)
  omega
end Go.Proofs.YtbencjopjdjepaaGreatDoor


/-
  The document's side of layer 2: Width and In; appending one list of bits to another.
-/
namespace Go.Proofs.YtbencjopjdjepaaGreatDoor
open Go.RowKit
set_option linter.unusedVariables false
set_option maxRecDepth 100000

theorem bitLen0 : Lib.bitLen 0 = 0 := by decide +kernel

set_option maxHeartbeats 1000000 in
theorem rwidth_any (lo hi : Int) (w : World) (h0 : -9223372036854775808 ≤ lo) (h1 : hi ≤ 9223372036854775807) (h2 : lo ≤ 9223372036854775807) (h3 : -9223372036854775808 ≤ hi) :
    Calls Tryz.prog 147 #[.int .i64 lo, .int .i64 hi] w fun e w' => e = .returned (.int .i64 (wid lo hi : Nat)) ∧ w' = w := by
  by_cases h : hi < lo
  · have e0 : wid lo hi = 0 := by unfold wid; rw [if_pos h]
    rw [e0]
    go_enter Tryz.func147, Tryz.ntmps147
    go_wp2
    go_ret
    exact ⟨rfl, rfl⟩
  · have e0 : wid lo hi = Lib.bitLen (hi - lo).toNat := by unfold wid; rw [if_neg h]
    obtain ⟨d, hd⟩ : ∃ d : Nat, d = (hi - lo).toNat := ⟨_, rfl⟩
    rw [e0, ← hd]
    have hd2 : d < 18446744073709551616 := by omega
    have hq : IntKind.u64.wrap (IntKind.u64.wrap hi - IntKind.u64.wrap lo) = (d : Int) := by simp only [wrapU]; omega
    have hb := bitLen_64 d hd2
    clear e0 hd
    generalize hl : Lib.bitLen d = l at *
    have HL : Hid (Lib.bitLen d = l) := hl
    clear hl
    go_enter Tryz.func147, Tryz.ntmps147
    go_wp2
    clear hq
    go_loopw [5, 6] (fun c xv wr => ∃ k y : Nat, c = .int .i64 k ∧ xv = .int .u64 y ∧ k + Lib.bitLen y = l ∧ y < 18446744073709551616 ∧ wr = w) (fun _ xv _ => (intOf xv).toNat)
    case atStart => exact ⟨0, d, rfl, rfl, by rw [HL.out]; omega, hd2, rfl⟩
    case round =>
      obtain ⟨k, y, rfl, rfl, hy, hy2, rfl⟩ := hrel
      have HY : Hid (k + Lib.bitLen y = l) := hy
      have hkl : k ≤ l := by omega
      clear hy
      by_cases hpos : 0 < y
      · have HY2 : Hid (k + 1 + Lib.bitLen (y / 2) = l) := by
          have := Lib.bitLen_half y (by omega) hy2
          have := HY.out
          show _ = _; omega
        go_wp2
        go_roundw
        case rel => exact ⟨k + 1, y / 2, by go_num, by go_num, HY2.out, by omega, trivial⟩
        case measure => simp [intOf]; omega
      · have hy0 : y = 0 := by omega
        subst hy0
        have hkl2 : k = l := by have := HY.out; rw [bitLen0] at this; omega
        go_wp2
        go_ret
        exact ⟨ret_int (by omega), rfl⟩

set_option maxHeartbeats 400000 in
theorem rin_ok (n lo hi : Int) (d : Nat) (w : World) (hd : n = lo + (d : Int)) (h0 : -9223372036854775808 ≤ lo) (h1 : hi ≤ 9223372036854775807) (ha : lo ≤ n) (hb : n ≤ hi) :
    Calls Tryz.prog 102 #[.int .i64 n, .int .i64 lo, .int .i64 hi] w fun e w' => ∃ v, e = .returned (.tuple #[v, .int .i64 0]) ∧ Bo w.heap.size w' v (bitsN (wid lo hi) d) ∧ Fr Nobody w w' := by
  have hle : lo ≤ hi := by omega
  have ed : (n - lo).toNat = d := by omega
  have hq : IntKind.u64.wrap (IntKind.u64.wrap n - IntKind.u64.wrap lo) = (d : Int) := by simp only [wrapU]; omega
  have HI : d < 2 ^ wid lo hi := ed ▸ in_lt n lo hi h0 h1 ha hb
  have HW : wid lo hi ≤ 64 := wid_le lo hi h0 h1
  have hdl : d < 18446744073709551616 := by omega
  have e1 : d / 2 ^ wid lo hi = 0 := Nat.div_eq_of_lt HI
  have e2 : rputE [] d (wid lo hi) = 0 := by unfold rputE; rw [if_pos e1, if_pos (by simp; omega)]
  have e3 : rputL [] d (wid lo hi) = bitsN (wid lo hi) d := by unfold rputL; rw [if_pos ⟨e1, by simp; omega⟩]; rfl
  have G : Hid _ := fun w => rput_own w.heap.size w (.slice none 0 0) [] d (wid lo hi) (Bo.nil _ _) (Nat.le_refl _) (by decide) hdl HW
  have G2 : Hid _ := fun w => rwidth_any lo hi w h0 h1 (by omega) (by omega)
  rw [e2, e3] at G
  generalize wid lo hi = m at *
  clear ed HI HW e1 e2 e3 hd
  go_enter Tryz.func102, Tryz.ntmps102
  go_wp2_with fail
  refine (G2.out _).mono ?_
  rintro e w' ⟨rfl, rfl⟩
  go_wp2_with fail
  refine (G.out _).mono ?_
  rintro e w1 ⟨v, rfl, hO, hf⟩
  go_wp2
  go_ret2
  exact ⟨v, rfl, hO, hf⟩

/-- 'l = append(l, in...)', both lists of bits -/
theorem append_bits {w : World} {ops : Array Oper} {rest : List Oper} {o : Oper} {a : Act} {Q : Exit → Act → World → Prop} (hgd : o.guard = none) (s x : Operand)
    (ho : o.op = .call { callee := .builtin .append, args := #[s, x], argTypes := #[80, 80] }) (B : Nat) (v u : Value) (L M : List Bool) (h : Bo B w v L) (hM : Bs w u M) (hL : L.length ≤ 100000000) (hM2 : M.length ≤ 100000000) (hB : B ≤ w.heap.size)
    (hs : a.eval s = v) (hx : a.eval x = u)
    (hK : ∀ v' w', Bo B w' v' (L ++ M) → w.grownBy w' v.ownBlock → wpList Tryz.prog ops Q rest (a.put o.dst v') w') :
    wpList Tryz.prog ops Q (o :: rest) a w := by
  obtain ⟨i0, hi, hz0, hz1, hz2⟩ := info_parts Tryz.infoBool
  rcases hM with ⟨rfl, rfl⟩ | ⟨g, off, cap, cur, rfl, hn, hg, hc⟩
  · refine wpList_plain hgd fun K hK' => ?_
    have hr := run_append_owned_none (P := Tryz.prog) w B 80 o.type 4 i0 1 Tryz.underlying80 hi v L.length (brow L) h
    unfold Oper.wp
    simp [execOp, ho, resolve, invoke, builtin, hs, hx, hr, Result.andThen]
    exact hK' _ _ (hK v w (by simpa using h) ⟨rfl, rfl, rfl, Nat.le_refl _, fun _ _ _ => rfl⟩)
  · refine wpList_append_own w hgd s x 80 ho B 4 i0 (.bool false) 1 1 Tryz.underlying80 hi hz0 hz1 hz2 rfl (by decide) v L.length (brow L) hs h ⟨g, off, none⟩ M.length cap (brow M) hx (by rw [length_brow]; omega) ?_ (one_brow M) (by unfold maxLen; omega) (by omega) hB ?_
    · intro j u hu
      rw [addr_add, cell_of_row w g _ cur 4 (0, 0) hg]
      exact hc j u hu
    · intro v' w' ho' hg' _
      refine hK v' w' ?_ hg'
      unfold Bo
      rw [brow_append, List.length_append]
      exact ho'
/-- a list's row turns: a writer stays -/
theorem Ow.grown {w0 w w' : World} {b : Nat} {M L : List Bool} {v : Value} (h : Ow w0 w b M) (hv : Bo w0.heap.size w v L) (hg : w.grownBy w' v.ownBlock) : Ow w0 w' b M := by
  obtain ⟨g, hW, hF⟩ := h
  have hfr : Fr (fun k => v.ownBlock = some k) w w' := Fr.grown (S := fun k => v.ownBlock = some k) (Fr.refl _ w) hg (fun k hk => .inl hk)
  have hap : ∀ k, At b g k → ¬ v.ownBlock = some k := by
    intro k hk e
    rcases hv.2 with ⟨rfl, _⟩ | ⟨g', cap, cur, rfl, _, hgg, _⟩
    · simp [Value.ownBlock] at e
    · simp [Value.ownBlock] at e
      subst e
      exact hW.apart _ cur hgg hk
  refine ⟨g, hW.keep hfr (hap b (.inl rfl)) (fun k hk => hap k (.inr hk.symm)), hF.fresh hfr (fun k hk => (World.ownsRow.lt hv k hk).1)⟩

end Go.Proofs.YtbencjopjdjepaaGreatDoor


/-
  Plain facts on the groups of Var: what stands next in a list of bits.
-/
namespace Go.Proofs.YtbencjopjdjepaaGreatDoor

/-- the first group of a list of bits -/
def g5 (M : List Bool) : Nat := num (M.take 5)
theorem g5_lt (M : List Bool) : g5 M < 32 := by
  have h := num_lt (M.take 5)
  have h2 : (M.take 5).length ≤ 5 := List.length_take_le _ _
  exact Nat.lt_of_lt_of_le h (Nat.pow_le_pow_right (by decide) h2)

/-- the number of which Var stands next: the error, the number, how many bits it has; i groups are read, v is their number -/
def gvAux : Nat → Nat → Nat → List Bool → Int × Nat × Nat
  | 0, _, _, _ => (4, 0, 0)
  | n + 1, i, v, M =>
    if M.length < 5 then (2, 0, 0)
    else if 16 ≤ g5 M then gvAux n (i + 1) (v + g5 M % 16 * 2 ^ (4 * i)) (M.drop 5)
    else if grp (v + g5 M % 16 * 2 ^ (4 * i)) ≠ i + 1 then (4, 0, 0)
    else (0, v + g5 M % 16 * 2 ^ (4 * i), 5 * (i + 1))
def gv (M : List Bool) : Int × Nat × Nat := gvAux 16 0 0 M

theorem vstep_lt (v g i : Nat) (hv : v < 2 ^ (4 * i)) : v + g % 16 * 2 ^ (4 * i) < 2 ^ (4 * (i + 1)) := by
  have h : g % 16 < 16 := Nat.mod_lt _ (by decide)
  have e : 2 ^ (4 * (i + 1)) = 16 * 2 ^ (4 * i) := by rw [show 4 * (i + 1) = 4 * i + 4 from by omega, Nat.pow_add]; omega
  rw [e]
  have h2 : g % 16 * 2 ^ (4 * i) ≤ 15 * 2 ^ (4 * i) := Nat.mul_le_mul_right _ (by omega)
  omega
theorem gvAux_ok (n i v : Nat) (M : List Bool) (hi : n + i = 16) (hv : v < 2 ^ (4 * i)) : (gvAux n i v M).2.1 < 18446744073709551616 ∧ (gvAux n i v M).2.2 ≤ M.length + 5 * i ∧ ((gvAux n i v M).1 ≠ 0 → (gvAux n i v M).2 = (0, 0)) := by
  induction n generalizing i v M with
  | zero => rw [gvAux]; exact ⟨by decide, Nat.zero_le _, fun _ => rfl⟩
  | succ n ih =>
    rw [gvAux]
    by_cases c1 : M.length < 5
    · rw [if_pos c1]; exact ⟨by decide, Nat.zero_le _, fun _ => rfl⟩
    · rw [if_neg c1]
      by_cases c2 : 16 ≤ g5 M
      · rw [if_pos c2]
        obtain ⟨a, b, c⟩ := ih (i + 1) (v + g5 M % 16 * 2 ^ (4 * i)) (M.drop 5) (by omega) (vstep_lt v _ i hv)
        rw [List.length_drop] at b
        exact ⟨a, by omega, c⟩
      · rw [if_neg c2]
        by_cases c3 : grp (v + g5 M % 16 * 2 ^ (4 * i)) ≠ i + 1
        · rw [if_pos c3]; exact ⟨by decide, Nat.zero_le _, fun _ => rfl⟩
        · rw [if_neg c3]
          have h := vstep_lt v (g5 M) i hv
          have h2 : 2 ^ (4 * (i + 1)) ≤ 2 ^ 64 := Nat.pow_le_pow_right (by decide) (by omega)
          exact ⟨Nat.lt_of_lt_of_le h h2, by show 5 * (i + 1) ≤ _; omega, fun h => absurd rfl h⟩
theorem gv_ok (M : List Bool) : (gv M).2.1 < 18446744073709551616 ∧ (gv M).2.2 ≤ M.length ∧ ((gv M).1 ≠ 0 → (gv M).2 = (0, 0)) := by
  have h := gvAux_ok 16 0 0 M rfl (by decide)
  simpa [gv] using h

end Go.Proofs.YtbencjopjdjepaaGreatDoor


/-
  GetVar and GetInt of package nums: the closure, Try, and the whole.
-/
namespace Go.Proofs.YtbencjopjdjepaaGreatDoor
open Go.RowKit
set_option linter.unusedVariables false
set_option maxRecDepth 100000

theorem bits_drop (P : List Nat) (t k : Nat) : ((bitsB P).drop t).drop k = (bitsB P).drop (t + k) := by rw [List.drop_drop]
theorem numAt_g5 (P : List Nat) (t : Nat) : numAt P t 5 = g5 ((bitsB P).drop t) := rfl

theorem or_grp (v g i : Nat) (hv : v < 2 ^ (4 * i)) (hi : i < 16) : bits .or .u64 (v : Int) (IntKind.u64.wrap (((g : Int) % 16) * 2 ^ (4 * i))) = ((v + g % 16 * 2 ^ (4 * i) : Nat) : Int) := by
  have hp : 2 ^ (4 * i) ≤ 2 ^ 60 := Nat.pow_le_pow_right (by decide) (by omega)
  have hk2 : ((2 : Int) ^ (4 * i)) = ((2 ^ (4 * i) : Nat) : Int) := by simp
  have hg : ((g : Int) % 16) = ((g % 16 : Nat) : Int) := by omega
  have hg2 : g % 16 < 16 := Nat.mod_lt _ (by decide)
  have hm : g % 16 * 2 ^ (4 * i) ≤ 15 * 2 ^ (4 * i) := Nat.mul_le_mul_right _ (by omega)
  have hj : (g % 16 * 2 ^ (4 * i)) % 2 ^ (4 * i) = 0 := Nat.mul_mod_left _ _
  have e : IntKind.u64.wrap (((g : Int) % 16) * 2 ^ (4 * i)) = ((g % 16 * 2 ^ (4 * i) : Nat) : Int) := by
    rw [hg, hk2, ← Int.natCast_mul, IntKind.wrap_u64]
    omega
  rw [e, u64_or_nat v _ (by omega) (by omega), Nat.or_comm, nat_join (4 * i) _ v hj hv, Nat.add_comm]

set_option maxHeartbeats 400000 in
theorem get_ok2 (B : Nat) (w : World) (b : Nat) (g : Option Nat) (P : List Nat) (t n : Nat) (h : Rd B w b g P t) (hn : n ≤ 64) (hl : t + n ≤ 8 * P.length) :
    Calls Tryz.prog 150 #[.pointer (some ⟨b, 0, none⟩), .int .i64 n] w fun e w' => e = .returned (.tuple #[.int .u64 (numAt P t n : Nat), .int .i64 0]) ∧ Rd B w' b g P (t + n) ∧ Fr (At b none) w w' := by
  have h0 : ¬ (n : Int) < 0 := by omega
  have h1 : ¬ (64 : Int) < (n : Int) := by omega
  have hle := h.le
  have hlen := h.len
  have h2 : ¬ ((8 * P.length - t : Nat) : Int) < (n : Int) := by omega
  have H : Hid (Rd B w b g P t) := h
  clear h
  go_enter Tryz.func150, Tryz.ntmps150
  go_wp2_with fail
  refine (left_any B w b g P t H.out).mono ?_
  generalize 8 * P.length - t = lft at h2 ⊢
  rintro e w1 ⟨rfl, hf⟩
  have H1 : Hid (Rd B w1 b g P t ∧ Fr Nobody w w1) := ⟨H.out.quiet hf, hf⟩
  clear hf H
  go_wp2_with fail
  refine (next_any B w1 b g P t n H1.out.1 hn hl).mono ?_
  rintro e w2 ⟨rfl, hf⟩
  have H2 : Hid (Rd B w2 b g P t ∧ Fr Nobody w w2) := ⟨H1.out.1.quiet hf, H1.out.2.trans hf⟩
  clear hf H1
  obtain ⟨v, hb, ho, hv⟩ := H2.out.1.obj
  have HH : Hid (w2.heap[b]? = some (.cells #[v, .int .i64 (t : Int)] 233 (0, 0)) ∧ w2.ownsRow 0 5 1 v P.length (vrow P) ∧ v.ownBlock = g) := ⟨hb, ho, hv⟩
  have c1 := cell1 hb
  have f1 : w2.frozen? ⟨b, 1, none⟩ = false := froz hb
  clear hb ho hv
  go_wp2
  go_ret2
  have R := H2.out.1
  have hne := R.ne
  obtain ⟨hb, ho, hv⟩ := HH.out
  refine ⟨rfl, ⟨R.low, R.glow, R.ne, R.byt, R.len, hl, ⟨v, ?_, row_setCell ho _ _ (by rw [hv]; exact hne), hv⟩⟩, ?_⟩
  · refine (setCell_heap w2 b 1 _ _ _ hb).trans ?_
    simp
  · exact (H2.out.2.mono (fun _ _ k => k.elim)).setCell (.inl (.inl rfl)) _

/-- what the closure leaves: the reader somewhere, where it says if there is no error -/
def GvEnd (B : Nat) (w w' : World) (br : Nat) (g : Option Nat) (P : List Nat) (t : Nat) (rc : Int) (rn : Nat) : Prop := ∃ t', Rd B w' br g P t' ∧ Fr (At br none) w w' ∧ (rc = 0 → t' = t + rn)

set_option maxHeartbeats 1000000 in
theorem getVar1_any (B : Nat) (w : World) (bx br : Nat) (g : Option Nat) (P : List Nat) (t : Nat) (h : Rd B w br g P t) (hbx : w.cell? ⟨bx, 0, none⟩ = some (.pointer (some ⟨br, 0, none⟩))) (hap : ¬ At br none bx) :
    Calls Tryz.prog 200 #[.pointer (some ⟨bx, 0, none⟩)] w fun e w' => e = .returned (.tuple #[.int .u64 ((gv ((bitsB P).drop t)).2.1 : Nat), .int .i64 (gv ((bitsB P).drop t)).1]) ∧ GvEnd B w w' br g P t (gv ((bitsB P).drop t)).1 (gv ((bitsB P).drop t)).2.2 := by
  have hlt : bx < w.heap.size := World.block_lt_of_cell? w _ hbx
  have H : Hid (Rd B w br g P t) := h
  have HB : Hid (w.cell? ⟨bx, 0, none⟩ = some (.pointer (some ⟨br, 0, none⟩)) ∧ ¬ At br none bx) := ⟨hbx, hap⟩
  obtain ⟨r, hr⟩ : ∃ r, r = gv ((bitsB P).drop t) := ⟨_, rfl⟩
  rw [← hr]
  have HR : Hid (r = gvAux 16 0 0 ((bitsB P).drop t)) := hr
  have hlen := h.len
  clear h hbx hap hr
  obtain ⟨rc, rv, rn⟩ := r
  go_enter Tryz.func200, Tryz.ntmps200
  go_wp2
  go_loopw [3, 7] (fun xv c wr => ∃ i v : Nat, i ≤ 16 ∧ c = .int .i64 i ∧ xv = .int .u64 (v : Int) ∧ v < 2 ^ (4 * i) ∧ (rc, rv, rn) = gvAux (16 - i) i v ((bitsB P).drop (t + 5 * i)) ∧ Rd B wr br g P (t + 5 * i) ∧ Fr (At br none) w wr) (fun _ c _ => 16 - (intOf c).toNat)
  case atStart => exact ⟨0, 0, by decide, rfl, rfl, by decide, HR.out, H.out, Fr.refl _ _⟩
  case round =>
    obtain ⟨i, v, hi, rfl, rfl, hv, hgv, hR, hf⟩ := hrel
    have cb : wr.cell? ⟨bx, 0, none⟩ = some (.pointer (some ⟨br, 0, none⟩)) := (hf.cell (p := ⟨bx, 0, none⟩) hlt HB.out.2).trans HB.out.1
    have HV : Hid (v < 2 ^ (4 * i) ∧ (rc, rv, rn) = gvAux (16 - i) i v ((bitsB P).drop (t + 5 * i)) ∧ Rd B wr br g P (t + 5 * i) ∧ Fr (At br none) w wr) := ⟨hv, hgv, hR, hf⟩
    have hle := hR.le
    clear hv hgv hR hf H HR
    by_cases h16 : i < 16
    · have hM : ((bitsB P).drop (t + 5 * i)).length = 8 * P.length - (t + 5 * i) := by rw [List.length_drop, length_bitsB]
      have hstep := HV.out.2.1
      rw [show 16 - i = (15 - i) + 1 from by omega, gvAux] at hstep
      by_cases hsh : 8 * P.length < t + 5 * i + 5
      · rw [if_pos (by omega)] at hstep
        simp only [Prod.mk.injEq] at hstep
        obtain ⟨rfl, rfl, rfl⟩ := hstep
        clear hM
        go_wp2_with fail
        refine (get_short B wr br g P (t + 5 * i) 5 HV.out.2.2.1 (by decide) hsh).mono ?_
        rintro e w2 ⟨rfl, hf2⟩
        have H2 : Hid (Rd B w2 br g P (t + 5 * i) ∧ Fr (At br none) w w2) := ⟨HV.out.2.2.1.quiet hf2, HV.out.2.2.2.trans (hf2.mono (fun _ _ k => k.elim))⟩
        clear hf2 HV cb
        go_wp2
        go_ret2
        exact ⟨rfl, t + 5 * i, H2.out.1, H2.out.2, fun h => by simp at h⟩
      · rw [if_neg (by omega)] at hstep
        have HS : Hid _ := hstep
        clear hstep hM
        go_wp2_with fail
        refine (get_ok2 B wr br g P (t + 5 * i) 5 HV.out.2.2.1 (by decide) (by omega)).mono ?_
        rw [numAt_g5]
        have hg32 := g5_lt ((bitsB P).drop (t + 5 * i))
        have HD : Hid (((bitsB P).drop (t + 5 * i)).drop 5 = (bitsB P).drop (t + 5 * (i + 1))) := by show _ = _; rw [bits_drop]; congr 1
        generalize hGG : g5 ((bitsB P).drop (t + 5 * i)) = gg at *
        rintro e w2 ⟨rfl, hR2, hf2⟩
        have H2 : Hid (Rd B w2 br g P (t + 5 * (i + 1)) ∧ Fr (At br none) w w2) := ⟨hR2, HV.out.2.2.2.trans hf2⟩
        have hor := or_grp v gg i HV.out.1 h16
        have HVL : Hid (v + gg % 16 * 2 ^ (4 * i) < 2 ^ (4 * (i + 1))) := vstep_lt v gg i HV.out.1
        have hvl64 : v + gg % 16 * 2 ^ (4 * i) < 18446744073709551616 := Nat.lt_of_lt_of_le HVL.out (Nat.pow_le_pow_right (n := 2) (i := 4 * (i + 1)) (j := 64) (by decide) (by omega))
        have HS2 : Hid ((rc, rv, rn) = if 16 ≤ gg then gvAux (15 - i) (i + 1) (v + gg % 16 * 2 ^ (4 * i)) ((bitsB P).drop (t + 5 * (i + 1))) else if grp (v + gg % 16 * 2 ^ (4 * i)) ≠ i + 1 then (4, 0, 0) else (0, v + gg % 16 * 2 ^ (4 * i), 5 * (i + 1))) := by
          show _ = _
          rw [← HD.out]
          exact HS.out
        clear hR2 hf2 HV cb HS HD hGG
        generalize v + gg % 16 * 2 ^ (4 * i) = y at *
        by_cases c16 : 16 ≤ gg
        · have HS3 : Hid ((rc, rv, rn) = gvAux (16 - (i + 1)) (i + 1) y ((bitsB P).drop (t + 5 * (i + 1)))) := by
            have := HS2.out; rw [if_pos c16] at this; show _ = _; rw [this, show 16 - (i + 1) = 15 - i from by omega]
          clear HS2
          go_wp2
          go_roundw
          case rel => exact ⟨i + 1, y, by omega, by go_num, rfl, HVL.out, HS3.out, H2.out.1, H2.out.2⟩
          case measure => simp [intOf]; omega
        · have HS3 : Hid ((rc, rv, rn) = if grp y ≠ i + 1 then (4, 0, 0) else (0, y, 5 * (i + 1))) := by
            have := HS2.out; rw [if_neg c16] at this; exact this
          clear HS2
          go_wp2_with fail
          refine (groups_any y w2 hvl64).mono ?_
          generalize grp y = gy at *
          rintro e w3 ⟨rfl, rfl⟩
          by_cases cg : gy = i + 1
          · subst cg
            have hh := HS3.out
            rw [if_neg (by simp)] at hh
            simp only [Prod.mk.injEq] at hh
            obtain ⟨rfl, rfl, rfl⟩ := hh
            have tg : ((((i + 1 : Nat) : Int)) != (i : Int) + 1) = false := by simp
            go_wp2
            go_ret2
            exact ⟨rfl, t + 5 * (i + 1), H2.out.1, H2.out.2, fun _ => rfl⟩
          · have hh := HS3.out
            rw [if_pos cg] at hh
            simp only [Prod.mk.injEq] at hh
            obtain ⟨rfl, rfl, rfl⟩ := hh
            have tg : ((gy : Int) != (i : Int) + 1) = true := by rw [bne_iff_ne]; omega
            go_wp2
            go_ret2
            exact ⟨rfl, t + 5 * (i + 1), H2.out.1, H2.out.2, fun h => by simp at h⟩
    · have ei : i = 16 := by omega
      subst ei
      have hh := HV.out.2.1
      rw [show 16 - 16 = 0 from rfl, gvAux] at hh
      simp only [Prod.mk.injEq] at hh
      obtain ⟨rfl, rfl, rfl⟩ := hh
      go_wp2
      go_ret2
      exact ⟨rfl, t + 5 * 16, HV.out.2.2.1, HV.out.2.2.2, fun h => by simp at h⟩

/-- the closure's contract, as Try wants it: of a function value f: it answers rv and rc, and leaves the reader somewhere -/
def Reads (k : IntKind) (f : FuncId) (caps : Array Value) (B : Nat) (w0 : World) (br : Nat) (g : Option Nat) (P : List Nat) (t : Nat) (rv : Int) (rc : Int) (rn : Nat) : Prop :=
  ∀ w, Rd B w br g P t → Fr (At br none) w0 w → Calls Tryz.prog f caps w fun e w' => e = .returned (.tuple #[.int k rv, .int .i64 rc]) ∧ GvEnd B w w' br g P t rc rn

set_option maxHeartbeats 1000000 in
theorem tryU_any (f : FuncId) (hf : f = 200) (bx : Nat) (B : Nat) (w : World) (br : Nat) (g : Option Nat) (P : List Nat) (t : Nat) (rv rc : Int) (rn : Nat) (h : Rd B w br g P t) (hr : Reads .u64 f #[.pointer (some ⟨bx, 0, none⟩)] B w br g P t rv rc rn) (hz : rc ≠ 0 → rv = 0 ∧ rn = 0) :
    Calls Tryz.prog 199 #[.pointer (some ⟨br, 0, none⟩), .func (.func 200) #[] #[.pointer (some ⟨bx, 0, none⟩)]] w fun e w' => e = .returned (.tuple #[.int .u64 rv, .int .i64 rc]) ∧ Rd B w' br g P (t + rn) ∧ Fr (At br none) w w' := by
  subst hf
  obtain ⟨v, hb, ho, hv⟩ := h.obj
  have c0 := cell0 hb
  have c1 := cell1 hb
  obtain ⟨ao, cap, hvs⟩ : ∃ ao cap, v = .slice ao P.length cap := by
    rcases ho.2 with ⟨rfl, h0⟩ | ⟨g, cap, cur, rfl, _⟩
    · exact ⟨none, 0, by rw [h0]⟩
    · exact ⟨_, _, rfl⟩
  subst hvs
  have hlt := h.lt
  have H : Hid (Rd B w br g P t ∧ Reads .u64 200 #[.pointer (some ⟨bx, 0, none⟩)] B w br g P t rv rc rn ∧ (rc ≠ 0 → rv = 0 ∧ rn = 0)) := ⟨h, hr, hz⟩
  have HO : Hid (w.ownsRow 0 5 1 (.slice ao P.length cap) P.length (vrow P) ∧ (Value.slice ao P.length cap).ownBlock = g) := ⟨ho, hv⟩
  clear h hr hz hb ho hv
  go_enter Tryz.func199, Tryz.ntmps199
  go_wp2_with fail
  have HA : Hid (Fr (At br none) w (w.alloc (.cells #[.slice ao P.length cap, .int .i64 (t : Int)] 233))) := (Fr.refl _ _).alloc _
  have HN : Hid ((w.alloc (.cells #[.slice ao P.length cap, .int .i64 (t : Int)] 233)).heap[w.heap.size]? = some (.cells #[.slice ao P.length cap, .int .i64 (t : Int)] 233 (0, 0))) := heap_alloc_new w _
  refine (H.out.2.1 _ (H.out.1.quiet ((Fr.refl _ _).alloc _)) HA.out).mono ?_
  rintro e w2 ⟨rfl, hE⟩
  obtain ⟨t', hR', hf', ht'⟩ := hE
  have hs2 : (w.alloc (.cells #[.slice ao P.length cap, .int .i64 (t : Int)] 233)).heap.size ≤ w2.heap.size := hf'.size
  have hnew : w2.heap[w.heap.size]? = some (.cells #[.slice ao P.length cap, .int .i64 (t : Int)] 233 (0, 0)) := (hf'.block w.heap.size (by simp) (by rintro (e | e); omega; cases e)).trans HN.out
  have d0 := cell0 hnew
  have d1 := cell1 hnew
  have HF : Hid (Fr (At br none) w w2 ∧ Rd B w2 br g P t' ∧ (rc = 0 → t' = t + rn)) := ⟨HA.out.trans hf', hR', ht'⟩
  obtain ⟨v2, hb2, _, _⟩ := hR'.obj
  have HB2 : Hid (w2.heap[br]? = some (.cells #[v2, .int .i64 (t' : Int)] 233 (0, 0))) := hb2
  have e0 := cell0 hb2
  have e1 := cell1 hb2
  have f0 : w2.frozen? ⟨br, 0, none⟩ = false := froz hb2
  have f1 : w2.frozen? ⟨br, 1, none⟩ = false := froz hb2
  have hne : br ≠ w.heap.size := by omega
  clear hR' hf' ht' hb2 hnew HA HN c0 c1
  by_cases hrc : rc = 0
  · have HT : Hid (Rd B w2 br g P (t + rn) ∧ Fr (At br none) w w2) := ⟨by rw [← HF.out.2.2 hrc]; exact HF.out.2.1, HF.out.1⟩
    clear HF H
    subst hrc
    go_wp2
    go_ret2
    exact ⟨rfl, HT.out⟩
  · have tr : (rc != 0) = true := by rw [bne_iff_ne]; exact hrc
    obtain ⟨hz1, hz2⟩ := H.out.2.2 hrc
    subst hz1
    subst hz2
    have HT : Hid (Rd B ((w2.setCell ⟨br, 0, none⟩ (.slice ao P.length cap)).setCell ⟨br, 1, none⟩ (.int .i64 (t : Int))) br g P (t + 0) ∧ Fr (At br none) w ((w2.setCell ⟨br, 0, none⟩ (.slice ao P.length cap)).setCell ⟨br, 1, none⟩ (.int .i64 (t : Int)))) := by
      have R := H.out.1
      have hgne : g ≠ some br := R.ne
      have ho2 : w2.ownsRow 0 5 1 (.slice ao P.length cap) P.length (vrow P) := HF.out.1.row HO.out.1 (fun k hk => by
        rintro (e | e)
        · subst e; exact hgne (HO.out.2.symm.trans hk)
        · cases e)
      have hk1 : (Value.slice ao P.length cap).ownBlock ≠ some br := by rw [HO.out.2]; exact hgne
      refine ⟨⟨R.low, R.glow, R.ne, R.byt, R.len, R.le, ⟨.slice ao P.length cap, ?_, row_setCell (row_setCell ho2 _ _ hk1) _ _ hk1, HO.out.2⟩⟩, (HF.out.1.setCell (.inl (.inl rfl)) _).setCell (.inl (.inl rfl)) _⟩
      refine (setCell_heap _ br 1 _ _ _ (setCell_heap w2 br 0 _ _ _ HB2.out)).trans ?_
      simp
    clear HF H HB2 HO
    go_wp2
    go_ret2
    exact ⟨rfl, HT.out⟩

set_option maxHeartbeats 1000000 in
theorem getVar_rd (B : Nat) (w : World) (br : Nat) (g : Option Nat) (P : List Nat) (t : Nat) (h : Rd B w br g P t) :
    Calls Tryz.prog 177 #[.pointer (some ⟨br, 0, none⟩)] w fun e w' => e = .returned (.tuple #[.int .u64 ((gv ((bitsB P).drop t)).2.1 : Nat), .int .i64 (gv ((bitsB P).drop t)).1]) ∧ Rd B w' br g P (t + (gv ((bitsB P).drop t)).2.2) ∧ Fr (At br none) w w' := by
  have hlt := h.lt
  obtain ⟨hv, _, hz⟩ := gv_ok ((bitsB P).drop t)
  have key : ∀ w1 : World, Rd B w1 br g P t → ∀ bx, bx ≠ br → w1.cell? ⟨bx, 0, none⟩ = some (.pointer (some ⟨br, 0, none⟩)) → bx < w1.heap.size → Calls Tryz.prog 199 #[.pointer (some ⟨br, 0, none⟩), .func (.func 200) #[] #[.pointer (some ⟨bx, 0, none⟩)]] w1 fun e w' => e = .returned (.tuple #[.int .u64 ((gv ((bitsB P).drop t)).2.1 : Nat), .int .i64 (gv ((bitsB P).drop t)).1]) ∧ Rd B w' br g P (t + (gv ((bitsB P).drop t)).2.2) ∧ Fr (At br none) w1 w' := by
    intro w1 h1 bx hbx hc hbl
    refine tryU_any _ rfl bx B w1 br g P t _ _ _ h1 ?_ (fun hne => ?_)
    · intro w2 h2 hf2
      have hap : ¬ At br none bx := by rintro (e | e); exact hbx e; cases e
      exact getVar1_any B w2 bx br g P t h2 ((hf2.cell (p := ⟨bx, 0, none⟩) hbl hap).trans hc) hap
    · have := hz hne
      rw [this]; exact ⟨rfl, rfl⟩
  have K : Hid _ := key
  have H : Hid (Rd B w br g P t) := h
  clear key h hv hz
  generalize gv ((bitsB P).drop t) = r at *
  obtain ⟨rc, rv, rn⟩ := r
  go_enter Tryz.func177, Tryz.ntmps177
  go_wp2_with fail
  have HA : Hid (Fr (At br none) w (w.alloc (.cells #[.pointer (some ⟨br, 0, none⟩)] 121))) := (Fr.refl _ _).alloc _
  refine (K.out _ (H.out.quiet ((Fr.refl _ _).alloc _)) w.heap.size (by omega) (by simp) (by simp)).mono ?_
  rintro e w2 ⟨rfl, hR, hf⟩
  have H2 : Hid (Rd B w2 br g P (t + rn) ∧ Fr (At br none) w w2) := ⟨hR, HA.out.trans hf⟩
  clear hR hf HA H K
  go_wp2
  go_ret2
  exact ⟨rfl, H2.out⟩

end Go.Proofs.YtbencjopjdjepaaGreatDoor


