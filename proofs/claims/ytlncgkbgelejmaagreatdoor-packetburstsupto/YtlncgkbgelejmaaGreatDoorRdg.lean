/-
  PutVar, PutInt and PutIn of package nums.
-/
import Derived.Test.YtlncgkbgelejmaaGreatDoorNb
import Derived.Test.YtlncgkbgelejmaaGreatDoorRb
namespace Go.Proofs.YtlncgkbgelejmaaGreatDoor
open Go.RowKit
set_option linter.unusedVariables false

/-- the i-th group of a number of n groups -/
def grpAt (v n i : Nat) : Nat := v / 2 ^ (4 * i) % 16 + (if i + 1 < n then 16 else 0)
/-- the first k groups -/
def varTo (v n : Nat) : Nat → List Bool
  | 0 => []
  | k + 1 => varTo v n k ++ bitsN 5 (grpAt v n k)
/-- Var of v -/
def var (v : Nat) : List Bool := varTo v (grp v) (grp v)
theorem length_varTo (v n k : Nat) : (varTo v n k).length = 5 * k := by
  induction k with
  | zero => rfl
  | succ k ih => rw [varTo, List.length_append, ih, length_bitsN]; omega
theorem length_var (v : Nat) : (var v).length = 5 * grp v := length_varTo _ _ _
theorem grp_bd (v : Nat) (hv : v < 18446744073709551616) : 1 ≤ grp v ∧ grp v ≤ 16 := by
  have := bitLen_64 v hv
  unfold grp; omega
theorem grpAt_lt (v n i : Nat) : grpAt v n i < 32 := by unfold grpAt; split <;> omega

theorem part_val (v k : Nat) : ((v : Int) / 2 ^ (4 * k)).tmod 16 = ((v / 2 ^ (4 * k) % 16 : Nat) : Int) := by
  have h2 : ((v : Int) / 2 ^ (4 * k)) = ((v / 2 ^ (4 * k) : Nat) : Int) := by simp
  rw [h2, Int.tmod_eq_emod_of_nonneg (Int.natCast_nonneg _)]
  omega
theorem more_val (v k : Nat) : IntKind.u64.wrap (((v : Int) / 2 ^ (4 * k)).tmod 16 + 16) = ((v / 2 ^ (4 * k) % 16 + 16 : Nat) : Int) := by
  rw [part_val, wrapU]
  have := Nat.mod_lt (v / 2 ^ (4 * k)) (show 0 < 16 by decide)
  omega
theorem put_ow' (w0 w : World) (b : Nat) (L : List Bool) (v n : Nat) (x y : Int) (hx : x = (v : Int)) (hy : y = (n : Int)) (h : Ow w0 w b L) (hn : n ≤ 64) (hv : v < 2 ^ n) (hv2 : v < 18446744073709551616) (hl : L.length + n ≤ 1048576) :
    Calls Tryz.prog 92 #[.pointer (some ⟨b, 0, none⟩), .int .u64 x, .int .i64 y] w fun e w' => e = .returned (.int .i64 0) ∧ Ow w0 w' b (L ++ bitsN n v) := by
  subst hx; subst hy; exact put_ow w0 w b L v n h hn hv hv2 hl

set_option maxHeartbeats 400000 in
theorem putVar_nil (v : Nat) (w : World) (hv : v < 18446744073709551616) :
    Calls Tryz.prog 91 #[.pointer none, .int .u64 v] w fun e w' => e = .returned (.int .i64 10) ∧ w' = w := by
  go_enter Tryz.func91, Tryz.ntmps91
  go_wp2_with fail
  refine (groups_any v w hv).mono ?_
  rintro e w' ⟨rfl, rfl⟩
  go_wp2
  go_ret
  exact ⟨rfl, rfl⟩

set_option maxHeartbeats 1000000 in
theorem putVar_ok (w0 w : World) (b : Nat) (L : List Bool) (v : Nat) (h : Ow w0 w b L) (hv : v < 18446744073709551616) (hl : L.length + 5 * grp v ≤ 1048576) :
    Calls Tryz.prog 91 #[.pointer (some ⟨b, 0, none⟩), .int .u64 v] w fun e w' => e = .returned (.int .i64 0) ∧ Ow w0 w' b (L ++ var v) := by
  have hg := grp_bd v hv
  have H : Hid (Ow w0 w b L) := h
  have HV : Hid (var v = varTo v (grp v) (grp v)) := rfl
  clear h
  have hgr := groups_any v w hv
  generalize var v = vv at *
  generalize grp v = n at *
  go_enter Tryz.func91, Tryz.ntmps91
  go_wp2_with fail
  refine hgr.mono ?_
  clear hgr
  rintro e w' ⟨rfl, rfl⟩
  go_wp2_with fail
  refine (len_ow w0 _ b L H.out).mono ?_
  rintro e w1 ⟨rfl, hW⟩
  have H1 : Hid (Ow w0 w1 b L) := hW
  clear hW H
  have hlong : ¬ (1048576 : Int) - (L.length : Int) < (n : Int) * 5 := by omega
  go_wp2
  clear hlong
  go_loopw [22] (fun c wr => ∃ k : Nat, k ≤ n ∧ c = .int .i64 k ∧ Ow w0 wr b (L ++ varTo v n k)) (fun c _ => n - (intOf c).toNat)
  case atStart => exact ⟨0, Nat.zero_le _, rfl, by simpa [varTo] using H1.out⟩
  case round =>
    obtain ⟨k, hk, rfl, hW⟩ := hrel
    by_cases hlt : k < n
    · by_cases hlast : k + 1 < n
      · have hla : (k : Int) < (n : Int) - 1 := by omega
        go_wp2_with fail
        refine (put_ow' w0 wr b _ (grpAt v n k) 5 _ 5 (by rw [grpAt, if_pos hlast]; exact more_val v k) rfl hW (by decide) (grpAt_lt v n k) (Nat.lt_trans (grpAt_lt v n k) (by decide)) (by rw [List.length_append, length_varTo]; omega)).mono ?_
        rintro e w2 ⟨rfl, hW2⟩
        have H2 : Hid (Ow w0 w2 b (L ++ varTo v n (k + 1))) := by rw [varTo, ← List.append_assoc]; exact hW2
        clear hW hW2 H1
        go_wp2
        go_roundw
        case rel => exact ⟨k + 1, by omega, by go_num, H2.out⟩
        case measure => simp [intOf]; omega
      · have hla : ¬ (k : Int) < (n : Int) - 1 := by omega
        go_wp2_with fail
        refine (put_ow' w0 wr b _ (grpAt v n k) 5 _ 5 (by rw [grpAt, if_neg hlast]; exact part_val v k) rfl hW (by decide) (grpAt_lt v n k) (Nat.lt_trans (grpAt_lt v n k) (by decide)) (by rw [List.length_append, length_varTo]; omega)).mono ?_
        rintro e w2 ⟨rfl, hW2⟩
        have H2 : Hid (Ow w0 w2 b (L ++ varTo v n (k + 1))) := by rw [varTo, ← List.append_assoc]; exact hW2
        clear hW hW2 H1
        go_wp2
        go_roundw
        case rel => exact ⟨k + 1, by omega, by go_num, H2.out⟩
        case measure => simp [intOf]; omega
    · go_wp2
      go_ret
      have e : k = n := by omega
      subst e
      exact ⟨rfl, by rw [HV.out]; exact hW⟩

end Go.Proofs.YtlncgkbgelejmaaGreatDoor


/-
  The document's examples, for the laws of layer 2.
-/
namespace Go.Proofs.YtlncgkbgelejmaaGreatDoor
open Go.RowKit
set_option linter.unusedVariables false

theorem src_lit (w : World) (cs : Array Value) (n : Nat) (xs : List Value) (hx : cs.toList = xs) (hn : n ≤ 1000) (hs : cs.size = n) : Src (w.alloc (.cells cs 5)) (.slice (some ⟨w.heap.size, 0, none⟩) n n) n xs := by
  subst hx
  exact Src.of_row (e := 5) (World.ownsRow_lit w cs n (Nat.zero_le _) (by unfold maxLen; omega) (by omega))

theorem var16 : var 16 = [false, false, false, false, true, true, false, false, false, false] := by decide +kernel
theorem grp16 : grp 16 = 2 := by decide +kernel
theorem wid1000 : wid 0 1000 = 10 := by decide +kernel
theorem zigm1 : zig (-1) = 1 := by decide +kernel

end Go.Proofs.YtlncgkbgelejmaaGreatDoor


/-
  Slices that came in; a writer and a list side by side; what 'written' of the laws makes.
-/
namespace Go.Proofs.YtlncgkbgelejmaaGreatDoor
open Go.RowKit
set_option linter.unusedVariables false
set_option maxRecDepth 100000

/-- WHAT A WALK IS TOLD OF A SLICE OF INTEGERS THAT CAME IN (as the guide's shell has it). -/
def IsRow (k : IntKind) (w : World) (a : Option Addr) (len cap : Nat) (zs : List Int) : Prop :=
  (a = none ∧ len = 0 ∧ cap = 0 ∧ zs = []) ∨
  ∃ x, a = some x ∧ len ≤ cap ∧ cap ≤ maxLen ∧ zs.length = cap ∧ (∀ i, i < zs.length → w.cell? (x.add i) = some (.int k (zs.getD i 0))) ∧ ∀ n ∈ zs, (Lit.int k n).wf = true

/-- The numbers P of a slice of integers of kind k: nothing is asked of its address where there are none. -/
def Ints (k : IntKind) (w : World) (ao : Option Addr) (P : List Int) : Prop :=
  P = [] ∨ ∃ g o, ao = some ⟨g, o, none⟩ ∧ ∀ j x, P[j]? = some x → w.cell? ⟨g, o + j, none⟩ = some (.int k x)
theorem Ints.quiet {k : IntKind} {w w' : World} {ao : Option Addr} {P : List Int} (h : Ints k w ao P) (hf : Fr Nobody w w') : Ints k w' ao P := by
  rcases h with h | ⟨g, o, ha, hc⟩
  · exact .inl h
  · refine .inr ⟨g, o, ha, fun j x hx => ?_⟩
    have h1 := hc j x hx
    exact (hf.cell (p := ⟨g, o + j, none⟩) (World.block_lt_of_cell? w _ h1) id).trans h1
theorem IsRow.ints {k : IntKind} {w : World} {a : Option Addr} {len cap : Nat} {zs : List Int} (h : IsRow k w a len cap zs) : (zs.take len).length = len ∧ len ≤ maxLen ∧ Ints k w a (zs.take len) ∧ ∀ n ∈ zs.take len, (Lit.int k n).wf = true := by
  rcases h with ⟨rfl, rfl, rfl, rfl⟩ | ⟨x, rfl, hl, hm, hz, hc, hw⟩
  · exact ⟨rfl, Nat.zero_le _, .inl rfl, fun n hn => by simp at hn⟩
  · refine ⟨by rw [List.length_take]; omega, by omega, ?_, fun n hn => hw n (List.mem_of_mem_take hn)⟩
    by_cases h0 : len = 0
    · subst h0; left; simp
    · right
      obtain ⟨g, o, spot⟩ := x
      have h1 := hc 0 (by omega)
      have hs : spot = none := by simpa [Addr.add] using World.cell?_spot h1
      subst hs
      refine ⟨g, o, rfl, fun j y hy => ?_⟩
      rw [List.getElem?_take] at hy
      split at hy
      · rename_i hj
        have h2 := hc j (by omega)
        rw [addr_add] at h2
        rw [h2]
        rw [List.getD_eq_getElem?_getD, hy]; rfl
      · cases hy

/-- A writer and a list of bits, both of the same bits. -/
def Both (w0 w : World) (b : Nat) (v : Value) (L : List Bool) : Prop := Ow w0 w b L ∧ Bo w0.heap.size w v L
theorem Ow.apart {w0 w : World} {b : Nat} {M : List Bool} (h : Ow w0 w b M) : ∃ g, Wr w0.heap.size w b g M ∧ ∀ k cur, w.heap[k]? = some (.cells cur 4 (0, 0)) → ¬ At b g k := by
  obtain ⟨g, hW, _⟩ := h
  exact ⟨g, hW, hW.apart⟩
theorem Both.fr {w0 w : World} {b : Nat} {v : Value} {L : List Bool} (h : Both w0 w b v L) : Fr Nobody w0 w := h.1.fr
/-- Put into the writer; the list stays -/
theorem put_keep (w0 w : World) (b : Nat) (v : Value) (L M : List Bool) (x n : Nat) (h : Ow w0 w b L) (hb : Bo w0.heap.size w v M) (hn : n ≤ 64) (hv : x < 2 ^ n) (hv2 : x < 18446744073709551616) (hl : L.length + n ≤ 1048576) :
    Calls Tryz.prog 92 #[.pointer (some ⟨b, 0, none⟩), .int .u64 x, .int .i64 n] w fun e w' => e = .returned (.int .i64 0) ∧ Ow w0 w' b (L ++ bitsN n x) ∧ Bo w0.heap.size w' v M := by
  obtain ⟨g, hW, hF⟩ := h
  refine (put_ok _ w b g L x n hW hn hv hv2 hl).mono ?_
  rintro e w' ⟨rfl, g', hW', hS⟩
  exact ⟨rfl, ⟨g', hW', hF.fresh hS.fr hW.lowAt⟩, hb.keep hS.fr hW.apart⟩
/-- Put on the list; the writer stays -/
theorem rput_keep (w0 w : World) (b : Nat) (v : Value) (L M : List Bool) (x n : Nat) (h : Ow w0 w b L) (hb : Bo w0.heap.size w v M) (hL : M.length + n ≤ 1048576) (hx : x < 2 ^ n) (hx2 : x < 18446744073709551616) (hn : n ≤ 64) :
    Calls Tryz.prog 22 #[v, .int .u64 x, .int .i64 n] w fun e w' => ∃ v', e = .returned (.tuple #[v', .int .i64 0]) ∧ Bo w0.heap.size w' v' (M ++ bitsN n x) ∧ Ow w0 w' b L := by
  refine (rput_own w0.heap.size w v M x n hb h.fr.size (by omega) hx2 hn).mono ?_
  have e1 : x / 2 ^ n = 0 := Nat.div_eq_of_lt hx
  have e2 : rputE M x n = 0 := by unfold rputE; rw [if_pos e1, if_pos hL]
  have e3 : rputL M x n = M ++ bitsN n x := by unfold rputL; rw [if_pos ⟨e1, hL⟩]
  rw [e2, e3]
  rintro e w' ⟨v', rfl, hb', hf⟩
  exact ⟨v', rfl, hb', h.quiet hf⟩

end Go.Proofs.YtlncgkbgelejmaaGreatDoor


/-
  PutIn, and reading of a nil reader, of package nums.
-/
namespace Go.Proofs.YtlncgkbgelejmaaGreatDoor
open Go.RowKit
set_option linter.unusedVariables false

set_option maxHeartbeats 400000 in
theorem tryU_nil (w : World) (f : Value) : Calls Tryz.prog 132 #[.pointer none, f] w fun e w' => e = .returned (.tuple #[.int .u64 0, .int .i64 10]) ∧ w' = w := by
  go_enter Tryz.func132, Tryz.ntmps132
  go_wp2
  go_ret2
  exact ⟨rfl, rfl⟩

set_option maxHeartbeats 400000 in
theorem getVar_nil (w : World) : Calls Tryz.prog 109 #[.pointer none] w fun e w' => e = .returned (.tuple #[.int .u64 0, .int .i64 10]) ∧ Fr Nobody w w' := by
  go_enter Tryz.func109, Tryz.ntmps109
  go_wp2_with fail
  refine (tryU_nil _ _).mono ?_
  rintro e w1 ⟨rfl, rfl⟩
  go_wp2
  go_ret2
  exact ⟨rfl, (Fr.refl _ _).alloc _⟩

theorem zag0 : zag 0 = 0 := by decide +kernel
end Go.Proofs.YtlncgkbgelejmaaGreatDoor


/-
  PutIn of package nums, and GetIn of a nil reader.
-/
namespace Go.Proofs.YtlncgkbgelejmaaGreatDoor
open Go.RowKit
set_option linter.unusedVariables false

set_option maxHeartbeats 400000 in
theorem tryI_nil (w : World) (f : Value) : Calls Tryz.prog 105 #[.pointer none, f] w fun e w' => e = .returned (.tuple #[.int .i64 0, .int .i64 10]) ∧ w' = w := by
  go_enter Tryz.func105, Tryz.ntmps105
  go_wp2
  go_ret2
  exact ⟨rfl, rfl⟩

set_option maxHeartbeats 400000 in
theorem getIn_nil (w : World) (lo hi : Int) : Calls Tryz.prog 80 #[.pointer none, .int .i64 lo, .int .i64 hi] w fun e w' => e = .returned (.tuple #[.int .i64 0, .int .i64 10]) ∧ Fr Nobody w w' := by
  go_enter Tryz.func80, Tryz.ntmps80
  go_wp2_with fail
  refine (tryI_nil _ _).mono ?_
  rintro e w1 ⟨rfl, rfl⟩
  go_wp2
  go_ret2
  exact ⟨rfl, (((Fr.refl _ _).alloc _).alloc _).alloc _⟩

set_option maxHeartbeats 400000 in
theorem putIn_nil (w : World) (n lo hi : Int) : Calls Tryz.prog 90 #[.pointer none, .int .i64 n, .int .i64 lo, .int .i64 hi] w fun e w' => e = .returned (.int .i64 10) ∧ w' = w := by
  go_enter Tryz.func90, Tryz.ntmps90
  go_wp2
  go_ret
  exact ⟨rfl, rfl⟩
set_option maxHeartbeats 400000 in
theorem putIn_arg (w : World) (b : Nat) (n lo hi : Int) (h : hi < lo) : Calls Tryz.prog 90 #[.pointer (some ⟨b, 0, none⟩), .int .i64 n, .int .i64 lo, .int .i64 hi] w fun e w' => e = .returned (.int .i64 1) ∧ w' = w := by
  go_enter Tryz.func90, Tryz.ntmps90
  go_wp2
  go_ret
  exact ⟨rfl, rfl⟩
set_option maxHeartbeats 400000 in
theorem putIn_range (w : World) (b : Nat) (n lo hi : Int) (h : lo ≤ hi) (hn : n < lo ∨ hi < n) : Calls Tryz.prog 90 #[.pointer (some ⟨b, 0, none⟩), .int .i64 n, .int .i64 lo, .int .i64 hi] w fun e w' => e = .returned (.int .i64 5) ∧ w' = w := by
  rcases hn with hn | hn
  · go_enter Tryz.func90, Tryz.ntmps90
    go_wp2
    go_ret
    exact ⟨rfl, rfl⟩
  · have hn' : ¬ n < lo := by omega
    go_enter Tryz.func90, Tryz.ntmps90
    go_wp2
    go_ret
    exact ⟨rfl, rfl⟩
theorem lt_bitLen (x : Nat) (h : x < 18446744073709551616) : x < 2 ^ Lib.bitLen x := by
  induction x using Nat.strongRecOn with
  | ind x ih =>
    by_cases h0 : x = 0
    · subst h0; exact Nat.two_pow_pos _
    · rw [Lib.bitLen_half x h0 h, Nat.add_comm, Nat.pow_succ]
      have := ih (x / 2) (by omega) (by omega)
      omega
theorem wid_le (lo hi : Int) (h0 : -9223372036854775808 ≤ lo) (h1 : hi ≤ 9223372036854775807) : wid lo hi ≤ 64 := by
  unfold wid
  split
  · omega
  · exact bitLen_64 _ (by omega)
theorem in_lt (n lo hi : Int) (h0 : -9223372036854775808 ≤ lo) (h1 : hi ≤ 9223372036854775807) (ha : lo ≤ n) (hb : n ≤ hi) : (n - lo).toNat < 2 ^ wid lo hi := by
  unfold wid
  rw [if_neg (by omega)]
  have := lt_bitLen (hi - lo).toNat (by omega)
  omega
set_option maxHeartbeats 400000 in
theorem putIn_ok (w0 w : World) (b : Nat) (L : List Bool) (n lo hi : Int) (d : Nat) (hd : n = lo + (d : Int)) (h : Ow w0 w b L) (h0 : -9223372036854775808 ≤ lo) (h1 : hi ≤ 9223372036854775807) (ha : lo ≤ n) (hb : n ≤ hi) (hl : L.length + 64 ≤ 1048576) :
    Calls Tryz.prog 90 #[.pointer (some ⟨b, 0, none⟩), .int .i64 n, .int .i64 lo, .int .i64 hi] w fun e w' => e = .returned (.int .i64 0) ∧ Ow w0 w' b (L ++ bitsN (wid lo hi) d) := by
  have hle : lo ≤ hi := by omega
  have H : Hid (Ow w0 w b L) := h
  have ed : (n - lo).toNat = d := by omega
  have HI : Hid (d < 2 ^ wid lo hi) := ed ▸ in_lt n lo hi h0 h1 ha hb
  have HW : Hid (wid lo hi ≤ 64) := wid_le lo hi h0 h1
  have G1 : Hid _ := fun w => span_any lo n d w h0 (by omega) hd
  have G2 : Hid _ := fun w => width_any lo hi w h0 h1 (by omega) (by omega)
  have hdl : d < 18446744073709551616 := by omega
  clear h hd ed
  generalize wid lo hi = m at *
  go_enter Tryz.func90, Tryz.ntmps90
  go_wp2_with fail
  refine (G1.out _).mono ?_
  rintro e w' ⟨rfl, rfl⟩
  go_wp2_with fail
  refine (G2.out _).mono ?_
  rintro e w' ⟨rfl, rfl⟩
  go_wp2_with fail
  refine (put_ow w0 _ b L d m H.out HW.out HI.out hdl (by have := HW.out; omega)).mono ?_
  rintro e w1 ⟨rfl, hW⟩
  go_wp2
  go_ret
  exact ⟨rfl, hW⟩

end Go.Proofs.YtlncgkbgelejmaaGreatDoor


/-
  The document's side of layer 2: Width and In; appending one list of bits to another.
-/
namespace Go.Proofs.YtlncgkbgelejmaaGreatDoor
open Go.RowKit
set_option linter.unusedVariables false
set_option maxRecDepth 100000

theorem bitLen0 : Lib.bitLen 0 = 0 := by decide +kernel

set_option maxHeartbeats 1000000 in
theorem rwidth_any (lo hi : Int) (w : World) (h0 : -9223372036854775808 ≤ lo) (h1 : hi ≤ 9223372036854775807) (h2 : lo ≤ 9223372036854775807) (h3 : -9223372036854775808 ≤ hi) :
    Calls Tryz.prog 78 #[.int .i64 lo, .int .i64 hi] w fun e w' => e = .returned (.int .i64 (wid lo hi : Nat)) ∧ w' = w := by
  by_cases h : hi < lo
  · have e0 : wid lo hi = 0 := by unfold wid; rw [if_pos h]
    rw [e0]
    go_enter Tryz.func78, Tryz.ntmps78
    go_wp2
    go_ret
    exact ⟨rfl, rfl⟩
  · have e0 : wid lo hi = Lib.bitLen (hi - lo).toNat := by unfold wid; rw [if_neg h]
    obtain ⟨d, hd⟩ : ∃ d : Nat, d = (hi - lo).toNat := ⟨_, rfl⟩
    rw [e0, ← hd]
    have hd2 : d < 18446744073709551616 := by omega
    have hq : IntKind.u64.wrap (IntKind.u64.wrap hi - IntKind.u64.wrap lo) = (d : Int) := by simp only [wrapU]; omega
    have hb := bitLen_64 d hd2
    clear e0 hd
    generalize hl : Lib.bitLen d = l at *
    have HL : Hid (Lib.bitLen d = l) := hl
    clear hl
    go_enter Tryz.func78, Tryz.ntmps78
    go_wp2
    clear hq
    go_loopw [5, 6] (fun c xv wr => ∃ k y : Nat, c = .int .i64 k ∧ xv = .int .u64 y ∧ k + Lib.bitLen y = l ∧ y < 18446744073709551616 ∧ wr = w) (fun _ xv _ => (intOf xv).toNat)
    case atStart => exact ⟨0, d, rfl, rfl, by rw [HL.out]; omega, hd2, rfl⟩
    case round =>
      obtain ⟨k, y, rfl, rfl, hy, hy2, rfl⟩ := hrel
      have HY : Hid (k + Lib.bitLen y = l) := hy
      have hkl : k ≤ l := by omega
      clear hy
      by_cases hpos : 0 < y
      · have HY2 : Hid (k + 1 + Lib.bitLen (y / 2) = l) := by
          have := Lib.bitLen_half y (by omega) hy2
          have := HY.out
          show _ = _; omega
        go_wp2
        go_roundw
        case rel => exact ⟨k + 1, y / 2, by go_num, by go_num, HY2.out, by omega, trivial⟩
        case measure => simp [intOf]; omega
      · have hy0 : y = 0 := by omega
        subst hy0
        have hkl2 : k = l := by have := HY.out; rw [bitLen0] at this; omega
        go_wp2
        go_ret
        exact ⟨ret_int (by omega), rfl⟩

set_option maxHeartbeats 400000 in
theorem rin_arg (n lo hi : Int) (w : World) (h : hi < lo) : Calls Tryz.prog 45 #[.int .i64 n, .int .i64 lo, .int .i64 hi] w fun e w' => e = .returned (.tuple #[.slice none 0 0, .int .i64 1]) ∧ w' = w := by
  go_enter Tryz.func45, Tryz.ntmps45
  go_wp2
  go_ret2
  exact ⟨rfl, rfl⟩
set_option maxHeartbeats 400000 in
theorem rin_range (n lo hi : Int) (w : World) (h : lo ≤ hi) (hn : n < lo ∨ hi < n) : Calls Tryz.prog 45 #[.int .i64 n, .int .i64 lo, .int .i64 hi] w fun e w' => e = .returned (.tuple #[.slice none 0 0, .int .i64 5]) ∧ w' = w := by
  rcases hn with hn | hn
  · go_enter Tryz.func45, Tryz.ntmps45
    go_wp2
    go_ret2
    exact ⟨rfl, rfl⟩
  · have hn' : ¬ n < lo := by omega
    go_enter Tryz.func45, Tryz.ntmps45
    go_wp2
    go_ret2
    exact ⟨rfl, rfl⟩
set_option maxHeartbeats 400000 in
theorem rin_ok (n lo hi : Int) (d : Nat) (w : World) (hd : n = lo + (d : Int)) (h0 : -9223372036854775808 ≤ lo) (h1 : hi ≤ 9223372036854775807) (ha : lo ≤ n) (hb : n ≤ hi) :
    Calls Tryz.prog 45 #[.int .i64 n, .int .i64 lo, .int .i64 hi] w fun e w' => ∃ v, e = .returned (.tuple #[v, .int .i64 0]) ∧ Bo w.heap.size w' v (bitsN (wid lo hi) d) ∧ Fr Nobody w w' := by
  have hle : lo ≤ hi := by omega
  have ed : (n - lo).toNat = d := by omega
  have hq : IntKind.u64.wrap (IntKind.u64.wrap n - IntKind.u64.wrap lo) = (d : Int) := by simp only [wrapU]; omega
  have HI : d < 2 ^ wid lo hi := ed ▸ in_lt n lo hi h0 h1 ha hb
  have HW : wid lo hi ≤ 64 := wid_le lo hi h0 h1
  have hdl : d < 18446744073709551616 := by omega
  have e1 : d / 2 ^ wid lo hi = 0 := Nat.div_eq_of_lt HI
  have e2 : rputE [] d (wid lo hi) = 0 := by unfold rputE; rw [if_pos e1, if_pos (by simp; omega)]
  have e3 : rputL [] d (wid lo hi) = bitsN (wid lo hi) d := by unfold rputL; rw [if_pos ⟨e1, by simp; omega⟩]; rfl
  have G : Hid _ := fun w => rput_own w.heap.size w (.slice none 0 0) [] d (wid lo hi) (Bo.nil _ _) (Nat.le_refl _) (by decide) hdl HW
  have G2 : Hid _ := fun w => rwidth_any lo hi w h0 h1 (by omega) (by omega)
  rw [e2, e3] at G
  generalize wid lo hi = m at *
  clear ed HI HW e1 e2 e3 hd
  go_enter Tryz.func45, Tryz.ntmps45
  go_wp2_with fail
  refine (G2.out _).mono ?_
  rintro e w' ⟨rfl, rfl⟩
  go_wp2_with fail
  refine (G.out _).mono ?_
  rintro e w1 ⟨v, rfl, hO, hf⟩
  go_wp2
  go_ret2
  exact ⟨v, rfl, hO, hf⟩

/-- 'l = append(l, in...)', both lists of bits -/
theorem append_bits {w : World} {ops : Array Oper} {rest : List Oper} {o : Oper} {a : Act} {Q : Exit → Act → World → Prop} (hgd : o.guard = none) (s x : Operand)
    (ho : o.op = .call { callee := .builtin .append, args := #[s, x], argTypes := #[46, 46] }) (B : Nat) (v u : Value) (L M : List Bool) (h : Bo B w v L) (hM : Bs w u M) (hL : L.length ≤ 100000000) (hM2 : M.length ≤ 100000000) (hB : B ≤ w.heap.size)
    (hs : a.eval s = v) (hx : a.eval x = u)
    (hK : ∀ v' w', Bo B w' v' (L ++ M) → w.grownBy w' v.ownBlock → wpList Tryz.prog ops Q rest (a.put o.dst v') w') :
    wpList Tryz.prog ops Q (o :: rest) a w := by
  obtain ⟨i0, hi, hz0, hz1, hz2⟩ := info_parts Tryz.infoBool
  rcases hM with ⟨rfl, rfl⟩ | ⟨g, off, cap, cur, rfl, hn, hg, hc⟩
  · refine wpList_plain hgd fun K hK' => ?_
    have hr := run_append_owned_none (P := Tryz.prog) w B 46 o.type 4 i0 1 Tryz.underlying46 hi v L.length (brow L) h
    unfold Oper.wp
    simp [execOp, ho, resolve, invoke, builtin, hs, hx, hr, Result.andThen]
    exact hK' _ _ (hK v w (by simpa using h) ⟨rfl, rfl, rfl, Nat.le_refl _, fun _ _ _ => rfl⟩)
  · refine wpList_append_own w hgd s x 46 ho B 4 i0 (.bool false) 1 1 Tryz.underlying46 hi hz0 hz1 hz2 rfl (by decide) v L.length (brow L) hs h ⟨g, off, none⟩ M.length cap (brow M) hx (by rw [length_brow]; omega) ?_ (one_brow M) (by unfold maxLen; omega) (by omega) hB ?_
    · intro j u hu
      rw [addr_add, cell_of_row w g _ cur 4 (0, 0) hg]
      exact hc j u hu
    · intro v' w' ho' hg' _
      refine hK v' w' ?_ hg'
      unfold Bo
      rw [brow_append, List.length_append]
      exact ho'
/-- a list's row turns: a writer stays -/
theorem Ow.grown {w0 w w' : World} {b : Nat} {M L : List Bool} {v : Value} (h : Ow w0 w b M) (hv : Bo w0.heap.size w v L) (hg : w.grownBy w' v.ownBlock) : Ow w0 w' b M := by
  obtain ⟨g, hW, hF⟩ := h
  have hfr : Fr (fun k => v.ownBlock = some k) w w' := Fr.grown (S := fun k => v.ownBlock = some k) (Fr.refl _ w) hg (fun k hk => .inl hk)
  have hap : ∀ k, At b g k → ¬ v.ownBlock = some k := by
    intro k hk e
    rcases hv.2 with ⟨rfl, _⟩ | ⟨g', cap, cur, rfl, _, hgg, _⟩
    · simp [Value.ownBlock] at e
    · simp [Value.ownBlock] at e
      subst e
      exact hW.apart _ cur hgg hk
  refine ⟨g, hW.keep hfr (hap b (.inl rfl)) (fun k hk => hap k (.inr hk.symm)), hF.fresh hfr (fun k hk => (World.ownsRow.lt hv k hk).1)⟩

end Go.Proofs.YtlncgkbgelejmaaGreatDoor

