/-
  PutVar, PutInt and PutIn of package nums.
-/
import Derived.Test.YtllhipfielgnbaaDoorNb
namespace Go.Proofs.YtllhipfielgnbaaDoor
open Go.RowKit
set_option linter.unusedVariables false

/-- the i-th group of a number of n groups -/
def grpAt (v n i : Nat) : Nat := v / 2 ^ (4 * i) % 16 + (if i + 1 < n then 16 else 0)
/-- the first k groups -/
def varTo (v n : Nat) : Nat → List Bool
  | 0 => []
  | k + 1 => varTo v n k ++ bitsN 5 (grpAt v n k)
/-- Var of v -/
def var (v : Nat) : List Bool := varTo v (grp v) (grp v)
theorem length_varTo (v n k : Nat) : (varTo v n k).length = 5 * k := by
  induction k with
  | zero => rfl
  | succ k ih => rw [varTo, List.length_append, ih, length_bitsN]; omega
theorem length_var (v : Nat) : (var v).length = 5 * grp v := length_varTo _ _ _
theorem grp_bd (v : Nat) (hv : v < 18446744073709551616) : 1 ≤ grp v ∧ grp v ≤ 16 := by
  have := bitLen_64 v hv
  unfold grp; omega
theorem grpAt_lt (v n i : Nat) : grpAt v n i < 32 := by unfold grpAt; split <;> omega

theorem part_val (v k : Nat) : ((v : Int) / 2 ^ (4 * k)).tmod 16 = ((v / 2 ^ (4 * k) % 16 : Nat) : Int) := by
  have h2 : ((v : Int) / 2 ^ (4 * k)) = ((v / 2 ^ (4 * k) : Nat) : Int) := by simp
  rw [h2, Int.tmod_eq_emod_of_nonneg (Int.natCast_nonneg _)]
  omega
theorem more_val (v k : Nat) : IntKind.u64.wrap (((v : Int) / 2 ^ (4 * k)).tmod 16 + 16) = ((v / 2 ^ (4 * k) % 16 + 16 : Nat) : Int) := by
  rw [part_val, wrapU]
  have := Nat.mod_lt (v / 2 ^ (4 * k)) (show 0 < 16 by decide)
  omega
theorem put_ow' (w0 w : World) (b : Nat) (L : List Bool) (v n : Nat) (x y : Int) (hx : x = (v : Int)) (hy : y = (n : Int)) (h : Ow w0 w b L) (hn : n ≤ 64) (hv : v < 2 ^ n) (hv2 : v < 18446744073709551616) (hl : L.length + n ≤ 1048576) :
    Calls Tryd.prog 24 #[.pointer (some ⟨b, 0, none⟩), .int .u64 x, .int .i64 y] w fun e w' => e = .returned (.int .i64 0) ∧ Ow w0 w' b (L ++ bitsN n v) := by
  subst hx; subst hy; exact put_ow w0 w b L v n h hn hv hv2 hl

end Go.Proofs.YtllhipfielgnbaaDoor
