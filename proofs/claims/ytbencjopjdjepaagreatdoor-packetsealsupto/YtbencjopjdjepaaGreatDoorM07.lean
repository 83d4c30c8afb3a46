/-
  GetVar and GetInt of readers made by the law; what Var wrote is read again: plain facts.
-/
import Derived.Test.YtbencjopjdjepaaGreatDoorM06
import Derived.Test.YtbencjopjdjepaaGreatDoorM04
import Derived.Test.YtbencjopjdjepaaGreatDoorTie
import Derived.Test.YtbencjopjdjepaaGreatDoorCards
import Derived.ProofKit
import Derived.OpenShut
import Derived.LaidMore
import Derived.SevenTiedAt
import Derived.Stop.Joined
namespace Go.Proofs.YtbencjopjdjepaaGreatDoor
open Go.RowKit
set_option linter.unusedVariables false
set_option maxRecDepth 100000

theorem lt_bitLen' (x : Nat) (h : x < 18446744073709551616) : x < 2 ^ Lib.bitLen x := by
  induction x using Nat.strongRecOn with
  | ind x ih =>
    by_cases h0 : x = 0
    · subst h0; exact Nat.two_pow_pos _
    · rw [Lib.bitLen_half x h0 h, Nat.add_comm, Nat.pow_succ]
      have := ih (x / 2) (by omega) (by omega)
      omega
theorem lt_grp (v : Nat) (h : v < 18446744073709551616) : v < 2 ^ (4 * grp v) := by
  have h1 := lt_bitLen' v h
  have h2 : 2 ^ Lib.bitLen v ≤ 2 ^ (4 * grp v) := Nat.pow_le_pow_right (by decide) (by unfold grp; omega)
  omega
/-- groups from k on -/
def varFrom (v n : Nat) : Nat → Nat → List Bool
  | _, 0 => []
  | k, m + 1 => bitsN 5 (grpAt v n k) ++ varFrom v n (k + 1) m
theorem varTo_from (v n k m : Nat) : varTo v n k ++ varFrom v n k m = varTo v n (k + m) := by
  induction m generalizing k with
  | zero => simp [varFrom]
  | succ m ih =>
    rw [varFrom, ← List.append_assoc, ← varTo, ih (k + 1)]
    congr 1; omega
theorem var_from (v : Nat) : var v = varFrom v (grp v) 0 (grp v) := by
  have h := varTo_from v (grp v) 0 (grp v)
  rw [Nat.zero_add] at h
  exact h.symm
theorem g5_group (x : Nat) (hx : x < 32) (R : List Bool) : g5 (bitsN 5 x ++ R) = x ∧ (bitsN 5 x ++ R).drop 5 = R ∧ ¬ (bitsN 5 x ++ R).length < 5 := by
  refine ⟨?_, ?_, ?_⟩
  · unfold g5; rw [List.take_left' (length_bitsN 5 x), num_bitsN]; exact Nat.mod_eq_of_lt hx
  · rw [List.drop_left' (length_bitsN 5 x)]
  · rw [List.length_append, length_bitsN]; omega
theorem mod_step (v k : Nat) : v % 2 ^ (4 * k) + v / 2 ^ (4 * k) % 16 * 2 ^ (4 * k) = v % 2 ^ (4 * (k + 1)) := by
  rw [show 4 * (k + 1) = 4 * k + 4 from by omega, Nat.pow_add, Nat.mod_mul, Nat.mul_comm (2 ^ (4 * k)) (v / 2 ^ (4 * k) % 2 ^ 4)]
theorem gvAux_var (v : Nat) (hv : v < 18446744073709551616) (R : List Bool) (m k : Nat) (hk : k + (m + 1) = grp v) : gvAux (16 - k) k (v % 2 ^ (4 * k)) (varFrom v (grp v) k (m + 1) ++ R) = (0, v, 5 * grp v) := by
  have hb := grp_bd v hv
  induction m generalizing k with
  | zero =>
    rw [varFrom, varFrom, List.append_nil, show 16 - k = (15 - k) + 1 from by omega, gvAux]
    obtain ⟨a, b, c⟩ := g5_group (grpAt v (grp v) k) (grpAt_lt _ _ _) R
    rw [if_neg c, a]
    have e : grpAt v (grp v) k = v / 2 ^ (4 * k) % 16 := by unfold grpAt; rw [if_neg (by omega)]; rfl
    rw [e, if_neg (by have := Nat.mod_lt (v / 2 ^ (4 * k)) (show 0 < 16 by decide); omega), Nat.mod_mod, mod_step]
    have ek : k + 1 = grp v := by omega
    rw [ek, Nat.mod_eq_of_lt (lt_grp v hv), if_neg (by simp)]
  | succ m ih =>
    rw [varFrom, List.append_assoc, show 16 - k = (15 - k) + 1 from by omega, gvAux]
    obtain ⟨a, b, c⟩ := g5_group (grpAt v (grp v) k) (grpAt_lt _ _ _) (varFrom v (grp v) (k + 1) (m + 1) ++ R)
    rw [if_neg c, a, b]
    have e : grpAt v (grp v) k = v / 2 ^ (4 * k) % 16 + 16 := by unfold grpAt; rw [if_pos (by omega)]
    have e2 : (v / 2 ^ (4 * k) % 16 + 16) % 16 = v / 2 ^ (4 * k) % 16 := by omega
    rw [e, if_pos (by omega), e2, mod_step, show 15 - k = 16 - (k + 1) from by omega]
    exact ih (k + 1) (by omega)
theorem gv_var (v : Nat) (hv : v < 18446744073709551616) (R : List Bool) : gv (var v ++ R) = (0, v, 5 * grp v) := by
  have hb := grp_bd v hv
  obtain ⟨m, hm⟩ : ∃ m, grp v = m + 1 := ⟨grp v - 1, by omega⟩
  have h := gvAux_var v hv R m 0 (by omega)
  rw [Nat.mul_zero, Nat.pow_zero, Nat.mod_one, Nat.sub_zero] at h
  unfold gv
  rw [var_from, hm]
  rw [hm] at h
  exact h

end Go.Proofs.YtbencjopjdjepaaGreatDoor


/-
  The document's side of layer 2: Var.
-/
namespace Go.Proofs.YtbencjopjdjepaaGreatDoor
open Go.RowKit
set_option linter.unusedVariables false
set_option maxRecDepth 100000

theorem bitLen_ge (x : Nat) (h0 : x ≠ 0) (h : x < 18446744073709551616) : 2 ^ (Lib.bitLen x - 1) ≤ x := by
  induction x using Nat.strongRecOn with
  | ind x ih =>
    rw [Lib.bitLen_half x h0 h]
    by_cases h1 : x / 2 = 0
    · rw [h1, bitLen0]; simp; omega
    · have h2 := ih (x / 2) (by omega) h1 (by omega)
      have h3 : Lib.bitLen (x / 2) ≠ 0 := by
        intro e
        have h4 := lt_bitLen' (x / 2) (by omega)
        rw [e] at h4; omega
      obtain ⟨m, hm⟩ : ∃ m, Lib.bitLen (x / 2) = m + 1 := ⟨Lib.bitLen (x / 2) - 1, by omega⟩
      rw [hm] at h2 ⊢
      rw [show 1 + (m + 1) - 1 = m + 1 from by omega, Nat.pow_succ]
      rw [show m + 1 - 1 = m from by omega] at h2
      omega
theorem grp_more (v i : Nat) (hv : v < 18446744073709551616) : i + 1 < grp v ↔ v / 2 ^ (4 * (i + 1)) ≠ 0 := by
  constructor
  · intro h
    have hb : 4 * (i + 1) < Lib.bitLen v := by unfold grp at h; omega
    have h0 : v ≠ 0 := by rintro rfl; rw [bitLen0] at hb; omega
    have h1 := bitLen_ge v h0 hv
    have h2 : 2 ^ (4 * (i + 1)) ≤ 2 ^ (Lib.bitLen v - 1) := Nat.pow_le_pow_right (by decide) (by omega)
    intro e
    rw [Nat.div_eq_zero_iff_lt (Nat.two_pow_pos _)] at e
    omega
  · intro h
    rcases Nat.lt_or_ge (i + 1) (grp v) with c | c
    · exact c
    · exfalso
      have h1 := lt_grp v hv
      have h2 : 2 ^ (4 * grp v) ≤ 2 ^ (4 * (i + 1)) := Nat.pow_le_pow_right (by decide) (by omega)
      exact h (Nat.div_eq_of_lt (by omega))
theorem bits_group (v n i : Nat) (b : Bool) (hb : b = decide (i + 1 < n)) : bitsN 5 (grpAt v n i) = bitsN 4 (v / 2 ^ (4 * i)) ++ [b] := by
  subst hb
  unfold grpAt
  generalize v / 2 ^ (4 * i) = y
  by_cases c : i + 1 < n
  · rw [if_pos c]
    have e0 : (y % 16 + 16) % 2 = y % 2 := by omega
    have e1 : (y % 16 + 16) / 2 % 2 = y / 2 % 2 := by omega
    have e2 : (y % 16 + 16) / 2 / 2 % 2 = y / 2 / 2 % 2 := by omega
    have e3 : (y % 16 + 16) / 2 / 2 / 2 % 2 = y / 2 / 2 / 2 % 2 := by omega
    have e4 : (y % 16 + 16) / 2 / 2 / 2 / 2 % 2 = 1 := by omega
    simp only [bitsN, e0, e1, e2, e3, e4, c]
    simp
  · rw [if_neg c]
    have e0 : (y % 16 + 0) % 2 = y % 2 := by omega
    have e1 : (y % 16 + 0) / 2 % 2 = y / 2 % 2 := by omega
    have e2 : (y % 16 + 0) / 2 / 2 % 2 = y / 2 / 2 % 2 := by omega
    have e3 : (y % 16 + 0) / 2 / 2 / 2 % 2 = y / 2 / 2 / 2 % 2 := by omega
    have e4 : (y % 16 + 0) / 2 / 2 / 2 / 2 % 2 = 0 := by omega
    simp only [bitsN, e0, e1, e2, e3, e4, c]
    simp
theorem div16 (v i : Nat) : v / 2 ^ (4 * i) / 2 ^ 4 = v / 2 ^ (4 * (i + 1)) := by
  rw [Nat.div_div_eq_div_mul, ← Nat.pow_add]; congr 1

set_option maxHeartbeats 1000000 in
theorem rvar_any (w : World) (v : Nat) (hv : v < 18446744073709551616) : Calls Tryz.prog 49 #[.int .u64 (v : Int)] w fun e w' => ∃ u, e = .returned u ∧ Bo w.heap.size w' u (var v) ∧ Fr Nobody w w' := by
  obtain ⟨i0, hi, hz0, hz1, hz2⟩ := info_parts Tryz.infoBool
  have hg := grp_bd v hv
  have HM : Hid (∀ i, i + 1 < grp v ↔ v / 2 ^ (4 * (i + 1)) ≠ 0) := fun i => grp_more v i hv
  have HV : Hid (var v = varTo v (grp v) (grp v)) := rfl
  generalize var v = vv at *
  generalize grp v = n at *
  go_enter Tryz.func49, Tryz.ntmps49
  go_wp2
  go_loopw [0, 3] (fun xv u wr => ∃ i y : Nat, i < n ∧ y = v / 2 ^ (4 * i) ∧ y < 18446744073709551616 ∧ xv = .int .u64 (y : Int) ∧ Bo w.heap.size wr u (varTo v n i) ∧ Fr Nobody w wr) (fun xv _ _ => (intOf xv).toNat)
  case atStart => exact ⟨0, v, by omega, by simp, hv, rfl, Bo.nil _ _, Fr.refl _ _⟩
  case round =>
    obtain ⟨i, y, hin, hy, hyl, rfl, hB, hf⟩ := hrel
    have H1 : Hid (Bo w.heap.size wr _ (varTo v n i) ∧ Fr Nobody w wr) := ⟨hB, hf⟩
    have HY : Hid (y = v / 2 ^ (4 * i)) := hy
    have HL : Hid ((varTo v n i).length = 5 * i) := length_varTo v n i
    clear hB hf hy
    go_wp2
    go_loopw [0, 3, 4] (fun xv u c wr2 => ∃ j z : Nat, j ≤ 4 ∧ c = .int .i64 j ∧ z = y / 2 ^ j ∧ xv = .int .u64 (z : Int) ∧ Bo w.heap.size wr2 u (varTo v n i ++ bitsN j y) ∧ Fr Nobody w wr2) (fun _ _ c _ => 4 - (intOf c).toNat)
    case atStart => exact ⟨0, y, by decide, rfl, by simp, rfl, by simpa [bitsN] using H1.out.1, H1.out.2⟩
    case round =>
      obtain ⟨j, z, hj, rfl, hz, rfl, hB, hf⟩ := hrel
      have HZ : Hid (z = y / 2 ^ j) := hz
      have hz2 : z < 18446744073709551616 := by rw [hz]; exact Nat.lt_of_le_of_lt (Nat.div_le_self _ _) hyl
      have hsz := hf.size
      clear hz
      by_cases hj4 : j < 4
      · obtain ⟨bb, hbb⟩ : ∃ bb : Bool, (((z : Int) % 2 == 1) : Bool) = bb := ⟨_, rfl⟩
        have HB : Hid ((y / 2 ^ j % 2 == 1) = bb) := by
          show _ = _
          rw [← hbb, ← HZ.out, Bool.eq_iff_iff]; simp; omega
        have hln : (varTo v n i ++ bitsN j y).length ≤ 100000 := by rw [List.length_append, length_bitsN, HL.out]; omega
        go_wp2_with (at_builtin; refine wpList_append_own _ rfl _ _ 80 rfl w.heap.size 4 i0 (.bool false) 1 1 Tryz.underlying80 hi hz0 hz1 ‹_› rfl (by decide) _ _ _ rfl (World.ownsRow.alloc hB _) ⟨_, 0, none⟩ 1 1 [.bool bb] rfl rfl (cell_one_new _ _ _) (one_bool _) (by unfold maxLen; omega) (by omega) (by simp; omega) ?_)
        intro u' w2 ho2 hg2 _
        have H2 : Hid (Bo w.heap.size w2 u' (varTo v n i ++ bitsN (j + 1) y) ∧ Fr Nobody w w2) := by
          refine ⟨?_, (hf.alloc _).grown hg2 (fun q hq => .inr (World.ownsRow.lt hB q hq).1)⟩
          unfold Bo
          rw [bitsN_snoc, HB.out, ← List.append_assoc, brow_append (varTo v n i ++ bitsN j y), show (varTo v n i ++ bitsN j y ++ [bb]).length = (varTo v n i).length + (bitsN j y).length + 1 from by rw [List.length_append, List.length_append]; rfl]
          exact ho2
        have HY2 : Hid (z / 2 = y / 2 ^ (j + 1)) := by show _ = _; rw [HZ.out, half_pow]
        clear hB hf ho2 hg2 HB HZ hbb hln
        go_wp2
        go_roundw
        case rel => exact ⟨j + 1, z / 2, by omega, by go_num, HY2.out, by go_num, H2.out.1, H2.out.2⟩
        case measure => simp [intOf]; omega
      · have ej : j = 4 := by omega
        subst ej
        have HZ2 : Hid (z = v / 2 ^ (4 * (i + 1))) := by show _ = _; rw [HZ.out, HY.out, div16]
        have hln : (varTo v n i ++ bitsN 4 y).length ≤ 100000 := by rw [List.length_append, length_bitsN, HL.out]; omega
        have hm : z < y ∨ y = 0 := by have := HZ.out; omega
        have HZX : Hid (z ≤ y) := by have := HZ.out; show _ ≤ _; omega
        obtain ⟨bb, hbb⟩ : ∃ bb : Bool, decide (0 < z) = bb := ⟨_, rfl⟩
        have HG : Hid (varTo v n (i + 1) = varTo v n i ++ bitsN 4 y ++ [bb]) := by
          show _ = _
          rw [varTo, bits_group v n i bb, ← HY.out, List.append_assoc]
          rw [← hbb]
          have := HM.out i
          rw [← HZ2.out] at this
          rw [decide_eq_decide, this]; omega
        have hd : decide ((4 : Int) < 4) = false := by decide
        go_wp2_with (at_builtin; refine wpList_append_own _ rfl _ _ 80 rfl w.heap.size 4 i0 (.bool false) 1 1 Tryz.underlying80 hi hz0 hz1 ‹_› rfl (by decide) _ _ _ rfl (World.ownsRow.alloc hB _) ⟨_, 0, none⟩ 1 1 [.bool bb] rfl rfl (cell_one_new _ _ _) (one_bool _) (by unfold maxLen; omega) (by omega) (by simp; omega) ?_)
        intro u' w2 ho2 hg2 _
        have H2 : Hid (Bo w.heap.size w2 u' (varTo v n (i + 1)) ∧ Fr Nobody w w2) := by
          refine ⟨?_, (hf.alloc _).grown hg2 (fun q hq => .inr (World.ownsRow.lt hB q hq).1)⟩
          rw [HG.out]
          unfold Bo
          rw [brow_append (varTo v n i ++ bitsN 4 y), show (varTo v n i ++ bitsN 4 y ++ [bb]).length = (varTo v n i).length + (bitsN 4 y).length + 1 from by rw [List.length_append, List.length_append]; rfl]
          exact ho2
        have HI : Hid (i + 1 < n ↔ z ≠ 0) := by have := HM.out i; rw [← HZ2.out] at this; exact this
        clear hB hf ho2 hg2 HG HZ hbb hln HY
        by_cases z0 : z = 0
        · have H3 : Hid (Bo w.heap.size w2 u' vv ∧ Fr Nobody w w2) := by
            have e : i + 1 = n := by have := HI.out; omega
            have h2 := H2.out
            rw [e] at h2
            exact ⟨by rw [HV.out]; exact h2.1, h2.2⟩
          clear HI HM H2 HZ2 hm HZX
          subst z0
          go_wp2
          go_ret
          exact ⟨_, rfl, H3.out.1, H3.out.2⟩
        · have hi1 : i + 1 < n := HI.out.2 z0
          have tz : ((z : Int) == 0) = false := by simp; omega
          have HX : Hid (z < y) := by rcases hm with h | h; exact h; exact absurd (by have := HZX.out; omega) z0
          clear HI HM hm HZX
          go_wp2
          go_roundw
          case rel => exact ⟨i + 1, z, hi1, HZ2.out, hz2, rfl, H2.out.1, H2.out.2⟩
          case measure => have := HX.out; simp [intOf]; omega

end Go.Proofs.YtbencjopjdjepaaGreatDoor


/-
  The table of the components that the program's text lays: what its reading gives.
-/
namespace Go.Proofs.YtbencjopjdjepaaGreatDoor
open Go.ChangeShapes Go.WideShapes Go.ChangeAt Go.WideMaps Go.WideElems Go.RowKit
set_option linter.unusedVariables false
set_option maxRecDepth 100000

/-- a kind: its name, whether it is told, how many fields, and the three places for fields: name, from, to -/
def kinds : List (List UInt8 × Bool × Nat × List (List UInt8 × Int × Int)) :=
  [([112, 111, 115], true, 2, [([120], -524288, 524287), ([121], -524288, 524287), ([], 0, 0)]),
   ([118, 101, 108], true, 2, [([100, 120], -32768, 32767), ([100, 121], -32768, 32767), ([], 0, 0)]),
   ([108, 105, 102, 101], true, 1, [([108, 101, 102, 116], 0, 4095), ([], 0, 0), ([], 0, 0)]),
   ([98, 111, 100, 121], true, 3, [([115, 104, 97, 112, 101], 0, 15), ([104, 112], 0, 1000), ([115, 105, 122, 101], 1, 100)]),
   ([116, 97, 103], true, 3, [([116, 101, 97, 109], 0, 7), ([99, 111, 108, 111, 114], 0, 255), ([102, 108, 97, 103, 115], 0, 31)]),
   ([115, 112, 97, 119, 110], false, 3, [([101, 118, 101, 114, 121], 1, 255), ([108, 101, 102, 116], 0, 254), ([115, 104, 97, 112, 101], 0, 15)])]
def kname (k : Nat) : List UInt8 := (kinds[k]?.map (·.1)).getD []
def ktold (k : Nat) : Bool := (kinds[k]?.map (·.2.1)).getD false
def cnt (k : Nat) : Nat := (kinds[k]?.map (·.2.2.1)).getD 0
def fld (k j : Nat) : List UInt8 × Int × Int := ((kinds[k]?.map (·.2.2.2)).getD [])[j]?.getD ([], 0, 0)
def fname (k j : Nat) : List UInt8 := (fld k j).1
def lo (k j : Nat) : Int := (fld k j).2.1
def hi (k j : Nat) : Int := (fld k j).2.2
def bstr5 (l : List UInt8) : ByteArray := ⟨l.toArray⟩

def fldData {H : Type} (f : List UInt8 × Int × Int) : DataW H := .agg [.lit (.string f.1), .lit (.int .i32 f.2.1), .lit (.int .i32 f.2.2)]
def kindData {H : Type} (r : List UInt8 × Bool × Nat × List (List UInt8 × Int × Int)) : DataW H := .agg [.lit (.string r.1), .lit (.bool r.2.1), .lit (.int .i64 (r.2.2.1 : Int)), .agg (r.2.2.2.map fldData)]
theorem laid_kinds {H : Type} : (Rows.laid_pinnace_schema_rows : DataW H) = .agg (kinds.map kindData) := rfl

theorem own : ownKnob Tryz.prog.godebug = none := by kernel_rfl
theorem gRows : Tryz.prog.globalNamed "pinnace/schema.rows" = some 1 := by kernel_rfl
theorem tRows : (Tryz.prog.globals[1]?).map (·.type) = some 269 := by kernel_rfl
def laid1 {H : Type} : List (String × DataW H) := [("pinnace/frame.steps", Rows.laid_pinnace_frame_steps), ("pinnace/schema.rows", Rows.laid_pinnace_schema_rows)]
/-- the table lies where it was laid -/
structure Tab (w : World) : Prop where
  nm : ∀ k, k < 6 → w.cell? ⟨1, k * 12, none⟩ = some (.string (bstr5 (kname k)))
  told : ∀ k, k < 6 → w.cell? ⟨1, k * 12 + 1, none⟩ = some (.bool (ktold k))
  cnt : ∀ k, k < 6 → w.cell? ⟨1, k * 12 + 2, none⟩ = some (.int .i64 (cnt k : Int))
  fnm : ∀ k j, k < 6 → j < 3 → w.cell? ⟨1, k * 12 + 3 + j * 3, none⟩ = some (.string (bstr5 (fname k j)))
  lo : ∀ k j, k < 6 → j < 3 → w.cell? ⟨1, k * 12 + 3 + j * 3 + 1, none⟩ = some (.int .i32 (lo k j))
  hi : ∀ k j, k < 6 → j < 3 → w.cell? ⟨1, k * 12 + 3 + j * 3 + 2, none⟩ = some (.int .i32 (hi k j))
theorem Tab.keep {S : Nat → Prop} {w w' : World} (h : Tab w) (hf : Fr S w w') (hs : ¬ S 1) : Tab w' := by
  have key : ∀ (o : Nat) (v : Value), w.cell? ⟨1, o, none⟩ = some v → w'.cell? ⟨1, o, none⟩ = some v := fun o v hv => (hf.cell (p := ⟨1, o, none⟩) (World.block_lt_of_cell? w _ hv) hs).trans hv
  exact ⟨fun k hk => key _ _ (h.nm k hk), fun k hk => key _ _ (h.told k hk), fun k hk => key _ _ (h.cnt k hk), fun k j hk hj => key _ _ (h.fnm k j hk hj), fun k j hk hj => key _ _ (h.lo k j hk hj), fun k j hk hj => key _ _ (h.hi k j hk hj)⟩
theorem Tab.quiet {w w' : World} (h : Tab w) (hf : Fr Nobody w w') : Tab w' := h.keep hf id
theorem Tab.size {w : World} (h : Tab w) : 1 < w.heap.size := World.block_lt_of_cell? w _ (h.nm 0 (by decide))

theorem sub_cell {α : Type} {cs l : List α} {a n j : Nat} (h : ((cs.drop a).take n) = l) (hj : j < n) : cs[a + j]? = l[j]? := by
  subst h
  rw [List.getElem?_take, if_pos hj, List.getElem?_drop]

theorem fld_len (k : Nat) (hk : k < 6) : ((kinds[k]?.map (·.2.2.2)).getD []).length = 3 := by
  have : k = 0 ∨ k = 1 ∨ k = 2 ∨ k = 3 ∨ k = 4 ∨ k = 5 := by omega
  rcases this with rfl | rfl | rfl | rfl | rfl | rfl <;> rfl

theorem str_of {s : ByteArray} {l : List UInt8} (h : l = s.data.toList) : s = bstr5 l := by
  subst h; rfl

/-- one field's three cells -/
theorem fld_cells {H : Type} {enc : TypeId × Value → H} {w : World} {base : Nat} {spare : Nat → Bool} {held : Bool} {fuel : Nat} {cs : List Value} {f : List UInt8 × Int × Int} {p : List MemPlace}
    (h : DataW.trod enc Tryz.prog w base spare held fuel 265 cs = some (fldData f, p)) : cs = [.string (bstr5 f.1), .int .i32 f.2.1, .int .i32 f.2.2] := by
  obtain ⟨xs, n, _, hx, hl, hlen, hf⟩ := DataW.trod_struct Tryz.underlying265 h
  have cS : Tryz.prog.cellsOf 9 = 1 := by kernel_rfl
  have cI : Tryz.prog.cellsOf 21 = 1 := by kernel_rfl
  have cF : Tryz.prog.cellsOf 265 = 3 := by kernel_rfl
  rw [cF] at hl
  match cs, hl with
  | [c0, c1, c2], _ =>
  match xs, hlen with
  | [y0, y1, y2], _ =>
    have h0 := hf 0 _ rfl
    have h1 := hf 1 _ rfl
    have h2 := hf 2 _ rfl
    simp [cS, cI] at h0 h1 h2
    obtain ⟨s, e0, e0', _⟩ := DataW.trod_string Tryz.underlying9 h0
    obtain ⟨a, e1, e1', _⟩ := DataW.trod_int Tryz.underlying21 h1
    obtain ⟨b, e2, e2', _⟩ := DataW.trod_int Tryz.underlying21 h2
    subst e0' e1' e2'
    simp [fldData] at hx e0 e1 e2
    obtain ⟨⟨hs, ha, hb⟩, _⟩ := hx
    subst e0 e1 e2
    rw [str_of hs, ← ha, ← hb]

theorem getElem?_fld (k j : Nat) (hk : k < 6) (hj : j < 3) : ((kinds[k]?.map (·.2.2.2)).getD [])[j]? = some (fld k j) := by
  have hl := fld_len k hk
  unfold fld
  rw [List.getElem?_eq_getElem (by rw [hl]; exact hj)]
  rfl

theorem of_laid {W : World} (h : laidMetH Tryz.prog laid1 W) : Tab W := by
  rw [MakeChecks.laidMetH_plain _ _ _ (by kernel_rfl)] at h
  obtain ⟨ps, ⟨_, _, _, _, _, _, _, _, _, _, ⟨g0, t0, cs0, f0, p0, q0, hg0, ht0, hv0, hd0, _, _⟩, _⟩, _, _⟩ := h
  obtain rfl := Option.some.inj (gRows.symm.trans hg0)
  obtain rfl := Option.some.inj (tRows.symm.trans ht0)
  obtain ⟨xs, m1, hx0, hx1, hlen, hn3, hel⟩ := DataW.trod_array Tryz.underlying269 hd0
  have cR : Tryz.prog.cellsOf 268 = 12 := by kernel_rfl
  have cS : Tryz.prog.cellsOf 9 = 1 := by kernel_rfl
  have cI : Tryz.prog.cellsOf 3 = 1 := by kernel_rfl
  have cBo : Tryz.prog.cellsOf 4 = 1 := by kernel_rfl
  have cF : Tryz.prog.cellsOf 265 = 3 := by kernel_rfl
  have cFs : Tryz.prog.cellsOf 266 = 9 := by kernel_rfl
  simp only [Prod.mk.injEq, laid_kinds, DataW.agg.injEq] at hx1
  have main : ∀ k, k < 6 → ∃ r, kinds[k]? = some r ∧ ∃ l : List Value, (cs0.toList.drop (k * 12)).take 12 = l ∧ l[0]? = some (.string (bstr5 r.1)) ∧ l[1]? = some (.bool r.2.1) ∧ l[2]? = some (.int .i64 (r.2.2.1 : Int)) ∧ ∀ j f, j < 3 → r.2.2.2[j]? = some f → (l.drop (3 + j * 3)).take 3 = [.string (bstr5 f.1), .int .i32 f.2.1, .int .i32 f.2.2] := by
    intro k hk
    have h0 := hel k hk
    have hxi : xs[k]? = some xs[k] := List.getElem?_eq_getElem (by rw [hn3]; exact hk)
    have hkk : kinds[k]? = some kinds[k] := List.getElem?_eq_getElem hk
    refine ⟨kinds[k], hkk, _, rfl, ?_⟩
    rw [cR] at h0
    generalize hl : (cs0.toList.drop (k * 12)).take 12 = l at *
    have hd : kindData (H := Unit) kinds[k] = (xs[k]).1 := by
      have h1 : (kinds.map (kindData (H := Unit)))[k]? = some (kindData kinds[k]) := by rw [List.getElem?_map, hkk]; rfl
      rw [hx1.1, List.getElem?_map, hxi] at h1
      simpa using h1.symm
    generalize kinds[k] = r at *
    obtain ⟨ys, n, _, hy, hyl, hylen, hf⟩ := DataW.trod_struct Tryz.underlying268 (h0.trans hxi)
    rw [cR] at hyl
    match l, hyl with
    | [c0, c1, c2, c3, c4, c5, c6, c7, c8, c9, c10, c11], _ =>
    match ys, hylen with
    | [y0, y1, y2, y3], _ =>
      have h0 := hf 0 _ rfl
      have h1 := hf 1 _ rfl
      have h2 := hf 2 _ rfl
      have h3 := hf 3 _ rfl
      simp [cS, cI, cBo, cFs] at h0 h1 h2 h3
      obtain ⟨s, e0, e0', _⟩ := DataW.trod_string Tryz.underlying9 h0
      obtain ⟨a, e1, e1'⟩ := DataW.trod_bool Tryz.underlying4 h1
      obtain ⟨b, e2, e2', _⟩ := DataW.trod_int Tryz.underlying3 h2
      obtain ⟨zs, m2, hz0, hz1, hzlen, hz3, hzel⟩ := DataW.trod_array Tryz.underlying266 h3
      rw [hy] at hd
      subst e0' e1' e2'
      simp [kindData] at hd e0 e1 e2
      obtain ⟨hs, ha, hb, hfs⟩ := hd
      subst e0 e1 e2
      refine ⟨by rw [str_of hs]; rfl, by rw [ha]; rfl, by rw [hb]; rfl, ?_⟩
      intro j f hj hjf
      have hzj := hzel j hj
      have hzi : zs[j]? = some zs[j] := List.getElem?_eq_getElem (by rw [hz3]; exact hj)
      rw [cF, hzi] at hzj
      have hdat : (zs[j]).1 = fldData f := by
        have h1 : (r.2.2.2.map (fldData (H := Unit)))[j]? = some (fldData f) := by rw [List.getElem?_map, hjf]; rfl
        simp only [hz1, DataW.agg.injEq] at hfs
        rw [hfs, List.getElem?_map, hzi] at h1
        simpa using h1
      have hz' : zs[j] = (fldData f, (zs[j]).2) := by rw [← hdat]
      rw [hz'] at hzj
      have := fld_cells hzj
      rw [← this, ← List.drop_drop]
      simp
  have cellOf : ∀ (o : Nat) (v : Value), cs0.toList[o]? = some v → W.cell? ⟨1, o, none⟩ = some v := fun o v hv => by
    rw [World.var?_cell hg0 hv0 o, ← Array.getElem?_toList]; exact hv
  have pre : ∀ k o v, k < 6 → o < 12 → ((cs0.toList.drop (k * 12)).take 12)[o]? = some v → W.cell? ⟨1, k * 12 + o, none⟩ = some v := fun k o v hk ho hv => by
    apply cellOf
    rw [List.getElem?_take, if_pos ho, List.getElem?_drop] at hv
    exact hv
  refine ⟨fun k hk => ?_, fun k hk => ?_, fun k hk => ?_, fun k j hk hj => ?_, fun k j hk hj => ?_, fun k j hk hj => ?_⟩
  all_goals obtain ⟨r, hr, l, hl, l0, l1, l2, l3⟩ := main k hk
  · rw [← hl] at l0; have := pre k 0 _ hk (by decide) l0
    simpa [kname, hr] using this
  · rw [← hl] at l1; have := pre k 1 _ hk (by decide) l1
    simpa [ktold, hr] using this
  · rw [← hl] at l2; have := pre k 2 _ hk (by decide) l2
    simpa [Go.Proofs.YtbencjopjdjepaaGreatDoor.cnt, hr] using this
  all_goals
    have hfj := getElem?_fld k j hk hj
    rw [hr] at hfj
    have h3 := l3 j _ hj hfj
    rw [← hl] at h3
  · have := pre k (3 + j * 3 + 0) _ hk (by omega) (by rw [sub_cell h3 (by decide)]; rfl)
    rw [Nat.add_assoc]; exact this
  · have := pre k (3 + j * 3 + 1) _ hk (by omega) (by rw [sub_cell h3 (by decide)]; rfl)
    rw [Nat.add_assoc, Nat.add_assoc]; exact this
  · have := pre k (3 + j * 3 + 2) _ hk (by omega) (by rw [sub_cell h3 (by decide)]; rfl)
    rw [Nat.add_assoc, Nat.add_assoc]; exact this
end Go.Proofs.YtbencjopjdjepaaGreatDoor


/-
  Count, Name, hasField, Field, Range, Told of package schema.
-/
namespace Go.Proofs.YtbencjopjdjepaaGreatDoor
open Go.RowKit
set_option linter.unusedVariables false

theorem cnt_out (k : Nat) (h : 6 ≤ k) : cnt k = 0 := by unfold cnt; rw [List.getElem?_eq_none (by exact h)]; rfl
theorem cnt_le (k : Nat) : cnt k ≤ 3 := by
  by_cases h : 6 ≤ k
  · rw [cnt_out k h]; decide
  · have : k = 0 ∨ k = 1 ∨ k = 2 ∨ k = 3 ∨ k = 4 ∨ k = 5 := by omega
    rcases this with rfl | rfl | rfl | rfl | rfl | rfl <;> decide
theorem cnt_pos (k : Nat) (h : k < 6) : 1 ≤ cnt k := by
  have : k = 0 ∨ k = 1 ∨ k = 2 ∨ k = 3 ∨ k = 4 ∨ k = 5 := by omega
  rcases this with rfl | rfl | rfl | rfl | rfl | rfl <;> decide

set_option maxHeartbeats 400000 in
theorem count_any (w : World) (ht : Tab w) (k : Nat) (hk : k < 256) :
    Calls Tryz.prog 191 #[.int .u8 (k : Int)] w fun e w' => e = .returned (.int .i64 ((cnt k : Nat) : Int)) ∧ w' = w := by
  by_cases h : k < 6
  · have h1 := ht.cnt k h
    generalize cnt k = c at *
    clear ht
    go_enter Tryz.func191, Tryz.ntmps191
    go_wp2
    go_ret
    exact ⟨rfl, rfl⟩
  · rw [cnt_out k (by omega)]
    clear ht
    go_enter Tryz.func191, Tryz.ntmps191
    go_wp2
    go_ret
    exact ⟨rfl, rfl⟩

theorem ktold_out (k : Nat) (h : 6 ≤ k) : ktold k = false := by unfold ktold; rw [List.getElem?_eq_none (by exact h)]; rfl

set_option maxHeartbeats 400000 in
theorem told_any (w : World) (ht : Tab w) (k : Nat) (hk : k < 256) :
    Calls Tryz.prog 163 #[.int .u8 (k : Int)] w fun e w' => e = .returned (.bool (ktold k)) ∧ w' = w := by
  by_cases h : k < 6
  · have h1 := ht.told k h
    generalize ktold k = c at *
    clear ht
    go_enter Tryz.func163, Tryz.ntmps163
    go_wp2
    go_ret
    exact ⟨rfl, rfl⟩
  · rw [ktold_out k (by omega)]
    clear ht
    go_enter Tryz.func163, Tryz.ntmps163
    go_wp2
    go_ret
    exact ⟨rfl, rfl⟩

def has (k : Nat) (i : Int) : Bool := decide (0 ≤ i ∧ i < (cnt k : Int))
set_option maxHeartbeats 400000 in
theorem hasField_any (w : World) (ht : Tab w) (k : Nat) (hk : k < 256) (i : Int) :
    Calls Tryz.prog 234 #[.int .u8 (k : Int), .int .i64 i] w fun e w' => e = .returned (.bool (has k i)) ∧ w' = w := by
  have H : Hid (Tab w) := ht
  clear ht
  by_cases h : 0 ≤ i
  · go_enter Tryz.func234, Tryz.ntmps234
    go_wp2_with fail
    refine (count_any w H.out k hk).mono ?_
    rintro e w' ⟨rfl, rfl⟩
    go_wp2
    go_ret
    refine ⟨?_, rfl⟩
    simp [has, h]
  · go_enter Tryz.func234, Tryz.ntmps234
    go_wp2
    go_ret
    refine ⟨?_, rfl⟩
    simp [has]; omega

theorem has_nat (k : Nat) (i : Int) (h : has k i = true) : ∃ j : Nat, i = (j : Int) ∧ j < cnt k ∧ k < 6 ∧ j < 3 := by
  simp only [has, decide_eq_true_eq] at h
  obtain ⟨h0, h1⟩ := h
  have h3 := cnt_le k
  have h6 : k < 6 := by
    rcases Nat.lt_or_ge k 6 with h | h
    · exact h
    · rw [cnt_out k h] at h1; omega
  obtain ⟨j, rfl⟩ := Int.eq_ofNat_of_zero_le h0
  exact ⟨j, rfl, by omega, h6, by omega⟩

set_option maxHeartbeats 400000 in
theorem range_ok (w : World) (ht : Tab w) (k : Nat) (hk : k < 256) (j : Nat) (hj : j < cnt k) :
    Calls Tryz.prog 211 #[.int .u8 (k : Int), .int .i64 (j : Int)] w fun e w' => e = .returned (.tuple #[.int .i32 (lo k j), .int .i32 (hi k j), .int .i64 0]) ∧ Fr Nobody w w' := by
  have h : has k j = true := by simp only [has, decide_eq_true_eq]; omega
  obtain ⟨j', e, _, h6, h3⟩ := has_nat k j h
  obtain rfl : j = j' := by omega
  have H : Hid (Tab w) := ht
  have hx := ht.lo k j h6 h3
  have hy := ht.hi k j h6 h3
  clear ht e
  generalize lo k j = a at *
  generalize hi k j = b at *
  clear hj
  go_enter Tryz.func211, Tryz.ntmps211
  go_wp2_with fail
  refine (hasField_any w H.out k hk j).mono ?_
  rintro e w' ⟨rfl, rfl⟩
  rw [h]
  clear h
  go_wp2
  go_quiet (fail)
  go_wp2
  go_ret3
  exact ⟨rfl, (Fr.refl _ _).drewN _⟩
end Go.Proofs.YtbencjopjdjepaaGreatDoor


