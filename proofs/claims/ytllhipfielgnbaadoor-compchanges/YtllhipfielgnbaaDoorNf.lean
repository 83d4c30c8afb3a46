/-
  GetVar and GetInt of package nums: the closure, Try, and the whole.
-/
import Derived.Test.YtllhipfielgnbaaDoorNd
import Derived.Test.YtllhipfielgnbaaDoorPn
namespace Go.Proofs.YtllhipfielgnbaaDoor
open Go.RowKit
set_option linter.unusedVariables false
set_option maxRecDepth 100000

theorem bits_drop (P : List Nat) (t k : Nat) : ((bitsB P).drop t).drop k = (bitsB P).drop (t + k) := by rw [List.drop_drop]
theorem numAt_g5 (P : List Nat) (t : Nat) : numAt P t 5 = g5 ((bitsB P).drop t) := rfl

theorem or_grp (v g i : Nat) (hv : v < 2 ^ (4 * i)) (hi : i < 16) : bits .or .u64 (v : Int) (IntKind.u64.wrap (((g : Int) % 16) * 2 ^ (4 * i))) = ((v + g % 16 * 2 ^ (4 * i) : Nat) : Int) := by
  have hp : 2 ^ (4 * i) ≤ 2 ^ 60 := Nat.pow_le_pow_right (by decide) (by omega)
  have hk2 : ((2 : Int) ^ (4 * i)) = ((2 ^ (4 * i) : Nat) : Int) := by simp
  have hg : ((g : Int) % 16) = ((g % 16 : Nat) : Int) := by omega
  have hg2 : g % 16 < 16 := Nat.mod_lt _ (by decide)
  have hm : g % 16 * 2 ^ (4 * i) ≤ 15 * 2 ^ (4 * i) := Nat.mul_le_mul_right _ (by omega)
  have hj : (g % 16 * 2 ^ (4 * i)) % 2 ^ (4 * i) = 0 := Nat.mul_mod_left _ _
  have e : IntKind.u64.wrap (((g : Int) % 16) * 2 ^ (4 * i)) = ((g % 16 * 2 ^ (4 * i) : Nat) : Int) := by
    rw [hg, hk2, ← Int.natCast_mul, IntKind.wrap_u64]
    omega
  rw [e, u64_or_nat v _ (by omega) (by omega), Nat.or_comm, nat_join (4 * i) _ v hj hv, Nat.add_comm]

set_option maxHeartbeats 400000 in
theorem get_ok2 (B : Nat) (w : World) (b : Nat) (g : Option Nat) (P : List Nat) (t n : Nat) (h : Rd B w b g P t) (hn : n ≤ 64) (hl : t + n ≤ 8 * P.length) :
    Calls Tryd.prog 15 #[.pointer (some ⟨b, 0, none⟩), .int .i64 n] w fun e w' => e = .returned (.tuple #[.int .u64 (numAt P t n : Nat), .int .i64 0]) ∧ Rd B w' b g P (t + n) ∧ Fr (At b none) w w' := by
  have h0 : ¬ (n : Int) < 0 := by omega
  have h1 : ¬ (64 : Int) < (n : Int) := by omega
  have hle := h.le
  have hlen := h.len
  have h2 : ¬ ((8 * P.length - t : Nat) : Int) < (n : Int) := by omega
  have H : Hid (Rd B w b g P t) := h
  clear h
  go_enter Tryd.func15, Tryd.ntmps15
  go_wp2_with fail
  refine (left_any B w b g P t H.out).mono ?_
  generalize 8 * P.length - t = lft at h2 ⊢
  rintro e w1 ⟨rfl, hf⟩
  have H1 : Hid (Rd B w1 b g P t ∧ Fr Nobody w w1) := ⟨H.out.quiet hf, hf⟩
  clear hf H
  go_wp2_with fail
  refine (next_any B w1 b g P t n H1.out.1 hn hl).mono ?_
  rintro e w2 ⟨rfl, hf⟩
  have H2 : Hid (Rd B w2 b g P t ∧ Fr Nobody w w2) := ⟨H1.out.1.quiet hf, H1.out.2.trans hf⟩
  clear hf H1
  obtain ⟨v, hb, ho, hv⟩ := H2.out.1.obj
  have HH : Hid (w2.heap[b]? = some (.cells #[v, .int .i64 (t : Int)] 69 (0, 0)) ∧ w2.ownsRow 0 5 1 v P.length (vrow P) ∧ v.ownBlock = g) := ⟨hb, ho, hv⟩
  have c1 := cell1 hb
  have f1 : w2.frozen? ⟨b, 1, none⟩ = false := froz hb
  clear hb ho hv
  go_wp2
  go_ret2
  have R := H2.out.1
  have hne := R.ne
  obtain ⟨hb, ho, hv⟩ := HH.out
  refine ⟨rfl, ⟨R.low, R.glow, R.ne, R.byt, R.len, hl, ⟨v, ?_, row_setCell ho _ _ (by rw [hv]; exact hne), hv⟩⟩, ?_⟩
  · refine (setCell_heap w2 b 1 _ _ _ hb).trans ?_
    simp
  · exact (H2.out.2.mono (fun _ _ k => k.elim)).setCell (.inl (.inl rfl)) _

/-- what the closure leaves: the reader somewhere, where it says if there is no error -/
def GvEnd (B : Nat) (w w' : World) (br : Nat) (g : Option Nat) (P : List Nat) (t : Nat) (rc : Int) (rn : Nat) : Prop := ∃ t', Rd B w' br g P t' ∧ Fr (At br none) w w' ∧ (rc = 0 → t' = t + rn)

/-- the closure's contract, as Try wants it: of a function value f: it answers rv and rc, and leaves the reader somewhere -/
def Reads (k : IntKind) (f : FuncId) (caps : Array Value) (B : Nat) (w0 : World) (br : Nat) (g : Option Nat) (P : List Nat) (t : Nat) (rv : Int) (rc : Int) (rn : Nat) : Prop :=
  ∀ w, Rd B w br g P t → Fr (At br none) w0 w → Calls Tryd.prog f caps w fun e w' => e = .returned (.tuple #[.int k rv, .int .i64 rc]) ∧ GvEnd B w w' br g P t rc rn

end Go.Proofs.YtllhipfielgnbaaDoor
