/-
  Slots that may be nil, the program's and the document's.
-/
import Derived.Test.YtficpeghmkbdpaaXp
namespace Go.Proofs.Ytficpeghmkbdpaa
open Go.RowKit
set_option linter.unusedVariables false

def pp (p : Option Nat) : Option Addr := p.map fun b => ⟨b, 0, none⟩
def SlO (p : Option Nat) (S : St) : Thing := match p with
  | some b => Slots b S
  | none => Emp
def RSlO (q : Option Nat) (S : St) (f : Nat → Nat) (ck : Nat) : Thing := match q with
  | some c => RSlots c S f ck
  | none => Emp
def tkI (z : Bool) (S : St) : Nat := if z then 0 else S.take.1
def tkE (z : Bool) (S : St) : Int := if z then 10 else S.take.2.1
def tkS (z : Bool) (S : St) : St := if z then S else S.take.2.2
def frE (z : Bool) (S : St) (id : Nat) : Int := if z then 10 else (S.free id).1
def frS (z : Bool) (S : St) (id : Nat) : St := if z then S else (S.free id).2
def lvB (z : Bool) (S : St) (id : Nat) : Bool := if z then false else S.isLive id
def lsL (z : Bool) (S : St) : List Nat := if z then [] else S.list
def rmN (z : Bool) (S : St) : Nat := if z then 0 else S.room

theorem Own.emp {w0 w : World} {l : List Thing} (h : Own w0 w l) : Own w0 w (Emp :: l) := h.new Emp (fun _ => False) (fun _ h => h) (Fr.refl _ _) (fun _ h => h.elim)
theorem pp_none (p : Option Nat) : (pp p).isNone = p.isNone := by cases p <;> rfl

section
variable (w0 w : World) (l : List Thing) (p q : Option Nat) (S : St) (f : Nat → Nat) (ck : Nat) (z : Bool)

theorem take_o (h : Own w0 w (SlO p S :: l)) (hS : S.Ok) (hz : p.isNone = z) :
    Calls Try.prog 18 #[.pointer (pp p)] w fun e w' => e = .returned (.tuple #[.int .u32 (tkI z S : Int), .int .i64 (tkE z S)]) ∧ Own w0 w' (SlO p (tkS z S) :: l) := by
  subst hz
  cases p with
  | none =>
    refine (take_nil w).mono ?_
    rintro e w' ⟨rfl, rfl⟩
    exact ⟨rfl, h⟩
  | some b => exact take_ok w0 w l b S h hS
theorem rtake_o (h : Own w0 w (RSlO q S f ck :: l)) (hS : S.Ok) (hT : Stamp S f ck) (hck : ck ≤ 1000000) (hz : q.isNone = z) :
    Calls Try.prog 19 #[.pointer (pp q)] w fun e w' => e = .returned (.tuple #[.int .u32 (tkI z S : Int), .int .i64 (tkE z S)]) ∧ ∃ f', Stamp (tkS z S) f' ck ∧ Own w0 w' (RSlO q (tkS z S) f' ck :: l) := by
  subst hz
  cases q with
  | none =>
    refine (rtake_nil w).mono ?_
    rintro e w' ⟨rfl, rfl⟩
    exact ⟨rfl, f, hT, h⟩
  | some b => exact rtake_ok w0 w l b S f ck h hS hT hck
theorem free_o (id : Nat) (hid : id < 4294967296) (h : Own w0 w (SlO p S :: l)) (hS : S.Ok) (hz : p.isNone = z) :
    Calls Try.prog 20 #[.pointer (pp p), .int .u32 (id : Int)] w fun e w' => e = .returned (.int .i64 (frE z S id)) ∧ Own w0 w' (SlO p (frS z S id) :: l) := by
  subst hz
  cases p with
  | none =>
    refine (free_nil w id).mono ?_
    rintro e w' ⟨rfl, rfl⟩
    exact ⟨rfl, h⟩
  | some b => exact free_ok w0 w l b S id h hS hid
theorem rfree_o (id : Nat) (hid : id < 4294967296) (h : Own w0 w (RSlO q S f ck :: l)) (hS : S.Ok) (hT : Stamp S f ck) (hck : ck ≤ 1000000) (hz : q.isNone = z) :
    Calls Try.prog 21 #[.pointer (pp q), .int .u32 (id : Int)] w fun e w' => e = .returned (.int .i64 (frE z S id)) ∧ ∃ f' ck', ck' ≤ ck + 1 ∧ Stamp (frS z S id) f' ck' ∧ Own w0 w' (RSlO q (frS z S id) f' ck' :: l) := by
  subst hz
  cases q with
  | none =>
    refine (rfree_nil w id).mono ?_
    rintro e w' ⟨rfl, rfl⟩
    exact ⟨rfl, f, ck, Nat.le_succ _, hT, h⟩
  | some b => exact rfree_ok w0 w l b S f ck id h hS hT hid hck
theorem live_o (id : Nat) (hid : id < 4294967296) (h : Own w0 w (SlO p S :: l)) (hS : S.Ok) (hz : p.isNone = z) :
    Calls Try.prog 22 #[.pointer (pp p), .int .u32 (id : Int)] w fun e w' => e = .returned (.bool (lvB z S id)) ∧ Own w0 w' (SlO p S :: l) := by
  subst hz
  cases p with
  | none =>
    refine (live_nil w id).mono ?_
    rintro e w' ⟨rfl, rfl⟩
    exact ⟨rfl, h⟩
  | some b => exact live_is w0 w l b h hS hid rfl
theorem rlive_o (id : Nat) (hid : id < 4294967296) (h : Own w0 w (RSlO q S f ck :: l)) (hS : S.Ok) (hz : q.isNone = z) :
    Calls Try.prog 23 #[.pointer (pp q), .int .u32 (id : Int)] w fun e w' => e = .returned (.bool (lvB z S id)) ∧ Own w0 w' (RSlO q S f ck :: l) := by
  subst hz
  cases q with
  | none =>
    refine (rlive_nil w id).mono ?_
    rintro e w' ⟨rfl, rfl⟩
    exact ⟨rfl, h⟩
  | some b => exact rlive_ok w0 w l b S f ck id h hS hid
theorem list_o (h : Own w0 w (SlO p S :: l)) (hS : S.Ok) (hz : p.isNone = z) :
    Calls Try.prog 26 #[.pointer (pp p)] w fun e w' => ∃ v, e = .returned v ∧ Own w0 w' (Row 23 1 v (lsL z S).length (irow .u32 (lsL z S)) :: SlO p S :: l) := by
  subst hz
  cases p with
  | none =>
    refine (list_nil w).mono ?_
    rintro e w' ⟨rfl, rfl⟩
    exact ⟨_, rfl, h.nilRow _ _⟩
  | some b => exact list_ok w0 w l b S h hS
theorem rlist_o (h : Own w0 w (RSlO q S f ck :: l)) (hS : S.Ok) (hT : Stamp S f ck) (hz : q.isNone = z) :
    Calls Try.prog 24 #[.pointer (pp q)] w fun e w' => ∃ v, e = .returned (.tuple #[v, .int .i64 (rmN z S : Int)]) ∧ Own w0 w' (Row 23 1 v (lsL z S).length (irow .u32 (lsL z S)) :: RSlO q S f ck :: l) := by
  subst hz
  cases q with
  | none =>
    refine (rlist_nil w).mono ?_
    rintro e w' ⟨rfl, rfl⟩
    exact ⟨_, rfl, h.nilRow _ _⟩
  | some b =>
    have := rlist_ok w0 w l b S f ck h hS
    have e : rr S S.n = S.room := hT.room
    rw [e] at this
    exact this
theorem len_o (h : Own w0 w (SlO p S :: l)) (hS : S.Ok) (hz : p.isNone = z) :
    Calls Try.prog 27 #[.pointer (pp p)] w fun e w' => e = .returned (.int .i64 ((lsL z S).length : Int)) ∧ Own w0 w' (SlO p S :: l) := by
  subst hz
  cases p with
  | none =>
    refine (len_nil w).mono ?_
    rintro e w' ⟨rfl, rfl⟩
    exact ⟨rfl, h⟩
  | some b =>
    have e : (lsL (some b).isNone S).length = S.live := St.list_length hS
    rw [e]
    refine (len_ok w0 w l b S h).mono ?_
    rintro e w' ⟨rfl, rfl⟩
    exact ⟨rfl, h⟩
theorem room_o (h : Own w0 w (SlO p S :: l)) (hS : S.Ok) (hz : p.isNone = z) :
    Calls Try.prog 28 #[.pointer (pp p)] w fun e w' => e = .returned (.int .i64 (rmN z S : Int)) ∧ Own w0 w' (SlO p S :: l) := by
  subst hz
  cases p with
  | none =>
    refine (room_nil w).mono ?_
    rintro e w' ⟨rfl, rfl⟩
    exact ⟨rfl, h⟩
  | some b =>
    refine (room_ok w0 w l b S h hS).mono ?_
    rintro e w' ⟨rfl, hf⟩
    exact ⟨rfl, h.quiet hf⟩
theorem tkS_ok (hS : S.Ok) : (tkS z S).Ok := by unfold tkS; split; exact hS; exact St.take_ok hS
theorem frS_ok (hS : S.Ok) (id : Nat) : (frS z S id).Ok := by unfold frS; split; exact hS; exact St.free_ok hS id
theorem tkI_lt (hS : S.Ok) : tkI z S < 4294967296 := by unfold tkI; split; decide; exact St.take_lt hS
theorem lsL_le (hS : S.Ok) : (lsL z S).length ≤ 1024 := by
  unfold lsL; split
  · exact Nat.zero_le _
  · rw [St.list_length hS]; have := hS.cnt; have := hS.le; have := hS.n2; omega
end

/-- New of both sides -/
theorem new_o (w0 w : World) (l : List Thing) (n F : Int) (h : Own w0 w l) : ∃ z S, S.Ok ∧ Stamp S (fun _ => 0) 0 ∧
    (Calls Try.prog 16 #[.int .i64 n, .int .i64 F] w fun e w' => ∃ p, e = .returned (.tuple #[.pointer (pp p), .int .i64 (if z then 1 else 0)]) ∧ p.isNone = z ∧ Own w0 w' (SlO p S :: l)) ∧
    ∀ w' l', Own w0 w' l' → Calls Try.prog 17 #[.int .i64 n, .int .i64 F] w' fun e w'' => ∃ q, e = .returned (.tuple #[.pointer (pp q), .int .i64 (if z then 1 else 0)]) ∧ q.isNone = z ∧ Own w0 w'' (RSlO q S (fun _ => 0) 0 :: l') := by
  by_cases hb : n < 1 ∨ 1024 < n ∨ F < 1 ∨ 4194303 < F
  · refine ⟨true, St.new 1 1, St.new_ok 1 1 (by decide) (by decide) (by decide) (by decide), Stamp.new 1 1 (by decide), ?_, ?_⟩
    · refine (new_no w n F hb).mono ?_
      rintro e w' ⟨rfl, rfl⟩
      exact ⟨none, rfl, rfl, h.emp⟩
    · intro w' l' h'
      refine (rnew_no w' n F hb).mono ?_
      rintro e w'' ⟨rfl, rfl⟩
      exact ⟨none, rfl, rfl, h'.emp⟩
  · obtain ⟨a, rfl⟩ : ∃ a : Nat, n = a := ⟨n.toNat, by omega⟩
    obtain ⟨b, rfl⟩ : ∃ b : Nat, F = b := ⟨F.toNat, by omega⟩
    refine ⟨false, St.new a b, St.new_ok a b (by omega) (by omega) (by omega) (by omega), Stamp.new a b (by omega), ?_, ?_⟩
    · refine (new_ok w0 w l a b h (by omega) (by omega) (by omega) (by omega)).mono ?_
      rintro e w' ⟨bb, rfl, _, hO⟩
      exact ⟨some bb, rfl, rfl, hO⟩
    · intro w' l' h'
      refine (rnew_ok w0 w' l' a b h' (by omega) (by omega) (by omega) (by omega)).mono ?_
      rintro e w'' ⟨c, rfl, hO⟩
      exact ⟨some c, rfl, rfl, hO⟩
end Go.Proofs.Ytficpeghmkbdpaa
