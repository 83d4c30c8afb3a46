/-
  GetIn of package nums: the closure where the bits are there.
-/
import Derived.Test.YtbencjopjdjepaaGreatDoorM11
namespace Go.Proofs.YtbencjopjdjepaaGreatDoor
open Go.RowKit
set_option linter.unusedVariables false
set_option maxRecDepth 100000

set_option maxHeartbeats 2000000 in
theorem getIn1_range (B : Nat) (w : World) (bh bl bx br : Nat) (g : Option Nat) (P : List Nat) (t n d : Nat) (lo hi : Int) (h : Rd B w br g P t) (hbx : w.cell? ⟨bx, 0, none⟩ = some (.pointer (some ⟨br, 0, none⟩))) (hbl : w.cell? ⟨bl, 0, none⟩ = some (.int .i64 lo)) (hbh : w.cell? ⟨bh, 0, none⟩ = some (.int .i64 hi)) (nl : bl ≠ br) (nh : bh ≠ br) (hle : lo ≤ hi)
    (hW : ∀ w, Calls Tryz.prog 166 #[.int .i64 lo, .int .i64 hi] w fun e w' => e = .returned (.int .i64 (n : Nat)) ∧ w' = w)
    (hD : ∀ w, Calls Tryz.prog 165 #[.int .i64 lo, .int .i64 hi] w fun e w' => e = .returned (.int .u64 (d : Nat)) ∧ w' = w) (hn : n ≤ 64) (hs : t + n ≤ 8 * P.length) (x : Nat) (hx : numAt P t n = x) (hgt : d < x) :
    Calls Tryz.prog 176 #[.pointer (some ⟨bh, 0, none⟩), .pointer (some ⟨bl, 0, none⟩), .pointer (some ⟨bx, 0, none⟩)] w fun e w' => e = .returned (.tuple #[.int .i64 0, .int .i64 5]) ∧ GvEnd B w w' br g P t 5 0 := by
  have H : Hid (Rd B w.drew br g P t) := h.quiet ((Fr.refl _ _).drew)
  have GW : Hid (∀ w, Calls Tryz.prog 166 #[.int .i64 lo, .int .i64 hi] w fun e w' => e = .returned (.int .i64 (n : Nat)) ∧ w' = w) := hW
  have GD : Hid (∀ w, Calls Tryz.prog 165 #[.int .i64 lo, .int .i64 hi] w fun e w' => e = .returned (.int .u64 (d : Nat)) ∧ w' = w) := hD
  have HS : Hid (n ≤ 64 ∧ t + n ≤ 8 * P.length) := ⟨hn, hs⟩
  have HC : Hid (∀ w2, Fr (At br none) w.drew w2 → w2.cell? ⟨bl, 0, none⟩ = some (.int .i64 lo) ∧ w2.cell? ⟨bh, 0, none⟩ = some (.int .i64 hi)) := fun w2 hf => ⟨((((Fr.refl _ w).drew).trans hf).cell (p := ⟨bl, 0, none⟩) (World.block_lt_of_cell? w _ hbl) (by rintro (e | e); exact nl e; cases e)).trans hbl, ((((Fr.refl _ w).drew).trans hf).cell (p := ⟨bh, 0, none⟩) (World.block_lt_of_cell? w _ hbh) (by rintro (e | e); exact nh e; cases e)).trans hbh⟩
  have G : Hid (True → _) := fun _ => get_ok2 B w.drew br g P t n H.out HS.out.1 HS.out.2
  rw [hx] at G
  have hgt2 : (d : Int) < (x : Int) := by omega
  clear h hW hD hn hs hx
  go_enter Tryz.func176, Tryz.ntmps176
  go_wp2_with fail
  go_region_with (first
    | (go_at_call 166; refine (GW.out _).mono ?_; rintro e w' ⟨rfl, rfl⟩)
    | (go_at_call 150; refine (G.out trivial).mono ?_; rintro e w2 ⟨rfl, hR, hf⟩
       have H2 : Hid (Rd B w2 br g P (t + n) ∧ Fr (At br none) w w2) := ⟨hR, ((Fr.refl _ _).drew).trans hf⟩
       obtain ⟨cl2, ch2⟩ := HC.out w2 hf
       clear hR hf))
  all_goals
    go_wp2_with fail
    refine (GD.out _).mono ?_
    rintro e w3 ⟨rfl, rfl⟩
    go_wp2
    go_ret2
    exact ⟨rfl, t + n, H2.out.1, H2.out.2, fun h => by simp at h⟩

set_option maxHeartbeats 2000000 in
theorem getIn1_ok (B : Nat) (w : World) (bh bl bx br : Nat) (g : Option Nat) (P : List Nat) (t n d : Nat) (lo hi : Int) (h : Rd B w br g P t) (hbx : w.cell? ⟨bx, 0, none⟩ = some (.pointer (some ⟨br, 0, none⟩))) (hbl : w.cell? ⟨bl, 0, none⟩ = some (.int .i64 lo)) (hbh : w.cell? ⟨bh, 0, none⟩ = some (.int .i64 hi)) (nl : bl ≠ br) (nh : bh ≠ br) (hle : lo ≤ hi) (h0 : -9223372036854775808 ≤ lo) (h1 : hi ≤ 9223372036854775807) (hd : hi = lo + (d : Int))
    (hW : ∀ w, Calls Tryz.prog 166 #[.int .i64 lo, .int .i64 hi] w fun e w' => e = .returned (.int .i64 (n : Nat)) ∧ w' = w)
    (hD : ∀ w, Calls Tryz.prog 165 #[.int .i64 lo, .int .i64 hi] w fun e w' => e = .returned (.int .u64 (d : Nat)) ∧ w' = w) (hn : n ≤ 64) (hs : t + n ≤ 8 * P.length) (x : Nat) (hx : numAt P t n = x) (hgt : x ≤ d) :
    Calls Tryz.prog 176 #[.pointer (some ⟨bh, 0, none⟩), .pointer (some ⟨bl, 0, none⟩), .pointer (some ⟨bx, 0, none⟩)] w fun e w' => e = .returned (.tuple #[.int .i64 (lo + (x : Int)), .int .i64 0]) ∧ GvEnd B w w' br g P t 0 n := by
  have H : Hid (Rd B w.drew br g P t) := h.quiet ((Fr.refl _ _).drew)
  have GW : Hid (∀ w, Calls Tryz.prog 166 #[.int .i64 lo, .int .i64 hi] w fun e w' => e = .returned (.int .i64 (n : Nat)) ∧ w' = w) := hW
  have GD : Hid (∀ w, Calls Tryz.prog 165 #[.int .i64 lo, .int .i64 hi] w fun e w' => e = .returned (.int .u64 (d : Nat)) ∧ w' = w) := hD
  have HS : Hid (n ≤ 64 ∧ t + n ≤ 8 * P.length) := ⟨hn, hs⟩
  have HC : Hid (∀ w2, Fr (At br none) w.drew w2 → w2.cell? ⟨bl, 0, none⟩ = some (.int .i64 lo) ∧ w2.cell? ⟨bh, 0, none⟩ = some (.int .i64 hi)) := fun w2 hf => ⟨((((Fr.refl _ w).drew).trans hf).cell (p := ⟨bl, 0, none⟩) (World.block_lt_of_cell? w _ hbl) (by rintro (e | e); exact nl e; cases e)).trans hbl, ((((Fr.refl _ w).drew).trans hf).cell (p := ⟨bh, 0, none⟩) (World.block_lt_of_cell? w _ hbh) (by rintro (e | e); exact nh e; cases e)).trans hbh⟩
  have G : Hid (True → _) := fun _ => get_ok2 B w.drew br g P t n H.out HS.out.1 HS.out.2
  rw [hx] at G
  have hgt2 : ¬ (d : Int) < (x : Int) := by omega
  obtain ⟨y, hy⟩ : ∃ y : Int, y = lo + (x : Int) := ⟨_, rfl⟩
  rw [← hy]
  have hyq : IntKind.i64.wrap (IntKind.u64.wrap (IntKind.u64.wrap lo + (x : Int))) = y := by simp only [wrapU, IntKind.wrap_i64]; omega
  clear h hW hD hn hs hx hd hy h0 h1
  go_enter Tryz.func176, Tryz.ntmps176
  go_wp2_with fail
  go_region_with (first
    | (go_at_call 166; refine (GW.out _).mono ?_; rintro e w' ⟨rfl, rfl⟩)
    | (go_at_call 150; refine (G.out trivial).mono ?_; rintro e w2 ⟨rfl, hR, hf⟩
       have H2 : Hid (Rd B w2 br g P (t + n) ∧ Fr (At br none) w w2) := ⟨hR, ((Fr.refl _ _).drew).trans hf⟩
       obtain ⟨cl2, ch2⟩ := HC.out w2 hf
       clear hR hf))
  all_goals
    go_wp2_with fail
    refine (GD.out _).mono ?_
    rintro e w3 ⟨rfl, rfl⟩
    go_wp2
    go_ret2
    exact ⟨rfl, t + n, H2.out.1, H2.out.2, fun _ => rfl⟩

end Go.Proofs.YtbencjopjdjepaaGreatDoor


