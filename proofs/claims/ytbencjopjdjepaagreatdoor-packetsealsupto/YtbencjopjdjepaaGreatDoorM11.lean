/-
  GetIn of package nums: the closure and the whole.
-/
import Derived.Test.YtbencjopjdjepaaGreatDoorM10
import Derived.Deep.RegionWith
namespace Go.Proofs.YtbencjopjdjepaaGreatDoor
open Go.RowKit
set_option linter.unusedVariables false
set_option maxRecDepth 100000

set_option maxHeartbeats 400000 in
theorem getIn1_arg (B : Nat) (w : World) (bh bl bx br : Nat) (g : Option Nat) (P : List Nat) (t : Nat) (lo hi : Int) (h : Rd B w br g P t) (hbl : w.cell? ⟨bl, 0, none⟩ = some (.int .i64 lo)) (hbh : w.cell? ⟨bh, 0, none⟩ = some (.int .i64 hi)) (hlt : hi < lo) :
    Calls Tryz.prog 176 #[.pointer (some ⟨bh, 0, none⟩), .pointer (some ⟨bl, 0, none⟩), .pointer (some ⟨bx, 0, none⟩)] w fun e w' => e = .returned (.tuple #[.int .i64 0, .int .i64 1]) ∧ GvEnd B w w' br g P t 1 0 := by
  have H : Hid (Rd B w br g P t) := h
  clear h
  go_enter Tryz.func176, Tryz.ntmps176
  go_wp2
  go_ret2
  exact ⟨rfl, t, H.out, Fr.refl _ _, fun h => by simp at h⟩

set_option maxHeartbeats 1000000 in
theorem getIn1_short (B : Nat) (w : World) (bh bl bx br : Nat) (g : Option Nat) (P : List Nat) (t n : Nat) (lo hi : Int) (h : Rd B w br g P t) (hbx : w.cell? ⟨bx, 0, none⟩ = some (.pointer (some ⟨br, 0, none⟩))) (hbl : w.cell? ⟨bl, 0, none⟩ = some (.int .i64 lo)) (hbh : w.cell? ⟨bh, 0, none⟩ = some (.int .i64 hi)) (hle : lo ≤ hi)
    (hW : ∀ w, Calls Tryz.prog 166 #[.int .i64 lo, .int .i64 hi] w fun e w' => e = .returned (.int .i64 (n : Nat)) ∧ w' = w) (hn : n ≤ 64) (hs : 8 * P.length < t + n) :
    Calls Tryz.prog 176 #[.pointer (some ⟨bh, 0, none⟩), .pointer (some ⟨bl, 0, none⟩), .pointer (some ⟨bx, 0, none⟩)] w fun e w' => e = .returned (.tuple #[.int .i64 0, .int .i64 2]) ∧ GvEnd B w w' br g P t 2 0 := by
  have H : Hid (Rd B w.drew br g P t) := h.quiet ((Fr.refl _ _).drew)
  have GW : Hid (∀ w, Calls Tryz.prog 166 #[.int .i64 lo, .int .i64 hi] w fun e w' => e = .returned (.int .i64 (n : Nat)) ∧ w' = w) := hW
  have HS : Hid (n ≤ 64 ∧ 8 * P.length < t + n) := ⟨hn, hs⟩
  clear h hW hn hs
  go_enter Tryz.func176, Tryz.ntmps176
  go_wp2_with fail
  go_region_with (first
    | (go_at_call 166; refine (GW.out _).mono ?_; rintro e w' ⟨rfl, rfl⟩)
    | (go_at_call 150; refine (get_short B w.drew br g P t n H.out HS.out.1 HS.out.2).mono ?_; rintro e w2 ⟨rfl, hf⟩
       have H2 : Hid (Rd B w2 br g P t ∧ Fr (At br none) w w2) := ⟨H.out.quiet hf, (((Fr.refl _ _).drew).trans hf).mono (fun _ _ k => k.elim)⟩
       clear hf))
  all_goals
    go_wp2
    go_ret2
    exact ⟨rfl, t, H2.out.1, H2.out.2, fun h => by simp at h⟩

end Go.Proofs.YtbencjopjdjepaaGreatDoor


