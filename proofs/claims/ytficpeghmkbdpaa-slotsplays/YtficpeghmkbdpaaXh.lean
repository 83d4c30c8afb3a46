/-
  The document's example of slots; the document's Make, Slot and Gen.
-/
import Derived.Test.YtficpeghmkbdpaaXg
namespace Go.Proofs.Ytficpeghmkbdpaa
open Go.RowKit
set_option linter.unusedVariables false

theorem take_is {S S' : St} {id : Nat} {r : Int} (w0 w : World) (l : List Thing) (b : Nat) (h : Own w0 w (Slots b S :: l)) (hS : S.Ok) (ht : S.take = (id, r, S')) :
    Calls Try.prog 18 #[.pointer (some ⟨b, 0, none⟩)] w fun e w' => e = .returned (.tuple #[.int .u32 (id : Int), .int .i64 r]) ∧ Own w0 w' (Slots b S' :: l) := by
  have := take_ok w0 w l b S h hS
  rw [ht] at this
  exact this
theorem free_is {S S' : St} {id : Nat} {r : Int} (w0 w : World) (l : List Thing) (b : Nat) (h : Own w0 w (Slots b S :: l)) (hS : S.Ok) (hid : id < 4294967296) (ht : S.free id = (r, S')) :
    Calls Try.prog 20 #[.pointer (some ⟨b, 0, none⟩), .int .u32 (id : Int)] w fun e w' => e = .returned (.int .i64 r) ∧ Own w0 w' (Slots b S' :: l) := by
  have := free_ok w0 w l b S id h hS hid
  rw [ht] at this
  exact this
theorem live_is {S : St} {id : Nat} {r : Bool} (w0 w : World) (l : List Thing) (b : Nat) (h : Own w0 w (Slots b S :: l)) (hS : S.Ok) (hid : id < 4294967296) (ht : S.isLive id = r) :
    Calls Try.prog 22 #[.pointer (some ⟨b, 0, none⟩), .int .u32 (id : Int)] w fun e w' => e = .returned (.bool r) ∧ Own w0 w' (Slots b S :: l) := by
  have := live_ok w0 w l b S id h hS hid
  rw [ht] at this
  refine this.mono ?_
  rintro e w' ⟨rfl, rfl⟩
  exact ⟨rfl, h⟩

def sa0 : St := St.new 2 1
def sa1 : St := ⟨2, 1, [1024], [true], [], 1⟩
def sa2 : St := ⟨2, 1, [1024, 1025], [true, true], [], 2⟩
def sa3 : St := ⟨2, 1, [1024, 1025], [false, true], [0], 1⟩
def sa4 : St := ⟨2, 1, [2048, 1025], [true, true], [], 2⟩
theorem ta0 : sa0.take = (1024, 0, sa1) := by rfl
theorem ta1 : sa1.take = (1025, 0, sa2) := by rfl
theorem ta2 : sa2.take = (0, 8, sa2) := by rfl
theorem ta2f : sa2.free 1024 = (0, sa3) := by kernel_rfl
theorem ta3 : sa3.take = (2048, 0, sa4) := by rfl
theorem ta4 : sa4.isLive 2048 = true := by rfl
theorem ta4n : sa4.isLive 1024 = false := by rfl
theorem oa0 : sa0.Ok := St.new_ok 2 1 (by decide) (by decide) (by decide) (by decide)
theorem oa1 : sa1.Ok := by have := St.take_ok oa0; rw [ta0] at this; exact this
theorem oa2 : sa2.Ok := by have := St.take_ok oa1; rw [ta1] at this; exact this
theorem oa3 : sa3.Ok := by have := St.free_ok oa2 1024; rw [ta2f] at this; exact this
theorem oa4 : sa4.Ok := by have := St.take_ok oa3; rw [ta3] at this; exact this

set_option maxHeartbeats 1000000 in
theorem awake_any (w0 w : World) (l : List Thing) (h : Own w0 w l) : Calls Try.prog 11 #[] w fun e w' => e = .returned (.bool true) ∧ Own w0 w' l := by
  have H : Hid (Own w0 w l) := h
  clear h
  go_enter Try.func11, Try.ntmps11
  go_wp2_with fail
  refine (new_ok w0 w l 2 1 H.out (by decide) (by decide) (by decide) (by decide)).mono ?_
  rintro e w1 ⟨b, rfl, _, hO⟩
  have H1 : Hid (Own w0 w1 (Slots b sa0 :: l)) := hO
  clear hO H
  go_wp2_with fail
  refine (take_is w0 w1 l b H1.out oa0 ta0).mono ?_
  rintro e w2 ⟨rfl, hO⟩
  have H2 : Hid (Own w0 w2 (Slots b sa1 :: l)) := hO
  clear hO H1
  go_wp2_with fail
  refine (take_is w0 w2 l b H2.out oa1 ta1).mono ?_
  rintro e w3 ⟨rfl, hO⟩
  have H3 : Hid (Own w0 w3 (Slots b sa2 :: l)) := hO
  clear hO H2
  go_wp2_with fail
  refine (take_is w0 w3 l b H3.out oa2 ta2).mono ?_
  rintro e w4 ⟨rfl, hO⟩
  have H4 : Hid (Own w0 w4 (Slots b sa2 :: l)) := hO
  clear hO H3
  go_wp2_with fail
  refine (free_is w0 w4 l b H4.out oa2 (by decide) ta2f).mono ?_
  rintro e w5 ⟨rfl, hO⟩
  have H5 : Hid (Own w0 w5 (Slots b sa3 :: l)) := hO
  clear hO H4
  go_wp2_with fail
  refine (take_is w0 w5 l b H5.out oa3 ta3).mono ?_
  rintro e w6 ⟨rfl, hO⟩
  have H6 : Hid (Own w0 w6 (Slots b sa4 :: l)) := hO
  clear hO H5
  go_wp2_with fail
  refine (live_is w0 w6 l b H6.out oa4 (by decide) ta4).mono ?_
  rintro e w7 ⟨rfl, hO⟩
  have H7 : Hid (Own w0 w7 (Slots b sa4 :: l)) := hO
  clear hO H6
  go_wp2_with fail
  refine (live_is w0 w7 l b H7.out oa4 (by decide) ta4n).mono ?_
  rintro e w8 ⟨rfl, hO⟩
  have H8 : Hid (Own w0 w8 (Slots b sa4 :: l)) := hO
  clear hO H7
  go_wp2
  go_ret
  exact ⟨rfl, H8.out.tail⟩

set_option maxHeartbeats 400000 in
theorem rslot_any (id : Nat) (w : World) (h : id < 4294967296) : Calls Try.prog 13 #[.int .u32 (id : Int)] w fun e w' => e = .returned (.int .i64 ((id % 1024 : Nat) : Int)) ∧ w' = w := by
  go_enter Try.func13, Try.ntmps13
  go_wp2
  go_ret
  exact ⟨ret_int (by omega), rfl⟩
set_option maxHeartbeats 400000 in
theorem rgen_any (id : Nat) (w : World) (h : id < 4294967296) : Calls Try.prog 15 #[.int .u32 (id : Int)] w fun e w' => e = .returned (.int .i64 ((id / 1024 : Nat) : Int)) ∧ w' = w := by
  go_enter Try.func15, Try.ntmps15
  go_wp2
  go_ret
  exact ⟨ret_int (by omega), rfl⟩
set_option maxHeartbeats 400000 in
set_option maxRecDepth 100000 in
theorem rmake_yes (s g : Nat) (w : World) (h1 : s < 1024) (h2 : 1 ≤ g) (h3 : (g : Int) ≤ 4194303) : Calls Try.prog 10 #[.int .i64 (s : Int), .int .i64 (g : Int)] w fun e w' => e = .returned (.tuple #[.int .u32 ((g * 1024 + s : Nat) : Int), .int .i64 0]) ∧ w' = w := by
  go_enter Try.func10, Try.ntmps10
  go_wp2
  go_ret2
  exact ⟨rfl, rfl⟩
set_option maxHeartbeats 400000 in
theorem rmake_no (s g : Int) (w : World) (h : s < 0 ∨ 1024 ≤ s ∨ g < 1 ∨ 4194303 < g) : Calls Try.prog 10 #[.int .i64 s, .int .i64 g] w fun e w' => e = .returned (.tuple #[.int .u32 0, .int .i64 1]) ∧ w' = w := by
  by_cases c1 : s < 0
  · go_enter Try.func10, Try.ntmps10
    go_wp2
    go_ret2
    exact ⟨rfl, rfl⟩
  · by_cases c2 : 1024 ≤ s
    · go_enter Try.func10, Try.ntmps10
      go_wp2
      go_ret2
      exact ⟨rfl, rfl⟩
    · by_cases c3 : g < 1
      · go_enter Try.func10, Try.ntmps10
        go_wp2
        go_ret2
        exact ⟨rfl, rfl⟩
      · have c4 : 4194303 < g := by omega
        go_enter Try.func10, Try.ntmps10
        go_wp2
        go_ret2
        exact ⟨rfl, rfl⟩
end Go.Proofs.Ytficpeghmkbdpaa
