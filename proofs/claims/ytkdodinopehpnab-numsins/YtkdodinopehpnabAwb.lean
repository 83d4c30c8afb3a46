/-
  The document's examples, for the laws of layer 2.
-/
import Derived.Test.YtkdodinopehpnabNc
namespace Go.Proofs.Ytkdodinopehpnab
open Go.RowKit
set_option linter.unusedVariables false

theorem src_lit (w : World) (cs : Array Value) (n : Nat) (xs : List Value) (hx : cs.toList = xs) (hn : n ≤ 1000) (hs : cs.size = n) : Src (w.alloc (.cells cs 5)) (.slice (some ⟨w.heap.size, 0, none⟩) n n) n xs := by
  subst hx
  exact Src.of_row (e := 5) (World.ownsRow_lit w cs n (Nat.zero_le _) (by unfold maxLen; omega) (by omega))

theorem var16 : var 16 = [false, false, false, false, true, true, false, false, false, false] := by decide +kernel
theorem grp16 : grp 16 = 2 := by decide +kernel
theorem wid1000 : wid 0 1000 = 10 := by decide +kernel
theorem zigm1 : zig (-1) = 1 := by decide +kernel

set_option maxHeartbeats 1000000 in
theorem awake2 (w : World) : Calls Try.prog 9 #[] w fun e w' => e = .returned (.bool true) ∧ Fr Nobody w w' := by
  go_enter Try.func9, Try.ntmps9
  go_wp2_with fail
  refine (new_ow w w (Fr.refl _ _)).mono ?_
  rintro e w1 ⟨b, rfl, hb0, hW⟩
  have H1 : Hid (Ow w w1 b []) := hW
  clear hW hb0
  go_wp2_with fail
  refine (putVar_ok w w1 b [] 16 H1.out (by decide) (by rw [grp16]; decide)).mono ?_
  rw [var16]
  rintro e w2 ⟨rfl, hW⟩
  have H2 : Hid (Ow w w2 b [false, false, false, false, true, true, false, false, false, false]) := hW
  clear hW H1
  go_wp2_with fail
  refine (len_ow w w2 b _ H2.out).mono ?_
  rintro e w3 ⟨rfl, hW⟩
  have H3 : Hid (Ow w w3 b [false, false, false, false, true, true, false, false, false, false]) := hW
  clear hW H2
  go_wp2_with fail
  refine (bytes_ow w w3 b _ H3.out (by decide)).mono ?_
  rintro e w5 ⟨v', rfl, ho, hf, hk, hW⟩
  have H5 : Hid (w5.ownsRow 0 5 1 v' 2 (vrow [48, 0]) ∧ Fr Nobody w w5) := ⟨ho, hW.fr⟩
  clear ho hf hk hW H3
  go_wp2_with fail
  have ha : Hid (Src (w5.alloc (.cells #[.int .u8 48, .int .u8 0] 5)) v' 2 (vrow [48, 0])) := Src.of_row (H5.out.1.alloc _)
  have hb : Hid (Src (w5.alloc (.cells #[.int .u8 48, .int .u8 0] 5)) (.slice (some ⟨w5.heap.size, 0, none⟩) 2 2) 2 (vrow [48, 0])) := src_lit w5 _ 2 _ rfl (by decide) rfl
  have hF6 : Hid (Fr Nobody w (w5.alloc (.cells #[.int .u8 48, .int .u8 0] 5))) := H5.out.2.alloc _
  refine (same_fr _ v' _ [48, 0] ha.out hb.out).mono ?_
  rintro e w6 ⟨rfl, hf⟩
  have H6 : Hid (Fr Nobody w w6) := hF6.out.trans hf
  clear ha hb H5 hF6 hf
  go_wp2_with fail
  refine (zig_any (-1) w6 (by decide) (by decide)).mono ?_
  rw [zigm1]
  rintro e w' ⟨rfl, rfl⟩
  go_wp2_with fail
  refine (width_any 0 1000 _ (by decide) (by decide) (by decide) (by decide)).mono ?_
  rw [wid1000]
  rintro e w' ⟨rfl, rfl⟩
  go_wp2
  go_ret
  exact ⟨rfl, H6.out⟩

end Go.Proofs.Ytkdodinopehpnab
