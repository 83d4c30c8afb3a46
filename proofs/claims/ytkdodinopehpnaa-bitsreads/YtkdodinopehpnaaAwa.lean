/-
  The document's example, for the laws of layer 1.
-/
import Derived.Test.YtkdodinopehpnaaWg
namespace Go.Proofs.Ytkdodinopehpnaa
open Go.RowKit
set_option linter.unusedVariables false

theorem src_lit (w : World) (cs : Array Value) (n : Nat) (xs : List Value) (hx : cs.toList = xs) (hn : n ≤ 1000) (hs : cs.size = n) : Src (w.alloc (.cells cs 5)) (.slice (some ⟨w.heap.size, 0, none⟩) n n) n xs := by
  subst hx
  exact Src.of_row (e := 5) (World.ownsRow_lit w cs n (Nat.zero_le _) (by unfold maxLen; omega) (by omega))

set_option maxHeartbeats 1000000 in
theorem awake1 (w : World) : Calls Try.prog 9 #[] w fun e w' => e = .returned (.bool true) ∧ Fr Nobody w w' := by
  go_enter Try.func9, Try.ntmps9
  go_wp2_with fail
  refine (new_ow w w (Fr.refl _ _)).mono ?_
  rintro e w1 ⟨b, rfl, hb0, hW⟩
  have H1 : Hid (Ow w w1 b []) := hW
  clear hW
  go_wp2_with fail
  refine (put_ow w w1 b [] 5 3 H1.out (by decide) (by decide) (by decide) (by decide)).mono ?_
  rintro e w2 ⟨rfl, hW⟩
  have H2 : Hid (Ow w w2 b _) := hW
  clear hW H1
  go_wp2_with fail
  refine (put_ow w w2 b _ 1 2 H2.out (by decide) (by decide) (by decide) (by decide)).mono ?_
  rintro e w3 ⟨rfl, hW⟩
  have H3 : Hid (Ow w w3 b _) := hW
  clear hW H2
  go_wp2_with fail
  refine (put_ow w w3 b _ 255 8 H3.out (by decide) (by decide) (by decide) (by decide)).mono ?_
  rintro e w4 ⟨rfl, hW⟩
  have H4 : Hid (Ow w w4 b [true, false, true, true, false, true, true, true, true, true, true, true, true]) := hW
  clear hW H3
  go_wp2_with fail
  refine (len_ow w w4 b _ H4.out).mono ?_
  rintro e w4a ⟨rfl, hW⟩
  have H4a : Hid (Ow w w4a b [true, false, true, true, false, true, true, true, true, true, true, true, true]) := hW
  clear hW H4
  go_wp2_with fail
  refine (bytes_ow w w4a b _ H4a.out (by decide)).mono ?_
  rintro e w5 ⟨v', rfl, ho, hf, hk, hW⟩
  have H5 : Hid (w5.ownsRow 0 5 1 v' 2 (vrow [237, 31]) ∧ Fr Nobody w w5) := ⟨ho, hW.fr⟩
  clear ho hf hk hW H4a
  go_wp2_with fail
  have ha : Hid (Src (w5.alloc (.cells #[.int .u8 237, .int .u8 31] 5)) v' 2 (vrow [237, 31])) := Src.of_row (H5.out.1.alloc _)
  have hb : Hid (Src (w5.alloc (.cells #[.int .u8 237, .int .u8 31] 5)) (.slice (some ⟨w5.heap.size, 0, none⟩) 2 2) 2 (vrow [237, 31])) := src_lit w5 _ 2 _ rfl (by decide) rfl
  have hF6 : Hid (Fr Nobody w (w5.alloc (.cells #[.int .u8 237, .int .u8 31] 5))) := H5.out.2.alloc _
  refine (same_fr _ v' _ [237, 31] ha.out hb.out).mono ?_
  rintro e w6 ⟨rfl, hf⟩
  have H6 : Hid (Fr Nobody w w6) := hF6.out.trans hf
  clear ha hb H5 hF6 hf
  go_wp2_with fail
  refine (read_or w _ _ [237, 31] (H6.out.alloc _) (src_lit w6 _ 2 _ rfl (by decide) rfl) (by decide) (by decide)).mono ?_
  rintro e w7 ⟨b7, rfl, hb7, hR, hF⟩
  have H7 : Hid (Or w w7 b7 [237, 31] 0) := hR
  clear hR hF H6 hb7
  go_wp2_with fail
  refine (get_or w w7 b7 _ 0 3 H7.out (by decide) (by decide)).mono ?_
  rintro e w8 ⟨rfl, hR⟩
  have H8 : Hid (Or w w8 b7 [237, 31] 3) := hR
  clear hR H7
  rw [show (numAt [237, 31] 0 3) = 5 from by decide]
  go_wp2_with fail
  refine (left_or w w8 b7 _ 3 H8.out).mono ?_
  rintro e w9 ⟨rfl, hR⟩
  have H9 : Hid (Fr Nobody w w9) := hR.fr
  clear hR H8
  rw [show (8 * [237, 31].length - 3) = 13 from rfl]
  go_wp2
  go_ret
  exact ⟨rfl, H9.out⟩

end Go.Proofs.Ytkdodinopehpnaa
