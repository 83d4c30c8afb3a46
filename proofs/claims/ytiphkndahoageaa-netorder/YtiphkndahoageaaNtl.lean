/-
  Datagrams alike; awake of layer 24.
-/
import Derived.Test.YtiphkndahoageaaNtk
namespace Go.Proofs.Ytiphkndahoageaa
open Go.RowKit
set_option linter.unusedVariables false

set_option maxHeartbeats 1000000 in
theorem same24 (w : World) (to : Int) (a1 : Option Addr) (c1 : Nat) (a2 : Option Addr) (c2 : Nat) (P : List Nat) (h1 : Src w (.slice a1 P.length c1) P.length (vrow P)) (h2 : Src w (.slice a2 P.length c2) P.length (vrow P)) :
    Calls Try.prog 15 #[.agg #[.int .i64 to, .slice a1 P.length c1], .agg #[.int .i64 to, .slice a2 P.length c2]] w fun e w' => e = .returned (.bool true) ∧ Fr Nobody w w' := by
  have hf : Fr Nobody w _ := ((Fr.refl Nobody w).alloc (.cells #[.int .i64 to, .slice a1 P.length c1] 33)).alloc (.cells #[.int .i64 to, .slice a2 P.length c2] 33)
  have HS : Hid (Calls _ _ _ _ _) := same_any _ _ _ P (h1.quiet hf) (h2.quiet hf)
  have HF : Hid (Fr Nobody w _) := hf
  clear h1 h2 hf
  generalize P.length = n at *
  go_enter Try.func15, Try.ntmps15
  go_wp2_with fail
  refine HS.out.mono ?_
  rintro e w1 ⟨rfl, rfl⟩
  clear HS
  go_wp2
  go_ret
  exact ⟨rfl, HF.out⟩

theorem src_nil (w : World) : Src w (.slice none 0 0) 0 (vrow []) := .inl ⟨rfl, rfl, rfl⟩
theorem src_lit (w : World) (P : List Nat) (n : Nat) (hn : P.length = n) (cs : Array Value) (hc : cs = (vrow P).toArray) : Src (w.alloc (.cells cs 5)) (.slice (some ⟨w.heap.size, 0, none⟩) n n) n (vrow P) := by
  refine .inr ⟨_, _, rfl, by rw [length_vrow, hn], fun j u hu => ?_⟩
  rw [addr_add, Nat.zero_add]
  have := heap_alloc_new w (.cells cs 5)
  simp only [World.cell?, this]
  rw [hc]; simpa using hu
set_option maxHeartbeats 4000000 in
set_option maxRecDepth 100000 in
theorem awake24 (w : World) : Calls Try.prog 7 #[] w fun e w' => e = .returned (.bool true) ∧ Fr Nobody w w' := by
  have H1 : Hid (Calls _ _ _ _ _) := bnew_ok w w [] 9 (Own.start w) (by decide) (by decide)
  go_enter Try.func7, Try.ntmps7
  go_wp2_with fail
  refine H1.out.mono ?_
  rintro e w1 ⟨b, rfl, hO⟩
  clear H1
  have H2 : Hid (Calls _ _ _ _ _) := bput_ok w w1 [] b 9 [] hO (by decide) (by decide) 1 none 0 0 [] rfl (src_nil _) (by decide)
  clear hO
  go_wp2_with fail
  refine H2.out.mono ?_
  rintro e w2 ⟨rfl, a1, c1, hO⟩
  clear H2
  have H3 : Hid (Calls _ _ _ _ _) := bput_ok w w2 [] b 9 _ hO (by simp) (by decide) 2 none 0 0 [] rfl (src_nil _) (by decide)
  clear hO
  go_wp2_with fail
  refine H3.out.mono ?_
  rintro e w3 ⟨rfl, a2, c2, hO⟩
  clear H3
  have hs : Src w3 (.slice a1 0 c1) 0 (vrow []) := by
    obtain ⟨lv, h'⟩ := Own.ex_iff.1 hO
    exact Own.gsrc (A := [_, _]) (E := [⟨a1, c1, 1, []⟩, ⟨a2, c2, 2, []⟩]) (l := []) (k := 0) (x := ⟨a1, c1, 1, []⟩) rfl h'
  have H4 : Hid (Calls _ _ _ _ _) := bcopy_any w w3 [] b 9 _ hO 0 ⟨a1, c1, 1, []⟩ rfl (fun e w' => e = .returned (.int .i64 0) ∧ ∃ a c, Own w w' (BagT 61 b 9 ([⟨a1, c1, 1, []⟩, ⟨a2, c2, 2, []⟩] ++ [⟨a, c, 1, []⟩]) :: [])) ((bput_ok w w3 [] b 9 _ hO (by simp) (by decide) 1 a1 0 c1 [] rfl hs (by decide)).mono (by rintro e w' ⟨rfl, a, c, h⟩; exact ⟨0, rfl, rfl, a, c, h⟩))
  clear hO hs
  go_wp2_with fail
  refine H4.out.mono ?_
  rintro e w4 ⟨rfl, a3, c3, hO⟩
  clear H4
  have H5 : Hid (Calls _ _ _ _ _) := bdrop_ok w w4 [] b 9 _ hO (by simp) 0 ⟨a1, c1, 1, []⟩ rfl
  clear hO
  go_wp2_with fail
  refine H5.out.mono ?_
  rintro e w5 ⟨rfl, hO⟩
  clear H5
  have H6 : Hid (Calls _ _ _ _ _) := bpeek_ok w w5 [] b 9 _ hO 1 ⟨a3, c3, 1, []⟩ rfl (by simp)
  clear hO
  go_wp2_with fail
  refine H6.out.mono ?_
  rintro e w6 ⟨a4, c4, rfl, hO⟩
  clear H6
  have hO := (hO.allocC #[.int .i64 1, .slice a4 0 c4] 33).three
  have H7 : Hid (Calls _ _ _ _ _) := blen w _ _ b 9 _ hO
  have H8 : Hid (Own w _ _) := hO
  clear hO
  go_wp2_with fail
  refine H7.out.mono ?_
  rintro e w7 ⟨rfl, rfl⟩
  clear H7
  have hA := H8.out.alloc (.cells #[.int .u8 0, .int .u8 0] 5)
  have H9 : Hid (Calls _ _ _ _ _) := turned_any w _ _ hA (.slice (some ⟨_, 0, none⟩) 2 2) 2 [0, 0] rfl (src_lit _ [0, 0] 2 rfl _ rfl) (by decide) (by decide) 7 (by decide) (by decide) 3 (by decide) ⟨_, _, rfl⟩
  have e1 : (w6.alloc (.cells #[.int .i64 1, .slice a4 0 c4] 33)).heap.size = w6.heap.size + 1 := by simp
  have e3 : ((3 : Nat) : Int) = 3 := rfl
  rw [e1, e3, show tun [0, 0] 7 3 32 = [128, 1] by decide +kernel] at H9
  clear hA H8 e1 e3
  go_wp2_with fail
  refine H9.out.mono ?_
  rintro e w8 ⟨a5, c5, rfl, hO⟩
  clear H9
  have hr := Src.of_row hO.row
  have H10 : Hid (Calls _ _ _ _ _) := same_any (w8.alloc (.cells #[.int .u8 128, .int .u8 1] 5)) (.slice a5 2 c5) (.slice (some ⟨w8.heap.size, 0, none⟩) 2 2) [128, 1] (hr.quiet ((Fr.refl Nobody w8).alloc _)) (src_lit _ [128, 1] 2 rfl _ rfl)
  have HF : Hid (Fr Nobody w _) := hO.fr.alloc (.cells #[.int .u8 128, .int .u8 1] 5)
  clear hO hr
  go_wp2_with fail
  refine H10.out.mono ?_
  rintro e w9 ⟨rfl, rfl⟩
  clear H10
  go_wp2
  go_ret
  exact ⟨rfl, HF.out⟩
end Go.Proofs.Ytiphkndahoageaa
