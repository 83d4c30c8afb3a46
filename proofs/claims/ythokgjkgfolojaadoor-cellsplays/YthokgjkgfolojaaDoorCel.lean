/-
  The grid: At; a nil grid; the document's examples.
-/
import Derived.Test.YthokgjkgfolojaaDoorCek
import Derived.Test.YthokgjkgfolojaaDoorUs
namespace Go.Proofs.YthokgjkgfolojaaDoor
open Go.RowKit Go.Maps
set_option linter.unusedVariables false
set_option maxRecDepth 100000

set_option maxHeartbeats 1000000 in
theorem gat (w0 w : World) (l : List Thing) (g K : Nat) (L : List Spt) (h : Own w0 w (Grid g L K :: l)) (hL : GOk L) (hI : GIn L) (hn : L.length < 256) (x y : Int) :
    Calls Tryd.prog 21 #[.pointer (some ⟨g, 0, none⟩), .int .i64 x, .int .i64 y] w fun e w' => ∃ (ao : Option Addr) (cap : Nat), e = .returned (.slice ao (boxL L x y x y).length cap) ∧ Own w0 w' (Row 30 1 (.slice ao (boxL L x y x y).length cap) (boxL L x y x y).length (irow .u32 (boxL L x y x y)) :: Grid g L K :: l) := by
  have H : Hid (Calls _ _ _ _ _) := gbox w0 w l g K L h hL hI hn x y x y
  clear h
  go_enter Tryd.func21, Tryd.ntmps21
  go_wp2_with fail
  refine H.out.mono ?_
  rintro e w' ⟨ao, cap, rfl, hO⟩
  have HO : Hid (Own w0 w' _) := hO
  clear hO H
  generalize hnn : (boxL L x y x y).length = n at *
  have HNN : Hid ((boxL L x y x y).length = n) := hnn
  clear hnn
  go_wp2
  go_ret
  exact ⟨ao, cap, by rw [HNN.out]; rfl, by rw [HNN.out]; exact HO.out⟩
set_option maxHeartbeats 1000000 in
theorem gput_nil (w : World) (id : Nat) (x y : Int) : Calls Tryd.prog 13 #[.pointer none, .int .u32 (id : Int), .int .i32 x, .int .i32 y] w fun e w' => e = .returned (.int .i64 10) ∧ w' = w := by
  go_enter Tryd.func13, Tryd.ntmps13
  go_wp2
  go_ret
  exact ⟨rfl, rfl⟩
set_option maxHeartbeats 1000000 in
theorem gdrop_nil (w : World) (id : Nat) : Calls Tryd.prog 15 #[.pointer none, .int .u32 (id : Int)] w fun e w' => e = .returned (.int .i64 10) ∧ w' = w := by
  go_enter Tryd.func15, Tryd.ntmps15
  go_wp2
  go_ret
  exact ⟨rfl, rfl⟩
set_option maxHeartbeats 1000000 in
theorem gwhere_nil (w : World) (id : Nat) : Calls Tryd.prog 16 #[.pointer none, .int .u32 (id : Int)] w fun e w' => e = .returned (.tuple #[.int .i64 0, .int .i64 0, .bool false]) ∧ w' = w := by
  go_enter Tryd.func16, Tryd.ntmps16
  go_wp2
  go_ret3
  exact ⟨rfl, rfl⟩
set_option maxHeartbeats 1000000 in
theorem gbox_nil (w : World) (a b c d : Int) : Calls Tryd.prog 23 #[.pointer none, .int .i64 a, .int .i64 b, .int .i64 c, .int .i64 d] w fun e w' => e = .returned (.slice none 0 0) ∧ w' = w := by
  go_enter Tryd.func23, Tryd.ntmps23
  go_wp2
  go_ret
  exact ⟨rfl, rfl⟩
set_option maxHeartbeats 1000000 in
theorem gat_nil (w : World) (a b : Int) : Calls Tryd.prog 21 #[.pointer none, .int .i64 a, .int .i64 b] w fun e w' => e = .returned (.slice none 0 0) ∧ w' = w := by
  have H : Hid (Calls _ _ _ _ _) := gbox_nil w a b a b
  go_enter Tryd.func21, Tryd.ntmps21
  go_wp2_with fail
  refine H.out.mono ?_
  rintro e w' ⟨rfl, rfl⟩
  go_wp2
  go_ret
  exact ⟨rfl, rfl⟩
set_option maxHeartbeats 1000000 in
theorem glen_nil (w : World) : Calls Tryd.prog 17 #[.pointer none] w fun e w' => e = .returned (.int .i64 0) ∧ w' = w := by
  go_enter Tryd.func17, Tryd.ntmps17
  go_wp2
  go_ret
  exact ⟨rfl, rfl⟩
set_option maxHeartbeats 1000000 in
theorem gused_nil (w : World) : Calls Tryd.prog 18 #[.pointer none] w fun e w' => e = .returned (.int .i64 0) ∧ w' = w := by
  go_enter Tryd.func18, Tryd.ntmps18
  go_wp2
  go_ret
  exact ⟨rfl, rfl⟩
theorem GOk.nil : GOk [] := ⟨List.Pairwise.nil, fun s hs => by cases hs⟩
theorem GIn.nil : GIn [] := fun s hs => by cases hs
theorem GIn.put {L : List Spt} (h : GIn L) (id : Nat) (x y : Int) (hw : inW x y = true) : GIn (putL L (id, x, y)) := by
  intro s hs
  rcases mem_put.1 hs with rfl | ⟨hs, _⟩
  · exact hw
  · exact h s hs
theorem GIn.drop {L : List Spt} (h : GIn L) (id : Nat) : GIn (dropL L id) := fun s hs => h s (mem_drop.1 hs).1
set_option maxHeartbeats 8000000 in
theorem awake16 (w : World) (ht : Tab w) : Calls Tryd.prog 9 #[] w fun e w' => e = .returned (.bool true) ∧ Fr Nobody w w' := by
  have hmx : 1000 < maxLen := by unfold maxLen; decide
  obtain ⟨L1, hL1⟩ : ∃ L1 : List Spt, L1 = putL [] (1024, 0, -1) := ⟨_, rfl⟩
  obtain ⟨L2, hL2⟩ : ∃ L2 : List Spt, L2 = putL L1 (1024, 16384, 0) := ⟨_, rfl⟩
  have i1 : inW 0 (-1) = true := by decide
  have i2 : inW 16384 0 = true := by decide
  have o1 : GOk L1 := by rw [hL1]; exact GOk.nil.put _ _ _ (by decide) i1
  have o2 : GOk L2 := by rw [hL2]; exact o1.put _ _ _ (by decide) i2
  have n2 : GIn L2 := by rw [hL2]; exact (by rw [hL1]; exact GIn.nil.put _ _ _ i1 : GIn L1).put _ _ _ i2
  have l1 : L1.length = 1 := by rw [hL1]; decide
  have l2 : L2.length = 1 := by rw [hL2, hL1]; decide
  have w1 : hom L1 1024 = some (0, -1) := by rw [hL1]; decide
  have b1 : boxL L2 1 0 1 0 = [1024] := by rw [hL2, hL1]; decide
  have b2 : boxL L2 0 (-1) 0 (-1) = [] := by rw [hL2, hL1]; decide
  have u2 : usedL L2 = 1 := by rw [hL2, hL1]; decide
  have p1 : putL [] (1024, 0, -1) = L1 := hL1.symm
  have p2 : putL L1 (1024, 16384, 0) = L2 := hL2.symm
  have HN : Hid (Calls _ _ _ _ _) := gnew w w [] (Own.start w) 1000
  have HP1 : Hid (∀ g w', Own w w' (Grid g [] 1000 :: []) → Calls Tryd.prog 13 #[.pointer (some ⟨g, 0, none⟩), .int .u32 1024, .int .i32 0, .int .i32 (-1)] w' fun e w'' => e = .returned (.int .i64 0) ∧ Own w w'' (Grid g L1 1000 :: [])) := fun g w' h => by
    have := gputC w w' [] g 1000 [] h GOk.nil ht 1024 (by decide) 0 (-1) (by decide) i1 (by simp) hmx
    rw [p1] at this
    exact this
  have HW : Hid (∀ g w', Own w w' (Grid g L1 1000 :: []) → Calls Tryd.prog 16 #[.pointer (some ⟨g, 0, none⟩), .int .u32 1024] w' fun e w'' => e = .returned (.tuple #[.int .i64 0, .int .i64 (-1), .bool true]) ∧ Own w w'' (Grid g L1 1000 :: [])) := fun g w' h => by
    have := gwhere w w' [] g 1000 L1 h 1024 (by decide)
    rw [w1] at this
    exact this
  have HP2 : Hid (∀ g w', Own w w' (Grid g L1 1000 :: []) → Calls Tryd.prog 13 #[.pointer (some ⟨g, 0, none⟩), .int .u32 1024, .int .i32 16384, .int .i32 0] w' fun e w'' => e = .returned (.int .i64 0) ∧ Own w w'' (Grid g L2 1000 :: [])) := fun g w' h => by
    have := gputC w w' [] g 1000 L1 h o1 ht 1024 (by decide) 16384 0 (by decide) i2 (by omega) hmx
    rw [p2] at this
    exact this
  have HA1 : Hid (∀ g w', Own w w' (Grid g L2 1000 :: []) → Calls Tryd.prog 21 #[.pointer (some ⟨g, 0, none⟩), .int .i64 1, .int .i64 0] w' fun e w'' => ∃ ao cap, e = .returned (.slice ao 1 cap) ∧ Own w w'' (Row 30 1 (.slice ao 1 cap) 1 (irow .u32 [1024]) :: Grid g L2 1000 :: [])) := fun g w' h => by
    have := gat w w' [] g 1000 L2 h o2 n2 (by omega) 1 0
    rw [b1] at this
    exact this
  have HA2 : Hid (∀ g w' l, Own w w' (Grid g L2 1000 :: l) → Calls Tryd.prog 21 #[.pointer (some ⟨g, 0, none⟩), .int .i64 0, .int .i64 (-1)] w' fun e w'' => ∃ ao cap, e = .returned (.slice ao 0 cap) ∧ Own w w'' (Row 30 1 (.slice ao 0 cap) 0 (irow .u32 []) :: Grid g L2 1000 :: l)) := fun g w' l h => by
    have := gat w w' l g 1000 L2 h o2 n2 (by omega) 0 (-1)
    rw [b2] at this
    exact this
  have HU : Hid (∀ g w' l, Own w w' (Grid g L2 1000 :: l) → Calls Tryd.prog 18 #[.pointer (some ⟨g, 0, none⟩)] w' fun e w'' => e = .returned (.int .i64 1) ∧ w'' = w') := fun g w' l h => by
    have := gused w w' l g 1000 L2 h
    rw [u2] at this
    exact this
  clear hL1 hL2 i1 i2 o1 o2 n2 l1 l2 w1 b1 b2 u2 p1 p2 ht hmx
  go_enter Tryd.func9, Tryd.ntmps9
  go_wp2_with fail
  refine HN.out.mono ?_
  rintro e v1 ⟨g, rfl, h1⟩
  have H1 : Hid (Calls _ _ _ _ _) := HP1.out g v1 h1
  clear h1 HN HP1
  go_wp2_with fail
  refine H1.out.mono ?_
  rintro e v2 ⟨rfl, h2⟩
  have H2 : Hid (Calls _ _ _ _ _) := HW.out g v2 h2
  clear h2 H1 HW
  go_wp2_with fail
  refine H2.out.mono ?_
  rintro e v3 ⟨rfl, h3⟩
  have H3 : Hid (Calls _ _ _ _ _) := HP2.out g v3 h3
  clear h3 H2 HP2
  go_wp2_with fail
  refine H3.out.mono ?_
  rintro e v4 ⟨rfl, h4⟩
  have H4 : Hid (Calls _ _ _ _ _) := HA1.out g v4 h4
  clear h4 H3 HA1
  go_wp2_with fail
  refine H4.out.mono ?_
  rintro e v5 ⟨ao, cap, rfl, h5⟩
  have h6 := h5.allocC #[.int .u32 1024] 30
  have HS : Hid (Calls _ _ _ _ _) := same_ok (v5.alloc (.cells #[.int .u32 1024] 30)) (.slice ao 1 cap) (.slice (some ⟨v5.heap.size, 0, none⟩) 1 1) [1024] (Own.nums (X := [1024]) h6.two) ⟨some ⟨v5.heap.size, 0, none⟩, 1, rfl, .inr ⟨v5.heap.size, 0, rfl, fun j x hx => by
    have hj := (List.getElem?_eq_some_iff.1 hx).1
    have hj0 : j = 0 := by simpa using hj
    subst hj0
    have := h6.cell 0
    simp at hx
    subst hx
    exact this⟩⟩ (by decide)
  have H6 : Hid (Own w (v5.alloc (.cells #[.int .u32 1024] 30)) (Grid g L2 1000 :: [])) := h6.tail.tail
  clear h5 h6 H4
  go_wp2_with fail
  refine HS.out.mono ?_
  rintro e v6 ⟨rfl, hf⟩
  have h7 := H6.out.quiet hf
  have H7 : Hid (Calls _ _ _ _ _) := HA2.out g v6 _ h7
  clear h7 hf HS H6
  go_wp2_with fail
  refine H7.out.mono ?_
  rintro e v7 ⟨ao2, cap2, rfl, h8⟩
  have H8 : Hid (Calls _ _ _ _ _) := HU.out g v7 [] h8.tail
  have HF : Hid (Fr Nobody w v7) := h8.fr
  clear h8 H7 HU HA2
  go_wp2_with fail
  refine H8.out.mono ?_
  rintro e v8 ⟨rfl, rfl⟩
  go_wp2
  go_ret
  exact ⟨rfl, HF.out⟩
end Go.Proofs.YthokgjkgfolojaaDoor
