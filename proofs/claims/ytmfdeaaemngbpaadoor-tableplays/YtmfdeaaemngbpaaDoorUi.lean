/-
  The document's example of tables.
-/
import Derived.Test.YtmfdeaaemngbpaaDoorUh
import Derived.Test.YtmfdeaaemngbpaaDoorUs
namespace Go.Proofs.YtmfdeaaemngbpaaDoor
open Go.RowKit Go.Maps
set_option linter.unusedVariables false
set_option maxRecDepth 100000

theorem tadd_ok {m : Nat} {L : List Ent} {id : Nat} {C : List Cp} (h1 : lst (-1) C = 0) (h2 : msk C = m) (h3 : plc L id = none) : tadd m L id C = (0, L ++ [(id, C)]) := by
  unfold tadd; rw [if_neg (by simp [h1]), if_neg (by simp [h2]), if_neg (by rw [h3]; simp)]
def aw1 : List Ent := [(7, [])]
def aw2 : List Ent := [(7, []), (8, [])]
def aw3 : List Ent := [(7, []), (8, []), (9, [])]
def aw4 : List Ent := [(9, []), (8, [])]
theorem lst_nil : lst (-1) [] = 0 := rfl
theorem aw_ok1 : TOk 0 aw1 := (TOk.nil (by decide)).snoc (7, []) (by decide) rfl lst_nil msk_nil
theorem aw_ok2 : TOk 0 aw2 := aw_ok1.snoc (8, []) (by decide) (by simp [plc, aw1, List.findIdx?_cons]) lst_nil msk_nil
theorem aw_ok3 : TOk 0 aw3 := aw_ok2.snoc (9, []) (by decide) (by simp [plc, aw2, List.findIdx?_cons]) lst_nil msk_nil
theorem aw_a1 : tadd 0 [] 7 [] = (0, aw1) := tadd_ok lst_nil msk_nil rfl
theorem aw_a2 : tadd 0 aw1 8 [] = (0, aw2) := tadd_ok lst_nil msk_nil (by simp [plc, aw1, List.findIdx?_cons])
theorem aw_a3 : tadd 0 aw2 9 [] = (0, aw3) := tadd_ok lst_nil msk_nil (by simp [plc, aw2, List.findIdx?_cons])
theorem aw_p : plc aw3 7 = some 0 := by simp [plc, aw3, List.findIdx?_cons]
theorem aw_o : outr aw3 0 = aw4 := rfl
theorem no_cs (w : World) (ao : Option Addr) : Cs w ao [] := .inl rfl

set_option maxHeartbeats 2000000 in
theorem awake10 (w0 w : World) (l : List Thing) (ht : Tab w0) (h : Own w0 w l) :
    Calls Tryd.prog 4 #[] w fun e w' => e = .returned (.bool true) ∧ Own w0 w' l := by
  have H : Hid (Own w0 w l) := h
  have HT : Hid (Tab w0) := ht
  clear h ht
  have HA : Hid (∀ w' b L c id L', Own w0 w' (Table b 0 L c :: l) → TOk 0 L → id < 4294967296 → L.length ≤ 100 → c ≤ 100 → tadd 0 L id [] = (0, L') → Calls Tryd.prog 8 #[.pointer (some ⟨b, 0, none⟩), .int .u32 ((id : Nat) : Int), .slice none 0 0] w' fun e w'' => e = .returned (.int .i64 0) ∧ Own w0 w'' (Table b 0 L' (c + 1) :: l)) := by
    intro w' b L c id L' h1 h2 h3 h4 h5 h6
    have := taddC w0 w' l b 0 L c HT.out h1 h2 id h3 none 0 0 [] rfl (fun _ _ => no_cs _ _) (by simp) (by decide) (by omega) (by omega)
    rw [h6] at this
    exact this
  go_enter Tryd.func4, Tryd.ntmps4
  go_wp2_with fail
  refine (tnew w0 w l 0 H.out (by decide)).mono ?_
  rintro e w1 ⟨b, rfl, hO1⟩
  have HC1 : Hid (Calls _ _ _ _ _) := HA.out w1 b [] 0 7 aw1 hO1 (TOk.nil (by decide)) (by decide) (by decide) (by decide) aw_a1
  clear hO1 H
  go_wp2_with fail
  refine HC1.out.mono ?_
  rintro e w2 ⟨rfl, hO2⟩
  have HC2 : Hid (Calls _ _ _ _ _) := HA.out w2 b aw1 1 8 aw2 hO2 aw_ok1 (by decide) (by decide) (by decide) aw_a2
  clear hO2 HC1
  go_wp2_with fail
  refine HC2.out.mono ?_
  rintro e w3 ⟨rfl, hO3⟩
  have HC3 : Hid (Calls _ _ _ _ _) := HA.out w3 b aw2 2 9 aw3 hO3 aw_ok2 (by decide) (by decide) (by decide) aw_a3
  clear hO3 HC2
  go_wp2_with fail
  refine HC3.out.mono ?_
  rintro e w4 ⟨rfl, hO4⟩
  have HC4 : Hid (Calls Tryd.prog 10 #[.pointer (some ⟨b, 0, none⟩), .int .u32 7] w4 fun out w' => ∃ ao cap, out = .returned (.tuple #[.slice ao 0 cap, .int .i64 0]) ∧ Own w0 w' (Row 47 4 (.slice ao 0 cap) 0 (ccat []) :: Table b 0 aw4 4 :: l)) := by
    have := tremC w0 w4 l b 0 aw3 3 hO4 aw_ok3 7 (by decide) 0 (7, []) aw_p rfl (by decide) (by decide)
    rw [aw_o] at this
    exact this
  clear hO4 HC3
  go_wp2_with fail
  refine HC4.out.mono ?_
  rintro e w5 ⟨ao, cap, rfl, hO5⟩
  have HC5 : Hid (Calls _ _ _ _ _) := tids w0 w5 l b 0 aw4 4 hO5.tail (by decide)
  clear hO5 HC4
  go_wp2_with fail
  refine HC5.out.mono ?_
  rintro e w6 ⟨a6, c6, rfl, hO6⟩
  have HO6 : Hid (Own w0 w6 l) := hO6.tail.tail
  have HN : Hid (∀ w', Fr Nobody w6 w' → Nums .u32 w' (.slice a6 2 c6) [9, 8]) := fun w' hf => Own.nums (hO6.quiet hf)
  clear hO6 HC5
  have HL : Hid (Nums .u32 (w6.alloc (.cells #[.int .u32 9, .int .u32 8] 32)) (.slice (some ⟨w6.heap.size, 0, none⟩) 2 2) [9, 8]) := Own.nums (X := [9, 8]) (HO6.out.litRow #[.int .u32 9, .int .u32 8] 32 1 2 (by decide) rfl)
  go_wp2_with fail
  refine (same_ok _ _ _ [9, 8] (HN.out _ ((Fr.refl _ _).alloc _)) HL.out (by decide)).mono ?_
  rintro e w7 ⟨rfl, hf7⟩
  have HO7 : Hid (Own w0 w7 l) := (HO6.out.alloc _).quiet hf7
  clear hf7
  go_wp2
  go_ret
  exact ⟨rfl, HO7.out⟩
end Go.Proofs.YtmfdeaaemngbpaaDoor
