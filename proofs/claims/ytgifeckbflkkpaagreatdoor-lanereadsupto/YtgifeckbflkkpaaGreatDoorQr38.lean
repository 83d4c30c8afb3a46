/- The document's Patch: those who come. -/
import Derived.Test.YtgifeckbflkkpaaGreatDoorQr37
import Derived.Test.YtgifeckbflkkpaaGreatDoorQr23
import Derived.Test.YtgifeckbflkkpaaGreatDoorQr31
namespace Go.Proofs.YtgifeckbflkkpaaGreatDoor
open Go.ChangeShapes Go.WideShapes Go.ChangeAt Go.RowKit
set_option linter.unusedVariables false
set_option maxHeartbeats 16000000
set_option maxRecDepth 100000
def ezv (L : List En) : Nat := (L.map (fun e => e.2.length + 1)).sum
theorem esz_ezv (L : List EnE) : esz L = ezv (evs L) := by
 induction L with
 | nil => rfl
 | cons x t ih =>
  have e : evs (x :: t) = (x.id,x.C) :: evs t := rfl
  unfold esz at ih ⊢
  unfold ezv at ih ⊢
  rw [e,List.map_cons,List.sum_cons,← ih]
  simp only [csz,List.length_cons]
  omega
theorem ezv_ins (L : List En) (e : En) : ezv (insE L e) = ezv L + (e.2.length + 1) := by
 induction L with
 | nil => simp [insE,ezv]
 | cons a t ih =>
  rw [insE_cons]
  split
  ·unfold ezv at ih ⊢
   rw [List.map_cons,List.sum_cons,ih,List.map_cons,List.sum_cons]; omega
  ·unfold ezv
   rw [List.map_cons,List.sum_cons,Nat.add_comm]
theorem esz_tk {L : List EnE} {j : Nat} {x : EnE} (h : L[j]? = some x) : esz (L.take (j + 1)) = esz (L.take j) + (x.C.length + 1) := by
 have hj := (List.getElem?_eq_some_iff.1 h).1
 unfold esz
 rw [csz_take h,List.length_take,List.length_take]; omega
theorem esz_tk_le (L : List EnE) (j : Nat) : esz (L.take j) ≤ esz L := by
 have := esz_app (L.take j) (L.drop j)
 rw [List.take_append_drop] at this
 omega
theorem NowI.ins {w0 : World} {X T : List Thing} {N O : List EnE} {B : Nat} {e : EnE} (h : NowI w0 X T N B) (hm : ∀ y ∈ O,y = e ∨ y ∈ N) (he : evs O = insE (evs N) (e.id,e.C)) (hi : e.id < 4294967296 ∧ ∀ q ∈ e.C,q.k < 256) (hc : ∀ w',Own w0 w' T → Cs w' e.ao e.C) : NowI w0 X T O (B + (e.C.length + 1)) where
 cs := fun w' hw y hy => by
  rcases hm y hy with rfl | hy
  ·exact hc w' hw.dropA
  ·exact h.cs w' hw y hy
 inn := fun y hy => by
  rcases hm y hy with rfl | hy
  ·exact hi
  ·exact h.inn y hy
 sz := by
  have := h.sz
  rw [esz_ezv] at this ⊢
  rw [he,ezv_ins]
  simp only
  omega
theorem gp_come (w0 W : World) (T : List Thing) (aw : Option Addr) (nw cw b3 : Nat) (Wl M : List EnE) (ma : Option Addr) (ml mc : Nat) (HW : Hid ((∀ w',Own w0 w' T → EntsAt w' aw Wl ∧ EntsAt w' ma M) ∧ Wl.length = nw ∧ Upe (evs Wl) ∧ M.length = ml ∧ EIn M)) (hnw : nw ≤ 1000000) (N0 : List EnE) (X : List Thing) (a0 : Option Addr) (c0 B : Nat) (hB : B + esz M ≤ 100000) (HN : Hid (NowI w0 X T N0 B)) (H : Hid (Own w0 W (Row 60 2 (.slice a0 N0.length c0) N0.length (cat EnE.cs N0) :: (X ++ T)))) (J K' : Act → World → Prop) (Q' : Exit → Act → World → Prop) (HJ : Hid (∀ a' wc,(∃ (N : List EnE) (a : Option Addr) (c : Nat),a' = { tmps := #[.slice aw nw cw,gQ a' 1,gQ a' 2,.pointer (some ⟨b3,0,none⟩),gQ a' 4,gQ a' 5,gQ a' 6,.slice a N.length c,gQ a' 8,gQ a' 9,gQ a' 10,gQ a' 11,gQ a' 12,gQ a' 13,gQ a' 14,gQ a' 15,gQ a' 16,gQ a' 17,gQ a' 18,gQ a' 19,gQ a' 20,gQ a' 21,gQ a' 22,gQ a' 23,gQ a' 24,gQ a' 25,gQ a' 26,gQ a' 27,gQ a' 28,gQ a' 29,gQ a' 30,gQ a' 31,gQ a' 32,gQ a' 33,gQ a' 34,gQ a' 35,gQ a' 36,gQ a' 37,gQ a' 38,gQ a' 39,gQ a' 40,gQ a' 41,gQ a' 42,gQ a' 43,gQ a' 44,gQ a' 45,gQ a' 46,gQ a' 47,gQ a' 48,gQ a' 49,gQ a' 50,gQ a' 51,gQ a' 52,gQ a' 53,gQ a' 54,gQ a' 55,gQ a' 56,gQ a' 57,gQ a' 58,gQ a' 59,gQ a' 60,gQ a' 61,gQ a' 62,gQ a' 63,gQ a' 64,gQ a' 65,gQ a' 66,gQ a' 67,gQ a' 68,gQ a' 69,gQ a' 70,gQ a' 71,gQ a' 72,gQ a' 73,gQ a' 74,gQ a' 75,gQ a' 76,gQ a' 77,gQ a' 78,gQ a' 79,gQ a' 80,gQ a' 81,gQ a' 82,gQ a' 83,gQ a' 84,gQ a' 85,gQ a' 86,gQ a' 87,gQ a' 88,gQ a' 89,gQ a' 90,gQ a' 91,gQ a' 92,gQ a' 93,gQ a' 94,gQ a' 95,gQ a' 96,gQ a' 97,gQ a' 98,gQ a' 99,gQ a' 100,gQ a' 101,gQ a' 102,gQ a' 103,gQ a' 104,gQ a' 105,gQ a' 106,gQ a' 107,gQ a' 108,gQ a' 109,gQ a' 110,gQ a' 111,gQ a' 112,gQ a' 113,gQ a' 114,gQ a' 115,gQ a' 116,gQ a' 117,gQ a' 118,gQ a' 119,gQ a' 120,gQ a' 121,gQ a' 122,gQ a' 123,gQ a' 124,gQ a' 125,gQ a' 126,gQ a' 127,gQ a' 128,gQ a' 129,gQ a' 130,gQ a' 131,gQ a' 132,gQ a' 133,gQ a' 134,gQ a' 135,gQ a' 136,gQ a' 137,gQ a' 138,gQ a' 139,gQ a' 140,gQ a' 141,gQ a' 142,gQ a' 143,gQ a' 144,gQ a' 145,gQ a' 146,gQ a' 147,gQ a' 148,gQ a' 149,gQ a' 150,gQ a' 151,gQ a' 152,gQ a' 153,gQ a' 154,gQ a' 155,gQ a' 156,gQ a' 157,gQ a' 158,gQ a' 159,gQ a' 160,gQ a' 161,gQ a' 162,gQ a' 163,gQ a' 164,gQ a' 165,gQ a' 166,gQ a' 167,gQ a' 168,gQ a' 169,gQ a' 170,gQ a' 171,gQ a' 172,gQ a' 173,gQ a' 174,gQ a' 175,gQ a' 176,gQ a' 177,gQ a' 178,gQ a' 179,gQ a' 180,gQ a' 181,gQ a' 182,gQ a' 183,gQ a' 184,gQ a' 185,gQ a' 186,gQ a' 187,gQ a' 188,gQ a' 189,gQ a' 190,gQ a' 191,gQ a' 192,gQ a' 193,gQ a' 194],defers := [] } ∧ NowI w0 X T N (B + esz M) ∧ goCome (evs Wl) (evs N0) (evs M) = some (evs N) ∧ Own w0 wc (Row 60 2 (.slice a N.length c) N.length (cat EnE.cs N) :: (X ++ T))) → J a' wc)) (HR : Hid (∀ a' wc,(a' = { tmps := #[gQ a' 0,gQ a' 1,gQ a' 2,gQ a' 3,.slice none 0 0,.int .i64 4,gQ a' 6,gQ a' 7,gQ a' 8,gQ a' 9,gQ a' 10,gQ a' 11,gQ a' 12,gQ a' 13,gQ a' 14,gQ a' 15,gQ a' 16,gQ a' 17,gQ a' 18,gQ a' 19,gQ a' 20,gQ a' 21,gQ a' 22,gQ a' 23,gQ a' 24,gQ a' 25,gQ a' 26,gQ a' 27,gQ a' 28,gQ a' 29,gQ a' 30,gQ a' 31,gQ a' 32,gQ a' 33,gQ a' 34,gQ a' 35,gQ a' 36,gQ a' 37,gQ a' 38,gQ a' 39,gQ a' 40,gQ a' 41,gQ a' 42,gQ a' 43,gQ a' 44,gQ a' 45,gQ a' 46,gQ a' 47,gQ a' 48,gQ a' 49,gQ a' 50,gQ a' 51,gQ a' 52,gQ a' 53,gQ a' 54,gQ a' 55,gQ a' 56,gQ a' 57,gQ a' 58,gQ a' 59,gQ a' 60,gQ a' 61,gQ a' 62,gQ a' 63,gQ a' 64,gQ a' 65,gQ a' 66,gQ a' 67,gQ a' 68,gQ a' 69,gQ a' 70,gQ a' 71,gQ a' 72,gQ a' 73,gQ a' 74,gQ a' 75,gQ a' 76,gQ a' 77,gQ a' 78,gQ a' 79,gQ a' 80,gQ a' 81,gQ a' 82,gQ a' 83,gQ a' 84,gQ a' 85,gQ a' 86,gQ a' 87,gQ a' 88,gQ a' 89,gQ a' 90,gQ a' 91,gQ a' 92,gQ a' 93,gQ a' 94,gQ a' 95,gQ a' 96,gQ a' 97,gQ a' 98,gQ a' 99,gQ a' 100,gQ a' 101,gQ a' 102,gQ a' 103,gQ a' 104,gQ a' 105,gQ a' 106,gQ a' 107,gQ a' 108,gQ a' 109,gQ a' 110,gQ a' 111,gQ a' 112,gQ a' 113,gQ a' 114,gQ a' 115,gQ a' 116,gQ a' 117,gQ a' 118,gQ a' 119,gQ a' 120,gQ a' 121,gQ a' 122,gQ a' 123,gQ a' 124,gQ a' 125,gQ a' 126,gQ a' 127,gQ a' 128,gQ a' 129,gQ a' 130,gQ a' 131,gQ a' 132,gQ a' 133,gQ a' 134,gQ a' 135,gQ a' 136,gQ a' 137,gQ a' 138,gQ a' 139,gQ a' 140,gQ a' 141,gQ a' 142,gQ a' 143,gQ a' 144,gQ a' 145,gQ a' 146,gQ a' 147,gQ a' 148,gQ a' 149,gQ a' 150,gQ a' 151,gQ a' 152,gQ a' 153,gQ a' 154,gQ a' 155,gQ a' 156,gQ a' 157,gQ a' 158,gQ a' 159,gQ a' 160,gQ a' 161,gQ a' 162,gQ a' 163,gQ a' 164,gQ a' 165,gQ a' 166,gQ a' 167,gQ a' 168,gQ a' 169,gQ a' 170,gQ a' 171,gQ a' 172,gQ a' 173,gQ a' 174,gQ a' 175,gQ a' 176,gQ a' 177,gQ a' 178,gQ a' 179,gQ a' 180,gQ a' 181,gQ a' 182,gQ a' 183,gQ a' 184,gQ a' 185,gQ a' 186,gQ a' 187,gQ a' 188,gQ a' 189,gQ a' 190,gQ a' 191,gQ a' 192,gQ a' 193,gQ a' 194],defers := [] } ∧ goCome (evs Wl) (evs N0) (evs M) = none ∧ Own w0 wc T) → Q' .ret a' wc)) (hK' : ∀ a' w',Met J a' w' → K' a' w') (a' : Act) (hact : a' = { tmps := #[.slice aw nw cw,gQ a' 1,gQ a' 2,.pointer (some ⟨b3,0,none⟩),gQ a' 4,gQ a' 5,gQ a' 6,.slice a0 N0.length c0,gQ a' 8,gQ a' 9,gQ a' 10,gQ a' 11,gQ a' 12,gQ a' 13,gQ a' 14,gQ a' 15,gQ a' 16,gQ a' 17,gQ a' 18,gQ a' 19,gQ a' 20,gQ a' 21,gQ a' 22,gQ a' 23,gQ a' 24,gQ a' 25,gQ a' 26,gQ a' 27,gQ a' 28,gQ a' 29,gQ a' 30,gQ a' 31,gQ a' 32,gQ a' 33,gQ a' 34,gQ a' 35,gQ a' 36,gQ a' 37,gQ a' 38,gQ a' 39,gQ a' 40,gQ a' 41,gQ a' 42,gQ a' 43,gQ a' 44,gQ a' 45,gQ a' 46,gQ a' 47,gQ a' 48,gQ a' 49,gQ a' 50,gQ a' 51,gQ a' 52,gQ a' 53,gQ a' 54,gQ a' 55,gQ a' 56,gQ a' 57,gQ a' 58,gQ a' 59,gQ a' 60,gQ a' 61,gQ a' 62,gQ a' 63,gQ a' 64,gQ a' 65,gQ a' 66,gQ a' 67,gQ a' 68,gQ a' 69,gQ a' 70,gQ a' 71,gQ a' 72,gQ a' 73,gQ a' 74,gQ a' 75,gQ a' 76,gQ a' 77,gQ a' 78,gQ a' 79,gQ a' 80,gQ a' 81,gQ a' 82,gQ a' 83,gQ a' 84,gQ a' 85,gQ a' 86,gQ a' 87,gQ a' 88,gQ a' 89,gQ a' 90,gQ a' 91,gQ a' 92,gQ a' 93,gQ a' 94,gQ a' 95,gQ a' 96,gQ a' 97,gQ a' 98,gQ a' 99,gQ a' 100,gQ a' 101,gQ a' 102,gQ a' 103,gQ a' 104,gQ a' 105,gQ a' 106,gQ a' 107,gQ a' 108,gQ a' 109,gQ a' 110,gQ a' 111,gQ a' 112,gQ a' 113,gQ a' 114,gQ a' 115,gQ a' 116,gQ a' 117,gQ a' 118,gQ a' 119,gQ a' 120,gQ a' 121,gQ a' 122,gQ a' 123,gQ a' 124,gQ a' 125,gQ a' 126,gQ a' 127,gQ a' 128,gQ a' 129,gQ a' 130,gQ a' 131,gQ a' 132,gQ a' 133,gQ a' 134,gQ a' 135,.slice ma ml mc,.int .i64 (ml : Int),.int .i64 0,gQ a' 139,gQ a' 140,gQ a' 141,gQ a' 142,gQ a' 143,gQ a' 144,gQ a' 145,gQ a' 146,gQ a' 147,gQ a' 148,gQ a' 149,gQ a' 150,gQ a' 151,gQ a' 152,gQ a' 153,gQ a' 154,gQ a' 155,gQ a' 156,gQ a' 157,gQ a' 158,gQ a' 159,gQ a' 160,gQ a' 161,gQ a' 162,gQ a' 163,gQ a' 164,gQ a' 165,gQ a' 166,gQ a' 167,gQ a' 168,gQ a' 169,gQ a' 170,gQ a' 171,gQ a' 172,gQ a' 173,gQ a' 174,gQ a' 175,gQ a' 176,gQ a' 177,gQ a' 178,gQ a' 179,gQ a' 180,gQ a' 181,gQ a' 182,gQ a' 183,gQ a' 184,gQ a' 185,gQ a' 186,gQ a' 187,gQ a' 188,gQ a' 189,gQ a' 190,gQ a' 191,gQ a' 192,gQ a' 193,gQ a' 194],defers := [] }) : (csnd (cfst (csnd (csnd (csnd (csnd (csnd ((Tryz.f55.body).getD .skip)))))))).wp Tryz.prog (Exit.then K' Q') a' W := by
 obtain ⟨iE,hiE,hE0,hE1,hE2⟩ := info3w Tryz.infoEnt
 obtain ⟨u,hu⟩ : ∃ u : Nat → Value,∀ k,gQ a' k = u k := ⟨_,fun _ => rfl⟩
 simp only [hu] at hact
 clear hu
 subst hact
 refine wp_qP ?_
 dsimp only [cfst,csnd,cinn,Tryz.f55,Option.getD]
 have hmll : ml ≤ 100000 := by have := HW.out.2.2.2.1; unfold esz at hB; omega
 go_wp2
 refine wp_loop (fun a' wr => ∃ (j : Nat) (N : List EnE) (a : Option Addr) (c : Nat),a' = { tmps := #[.slice aw nw cw,gQ a' 1,gQ a' 2,.pointer (some ⟨b3,0,none⟩),gQ a' 4,gQ a' 5,gQ a' 6,.slice a N.length c,gQ a' 8,gQ a' 9,gQ a' 10,gQ a' 11,gQ a' 12,gQ a' 13,gQ a' 14,gQ a' 15,gQ a' 16,gQ a' 17,gQ a' 18,gQ a' 19,gQ a' 20,gQ a' 21,gQ a' 22,gQ a' 23,gQ a' 24,gQ a' 25,gQ a' 26,gQ a' 27,gQ a' 28,gQ a' 29,gQ a' 30,gQ a' 31,gQ a' 32,gQ a' 33,gQ a' 34,gQ a' 35,gQ a' 36,gQ a' 37,gQ a' 38,gQ a' 39,gQ a' 40,gQ a' 41,gQ a' 42,gQ a' 43,gQ a' 44,gQ a' 45,gQ a' 46,gQ a' 47,gQ a' 48,gQ a' 49,gQ a' 50,gQ a' 51,gQ a' 52,gQ a' 53,gQ a' 54,gQ a' 55,gQ a' 56,gQ a' 57,gQ a' 58,gQ a' 59,gQ a' 60,gQ a' 61,gQ a' 62,gQ a' 63,gQ a' 64,gQ a' 65,gQ a' 66,gQ a' 67,gQ a' 68,gQ a' 69,gQ a' 70,gQ a' 71,gQ a' 72,gQ a' 73,gQ a' 74,gQ a' 75,gQ a' 76,gQ a' 77,gQ a' 78,gQ a' 79,gQ a' 80,gQ a' 81,gQ a' 82,gQ a' 83,gQ a' 84,gQ a' 85,gQ a' 86,gQ a' 87,gQ a' 88,gQ a' 89,gQ a' 90,gQ a' 91,gQ a' 92,gQ a' 93,gQ a' 94,gQ a' 95,gQ a' 96,gQ a' 97,gQ a' 98,gQ a' 99,gQ a' 100,gQ a' 101,gQ a' 102,gQ a' 103,gQ a' 104,gQ a' 105,gQ a' 106,gQ a' 107,gQ a' 108,gQ a' 109,gQ a' 110,gQ a' 111,gQ a' 112,gQ a' 113,gQ a' 114,gQ a' 115,gQ a' 116,gQ a' 117,gQ a' 118,gQ a' 119,gQ a' 120,gQ a' 121,gQ a' 122,gQ a' 123,gQ a' 124,gQ a' 125,gQ a' 126,gQ a' 127,gQ a' 128,gQ a' 129,gQ a' 130,gQ a' 131,gQ a' 132,gQ a' 133,gQ a' 134,gQ a' 135,.slice ma ml mc,.int .i64 (ml : Int),.int .i64 (j : Int),gQ a' 139,gQ a' 140,gQ a' 141,gQ a' 142,gQ a' 143,gQ a' 144,gQ a' 145,gQ a' 146,gQ a' 147,gQ a' 148,gQ a' 149,gQ a' 150,gQ a' 151,gQ a' 152,gQ a' 153,gQ a' 154,gQ a' 155,gQ a' 156,gQ a' 157,gQ a' 158,gQ a' 159,gQ a' 160,gQ a' 161,gQ a' 162,gQ a' 163,gQ a' 164,gQ a' 165,gQ a' 166,gQ a' 167,gQ a' 168,gQ a' 169,gQ a' 170,gQ a' 171,gQ a' 172,gQ a' 173,gQ a' 174,gQ a' 175,gQ a' 176,gQ a' 177,gQ a' 178,gQ a' 179,gQ a' 180,gQ a' 181,gQ a' 182,gQ a' 183,gQ a' 184,gQ a' 185,gQ a' 186,gQ a' 187,gQ a' 188,gQ a' 189,gQ a' 190,gQ a' 191,gQ a' 192,gQ a' 193,gQ a' 194],defers := [] } ∧ j ≤ ml ∧ NowI w0 X T N (B + esz (M.take j)) ∧ goCome (evs Wl) (evs N) ((evs M).drop j) = goCome (evs Wl) (evs N0) (evs M) ∧ Own w0 wr (Row 60 2 (.slice a N.length c) N.length (cat EnE.cs N) :: (X ++ T))) (fun a' _ => ml - (intOf (a'.tmps.getD 138 undef)).toNat) ?_ ?_
 ·exact ⟨0,N0,a0,c0,rfl,Nat.zero_le _,HN.out,by rw [List.drop_zero],H.out⟩
 ·intro a' wr hI
  obtain ⟨j,N,a,c,hact,hj,hNI,hgo,hO⟩ := hI
  obtain ⟨u2,hu⟩ : ∃ u2 : Nat → Value,∀ k,gQ a' k = u2 k := ⟨_,fun _ => rfl⟩
  simp only [hu] at hact
  clear hu
  subst hact
  have hst := esz_tk_le M j
  have hnl : N.length ≤ 100000 := by have := hNI.sz; unfold esz at this hst hB; omega
  have HU : Hid (NowI w0 X T N (B + esz (M.take j)) ∧ goCome (evs Wl) (evs N) ((evs M).drop j) = goCome (evs Wl) (evs N0) (evs M)) := ⟨hNI,hgo⟩
  clear hst H HN
  by_cases hlt : j < ml
  ·obtain ⟨x,hx⟩ : ∃ x,M[j]? = some x := ⟨_,List.getElem?_eq_getElem (by rw [HW.out.2.2.2.1]; exact hlt)⟩
   obtain ⟨g,o,hga,y0,y1,-⟩ := ((HW.out.1 wr hO.tail.dropA).2).at hx
   have hlt' : (j : Int) < (ml : Int) := by omega
   have hA := hO.allocC #[.int .u32 (x.id : Int),.slice x.ao x.C.length x.cap] 60
   have HFI : Hid (Calls _ _ _ _ _) := rfindE_any (wr.alloc (.cells #[.int .u32 (x.id : Int),.slice x.ao x.C.length x.cap] 60)) aw nw cw Wl (HW.out.1 _ hA.tail.tail.dropA).1 HW.out.2.1 (by omega) x.id
   have HX : Hid (M[j]? = some x) := hx
   have HXC : Hid (x.C.length ≤ 100000) := by have := csz_mem (List.mem_of_getElem? hx); unfold esz at hB; show _ ≤ _; omega
   have HGA : Hid (ma = some ⟨g,o,none⟩) := hga
   have HO : Hid (Own w0 _ _) := hA
   have q0 := hA.cell 0
   have q1 := hA.cell 1
   simp only [List.getElem?_toArray,List.getElem?_cons_zero,List.getElem?_cons_succ] at q0 q1
   obtain ⟨xi,xa,xc,xC⟩ := x
   simp only at y0 y1 q0 q1 HFI HXC HO
   obtain ⟨xl,hxl⟩ : ∃ xl,xl = xC.length := ⟨_,rfl⟩
   obtain ⟨n,hn⟩ : ∃ n,n = N.length := ⟨_,rfl⟩
   have HNL : Hid (N.length = n ∧ xC.length = xl) := ⟨hn.symm,hxl.symm⟩
   simp only [← hn,← hxl] at hnl HFI HO y0 y1 q0 q1 HXC ⊢
   rw [hga]
   clear hga hx hNI hgo hO hA hn hxl
   go_wp2_with fail
   refine HFI.out.mono ?_
   rintro e w2 ⟨r,rfl,hfr,hf⟩
   have hO2 := HO.out.quiet hf
   clear HFI hf HO y0 y1 q0 q1
   generalize wr.heap.size = b21 at *
   have HCX : Hid ((evs M)[j]? = some (xi,xC)) := evs_at HX.out
   by_cases hr : r < 0
   ·have hr' : ¬ 0 ≤ r := by omega
    have HNO : Hid (fstE (evs Wl) xi = none) := find_no hfr hr
    have HO2 : Hid (Own w0 w2 _) := hO2
    clear hfr hO2 hr
    go_upto_block 12 with fail
    rename_i KK1 hKK1
    refine gp_lay w0 w2 (X ++ T) (.slice aw nw cw) (.pointer (some ⟨b3,0,none⟩)) (.slice (some ⟨g,o,none⟩) ml mc) (.int .i64 (ml : Int)) (.int .i64 (j : Int)) a n c b21 xi xl xc xa xC N hnl HNL HO2.out KK1 KK1 _ ?hm1 (fun _ _ h => h) _ ?ha1
    case ha1 => rfl
    case hm1 =>
     intro a' w3 hm
     obtain ⟨O,dn,a1,c1,hact,hcm,hO3⟩ := hm
     obtain ⟨u3,hu⟩ : ∃ u3 : Nat → Value,∀ k,gQ a' k = u3 k := ⟨_,fun _ => rfl⟩
     simp only [hu] at hact
     clear hu
     subst hact
     have hol := hcm.len (by rw [HNL.out.1]; exact Nat.le_refl _)
     have hol2 : O.length ≤ 100001 := by rw [hol]; split <;> omega
     have HIN : Hid (xi < 4294967296 ∧ ∀ q ∈ xC,q.k < 256) := HW.out.2.2.2.2 _ (List.mem_of_getElem? HX.out)
     have HCS : Hid (∀ w',Own w0 w' T → Cs w' xa xC) := fun w' hw => (HW.out.1 w' hw).2.2 _ (List.mem_of_getElem? HX.out)
     have HTK : Hid (esz (M.take (j + 1)) = esz (M.take j) + (xC.length + 1)) := esz_tk HX.out
     have HO3 : Hid (Own w0 w3 _) := hO3
     clear hO3 hol HO2
     cases dn with
     | true =>
      have HE : Hid (evs O = insE (evs N) (xi,xC) ∧ ∀ y ∈ O,y = ⟨xi,xa,xc,xC⟩ ∨ y ∈ N) := hcm.fin1 (by rw [HNL.out.1]; exact Nat.le_refl _)
      clear hcm
      go_wp2
      refine ⟨⟨j + 1,O,a1,c1,rfl,by omega,?_,?_,HO3.out.two.tail.two.tail⟩,by simp [intOf]; omega⟩
      ·rw [HTK.out,← Nat.add_assoc]
       exact HU.out.1.ins HE.out.2 HE.out.1 HIN.out HCS.out
      ·rw [← HU.out.2,goCome_is HCX.out HNO.out,HE.out.1]
     | false =>
      have HE : Hid (evs (O ++ [⟨xi,xa,xc,xC⟩]) = insE (evs N) (xi,xC) ∧ (∀ y ∈ O ++ [⟨xi,xa,xc,xC⟩],y = ⟨xi,xa,xc,xC⟩ ∨ y ∈ N) ∧ O.length = N.length) := hcm.fin0 (by rw [HNL.out.1]; exact Nat.le_refl _)
      have q0 := HO3.out.two.cell 0
      have q1 := HO3.out.two.cell 1
      simp only [List.getElem?_toArray,List.getElem?_cons_zero,List.getElem?_cons_succ] at q0 q1
      clear hcm
      go_wp2_with (at_builtin; refine append1_own rfl _ _ 23 rfl 60 iE _ 2 32 Tryz.underlying23 hiE hE0 hE1 hE2 rfl (by decide) _ _ _ rfl HO3.out _ #[.int .u32 (xi : Int),.slice xa xl xc] (by simp) rfl rfl (by intro u hu; simp at hu; rcases hu with rfl | rfl <;> rfl) (by unfold maxLen; omega) (by omega) ?_)
      intro g4 c4 w4 hO4 hsz
      have HLN : Hid ((O ++ [(⟨xi,xa,xc,xC⟩ : EnE)]).length = O.length + 1) := by show _ = _; rw [List.length_append]; rfl
      have H4 : Hid (Own w0 w4 (Row 60 2 (.slice (some ⟨g4,0,none⟩) (O.length + 1) c4) (O.length + 1) (cat EnE.cs (O ++ [⟨xi,xa,xc,xC⟩])) :: (X ++ T))) := by
       show Own _ _ _
       rw [ecat_snoc]
       simp only [HNL.out.2]
       exact hO4.two.tail.two.tail
      clear hO4 hsz q0 q1
      go_wp2
      refine ⟨⟨j + 1,O ++ [⟨xi,xa,xc,xC⟩],some ⟨g4,0,none⟩,c4,by rw [HLN.out]; exact rfl,by omega,?_,?_,by rw [HLN.out]; exact H4.out⟩,by simp [intOf]; omega⟩
      ·rw [HTK.out,← Nat.add_assoc]
       exact HU.out.1.ins HE.out.2.1 HE.out.1 HIN.out HCS.out
      ·rw [← HU.out.2,goCome_is HCX.out HNO.out,HE.out.1]
   ·have hr' : 0 ≤ r := by omega
    obtain ⟨i,y,rfl,hy,hyi,hfe⟩ := find_is HW.out.2.2.1 hfr hr
    have HBAD : Hid (goCome (evs Wl) (evs N0) (evs M) = none) := by show _ = _; rw [← HU.out.2]; exact goCome_bad HCX.out hfe
    have HO2 : Hid (Own w0 w2 T) := hO2.tail.tail.dropA
    clear hfr hO2 hy hyi hfe
    go_wp2
    exact HR.out _ _ ⟨rfl,HBAD.out,HO2.out⟩
  ·have hjn : j = ml := by omega
   subst hjn
   have hlt' : ¬ (j : Int) < (j : Int) := by omega
   have HF : Hid (goCome (evs Wl) (evs N0) (evs M) = some (evs N)) := by show _ = _; rw [← hgo,goCome_end (by rw [evs_len,HW.out.2.2.2.1]; exact Nat.le_refl _)]
   have HO : Hid (Own w0 wr _) := hO
   have HNW : Hid (NowI w0 X T N (B + esz M)) := by
    have := hNI
    rw [List.take_of_length_le (by rw [HW.out.2.2.2.1]; exact Nat.le_refl _)] at this
    exact this
   clear hO hNI hgo
   go_wp2
   exact Met.intro (HJ.out _ _ ⟨N,a,c,rfl,HNW.out,HF.out,HO.out⟩)
end Go.Proofs.YtgifeckbflkkpaaGreatDoor
namespace Go.Proofs.YtgifeckbflkkpaaGreatDoor
open Go.RowKit
set_option linter.unusedVariables false
set_option maxHeartbeats 16000000
set_option maxRecDepth 100000
def rpat (W : List En) (d : Dl) : Nat × List En := if fm 0 W ≠ 0 then (fm 0 W,[]) else match patL W d with
 | none => (4,[])
 | some N => if fm 0 N = 0 ∧ btw W N = d then (0,N) else (4,[])
theorem pat_one {W R : List En} {d : Dl} {code : Nat} (h : PatR W d code R) : rpat W d = (code,R) := by
 unfold rpat
 rcases h with ⟨h0,rfl,rfl⟩ | ⟨h0,rfl,h1,h2⟩ | ⟨h0,rfl,rfl,h1⟩
 ·rw [if_pos h0]
 ·rw [if_neg (by simpa using h0),← h2,patL_to (Snap.of h0) (Snap.of h1)]
  simp only [h1,true_and,if_true]
 ·rw [if_neg (by simpa using h0)]
  cases patL W d with
  | none => rfl
  | some N =>
   simp only
   rw [if_neg (fun hc => h1 N hc.1 hc.2)]
end Go.Proofs.YtgifeckbflkkpaaGreatDoor
