/- The document's Patch: the changes. -/
import Derived.Test.YtgifeckbflkkpaaGreatDoorQr32
import Derived.Test.YtgifeckbflkkpaaGreatDoorQr33
import Derived.Test.YtgifeckbflkkpaaGreatDoorQr34
import Derived.Test.YtgifeckbflkkpaaGreatDoorQr35
namespace Go.Proofs.YtgifeckbflkkpaaGreatDoor
open Go.ChangeShapes Go.WideShapes Go.ChangeAt Go.RowKit
set_option linter.unusedVariables false
set_option maxHeartbeats 16000000
set_option maxRecDepth 100000
theorem gp_chg (w0 W : World) (T : List Thing) (aw : Option Addr) (nw cw b3 : Nat) (N0 : List EnE) (X0 : List Thing) (a0 : Option Addr) (c0 hl hc B : Nat) (ha : Option Addr) (Hs : List ChE) (HD : Hid (∀ w',Own w0 w' T → ChsAt w' ha Hs)) (HG : Hid (Hs.length = hl ∧ ∀ x ∈ Hs,x.lost < 256 ∧ (∀ q ∈ x.N,q.k < 256) ∧ (∀ q ∈ x.S,q.k < 256))) (hhl : hl ≤ 1000000) (hB : B + hsz Hs ≤ 40000) (HN : Hid (Upe (evs N0) ∧ (∀ x ∈ N0,Ups x.C) ∧ NowI w0 X0 T N0 B)) (H : Hid (Own w0 W (Row 60 2 (.slice a0 N0.length c0) N0.length (cat EnE.cs N0) :: (X0 ++ T)))) (J K' : Act → World → Prop) (Q' : Exit → Act → World → Prop) (HJ : Hid (∀ a' wc,(∃ (N : List EnE) (X : List Thing) (a : Option Addr) (c : Nat),a' = { tmps := #[.slice aw nw cw,gQ a' 1,gQ a' 2,.pointer (some ⟨b3,0,none⟩),gQ a' 4,gQ a' 5,gQ a' 6,.slice a N.length c,gQ a' 8,gQ a' 9,gQ a' 10,gQ a' 11,gQ a' 12,gQ a' 13,gQ a' 14,gQ a' 15,gQ a' 16,gQ a' 17,gQ a' 18,gQ a' 19,gQ a' 20,gQ a' 21,gQ a' 22,gQ a' 23,gQ a' 24,gQ a' 25,gQ a' 26,gQ a' 27,gQ a' 28,gQ a' 29,gQ a' 30,gQ a' 31,gQ a' 32,gQ a' 33,gQ a' 34,gQ a' 35,gQ a' 36,gQ a' 37,gQ a' 38,gQ a' 39,gQ a' 40,gQ a' 41,gQ a' 42,gQ a' 43,gQ a' 44,gQ a' 45,gQ a' 46,gQ a' 47,gQ a' 48,gQ a' 49,gQ a' 50,gQ a' 51,gQ a' 52,gQ a' 53,gQ a' 54,gQ a' 55,gQ a' 56,gQ a' 57,gQ a' 58,gQ a' 59,gQ a' 60,gQ a' 61,gQ a' 62,gQ a' 63,gQ a' 64,gQ a' 65,gQ a' 66,gQ a' 67,gQ a' 68,gQ a' 69,gQ a' 70,gQ a' 71,gQ a' 72,gQ a' 73,gQ a' 74,gQ a' 75,gQ a' 76,gQ a' 77,gQ a' 78,gQ a' 79,gQ a' 80,gQ a' 81,gQ a' 82,gQ a' 83,gQ a' 84,gQ a' 85,gQ a' 86,gQ a' 87,gQ a' 88,gQ a' 89,gQ a' 90,gQ a' 91,gQ a' 92,gQ a' 93,gQ a' 94,gQ a' 95,gQ a' 96,gQ a' 97,gQ a' 98,gQ a' 99,gQ a' 100,gQ a' 101,gQ a' 102,gQ a' 103,gQ a' 104,gQ a' 105,gQ a' 106,gQ a' 107,gQ a' 108,gQ a' 109,gQ a' 110,gQ a' 111,gQ a' 112,gQ a' 113,gQ a' 114,gQ a' 115,gQ a' 116,gQ a' 117,gQ a' 118,gQ a' 119,gQ a' 120,gQ a' 121,gQ a' 122,gQ a' 123,gQ a' 124,gQ a' 125,gQ a' 126,gQ a' 127,gQ a' 128,gQ a' 129,gQ a' 130,gQ a' 131,gQ a' 132,gQ a' 133,gQ a' 134,gQ a' 135,gQ a' 136,gQ a' 137,gQ a' 138,gQ a' 139,gQ a' 140,gQ a' 141,gQ a' 142,gQ a' 143,gQ a' 144,gQ a' 145,gQ a' 146,gQ a' 147,gQ a' 148,gQ a' 149,gQ a' 150,gQ a' 151,gQ a' 152,gQ a' 153,gQ a' 154,gQ a' 155,gQ a' 156,gQ a' 157,gQ a' 158,gQ a' 159,gQ a' 160,gQ a' 161,gQ a' 162,gQ a' 163,gQ a' 164,gQ a' 165,gQ a' 166,gQ a' 167,gQ a' 168,gQ a' 169,gQ a' 170,gQ a' 171,gQ a' 172,gQ a' 173,gQ a' 174,gQ a' 175,gQ a' 176,gQ a' 177,gQ a' 178,gQ a' 179,gQ a' 180,gQ a' 181,gQ a' 182,gQ a' 183,gQ a' 184,gQ a' 185,gQ a' 186,gQ a' 187,gQ a' 188,gQ a' 189,gQ a' 190,gQ a' 191,gQ a' 192,gQ a' 193,gQ a' 194],defers := [] } ∧ Upe (evs N) ∧ NowI w0 X T N (B + hsz Hs) ∧ goChg (evs N0) (chv Hs) = some (evs N) ∧ Own w0 wc (Row 60 2 (.slice a N.length c) N.length (cat EnE.cs N) :: (X ++ T))) → J a' wc)) (HR : Hid (∀ a' wc,(a' = { tmps := #[gQ a' 0,gQ a' 1,gQ a' 2,gQ a' 3,.slice none 0 0,.int .i64 4,gQ a' 6,gQ a' 7,gQ a' 8,gQ a' 9,gQ a' 10,gQ a' 11,gQ a' 12,gQ a' 13,gQ a' 14,gQ a' 15,gQ a' 16,gQ a' 17,gQ a' 18,gQ a' 19,gQ a' 20,gQ a' 21,gQ a' 22,gQ a' 23,gQ a' 24,gQ a' 25,gQ a' 26,gQ a' 27,gQ a' 28,gQ a' 29,gQ a' 30,gQ a' 31,gQ a' 32,gQ a' 33,gQ a' 34,gQ a' 35,gQ a' 36,gQ a' 37,gQ a' 38,gQ a' 39,gQ a' 40,gQ a' 41,gQ a' 42,gQ a' 43,gQ a' 44,gQ a' 45,gQ a' 46,gQ a' 47,gQ a' 48,gQ a' 49,gQ a' 50,gQ a' 51,gQ a' 52,gQ a' 53,gQ a' 54,gQ a' 55,gQ a' 56,gQ a' 57,gQ a' 58,gQ a' 59,gQ a' 60,gQ a' 61,gQ a' 62,gQ a' 63,gQ a' 64,gQ a' 65,gQ a' 66,gQ a' 67,gQ a' 68,gQ a' 69,gQ a' 70,gQ a' 71,gQ a' 72,gQ a' 73,gQ a' 74,gQ a' 75,gQ a' 76,gQ a' 77,gQ a' 78,gQ a' 79,gQ a' 80,gQ a' 81,gQ a' 82,gQ a' 83,gQ a' 84,gQ a' 85,gQ a' 86,gQ a' 87,gQ a' 88,gQ a' 89,gQ a' 90,gQ a' 91,gQ a' 92,gQ a' 93,gQ a' 94,gQ a' 95,gQ a' 96,gQ a' 97,gQ a' 98,gQ a' 99,gQ a' 100,gQ a' 101,gQ a' 102,gQ a' 103,gQ a' 104,gQ a' 105,gQ a' 106,gQ a' 107,gQ a' 108,gQ a' 109,gQ a' 110,gQ a' 111,gQ a' 112,gQ a' 113,gQ a' 114,gQ a' 115,gQ a' 116,gQ a' 117,gQ a' 118,gQ a' 119,gQ a' 120,gQ a' 121,gQ a' 122,gQ a' 123,gQ a' 124,gQ a' 125,gQ a' 126,gQ a' 127,gQ a' 128,gQ a' 129,gQ a' 130,gQ a' 131,gQ a' 132,gQ a' 133,gQ a' 134,gQ a' 135,gQ a' 136,gQ a' 137,gQ a' 138,gQ a' 139,gQ a' 140,gQ a' 141,gQ a' 142,gQ a' 143,gQ a' 144,gQ a' 145,gQ a' 146,gQ a' 147,gQ a' 148,gQ a' 149,gQ a' 150,gQ a' 151,gQ a' 152,gQ a' 153,gQ a' 154,gQ a' 155,gQ a' 156,gQ a' 157,gQ a' 158,gQ a' 159,gQ a' 160,gQ a' 161,gQ a' 162,gQ a' 163,gQ a' 164,gQ a' 165,gQ a' 166,gQ a' 167,gQ a' 168,gQ a' 169,gQ a' 170,gQ a' 171,gQ a' 172,gQ a' 173,gQ a' 174,gQ a' 175,gQ a' 176,gQ a' 177,gQ a' 178,gQ a' 179,gQ a' 180,gQ a' 181,gQ a' 182,gQ a' 183,gQ a' 184,gQ a' 185,gQ a' 186,gQ a' 187,gQ a' 188,gQ a' 189,gQ a' 190,gQ a' 191,gQ a' 192,gQ a' 193,gQ a' 194],defers := [] } ∧ goChg (evs N0) (chv Hs) = none ∧ Own w0 wc T) → Q' .ret a' wc)) (hK' : ∀ a' w',Met J a' w' → K' a' w') (a' : Act) (hact : a' = { tmps := #[.slice aw nw cw,gQ a' 1,gQ a' 2,.pointer (some ⟨b3,0,none⟩),gQ a' 4,gQ a' 5,gQ a' 6,.slice a0 N0.length c0,gQ a' 8,gQ a' 9,gQ a' 10,gQ a' 11,gQ a' 12,gQ a' 13,gQ a' 14,gQ a' 15,gQ a' 16,gQ a' 17,gQ a' 18,gQ a' 19,gQ a' 20,gQ a' 21,gQ a' 22,gQ a' 23,gQ a' 24,gQ a' 25,gQ a' 26,gQ a' 27,gQ a' 28,gQ a' 29,gQ a' 30,gQ a' 31,gQ a' 32,gQ a' 33,gQ a' 34,gQ a' 35,gQ a' 36,gQ a' 37,gQ a' 38,gQ a' 39,gQ a' 40,gQ a' 41,gQ a' 42,gQ a' 43,gQ a' 44,gQ a' 45,gQ a' 46,gQ a' 47,gQ a' 48,gQ a' 49,gQ a' 50,gQ a' 51,gQ a' 52,gQ a' 53,gQ a' 54,gQ a' 55,gQ a' 56,gQ a' 57,gQ a' 58,.slice ha hl hc,.int .i64 (hl : Int),.int .i64 0,gQ a' 62,gQ a' 63,gQ a' 64,gQ a' 65,gQ a' 66,gQ a' 67,gQ a' 68,gQ a' 69,gQ a' 70,gQ a' 71,gQ a' 72,gQ a' 73,gQ a' 74,gQ a' 75,gQ a' 76,gQ a' 77,gQ a' 78,gQ a' 79,gQ a' 80,gQ a' 81,gQ a' 82,gQ a' 83,gQ a' 84,gQ a' 85,gQ a' 86,gQ a' 87,gQ a' 88,gQ a' 89,gQ a' 90,gQ a' 91,gQ a' 92,gQ a' 93,gQ a' 94,gQ a' 95,gQ a' 96,gQ a' 97,gQ a' 98,gQ a' 99,gQ a' 100,gQ a' 101,gQ a' 102,gQ a' 103,gQ a' 104,gQ a' 105,gQ a' 106,gQ a' 107,gQ a' 108,gQ a' 109,gQ a' 110,gQ a' 111,gQ a' 112,gQ a' 113,gQ a' 114,gQ a' 115,gQ a' 116,gQ a' 117,gQ a' 118,gQ a' 119,gQ a' 120,gQ a' 121,gQ a' 122,gQ a' 123,gQ a' 124,gQ a' 125,gQ a' 126,gQ a' 127,gQ a' 128,gQ a' 129,gQ a' 130,gQ a' 131,gQ a' 132,gQ a' 133,gQ a' 134,gQ a' 135,gQ a' 136,gQ a' 137,gQ a' 138,gQ a' 139,gQ a' 140,gQ a' 141,gQ a' 142,gQ a' 143,gQ a' 144,gQ a' 145,gQ a' 146,gQ a' 147,gQ a' 148,gQ a' 149,gQ a' 150,gQ a' 151,gQ a' 152,gQ a' 153,gQ a' 154,gQ a' 155,gQ a' 156,gQ a' 157,gQ a' 158,gQ a' 159,gQ a' 160,gQ a' 161,gQ a' 162,gQ a' 163,gQ a' 164,gQ a' 165,gQ a' 166,gQ a' 167,gQ a' 168,gQ a' 169,gQ a' 170,gQ a' 171,gQ a' 172,gQ a' 173,gQ a' 174,gQ a' 175,gQ a' 176,gQ a' 177,gQ a' 178,gQ a' 179,gQ a' 180,gQ a' 181,gQ a' 182,gQ a' 183,gQ a' 184,gQ a' 185,gQ a' 186,gQ a' 187,gQ a' 188,gQ a' 189,gQ a' 190,gQ a' 191,gQ a' 192,gQ a' 193,gQ a' 194],defers := [] }) : (csnd (cfst (csnd (csnd (csnd (csnd ((Tryz.f55.body).getD .skip))))))).wp Tryz.prog (Exit.then K' Q') a' W := by
 obtain ⟨u,hu⟩ : ∃ u : Nat → Value,∀ k,gQ a' k = u k := ⟨_,fun _ => rfl⟩
 simp only [hu] at hact
 clear hu
 subst hact
 refine wp_qP ?_
 dsimp only [cfst,csnd,cinn,Tryz.f55,Option.getD]
 go_wp2
 refine wp_loop (fun a' wr => ∃ (j : Nat) (N : List EnE) (X : List Thing) (a : Option Addr) (c : Nat),a' = { tmps := #[.slice aw nw cw,gQ a' 1,gQ a' 2,.pointer (some ⟨b3,0,none⟩),gQ a' 4,gQ a' 5,gQ a' 6,.slice a N.length c,gQ a' 8,gQ a' 9,gQ a' 10,gQ a' 11,gQ a' 12,gQ a' 13,gQ a' 14,gQ a' 15,gQ a' 16,gQ a' 17,gQ a' 18,gQ a' 19,gQ a' 20,gQ a' 21,gQ a' 22,gQ a' 23,gQ a' 24,gQ a' 25,gQ a' 26,gQ a' 27,gQ a' 28,gQ a' 29,gQ a' 30,gQ a' 31,gQ a' 32,gQ a' 33,gQ a' 34,gQ a' 35,gQ a' 36,gQ a' 37,gQ a' 38,gQ a' 39,gQ a' 40,gQ a' 41,gQ a' 42,gQ a' 43,gQ a' 44,gQ a' 45,gQ a' 46,gQ a' 47,gQ a' 48,gQ a' 49,gQ a' 50,gQ a' 51,gQ a' 52,gQ a' 53,gQ a' 54,gQ a' 55,gQ a' 56,gQ a' 57,gQ a' 58,.slice ha hl hc,.int .i64 (hl : Int),.int .i64 (j : Int),gQ a' 62,gQ a' 63,gQ a' 64,gQ a' 65,gQ a' 66,gQ a' 67,gQ a' 68,gQ a' 69,gQ a' 70,gQ a' 71,gQ a' 72,gQ a' 73,gQ a' 74,gQ a' 75,gQ a' 76,gQ a' 77,gQ a' 78,gQ a' 79,gQ a' 80,gQ a' 81,gQ a' 82,gQ a' 83,gQ a' 84,gQ a' 85,gQ a' 86,gQ a' 87,gQ a' 88,gQ a' 89,gQ a' 90,gQ a' 91,gQ a' 92,gQ a' 93,gQ a' 94,gQ a' 95,gQ a' 96,gQ a' 97,gQ a' 98,gQ a' 99,gQ a' 100,gQ a' 101,gQ a' 102,gQ a' 103,gQ a' 104,gQ a' 105,gQ a' 106,gQ a' 107,gQ a' 108,gQ a' 109,gQ a' 110,gQ a' 111,gQ a' 112,gQ a' 113,gQ a' 114,gQ a' 115,gQ a' 116,gQ a' 117,gQ a' 118,gQ a' 119,gQ a' 120,gQ a' 121,gQ a' 122,gQ a' 123,gQ a' 124,gQ a' 125,gQ a' 126,gQ a' 127,gQ a' 128,gQ a' 129,gQ a' 130,gQ a' 131,gQ a' 132,gQ a' 133,gQ a' 134,gQ a' 135,gQ a' 136,gQ a' 137,gQ a' 138,gQ a' 139,gQ a' 140,gQ a' 141,gQ a' 142,gQ a' 143,gQ a' 144,gQ a' 145,gQ a' 146,gQ a' 147,gQ a' 148,gQ a' 149,gQ a' 150,gQ a' 151,gQ a' 152,gQ a' 153,gQ a' 154,gQ a' 155,gQ a' 156,gQ a' 157,gQ a' 158,gQ a' 159,gQ a' 160,gQ a' 161,gQ a' 162,gQ a' 163,gQ a' 164,gQ a' 165,gQ a' 166,gQ a' 167,gQ a' 168,gQ a' 169,gQ a' 170,gQ a' 171,gQ a' 172,gQ a' 173,gQ a' 174,gQ a' 175,gQ a' 176,gQ a' 177,gQ a' 178,gQ a' 179,gQ a' 180,gQ a' 181,gQ a' 182,gQ a' 183,gQ a' 184,gQ a' 185,gQ a' 186,gQ a' 187,gQ a' 188,gQ a' 189,gQ a' 190,gQ a' 191,gQ a' 192,gQ a' 193,gQ a' 194],defers := [] } ∧ j ≤ hl ∧ Upe (evs N) ∧ (∀ x ∈ N,Ups x.C) ∧ NowI w0 X T N (B + hsz (Hs.take j)) ∧ goChg (evs N) ((chv Hs).drop j) = goChg (evs N0) (chv Hs) ∧ Own w0 wr (Row 60 2 (.slice a N.length c) N.length (cat EnE.cs N) :: (X ++ T))) (fun a' _ => hl - (intOf (a'.tmps.getD 61 undef)).toNat) ?_ ?_
 ·exact ⟨0,N0,X0,a0,c0,rfl,Nat.zero_le _,HN.out.1,HN.out.2.1,HN.out.2.2,by rw [List.drop_zero],H.out⟩
 ·intro a' wr hI
  obtain ⟨j,N,X,a,c,hact,hj,hU,hUp,hNI,hgo,hO⟩ := hI
  obtain ⟨u2,hu⟩ : ∃ u2 : Nat → Value,∀ k,gQ a' k = u2 k := ⟨_,fun _ => rfl⟩
  simp only [hu] at hact
  clear hu
  subst hact
  have HU : Hid (Upe (evs N) ∧ (∀ x ∈ N,Ups x.C) ∧ NowI w0 X T N (B + hsz (Hs.take j)) ∧ goChg (evs N) ((chv Hs).drop j) = goChg (evs N0) (chv Hs)) := ⟨hU,hUp,hNI,hgo⟩
  have hst := hsz_take_le Hs j
  have hnl : N.length ≤ 40000 := by have := hNI.sz; unfold esz at this; omega
  by_cases hlt : j < hl
  ·obtain ⟨x,hx⟩ : ∃ x,Hs[j]? = some x := ⟨_,List.getElem?_eq_getElem (by rw [HG.out.1]; exact hlt)⟩
   obtain ⟨g,o,hga,⟨y0,y1,y2,y3⟩,-,-⟩ := (HD.out wr hO.tail.dropA).at hx
   have hlt' : (j : Int) < (hl : Int) := by omega
   obtain ⟨hxl,hxk1,hxk2⟩ := HG.out.2 x (List.mem_of_getElem? hx)
   have hA := hO.allocC x.cs.toArray 112
   have HFI : Hid (Calls _ _ _ _ _) := rfindE_any _ a N.length c N (hNI.ents hA.tail) rfl (by omega) x.id
   have HX : Hid (Hs[j]? = some x ∧ (∀ q ∈ x.N,q.k < 256) ∧ (∀ q ∈ x.S,q.k < 256)) := ⟨hx,hxk1,hxk2⟩
   have HXH : Hid (∀ w',Own w0 w' (X ++ T) → Cs w' x.na x.N ∧ Cs w' x.sa x.S) := fun w' hw => (HD.out w' hw.dropA).2 x (List.mem_of_getElem? hx)
   have hxz := hsz_take hx
   have hst2 := hsz_take_le Hs (j + 1)
   have HSZ : Hid (hsz (Hs.take (j + 1)) = hsz (Hs.take j) + (x.N.length + x.S.length)) := hxz
   have hxn : x.N.length ≤ 40000 := by omega
   have hxs : x.S.length ≤ 40000 := by omega
   have HZB : Hid (B + hsz (Hs.take j) + (x.N.length + x.S.length) ≤ 40000) := by show _ ≤ _; omega
   have HGA : Hid (ha = some ⟨g,o,none⟩) := hga
   have HO : Hid (Own w0 _ _) := hA
   have q0 := hA.cell 0
   have q1 := hA.cell 1
   have q2 := hA.cell 2
   have q3 := hA.cell 3
   unfold ChE.cs at hA HO HFI q0 q1 q2 q3
   simp only [List.getElem?_toArray,List.getElem?_cons_zero,List.getElem?_cons_succ] at q0 q1 q2 q3
   obtain ⟨xi,xl,xN,xna,xnc,xS,xsa,xsc⟩ := x
   simp only at y0 y1 y2 y3 q0 q1 q2 q3 HFI HXH hxl hxn hxs HZB HSZ
   obtain ⟨n,hn⟩ : ∃ n,n = N.length := ⟨_,rfl⟩
   have HNL : Hid (N.length = n) := hn.symm
   obtain ⟨nl,hnl2⟩ : ∃ nl,nl = xN.length := ⟨_,rfl⟩
   obtain ⟨sl,hsl2⟩ : ∃ sl,sl = xS.length := ⟨_,rfl⟩
   have HNS : Hid (xN.length = nl ∧ xS.length = sl) := ⟨hnl2.symm,hsl2.symm⟩
   simp only [← hn,← hnl2,← hsl2] at hnl HFI HO y0 y1 y2 y3 q0 q1 q2 q3 hxn hxs HZB HSZ ⊢
   rw [hga]
   clear hga hx hU hUp hNI hgo hO hA hn hnl2 hsl2 H HN hxk1 hxk2 hxz hst hst2
   go_wp2_with fail
   refine HFI.out.mono ?_
   rintro e w2 ⟨r,rfl,hfr,hf⟩
   have hO2 := HO.out.quiet hf
   clear HFI hf HO y0 y1 y2 y3 q0 q1 q2 q3
   generalize wr.heap.size = b12 at *
   have HCX : Hid ((chv Hs)[j]? = some ⟨xi,xl,xN,xS⟩) := chv_at HX.out.1
   by_cases hr : r < 0
   ·have HBAD : Hid (goChg (evs N0) (chv Hs) = none) := by show _ = _; rw [← HU.out.2.2.2]; exact goChg_bad HCX.out (chgE_no (find_no hfr hr))
    have HO2 : Hid (Own w0 w2 T) := hO2.tail.tail.dropA
    clear hfr hO2
    go_wp2
    exact HR.out _ _ ⟨rfl,HBAD.out,HO2.out⟩
   ·obtain ⟨i,y,rfl,hy,hyi,hfe⟩ := find_is HU.out.1 hfr hr
    have hin : i < n := by have := (List.getElem?_eq_some_iff.1 hy).1; rw [HNL.out] at this; exact this
    obtain ⟨gr,hgr,hcap1,hcap2⟩ : ∃ gr,a = some ⟨gr,0,none⟩ ∧ n ≤ c ∧ c ≤ maxLen := by
     obtain ⟨gr,cp,hv,_⟩ := row_shape hO2.two.row (by omega)
     obtain ⟨rfl,_,rfl⟩ := Value.slice.inj hv
     exact ⟨gr,rfl,(row_cap hO2.two.row).2⟩
    subst hgr
    have hin' : (i : Int) < (n : Int) := by omega
    have HY : Hid (N[i]? = some y ∧ y.id = xi ∧ fstE (evs N) xi = some (y.id,y.C)) := ⟨hy,hyi,hfe⟩
    have hyat := HU.out.2.2.1.at HNL.out (Y := []) hO2.tail hy
    have HYA : Hid (∀ w' Y,Own w0 w' (Row 60 2 (.slice (some ⟨gr,0,none⟩) n c) n (cat EnE.cs N) :: (Y ++ (X ++ T))) → w'.cell? ⟨gr,i * 2 + 1,none⟩ = some (.slice y.ao y.C.length y.cap) ∧ Cs w' y.ao y.C) := fun w' Y hw => (HU.out.2.2.1.at HNL.out hw hy).2
    have r1 := hyat.2.1
    have HYC : Hid ((∀ q ∈ y.C,q.k < 256) ∧ Ups y.C ∧ ∀ w',Own w0 w' (X ++ T) → Cs w' y.ao y.C) := ⟨(HU.out.2.2.1.inn y (List.mem_of_getElem? hy)).2,HU.out.2.1 y (List.mem_of_getElem? hy),fun w' hw => HU.out.2.2.1.cs w' hw y (List.mem_of_getElem? hy)⟩
    have hyz : y.C.length ≤ B + hsz (Hs.take j) := by have h1 := csz_mem (List.mem_of_getElem? hy); have h2 := HU.out.2.2.1.sz; unfold esz at h2; omega
    have hyz2 : y.C.length + (nl + sl) ≤ 40000 := by have := HZB.out; omega
    have HO2 : Hid (Own w0 w2 _) := hO2
    obtain ⟨yl,hyl⟩ : ∃ yl,yl = y.C.length := ⟨_,rfl⟩
    have HYL : Hid (y.C.length = yl) := hyl.symm
    rw [← hyl] at r1 hyz2 HYA
    clear hfr hy hyi hfe hO2 hyat hyl hyz
    go_upto_block 4 with fail
    rename_i KK1 hKK1
    refine gp_drop w0 w2 (X ++ T) [] (Row 60 2 (.slice (some ⟨gr,0,none⟩) n c) n (cat EnE.cs N)) (.slice aw nw cw) (.pointer (some ⟨b3,0,none⟩)) (.slice (some ⟨gr,0,none⟩) n c) (.int .i64 (i : Int)) (.slice (some ⟨g,o,none⟩) hl hc) (.int .i64 (hl : Int)) (.int .i64 (j : Int)) b12 #[.int .u32 (xi : Int),.int .u8 (xl : Int),.slice xna nl xnc,.slice xsa sl xsc] xl hxl rfl y.ao y.cap yl y.C (by omega) ⟨HYL.out,HYC.out.2.2,HYC.out.1⟩ HO2.out KK1 KK1 _ ?hm1 ?hr1 (fun _ _ h => h) _ ?ha1
    case ha1 => rfl
    case hr1 =>
     refine fun a' wc h => HR.out a' wc ⟨h.1,?_,h.2.2.dropA⟩
     rw [← HU.out.2.2.2]
     exact goChg_bad HCX.out (chgE_bad HY.out.2.2 (chgC_1 h.2.1))
    case hm1 =>
     intro a' w3 hm
     obtain ⟨Y1,al1,cl1,L1,hact,hdk,hlen1,hk1,hcs1,hO3⟩ := hm
     obtain ⟨u3,hu⟩ : ∃ u3 : Nat → Value,∀ k,gQ a' k = u3 k := ⟨_,fun _ => rfl⟩
     simp only [hu] at hact
     clear hu
     subst hact
     have HDK : Hid (dropK xl (List.range 8) y.C = some L1) := hdk
     have HO3 : Hid (Own w0 w3 _) := hO3
     have p2 := hO3.cell 2
     simp only [List.getElem?_toArray,List.getElem?_cons_zero,List.getElem?_cons_succ] at p2
     have HC1 : Hid (L1.length = L1.length ∧ (∀ w',Own w0 w' (Y1 ++ (X ++ T)) → Cs w' al1 L1) ∧ ∀ q ∈ L1,q.k < 256) := ⟨rfl,hcs1,hk1⟩
     clear hdk hO3 hcs1 hk1 HO2 r1
     go_upto_block 6 with fail
     rename_i KK2 hKK2
     refine gp_new w0 w3 (X ++ T) Y1 (Row 60 2 (.slice (some ⟨gr,0,none⟩) n c) n (cat EnE.cs N)) (.slice aw nw cw) (.pointer (some ⟨b3,0,none⟩)) (.slice (some ⟨g,o,none⟩) hl hc) (.int .i64 (hl : Int)) (.int .i64 (j : Int)) b12 #[.int .u32 (xi : Int),.int .u8 (xl : Int),.slice xna nl xnc,.slice xsa sl xsc] i n c gr nl xnc yl y.cap xN y.C xna y.ao hin (by omega) (by omega) ⟨HNS.out.1,fun w' hw => (HXH.out w' hw).1,HX.out.2.1⟩ ⟨HYA.out,HYC.out.1,HYL.out,HYC.out.2.1,trivial⟩ al1 cl1 L1.length L1 (by omega) HC1 HO3.out KK2 KK2 _ ?hm2 ?hr2 (fun _ _ h => h) _ ?ha2
     case ha2 => rfl
     case hr2 =>
      refine fun a' wc h => HR.out a' wc ⟨h.1,?_,h.2.2.dropA⟩
      rw [← HU.out.2.2.2]
      exact goChg_bad HCX.out (chgE_bad HY.out.2.2 (chgC_2 HDK.out h.2.1))
     case hm2 =>
      intro a' w4 hm
      obtain ⟨Y2,al2,cl2,L2,hact,hpn,hlen2,hk2,hcs2,hO4⟩ := hm
      obtain ⟨u4,hu⟩ : ∃ u4 : Nat → Value,∀ k,gQ a' k = u4 k := ⟨_,fun _ => rfl⟩
      simp only [hu] at hact
      clear hu
      subst hact
      have HPN : Hid (chgC y.C ⟨xi,xl,xN,xS⟩ = putSet L2 xS) := chgC_3 HDK.out hpn
      have HO4 : Hid (Own w0 w4 _) := hO4
      have p3 := hO4.cell 3
      simp only [List.getElem?_toArray,List.getElem?_cons_zero,List.getElem?_cons_succ] at p3
      have HUL2 : Hid (Ups L2) := putNew_up y.C xN L1 (dropK_up xl _ y.C HYC.out.2.1 HDK.out) hpn
      have HC2 : Hid (L2.length = L2.length ∧ (∀ w',Own w0 w' (Y2 ++ (X ++ T)) → Cs w' al2 L2) ∧ ∀ q ∈ L2,q.k < 256) := ⟨rfl,hcs2,hk2⟩
      clear hpn hO4 hcs2 hk2 HO3 p2 HDK
      go_upto_block 8 with fail
      rename_i KK3 hKK3
      refine gp_set w0 w4 (X ++ T) Y2 (Row 60 2 (.slice (some ⟨gr,0,none⟩) n c) n (cat EnE.cs N)) (.slice aw nw cw) (.pointer (some ⟨b3,0,none⟩)) (.slice (some ⟨gr,0,none⟩) n c) (.int .i64 (i : Int)) (.slice (some ⟨g,o,none⟩) hl hc) (.int .i64 (hl : Int)) (.int .i64 (j : Int)) b12 #[.int .u32 (xi : Int),.int .u8 (xl : Int),.slice xna nl xnc,.slice xsa sl xsc] sl xsc xS xsa (by omega) ⟨HNS.out.2,fun w' hw => (HXH.out w' hw).2,HX.out.2.2⟩ al2 cl2 L2.length L2 (by omega) HC2 HO4.out KK3 KK3 _ ?hm3 ?hr3 (fun _ _ h => h) _ ?ha3
      case ha3 => rfl
      case hr3 =>
       refine fun a' wc h => HR.out a' wc ⟨h.1,?_,h.2.2.dropA⟩
       rw [← HU.out.2.2.2]
       exact goChg_bad HCX.out (chgE_bad HY.out.2.2 (HPN.out.trans h.2.1))
      case hm3 =>
       intro a' w5 hm
       obtain ⟨Y3,al3,cl3,L3,hact,hps,hlen3,hk3,hcs3,hO5⟩ := hm
       obtain ⟨u5,hu⟩ : ∃ u5 : Nat → Value,∀ k,gQ a' k = u5 k := ⟨_,fun _ => rfl⟩
       simp only [hu] at hact
       clear hu
       subst hact
       have HCE : Hid (chgE (evs N) ⟨xi,xl,xN,xS⟩ = some (setE (evs N) xi L3)) := chgE_is HY.out.2.2 (HPN.out.trans hps)
       have HUL3 : Hid (Ups L3) := putSet_up xS L2 HUL2.out hps
       have hO6 := Own.lift (l := Cells b12 #[.int .u32 (xi : Int),.int .u8 (xl : Int),.slice xna nl xnc,.slice xsa sl xsc] 112 :: Y3) hO5
       have f1 := hO6.row.frozenAt (i * 2 + 1)
       have f2 := (HYA.out w5 _ hO6).1
       have HO7 : Hid (Own w0 _ _) := hO6.setR (i * 2 + 1) (.slice al3 L3.length cl3)
       have HC3 : Hid (∀ w',Own w0 w' (Y3 ++ (X ++ T)) → Cs w' al3 L3) := hcs3
       have HK3 : Hid (∀ q ∈ L3,q.k < 256) := hk3
       clear hps hO5 hO6 hcs3 hk3 HO4 p3 HPN
       go_wp2
       have en : (N.set i ⟨y.id,al3,cl3,L3⟩).length = n := by rw [List.length_set,HNL.out]
       refine ⟨⟨j + 1,N.set i ⟨y.id,al3,cl3,L3⟩,(Cells b12 #[.int .u32 (xi : Int),.int .u8 (xl : Int),.slice xna nl xnc,.slice xsa sl xsc] 112 :: Y3) ++ X,_,c,⟨⟨rfl,en.symm,rfl⟩,by go_num⟩,by omega,?_,?_,?_,?_,?_⟩,by simp [intOf]; omega⟩
       ·have h := setE_at HU.out.1 HY.out.1 ⟨y.id,al3,cl3,L3⟩ rfl
        rw [← h]
        exact setE_up HU.out.1 _ _
       ·intro q hq
        rcases List.mem_or_eq_of_mem_set hq with hq | rfl
        ·exact HU.out.2.1 q hq
        ·exact HUL3.out
       ·rw [HSZ.out,← Nat.add_assoc]
        exact HU.out.2.2.1.set HY.out.1 (Cells b12 #[.int .u32 (xi : Int),.int .u8 (xl : Int),.slice xna nl xnc,.slice xsa sl xsc] 112 :: Y3) ⟨y.id,al3,cl3,L3⟩ rfl HK3.out (nl + sl) (by show L3.length ≤ _; have := HYL.out; omega) (fun w' hw => HC3.out w' hw.tail)
       ·have h := setE_at HU.out.1 HY.out.1 ⟨y.id,al3,cl3,L3⟩ rfl
        rw [← HU.out.2.2.2,goChg_is HCX.out HCE.out,← h,HY.out.2.1]
       ·have h := HO7.out
        have hc := cat_set1 HY.out.1 ⟨y.id,al3,cl3,L3⟩ rfl
        simp only at hc
        rw [hc] at h
        rw [en,List.append_assoc]
        exact h
  ·have hjn : j = hl := by omega
   subst hjn
   have hlt' : ¬ (j : Int) < (j : Int) := by omega
   have HF : Hid (goChg (evs N0) (chv Hs) = some (evs N)) := by show _ = _; rw [← hgo,goChg_end (by rw [chv_len,HG.out.1]; exact Nat.le_refl _)]
   have HO : Hid (Own w0 wr _) := hO
   have HNW : Hid (NowI w0 X T N (B + hsz Hs)) := by
    have := hNI
    rw [List.take_of_length_le (by rw [HG.out.1]; exact Nat.le_refl _)] at this
    exact this
   clear hO hU hUp hNI hgo
   go_wp2
   exact Met.intro (HJ.out _ _ ⟨N,X,a,c,rfl,HU.out.1,HNW.out,HF.out,HO.out⟩)
end Go.Proofs.YtgifeckbflkkpaaGreatDoor
