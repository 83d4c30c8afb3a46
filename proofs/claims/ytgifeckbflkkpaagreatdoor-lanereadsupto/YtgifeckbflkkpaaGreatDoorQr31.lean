/- The document's Patch: those who are gone. -/
import Derived.Test.YtgifeckbflkkpaaGreatDoorQr23
import Derived.Test.YtgifeckbflkkpaaGreatDoorQr30
import Derived.Test.YtgifeckbflkkpaaGreatDoorQr25
import Derived.Deep.CutBlock
import Derived.Test.YtgifeckbflkkpaaGreatDoorQr14
import Derived.Shelf.SlSortCmp.WholeK
import Derived.Test.YtgifeckbflkkpaaGreatDoorQr15
import Derived.Shelf.SlGeneric
import Derived.Deep.RegionWith
namespace Go.Proofs.YtgifeckbflkkpaaGreatDoor
open Go.ChangeShapes Go.WideShapes Go.ChangeAt Go.RowKit
set_option linter.unusedVariables false
set_option maxHeartbeats 8000000
set_option maxRecDepth 100000
theorem gp_gone (w0 W : World) (T : List Thing) (aw : Option Addr) (nw cw b3 : Nat) (N0 : List EnE) (X : List Thing) (a0 : Option Addr) (c0 gl B : Nat) (G : List Nat) (ga : Option Addr) (gc : Nat) (HD : Hid (∀ w',Own w0 w' T → Nums .u32 w' (.slice ga gl gc) G)) (HG : Hid (G.length = gl)) (hgl : gl ≤ 1000000) (hB : B ≤ 1000000) (HN : Hid (Upe (evs N0) ∧ NowI w0 X T N0 B)) (H : Hid (Own w0 W (Row 60 2 (.slice a0 N0.length c0) N0.length (cat EnE.cs N0) :: (X ++ T)))) (J K' : Act → World → Prop) (Q' : Exit → Act → World → Prop) (HJ : Hid (∀ a' wc,(∃ (N : List EnE) (a : Option Addr) (c : Nat),a' = { tmps := #[.slice aw nw cw,gQ a' 1,gQ a' 2,.pointer (some ⟨b3,0,none⟩),gQ a' 4,gQ a' 5,gQ a' 6,.slice a N.length c,gQ a' 8,gQ a' 9,gQ a' 10,gQ a' 11,gQ a' 12,gQ a' 13,gQ a' 14,gQ a' 15,gQ a' 16,gQ a' 17,gQ a' 18,gQ a' 19,gQ a' 20,gQ a' 21,gQ a' 22,gQ a' 23,gQ a' 24,gQ a' 25,gQ a' 26,gQ a' 27,gQ a' 28,gQ a' 29,gQ a' 30,gQ a' 31,gQ a' 32,gQ a' 33,gQ a' 34,gQ a' 35,gQ a' 36,gQ a' 37,gQ a' 38,gQ a' 39,gQ a' 40,gQ a' 41,gQ a' 42,gQ a' 43,gQ a' 44,gQ a' 45,gQ a' 46,gQ a' 47,gQ a' 48,gQ a' 49,gQ a' 50,gQ a' 51,gQ a' 52,gQ a' 53,gQ a' 54,gQ a' 55,gQ a' 56,gQ a' 57,gQ a' 58,gQ a' 59,gQ a' 60,gQ a' 61,gQ a' 62,gQ a' 63,gQ a' 64,gQ a' 65,gQ a' 66,gQ a' 67,gQ a' 68,gQ a' 69,gQ a' 70,gQ a' 71,gQ a' 72,gQ a' 73,gQ a' 74,gQ a' 75,gQ a' 76,gQ a' 77,gQ a' 78,gQ a' 79,gQ a' 80,gQ a' 81,gQ a' 82,gQ a' 83,gQ a' 84,gQ a' 85,gQ a' 86,gQ a' 87,gQ a' 88,gQ a' 89,gQ a' 90,gQ a' 91,gQ a' 92,gQ a' 93,gQ a' 94,gQ a' 95,gQ a' 96,gQ a' 97,gQ a' 98,gQ a' 99,gQ a' 100,gQ a' 101,gQ a' 102,gQ a' 103,gQ a' 104,gQ a' 105,gQ a' 106,gQ a' 107,gQ a' 108,gQ a' 109,gQ a' 110,gQ a' 111,gQ a' 112,gQ a' 113,gQ a' 114,gQ a' 115,gQ a' 116,gQ a' 117,gQ a' 118,gQ a' 119,gQ a' 120,gQ a' 121,gQ a' 122,gQ a' 123,gQ a' 124,gQ a' 125,gQ a' 126,gQ a' 127,gQ a' 128,gQ a' 129,gQ a' 130,gQ a' 131,gQ a' 132,gQ a' 133,gQ a' 134,gQ a' 135,gQ a' 136,gQ a' 137,gQ a' 138,gQ a' 139,gQ a' 140,gQ a' 141,gQ a' 142,gQ a' 143,gQ a' 144,gQ a' 145,gQ a' 146,gQ a' 147,gQ a' 148,gQ a' 149,gQ a' 150,gQ a' 151,gQ a' 152,gQ a' 153,gQ a' 154,gQ a' 155,gQ a' 156,gQ a' 157,gQ a' 158,gQ a' 159,gQ a' 160,gQ a' 161,gQ a' 162,gQ a' 163,gQ a' 164,gQ a' 165,gQ a' 166,gQ a' 167,gQ a' 168,gQ a' 169,gQ a' 170,gQ a' 171,gQ a' 172,gQ a' 173,gQ a' 174,gQ a' 175,gQ a' 176,gQ a' 177,gQ a' 178,gQ a' 179,gQ a' 180,gQ a' 181,gQ a' 182,gQ a' 183,gQ a' 184,gQ a' 185,gQ a' 186,gQ a' 187,gQ a' 188,gQ a' 189,gQ a' 190,gQ a' 191,gQ a' 192,gQ a' 193,gQ a' 194],defers := [] } ∧ Upe (evs N) ∧ NowI w0 X T N B ∧ goGone (evs N0) G = some (evs N) ∧ Own w0 wc (Row 60 2 (.slice a N.length c) N.length (cat EnE.cs N) :: (X ++ T))) → J a' wc)) (HR : Hid (∀ a' wc,(a' = { tmps := #[.slice aw nw cw,gQ a' 1,gQ a' 2,.pointer (some ⟨b3,0,none⟩),.slice none 0 0,.int .i64 4,gQ a' 6,gQ a' 7,gQ a' 8,gQ a' 9,gQ a' 10,gQ a' 11,gQ a' 12,gQ a' 13,gQ a' 14,gQ a' 15,gQ a' 16,gQ a' 17,gQ a' 18,gQ a' 19,gQ a' 20,gQ a' 21,gQ a' 22,gQ a' 23,gQ a' 24,gQ a' 25,gQ a' 26,gQ a' 27,gQ a' 28,gQ a' 29,gQ a' 30,gQ a' 31,gQ a' 32,gQ a' 33,gQ a' 34,gQ a' 35,gQ a' 36,gQ a' 37,gQ a' 38,gQ a' 39,gQ a' 40,gQ a' 41,gQ a' 42,gQ a' 43,gQ a' 44,gQ a' 45,gQ a' 46,gQ a' 47,gQ a' 48,gQ a' 49,gQ a' 50,gQ a' 51,gQ a' 52,gQ a' 53,gQ a' 54,gQ a' 55,gQ a' 56,gQ a' 57,gQ a' 58,gQ a' 59,gQ a' 60,gQ a' 61,gQ a' 62,gQ a' 63,gQ a' 64,gQ a' 65,gQ a' 66,gQ a' 67,gQ a' 68,gQ a' 69,gQ a' 70,gQ a' 71,gQ a' 72,gQ a' 73,gQ a' 74,gQ a' 75,gQ a' 76,gQ a' 77,gQ a' 78,gQ a' 79,gQ a' 80,gQ a' 81,gQ a' 82,gQ a' 83,gQ a' 84,gQ a' 85,gQ a' 86,gQ a' 87,gQ a' 88,gQ a' 89,gQ a' 90,gQ a' 91,gQ a' 92,gQ a' 93,gQ a' 94,gQ a' 95,gQ a' 96,gQ a' 97,gQ a' 98,gQ a' 99,gQ a' 100,gQ a' 101,gQ a' 102,gQ a' 103,gQ a' 104,gQ a' 105,gQ a' 106,gQ a' 107,gQ a' 108,gQ a' 109,gQ a' 110,gQ a' 111,gQ a' 112,gQ a' 113,gQ a' 114,gQ a' 115,gQ a' 116,gQ a' 117,gQ a' 118,gQ a' 119,gQ a' 120,gQ a' 121,gQ a' 122,gQ a' 123,gQ a' 124,gQ a' 125,gQ a' 126,gQ a' 127,gQ a' 128,gQ a' 129,gQ a' 130,gQ a' 131,gQ a' 132,gQ a' 133,gQ a' 134,gQ a' 135,gQ a' 136,gQ a' 137,gQ a' 138,gQ a' 139,gQ a' 140,gQ a' 141,gQ a' 142,gQ a' 143,gQ a' 144,gQ a' 145,gQ a' 146,gQ a' 147,gQ a' 148,gQ a' 149,gQ a' 150,gQ a' 151,gQ a' 152,gQ a' 153,gQ a' 154,gQ a' 155,gQ a' 156,gQ a' 157,gQ a' 158,gQ a' 159,gQ a' 160,gQ a' 161,gQ a' 162,gQ a' 163,gQ a' 164,gQ a' 165,gQ a' 166,gQ a' 167,gQ a' 168,gQ a' 169,gQ a' 170,gQ a' 171,gQ a' 172,gQ a' 173,gQ a' 174,gQ a' 175,gQ a' 176,gQ a' 177,gQ a' 178,gQ a' 179,gQ a' 180,gQ a' 181,gQ a' 182,gQ a' 183,gQ a' 184,gQ a' 185,gQ a' 186,gQ a' 187,gQ a' 188,gQ a' 189,gQ a' 190,gQ a' 191,gQ a' 192,gQ a' 193,gQ a' 194],defers := [] } ∧ goGone (evs N0) G = none ∧ Own w0 wc T) → Q' .ret a' wc)) (hK' : ∀ a' w',Met J a' w' → K' a' w') (a' : Act) (hact : a' = { tmps := #[.slice aw nw cw,gQ a' 1,gQ a' 2,.pointer (some ⟨b3,0,none⟩),gQ a' 4,gQ a' 5,gQ a' 6,.slice a0 N0.length c0,gQ a' 8,gQ a' 9,gQ a' 10,gQ a' 11,gQ a' 12,gQ a' 13,gQ a' 14,gQ a' 15,gQ a' 16,gQ a' 17,gQ a' 18,gQ a' 19,gQ a' 20,gQ a' 21,gQ a' 22,gQ a' 23,gQ a' 24,gQ a' 25,gQ a' 26,gQ a' 27,gQ a' 28,gQ a' 29,gQ a' 30,gQ a' 31,gQ a' 32,gQ a' 33,gQ a' 34,gQ a' 35,.slice ga gl gc,.int .i64 (gl : Int),.int .i64 0,gQ a' 39,gQ a' 40,gQ a' 41,gQ a' 42,gQ a' 43,gQ a' 44,gQ a' 45,gQ a' 46,gQ a' 47,gQ a' 48,gQ a' 49,gQ a' 50,gQ a' 51,gQ a' 52,gQ a' 53,gQ a' 54,gQ a' 55,gQ a' 56,gQ a' 57,gQ a' 58,gQ a' 59,gQ a' 60,gQ a' 61,gQ a' 62,gQ a' 63,gQ a' 64,gQ a' 65,gQ a' 66,gQ a' 67,gQ a' 68,gQ a' 69,gQ a' 70,gQ a' 71,gQ a' 72,gQ a' 73,gQ a' 74,gQ a' 75,gQ a' 76,gQ a' 77,gQ a' 78,gQ a' 79,gQ a' 80,gQ a' 81,gQ a' 82,gQ a' 83,gQ a' 84,gQ a' 85,gQ a' 86,gQ a' 87,gQ a' 88,gQ a' 89,gQ a' 90,gQ a' 91,gQ a' 92,gQ a' 93,gQ a' 94,gQ a' 95,gQ a' 96,gQ a' 97,gQ a' 98,gQ a' 99,gQ a' 100,gQ a' 101,gQ a' 102,gQ a' 103,gQ a' 104,gQ a' 105,gQ a' 106,gQ a' 107,gQ a' 108,gQ a' 109,gQ a' 110,gQ a' 111,gQ a' 112,gQ a' 113,gQ a' 114,gQ a' 115,gQ a' 116,gQ a' 117,gQ a' 118,gQ a' 119,gQ a' 120,gQ a' 121,gQ a' 122,gQ a' 123,gQ a' 124,gQ a' 125,gQ a' 126,gQ a' 127,gQ a' 128,gQ a' 129,gQ a' 130,gQ a' 131,gQ a' 132,gQ a' 133,gQ a' 134,gQ a' 135,gQ a' 136,gQ a' 137,gQ a' 138,gQ a' 139,gQ a' 140,gQ a' 141,gQ a' 142,gQ a' 143,gQ a' 144,gQ a' 145,gQ a' 146,gQ a' 147,gQ a' 148,gQ a' 149,gQ a' 150,gQ a' 151,gQ a' 152,gQ a' 153,gQ a' 154,gQ a' 155,gQ a' 156,gQ a' 157,gQ a' 158,gQ a' 159,gQ a' 160,gQ a' 161,gQ a' 162,gQ a' 163,gQ a' 164,gQ a' 165,gQ a' 166,gQ a' 167,gQ a' 168,gQ a' 169,gQ a' 170,gQ a' 171,gQ a' 172,gQ a' 173,gQ a' 174,gQ a' 175,gQ a' 176,gQ a' 177,gQ a' 178,gQ a' 179,gQ a' 180,gQ a' 181,gQ a' 182,gQ a' 183,gQ a' 184,gQ a' 185,gQ a' 186,gQ a' 187,gQ a' 188,gQ a' 189,gQ a' 190,gQ a' 191,gQ a' 192,gQ a' 193,gQ a' 194],defers := [] }) : (csnd (cfst (csnd (csnd (csnd ((Tryz.f55.body).getD .skip)))))).wp Tryz.prog (Exit.then K' Q') a' W := by
 obtain ⟨iE,hiE,hE0,hE1,hE2⟩ := info3w Tryz.infoEnt
 obtain ⟨u,hu⟩ : ∃ u : Nat → Value,∀ k,gQ a' k = u k := ⟨_,fun _ => rfl⟩
 simp only [hu] at hact
 clear hu
 subst hact
 refine wp_qP ?_
 dsimp only [cfst,csnd,cinn,Tryz.f55,Option.getD]
 go_wp2
 refine wp_loop (fun a' wr => ∃ (j : Nat) (N : List EnE) (a : Option Addr) (c : Nat),a' = { tmps := #[.slice aw nw cw,gQ a' 1,gQ a' 2,.pointer (some ⟨b3,0,none⟩),gQ a' 4,gQ a' 5,gQ a' 6,.slice a N.length c,gQ a' 8,gQ a' 9,gQ a' 10,gQ a' 11,gQ a' 12,gQ a' 13,gQ a' 14,gQ a' 15,gQ a' 16,gQ a' 17,gQ a' 18,gQ a' 19,gQ a' 20,gQ a' 21,gQ a' 22,gQ a' 23,gQ a' 24,gQ a' 25,gQ a' 26,gQ a' 27,gQ a' 28,gQ a' 29,gQ a' 30,gQ a' 31,gQ a' 32,gQ a' 33,gQ a' 34,gQ a' 35,.slice ga gl gc,.int .i64 (gl : Int),.int .i64 (j : Int),gQ a' 39,gQ a' 40,gQ a' 41,gQ a' 42,gQ a' 43,gQ a' 44,gQ a' 45,gQ a' 46,gQ a' 47,gQ a' 48,gQ a' 49,gQ a' 50,gQ a' 51,gQ a' 52,gQ a' 53,gQ a' 54,gQ a' 55,gQ a' 56,gQ a' 57,gQ a' 58,gQ a' 59,gQ a' 60,gQ a' 61,gQ a' 62,gQ a' 63,gQ a' 64,gQ a' 65,gQ a' 66,gQ a' 67,gQ a' 68,gQ a' 69,gQ a' 70,gQ a' 71,gQ a' 72,gQ a' 73,gQ a' 74,gQ a' 75,gQ a' 76,gQ a' 77,gQ a' 78,gQ a' 79,gQ a' 80,gQ a' 81,gQ a' 82,gQ a' 83,gQ a' 84,gQ a' 85,gQ a' 86,gQ a' 87,gQ a' 88,gQ a' 89,gQ a' 90,gQ a' 91,gQ a' 92,gQ a' 93,gQ a' 94,gQ a' 95,gQ a' 96,gQ a' 97,gQ a' 98,gQ a' 99,gQ a' 100,gQ a' 101,gQ a' 102,gQ a' 103,gQ a' 104,gQ a' 105,gQ a' 106,gQ a' 107,gQ a' 108,gQ a' 109,gQ a' 110,gQ a' 111,gQ a' 112,gQ a' 113,gQ a' 114,gQ a' 115,gQ a' 116,gQ a' 117,gQ a' 118,gQ a' 119,gQ a' 120,gQ a' 121,gQ a' 122,gQ a' 123,gQ a' 124,gQ a' 125,gQ a' 126,gQ a' 127,gQ a' 128,gQ a' 129,gQ a' 130,gQ a' 131,gQ a' 132,gQ a' 133,gQ a' 134,gQ a' 135,gQ a' 136,gQ a' 137,gQ a' 138,gQ a' 139,gQ a' 140,gQ a' 141,gQ a' 142,gQ a' 143,gQ a' 144,gQ a' 145,gQ a' 146,gQ a' 147,gQ a' 148,gQ a' 149,gQ a' 150,gQ a' 151,gQ a' 152,gQ a' 153,gQ a' 154,gQ a' 155,gQ a' 156,gQ a' 157,gQ a' 158,gQ a' 159,gQ a' 160,gQ a' 161,gQ a' 162,gQ a' 163,gQ a' 164,gQ a' 165,gQ a' 166,gQ a' 167,gQ a' 168,gQ a' 169,gQ a' 170,gQ a' 171,gQ a' 172,gQ a' 173,gQ a' 174,gQ a' 175,gQ a' 176,gQ a' 177,gQ a' 178,gQ a' 179,gQ a' 180,gQ a' 181,gQ a' 182,gQ a' 183,gQ a' 184,gQ a' 185,gQ a' 186,gQ a' 187,gQ a' 188,gQ a' 189,gQ a' 190,gQ a' 191,gQ a' 192,gQ a' 193,gQ a' 194],defers := [] } ∧ j ≤ gl ∧ Upe (evs N) ∧ NowI w0 X T N B ∧ goGone (evs N) (G.drop j) = goGone (evs N0) G ∧ Own w0 wr (Row 60 2 (.slice a N.length c) N.length (cat EnE.cs N) :: (X ++ T))) (fun a' _ => gl - (intOf (a'.tmps.getD 38 undef)).toNat) ?_ ?_
 ·exact ⟨0,N0,a0,c0,rfl,Nat.zero_le _,HN.out.1,HN.out.2,by rw [List.drop_zero],H.out⟩
 ·intro a' wr hI
  obtain ⟨j,N,a,c,hact,hj,hU,hNI,hgo,hO⟩ := hI
  obtain ⟨u2,hu⟩ : ∃ u2 : Nat → Value,∀ k,gQ a' k = u2 k := ⟨_,fun _ => rfl⟩
  simp only [hu] at hact
  clear hu
  subst hact
  have HU : Hid (Upe (evs N) ∧ NowI w0 X T N B ∧ goGone (evs N) (G.drop j) = goGone (evs N0) G) := ⟨hU,hNI,hgo⟩
  have hnl : N.length ≤ 1000000 := by have := hNI.sz; unfold esz at this; omega
  by_cases hlt : j < gl
  ·obtain ⟨x,hx⟩ : ∃ x,G[j]? = some x := ⟨_,List.getElem?_eq_getElem (by rw [HG.out]; exact hlt)⟩
   obtain ⟨g,o,hga,hc0⟩ := (HD.out wr hO.tail.dropA).at hx
   have hlt' : (j : Int) < (gl : Int) := by omega
   have HFI : Hid (Calls _ _ _ _ _) := rfindE_any wr a N.length c N (hNI.ents hO) rfl (by omega) x
   have HX : Hid (G[j]? = some x) := hx
   have HGA : Hid (ga = some ⟨g,o,none⟩) := hga
   have HO : Hid (Own w0 wr _) := hO
   obtain ⟨n,hn⟩ : ∃ n,n = N.length := ⟨_,rfl⟩
   have HNL : Hid (N.length = n) := hn.symm
   rw [← hn] at hnl HFI HO ⊢
   rw [hga]
   clear hga hx hU hNI hgo hO hn H HN
   go_wp2_with fail
   refine HFI.out.mono ?_
   rintro e w2 ⟨r,rfl,hfr,hf⟩
   have hO2 := HO.out.quiet hf
   clear HFI hf HO hc0
   by_cases hr : r < 0
   ·have HBAD : Hid (goGone (evs N0) G = none) := by show _ = _; rw [← HU.out.2.2]; exact goGone_bad HX.out (find_no hfr hr)
    have HO2 : Hid (Own w0 w2 T) := hO2.tail.dropA
    clear hfr hO2
    go_wp2
    refine HR.out _ _ ⟨rfl,HBAD.out,HO2.out⟩
   ·obtain ⟨i,y,rfl,hy,hyi,hfe⟩ := find_is HU.out.1 hfr hr
    have hin : i < n := by have := (List.getElem?_eq_some_iff.1 hy).1; rw [HNL.out] at this; exact this
    obtain ⟨gr,hgr,hcap1,hcap2⟩ : ∃ gr,a = some ⟨gr,0,none⟩ ∧ n ≤ c ∧ c ≤ maxLen := by
     obtain ⟨gr,cp,hv,_⟩ := row_shape hO2.row (by omega)
     obtain ⟨rfl,_,rfl⟩ := Value.slice.inj hv
     exact ⟨gr,rfl,(row_cap hO2.row).2⟩
    subst hgr
    unfold maxLen at hcap2
    have HY : Hid (N[i]? = some y ∧ y.id = x ∧ fstE (evs N) x = some (y.id,y.C)) := ⟨hy,hyi,hfe⟩
    have hlit := (hO2.litRow #[] 60 2 0 (by decide) rfl).drew
    have hic : i ≤ c := by omega
    obtain ⟨i1,hi1⟩ : ∃ i1,i1 = i + 1 := ⟨_,rfl⟩
    have hin2 : i1 ≤ n := by omega
    have hwr : IntKind.i64.wrap ((i : Int) + 1) = (i1 : Int) := by rw [IntKind.wrap_i64]; omega
    have HI1 : Hid (i1 = i + 1) := hi1
    have hb1 : 0 + i ≤ maxLen := by unfold maxLen; omega
    have hb2 : (0 + i) * 32 ≤ 140737488355328 := by omega
    have hb3 : i + (n - i1) ≤ maxLen := by unfold maxLen; omega
    have hb4 : (i + (n - i1)) * 32 ≤ 140737488355328 := by omega
    have ho1 : ∀ u ∈ cat EnE.cs (N.take i),u.oneCell' = true := one_cat _ ene_one _
    have ho2 : ∀ u ∈ cat EnE.cs (N.drop i1),u.oneCell' = true := one_cat _ ene_one _
    have hsp : N = N.take i ++ N.drop i := (List.take_append_drop i N).symm
    have hsp2 : N = N.take i1 ++ N.drop i1 := (List.take_append_drop i1 N).symm
    have hl1 : (cat EnE.cs (N.take i)).length = i * 2 := by rw [length_cat EnE.cs 2 (fun _ => rfl),List.length_take,HNL.out]; congr 1; omega
    have hl2 : (cat EnE.cs (N.drop i1)).length = (n - i1) * 2 := by rw [hi1,length_cat EnE.cs 2 (fun _ => rfl),List.length_drop,HNL.out]
    have hs1 := ents_lo hlit.two HNL.out hsp
    have HS2 : Hid (∀ w' l',Own w0 w' (Row 60 2 (.slice (some ⟨gr,0,none⟩) n c) n (cat EnE.cs N) :: l') → ∀ j u,(cat EnE.cs (N.drop i1))[j]? = some u → w'.cell? ((⟨gr,i1 * 2,none⟩ : Addr).add j) = some u) := fun w' l' hw => ents_hi hw HNL.out hsp2 (by rw [List.length_take,HNL.out,Nat.min_eq_left (by omega)])
    have HL : Hid (Own w0 _ _) := hlit
    clear hfr hy hyi hfe hlit hsp hsp2 hi1 hin
    go_wp2
    rw [inBlock_then]
    refine wp_cut (fun a' wc => ∃ (a6 : Option Addr) (c6 : Nat),a' = { tmps := #[.slice aw nw cw,gQ a' 1,gQ a' 2,.pointer (some ⟨b3,0,none⟩),gQ a' 4,gQ a' 5,gQ a' 6,.slice a6 (i + (n - i1)) c6,gQ a' 8,gQ a' 9,gQ a' 10,gQ a' 11,gQ a' 12,gQ a' 13,gQ a' 14,gQ a' 15,gQ a' 16,gQ a' 17,gQ a' 18,gQ a' 19,gQ a' 20,gQ a' 21,gQ a' 22,gQ a' 23,gQ a' 24,gQ a' 25,gQ a' 26,gQ a' 27,gQ a' 28,gQ a' 29,gQ a' 30,gQ a' 31,gQ a' 32,gQ a' 33,gQ a' 34,gQ a' 35,.slice (some ⟨g,o,none⟩) gl gc,.int .i64 (gl : Int),.int .i64 (j : Int),gQ a' 39,gQ a' 40,gQ a' 41,gQ a' 42,gQ a' 43,gQ a' 44,gQ a' 45,gQ a' 46,gQ a' 47,gQ a' 48,gQ a' 49,gQ a' 50,gQ a' 51,gQ a' 52,gQ a' 53,gQ a' 54,gQ a' 55,gQ a' 56,gQ a' 57,gQ a' 58,gQ a' 59,gQ a' 60,gQ a' 61,gQ a' 62,gQ a' 63,gQ a' 64,gQ a' 65,gQ a' 66,gQ a' 67,gQ a' 68,gQ a' 69,gQ a' 70,gQ a' 71,gQ a' 72,gQ a' 73,gQ a' 74,gQ a' 75,gQ a' 76,gQ a' 77,gQ a' 78,gQ a' 79,gQ a' 80,gQ a' 81,gQ a' 82,gQ a' 83,gQ a' 84,gQ a' 85,gQ a' 86,gQ a' 87,gQ a' 88,gQ a' 89,gQ a' 90,gQ a' 91,gQ a' 92,gQ a' 93,gQ a' 94,gQ a' 95,gQ a' 96,gQ a' 97,gQ a' 98,gQ a' 99,gQ a' 100,gQ a' 101,gQ a' 102,gQ a' 103,gQ a' 104,gQ a' 105,gQ a' 106,gQ a' 107,gQ a' 108,gQ a' 109,gQ a' 110,gQ a' 111,gQ a' 112,gQ a' 113,gQ a' 114,gQ a' 115,gQ a' 116,gQ a' 117,gQ a' 118,gQ a' 119,gQ a' 120,gQ a' 121,gQ a' 122,gQ a' 123,gQ a' 124,gQ a' 125,gQ a' 126,gQ a' 127,gQ a' 128,gQ a' 129,gQ a' 130,gQ a' 131,gQ a' 132,gQ a' 133,gQ a' 134,gQ a' 135,gQ a' 136,gQ a' 137,gQ a' 138,gQ a' 139,gQ a' 140,gQ a' 141,gQ a' 142,gQ a' 143,gQ a' 144,gQ a' 145,gQ a' 146,gQ a' 147,gQ a' 148,gQ a' 149,gQ a' 150,gQ a' 151,gQ a' 152,gQ a' 153,gQ a' 154,gQ a' 155,gQ a' 156,gQ a' 157,gQ a' 158,gQ a' 159,gQ a' 160,gQ a' 161,gQ a' 162,gQ a' 163,gQ a' 164,gQ a' 165,gQ a' 166,gQ a' 167,gQ a' 168,gQ a' 169,gQ a' 170,gQ a' 171,gQ a' 172,gQ a' 173,gQ a' 174,gQ a' 175,gQ a' 176,gQ a' 177,gQ a' 178,gQ a' 179,gQ a' 180,gQ a' 181,gQ a' 182,gQ a' 183,gQ a' 184,gQ a' 185,gQ a' 186,gQ a' 187,gQ a' 188,gQ a' 189,gQ a' 190,gQ a' 191,gQ a' 192,gQ a' 193,gQ a' 194],defers := [] } ∧ Own w0 wc (Row 60 2 (.slice a6 (i + (n - i1)) c6) (i + (n - i1)) (cat EnE.cs (N.take i) ++ cat EnE.cs (N.drop i1)) :: (X ++ T))) ?rest ?first
    case first =>
     intro J2 K2 hJ2 hK2
     have HJ2 : Hid _ := hJ2
     clear hJ2
     go_region_law
      (first
        | (refine step_readW rfl _ _ 23 rfl 60 iE (.agg #[.int .u32 0,.slice none 0 0]) 2 32 Tryz.underlying23 hiE hE0 hE1 hE2 rfl (by decide) _ _ _ rfl _ _ _ (cat EnE.cs (N.take i)) rfl HL.out hl1 (.inr ⟨_,rfl,hs1⟩) ho1 hb1 hb2 ?_
           intro g5 c5 w5 hO5
           simp only [Nat.zero_add,List.nil_append] at hO5
           have hs5 : n - i1 = 0 ∨ ∃ ad,(if c = i1 then some (⟨gr,0,none⟩ : Addr) else some ⟨gr,i1 * 2,none⟩) = some ad ∧ ∀ j u,(cat EnE.cs (N.drop i1))[j]? = some u → w5.cell? (ad.add j) = some u := by
            by_cases hce : c = i1
            ·exact .inl (by omega)
            ·exact .inr ⟨_,if_neg hce,HS2.out _ _ hO5.two⟩
           have H5 : Hid (Own w0 w5 _) := hO5
           clear hO5)
        | (refine step_readW rfl _ _ 23 rfl 60 iE (.agg #[.int .u32 0,.slice none 0 0]) 2 32 Tryz.underlying23 hiE hE0 hE1 hE2 rfl (by decide) _ _ _ rfl _ _ _ (cat EnE.cs (N.drop i1)) rfl H5.out hl2 hs5 ho2 hb3 hb4 ?_
           intro g6 c6 w6 hO6
           have H6 : Hid (Own w0 w6 _) := hO6
           clear hO6))
     go_wp2
     all_goals exact Met.intro (HJ2.out _ _ ⟨g6,c6,rfl,H6.out.two.tail⟩)
    case rest =>
     intro a' wc hR
     obtain ⟨a6,c6,hact,hO6⟩ := hR
     have e6 : i + (n - i1) = (N.take i ++ N.drop i1).length := by rw [List.length_append,List.length_take,List.length_drop,HNL.out,Nat.min_eq_left (by have := HI1.out; omega)]
     rw [e6,← cat_append] at hO6
     rw [e6] at hact
     obtain ⟨u3,hu⟩ : ∃ u3 : Nat → Value,∀ k,gQ a' k = u3 k := ⟨_,fun _ => rfl⟩
     simp only [hu] at hact
     clear hu
     subst hact
     have HN1 : Hid (N.take i ++ N.drop i1 = N.take i ++ N.drop (i + 1)) := by show _ = _; rw [HI1.out]
     have HUP : Hid (Upe (evs (N.take i ++ N.drop i1)) ∧ NowI w0 X T (N.take i ++ N.drop i1) B ∧ goGone (evs (N.take i ++ N.drop i1)) (G.drop (j + 1)) = goGone (evs N0) G) := by
      rw [HN1.out,← dropE_at HU.out.1 HY.out.1]
      refine ⟨dropE_up HU.out.1 _,HU.out.2.1.cut HY.out.1,?_⟩
      rw [← HU.out.2.2,goGone_is HX.out HY.out.2.2,HY.out.2.1]
     have HO6 : Hid (Own w0 wc _) := hO6
     clear hO6 e6 HL hb1 hb2 hb3 hb4 ho1 ho2 hl1 hl2 hs1 hwr
     go_wp2
     refine ⟨⟨j + 1,_,a6,c6,rfl,by omega,HUP.out.1,HUP.out.2.1,HUP.out.2.2,HO6.out⟩,by simp [intOf]; omega⟩
  ·have hjn : j = gl := by omega
   subst hjn
   have hlt' : ¬ (j : Int) < (j : Int) := by omega
   have HF : Hid (goGone (evs N0) G = some (evs N)) := by show _ = _; rw [← hgo,goGone_end (by rw [HG.out]; exact Nat.le_refl _)]
   have HO : Hid (Own w0 wr _) := hO
   clear hO hU hNI hgo
   go_wp2
   refine Met.intro (HJ.out _ _ ⟨N,a,c,rfl,HU.out.1,HU.out.2.1,HF.out,HO.out⟩)
end Go.Proofs.YtgifeckbflkkpaaGreatDoor
namespace Go.Proofs.YtgifeckbflkkpaaGreatDoor
open Go.RowKit Go.Sort Go.Shelf
set_option linter.unusedVariables false
set_option maxHeartbeats 8000000
set_option maxRecDepth 100000
instance : Inhabited EnE := ⟨⟨0,none,0,[]⟩⟩
end Go.Proofs.YtgifeckbflkkpaaGreatDoor
namespace Go.Proofs.YtgifeckbflkkpaaGreatDoor
open Go.RowKit
set_option linter.unusedVariables false
set_option maxHeartbeats 8000000
set_option maxRecDepth 100000
theorem Nums.tail {w : World} {g o n c c' : Nat} {x : Nat} {t : List Nat} (h : Nums .u32 w (.slice (some ⟨g,o,none⟩) n c) (x :: t)) : Nums .u32 w (.slice (some ⟨g,o + 1,none⟩) t.length c') t := by
 refine ⟨_,_,rfl,?_⟩
 obtain ⟨a,c2,e,h⟩ := h
 simp only [Value.slice.injEq] at e
 rcases h with h | ⟨g',o',ha,hc⟩
 ·cases h
 ·rw [← e.1] at ha
  cases ha
  refine .inr ⟨g,o + 1,rfl,fun j y hy => ?_⟩
  have := hc (j + 1) y (by simpa using hy)
  rw [show o + 1 + j = o + (j + 1) by omega]
  exact this
theorem Nums.nil (k : IntKind) (w : World) (ao : Option Addr) (c : Nat) : Nums k w (.slice ao 0 c) [] := ⟨ao,c,rfl,.inl rfl⟩
theorem ChsAt.tail {w : World} {g o : Nat} {x : ChE} {t : List ChE} (h : ChsAt w (some ⟨g,o,none⟩) (x :: t)) : ChsAt w (some ⟨g,o + 4,none⟩) t := by
 refine ⟨?_,fun y hy => h.2 y (List.mem_cons_of_mem _ hy)⟩
 rcases h.1 with h0 | ⟨g',o',ha,hc⟩
 ·cases h0
 ·cases ha
  refine .inr ⟨g,o + 4,rfl,fun j y hy => ?_⟩
  have := hc (j + 1) y (by simpa using hy)
  have e : o + (j + 1) * 4 = o + 4 + j * 4 := by omega
  rw [e] at this
  exact this
theorem ChsAt.nil (w : World) (ao : Option Addr) : ChsAt w ao [] := ⟨.inl rfl,fun x hx => by cases hx⟩
theorem EntsAt.cells {w : World} {ao : Option Addr} {L : List EnE} (h : EntsAt w ao L) (hL : L ≠ []) : ∃ g o,ao = some ⟨g,o,none⟩ ∧ ∀ j u,(cat EnE.cs L)[j]? = some u → w.cell? ((⟨g,o,none⟩ : Addr).add j) = some u := by
 rcases h.1 with h0 | ⟨g,o,ha,hc⟩
 ·exact absurd h0 hL
 ·refine ⟨g,o,ha,fun j u hu => ?_⟩
  have hj := (List.getElem?_eq_some_iff.1 hu).1
  rw [length_cat EnE.cs 2 (fun _ => rfl)] at hj
  obtain ⟨q,hq⟩ : ∃ q,L[j / 2]? = some q := ⟨_,List.getElem?_eq_getElem (by omega)⟩
  have e : j = j / 2 * 2 + j % 2 := by omega
  rw [e,cat_at EnE.cs 2 (fun _ => rfl) L _ _ q hq (Nat.mod_lt _ (by decide))] at hu
  obtain ⟨h0,h1⟩ := hc _ q hq
  rw [addr_add,e]
  have c : j % 2 = 0 ∨ j % 2 = 1 := by omega
  rcases c with c | c <;> rw [c] at hu ⊢ <;> simp [EnE.cs] at hu <;> subst hu
  ·exact h0
  ·rw [← Nat.add_assoc]; exact h1
def hszV : List Chg → Nat
 | [] => 0
 | x :: t => x.new.length + x.set.length + hszV t
theorem hszV_chv (H : List ChE) : hszV (chv H) = hsz H := by
 induction H with
 | nil => rfl
 | cons x t ih => show x.N.length + x.S.length + hszV (chv t) = _; rw [ih]; rfl
theorem btw_sz (W N : List En) : (btw W N).gone.length ≤ W.length ∧ (btw W N).come.length ≤ N.length ∧ (btw W N).chg.length ≤ N.length ∧ hszV (btw W N).chg ≤ 2 * cszV N ∧ ∀ c ∈ (btw W N).chg,c.lost < 64 := by
 fun_induction btw W N with
 | case1 => exact ⟨Nat.le_refl _,Nat.le_refl _,Nat.le_refl _,Nat.le_refl _,fun c hc => by cases hc⟩
 | case2 w ws ih => obtain ⟨a,b,c,d,e⟩ := ih; exact ⟨by simp [addG]; omega,b,c,d,e⟩
 | case3 n ns ih => obtain ⟨a,b,c,d,e⟩ := ih; exact ⟨a,by simp [addE]; omega,by simp [addE]; omega,by simp only [addE,cszV]; omega,e⟩
 | case4 w ws n ns h ih => obtain ⟨a,b,c,d,e⟩ := ih; exact ⟨by simp [addG]; omega,b,c,d,e⟩
 | case5 w ws n ns h h2 ih => obtain ⟨a,b,c,d,e⟩ := ih; exact ⟨a,by simp [addE]; omega,by simp [addE]; omega,by simp only [addE,cszV]; omega,e⟩
 | case6 w ws n ns h h2 ih =>
  obtain ⟨a,b,c,d,e⟩ := ih
  refine ⟨by simp [addC]; omega,by simp [addC]; omega,?_,?_,?_⟩
  ·simp only [addC,List.length_cons]
   split
   ·omega
   ·simp only [List.length_cons]; omega
  ·simp only [addC,cszV]
   split
   ·omega
   ·simp only [hszV]
    have h1 := List.length_filter_le (isNew w.2) n.2
    have h3 := List.length_filter_le (isSet w.2) n.2
    show (n.2.filter (isNew w.2)).length + (n.2.filter (isSet w.2)).length + _ ≤ _
    omega
  ·intro x hx
   simp only [addC] at hx
   split at hx
   ·exact e x hx
   ·rcases List.mem_cons.1 hx with rfl | hx
    ·exact lost_lt _ _
    ·exact e x hx
theorem dlIn_of {W N : List EnE} {d : DlE} (hd : d.v = btw (evs W) (evs N)) (hW : esz W ≤ 200000) (hN : esz N ≤ 450000) : DlIn d := by
 obtain ⟨a,b,c,e,f⟩ := btw_sz (evs W) (evs N)
 have cs := come_sz (evs W) (evs N)
 rw [← hd] at a b c e f cs
 rw [evs_len] at a b c
 rw [cszV_evs] at e cs
 have hb : (evs d.M).length ≤ N.length := b
 have hcs : cszV (evs d.M) ≤ csz N := cs
 have hc : (chv d.H).length ≤ N.length := c
 have he : hszV (chv d.H) ≤ 2 * csz N := e
 have ha : d.G.length ≤ W.length := a
 rw [evs_len] at hb
 rw [cszV_evs] at hcs
 rw [chv_len] at hc
 rw [hszV_chv] at he
 unfold esz at hW hN
 refine ⟨by omega,by unfold esz; omega,by omega,fun x hx => ?_⟩
 have := f x.v (List.mem_map.2 ⟨x,hx,rfl⟩)
 show x.lost < 256
 have h2 : x.v.lost = x.lost := rfl
 omega
def PatR (W : List En) (d : Dl) (code : Nat) (R : List En) : Prop := (fm 0 W ≠ 0 ∧ code = fm 0 W ∧ R = []) ∨ (fm 0 W = 0 ∧ code = 0 ∧ fm 0 R = 0 ∧ btw W R = d) ∨ (fm 0 W = 0 ∧ code = 4 ∧ R = [] ∧ ∀ M,fm 0 M = 0 → btw W M ≠ d)
end Go.Proofs.YtgifeckbflkkpaaGreatDoor
