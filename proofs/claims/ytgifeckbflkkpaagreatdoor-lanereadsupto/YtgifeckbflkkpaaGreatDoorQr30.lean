/- The document's Open: the changes. -/
import Derived.Test.YtgifeckbflkkpaaGreatDoorQr28
import Derived.Test.YtgifeckbflkkpaaGreatDoorQr29
import Derived.Test.YtgifeckbflkkpaaGreatDoorQr17
import Derived.Test.YtgifeckbflkkpaaGreatDoorQr15
namespace Go.Proofs.YtgifeckbflkkpaaGreatDoor
open Go.RowKit
set_option linter.unusedVariables false
set_option maxHeartbeats 16000000
set_option maxRecDepth 100000
theorem SrcO.own {w0 w : World} {b : Nat} {L : List Bool} {bad : Bool} {l : List Thing} (h : SrcO w0 w b L bad l) : Own w0 w l := by
 obtain ⟨sv,hO,_⟩ := h
 exact hO.tail
theorem ro_chg (w0 W : World) (Z : List Thing) (v0 v4 v7 : Value) (aw : Option Addr) (nw cw b bd : Nat) (P : List Nat) (vg vm : Value) (tn : Nat) (Wl : List EnE) (X : List Chg) (R : List Bool) (xl : Nat) (hxl : xl ≤ 10000) (HN : Hid (X.length = xl ∧ (X.map (·.id)).Pairwise (· < ·) ∧ (∀ c ∈ X,ChRd (evs Wl) c) ∧ (bitsB P).drop tn = chgsB (evs Wl) 0 X ++ R ∧ (bitsB P).length ≤ 100000)) (HW : Hid ((∀ w',Own w0 w' Z → EntsAt w' aw Wl) ∧ Wl.length = nw ∧ nw ≤ 100000 ∧ Upe (evs Wl) ∧ ∀ x ∈ Wl,x.C.length ≤ 100000 ∧ x.C.Pairwise (fun x y => x.k < y.k) ∧ ∀ q ∈ x.C,q.k < 256)) (H : Hid (SrcO w0 W b ((bitsB P).drop tn) false (Cells bd #[vg,vm,.slice none 0 0] 106 :: Z))) (J K' : Act → World → Prop) (Q' : Exit → Act → World → Prop) (HJ : Hid (∀ a' wc,(∃ (Hs : List ChE) (ha : Option Addr) (hc : Nat),a' = { tmps := #[v0,.slice aw nw cw,gQ a' 2,gQ a' 3,v4,gQ a' 5,gQ a' 6,v7,gQ a' 8,gQ a' 9,gQ a' 10,.pointer (some ⟨b,0,none⟩),gQ a' 12,.pointer (some ⟨bd,0,none⟩),gQ a' 14,gQ a' 15,gQ a' 16,gQ a' 17,gQ a' 18,gQ a' 19,gQ a' 20,gQ a' 21,gQ a' 22,gQ a' 23,gQ a' 24,gQ a' 25,gQ a' 26,gQ a' 27,gQ a' 28,gQ a' 29,gQ a' 30,gQ a' 31,gQ a' 32,gQ a' 33,gQ a' 34,gQ a' 35,gQ a' 36,gQ a' 37,gQ a' 38,gQ a' 39,gQ a' 40,gQ a' 41,gQ a' 42,gQ a' 43,gQ a' 44,gQ a' 45,gQ a' 46,gQ a' 47,gQ a' 48,gQ a' 49,gQ a' 50,gQ a' 51,gQ a' 52,gQ a' 53,gQ a' 54,gQ a' 55,gQ a' 56,gQ a' 57,gQ a' 58,gQ a' 59,gQ a' 60,gQ a' 61,gQ a' 62,gQ a' 63,gQ a' 64,gQ a' 65,gQ a' 66,gQ a' 67,gQ a' 68,gQ a' 69,gQ a' 70,gQ a' 71,gQ a' 72,gQ a' 73,gQ a' 74,gQ a' 75,gQ a' 76,gQ a' 77,gQ a' 78,gQ a' 79,gQ a' 80,gQ a' 81,gQ a' 82,gQ a' 83,gQ a' 84,gQ a' 85,gQ a' 86,gQ a' 87,gQ a' 88,gQ a' 89,gQ a' 90,gQ a' 91,gQ a' 92,gQ a' 93,gQ a' 94,gQ a' 95,gQ a' 96,gQ a' 97,gQ a' 98,gQ a' 99,gQ a' 100,gQ a' 101,gQ a' 102,gQ a' 103,gQ a' 104,gQ a' 105,gQ a' 106,gQ a' 107,gQ a' 108,gQ a' 109,gQ a' 110,gQ a' 111,gQ a' 112,gQ a' 113,gQ a' 114,gQ a' 115,gQ a' 116,gQ a' 117,gQ a' 118,gQ a' 119,gQ a' 120,gQ a' 121,gQ a' 122,gQ a' 123,gQ a' 124,gQ a' 125,gQ a' 126,gQ a' 127,gQ a' 128,gQ a' 129,gQ a' 130,gQ a' 131,gQ a' 132,gQ a' 133,gQ a' 134,gQ a' 135,gQ a' 136,gQ a' 137,gQ a' 138,gQ a' 139,gQ a' 140,gQ a' 141,gQ a' 142,gQ a' 143,gQ a' 144,gQ a' 145,gQ a' 146,gQ a' 147,gQ a' 148,gQ a' 149,gQ a' 150,gQ a' 151,gQ a' 152,gQ a' 153,gQ a' 154,gQ a' 155,gQ a' 156,gQ a' 157,gQ a' 158,gQ a' 159,gQ a' 160,gQ a' 161,gQ a' 162,gQ a' 163,gQ a' 164,gQ a' 165,gQ a' 166,gQ a' 167,gQ a' 168,gQ a' 169,gQ a' 170,gQ a' 171,gQ a' 172,gQ a' 173,gQ a' 174,gQ a' 175,gQ a' 176,gQ a' 177,gQ a' 178,gQ a' 179,gQ a' 180,gQ a' 181,gQ a' 182,gQ a' 183,gQ a' 184,gQ a' 185,gQ a' 186,gQ a' 187,gQ a' 188,gQ a' 189,gQ a' 190,gQ a' 191,gQ a' 192,gQ a' 193,gQ a' 194,gQ a' 195,gQ a' 196,gQ a' 197,gQ a' 198,gQ a' 199,gQ a' 200,gQ a' 201,gQ a' 202,gQ a' 203,gQ a' 204,gQ a' 205,gQ a' 206,gQ a' 207,gQ a' 208,gQ a' 209,gQ a' 210,gQ a' 211,gQ a' 212,gQ a' 213,gQ a' 214,gQ a' 215,gQ a' 216,gQ a' 217,gQ a' 218,gQ a' 219,gQ a' 220,gQ a' 221,gQ a' 222,gQ a' 223,gQ a' 224,gQ a' 225],defers := [] } ∧ Hs.length = xl ∧ Hs.map ChE.v = X ∧ SrcO w0 wc b ((bitsB P).drop (tn + (chgsB (evs Wl) 0 X).length)) false (Cells bd #[vg,vm,.slice ha xl hc] 106 :: Row 112 4 (.slice ha xl hc) xl (cat ChE.cs Hs) :: (hrows Hs ++ Z))) → J a' wc)) (hK' : ∀ a' w',Met J a' w' → K' a' w') (a' : Act) (hact : a' = { tmps := #[v0,.slice aw nw cw,gQ a' 2,gQ a' 3,v4,gQ a' 5,gQ a' 6,v7,gQ a' 8,gQ a' 9,gQ a' 10,.pointer (some ⟨b,0,none⟩),gQ a' 12,.pointer (some ⟨bd,0,none⟩),.int .u32 0,gQ a' 15,.int .u64 (xl : Int),gQ a' 17,gQ a' 18,gQ a' 19,gQ a' 20,gQ a' 21,gQ a' 22,gQ a' 23,gQ a' 24,gQ a' 25,gQ a' 26,gQ a' 27,gQ a' 28,gQ a' 29,gQ a' 30,gQ a' 31,gQ a' 32,gQ a' 33,gQ a' 34,gQ a' 35,gQ a' 36,gQ a' 37,gQ a' 38,gQ a' 39,gQ a' 40,gQ a' 41,gQ a' 42,gQ a' 43,gQ a' 44,gQ a' 45,gQ a' 46,gQ a' 47,gQ a' 48,gQ a' 49,gQ a' 50,gQ a' 51,gQ a' 52,gQ a' 53,gQ a' 54,gQ a' 55,gQ a' 56,gQ a' 57,gQ a' 58,gQ a' 59,gQ a' 60,gQ a' 61,gQ a' 62,gQ a' 63,gQ a' 64,gQ a' 65,gQ a' 66,gQ a' 67,gQ a' 68,gQ a' 69,gQ a' 70,gQ a' 71,gQ a' 72,gQ a' 73,gQ a' 74,gQ a' 75,gQ a' 76,gQ a' 77,gQ a' 78,gQ a' 79,gQ a' 80,gQ a' 81,gQ a' 82,gQ a' 83,gQ a' 84,gQ a' 85,gQ a' 86,gQ a' 87,gQ a' 88,gQ a' 89,gQ a' 90,gQ a' 91,gQ a' 92,gQ a' 93,gQ a' 94,gQ a' 95,gQ a' 96,gQ a' 97,gQ a' 98,gQ a' 99,gQ a' 100,gQ a' 101,gQ a' 102,gQ a' 103,gQ a' 104,gQ a' 105,gQ a' 106,gQ a' 107,gQ a' 108,gQ a' 109,gQ a' 110,gQ a' 111,gQ a' 112,gQ a' 113,gQ a' 114,gQ a' 115,gQ a' 116,gQ a' 117,gQ a' 118,gQ a' 119,gQ a' 120,gQ a' 121,gQ a' 122,gQ a' 123,gQ a' 124,gQ a' 125,gQ a' 126,gQ a' 127,gQ a' 128,gQ a' 129,gQ a' 130,gQ a' 131,gQ a' 132,gQ a' 133,gQ a' 134,gQ a' 135,gQ a' 136,gQ a' 137,gQ a' 138,gQ a' 139,gQ a' 140,gQ a' 141,gQ a' 142,gQ a' 143,gQ a' 144,gQ a' 145,gQ a' 146,gQ a' 147,gQ a' 148,gQ a' 149,gQ a' 150,gQ a' 151,gQ a' 152,gQ a' 153,gQ a' 154,gQ a' 155,gQ a' 156,gQ a' 157,gQ a' 158,gQ a' 159,gQ a' 160,gQ a' 161,gQ a' 162,gQ a' 163,gQ a' 164,gQ a' 165,gQ a' 166,gQ a' 167,gQ a' 168,gQ a' 169,gQ a' 170,gQ a' 171,gQ a' 172,gQ a' 173,gQ a' 174,gQ a' 175,gQ a' 176,gQ a' 177,gQ a' 178,gQ a' 179,gQ a' 180,gQ a' 181,gQ a' 182,gQ a' 183,gQ a' 184,gQ a' 185,gQ a' 186,gQ a' 187,gQ a' 188,gQ a' 189,gQ a' 190,gQ a' 191,gQ a' 192,gQ a' 193,gQ a' 194,gQ a' 195,gQ a' 196,gQ a' 197,gQ a' 198,gQ a' 199,gQ a' 200,gQ a' 201,gQ a' 202,gQ a' 203,gQ a' 204,gQ a' 205,gQ a' 206,gQ a' 207,gQ a' 208,gQ a' 209,gQ a' 210,gQ a' 211,gQ a' 212,gQ a' 213,gQ a' 214,gQ a' 215,gQ a' 216,gQ a' 217,gQ a' 218,gQ a' 219,gQ a' 220,gQ a' 221,gQ a' 222,gQ a' 223,gQ a' 224,gQ a' 225],defers := [] }) : (csnd (cfst (csnd (csnd (csnd (csnd (csnd (csnd (cthn (csnd (cels (csnd (cinn (csnd (cfst (csnd (csnd (csnd (csnd (csnd (csnd (csnd ((Tryz.f15.body).getD .skip))))))))))))))))))))))).wp Tryz.prog (Exit.then K' Q') a' W := by
 obtain ⟨i0,hi,hz0,hz1,hz2⟩ := info3w Tryz.infoChg
 obtain ⟨u,hu⟩ : ∃ u : Nat → Value,∀ k,gQ a' k = u k := ⟨_,fun _ => rfl⟩
 simp only [hu] at hact
 clear hu
 subst hact
 dsimp only [cfst,csnd,cinn,cthn,cels,Tryz.f15,Option.getD]
 go_wp2
 refine wp_loop (fun a' wr => ∃ (j r : Nat) (Hs : List ChE) (ha : Option Addr) (hc : Nat),a' = { tmps := #[v0,.slice aw nw cw,gQ a' 2,gQ a' 3,v4,gQ a' 5,gQ a' 6,v7,gQ a' 8,gQ a' 9,gQ a' 10,.pointer (some ⟨b,0,none⟩),gQ a' 12,.pointer (some ⟨bd,0,none⟩),.int .u32 ((lastI 0 ((X.take j).map (·.id)) : Nat) : Int),gQ a' 15,.int .u64 (r : Int),gQ a' 17,gQ a' 18,gQ a' 19,gQ a' 20,gQ a' 21,gQ a' 22,gQ a' 23,gQ a' 24,gQ a' 25,gQ a' 26,gQ a' 27,gQ a' 28,gQ a' 29,gQ a' 30,gQ a' 31,gQ a' 32,gQ a' 33,gQ a' 34,gQ a' 35,gQ a' 36,gQ a' 37,gQ a' 38,gQ a' 39,gQ a' 40,gQ a' 41,gQ a' 42,gQ a' 43,gQ a' 44,gQ a' 45,gQ a' 46,gQ a' 47,gQ a' 48,gQ a' 49,gQ a' 50,gQ a' 51,gQ a' 52,gQ a' 53,gQ a' 54,gQ a' 55,gQ a' 56,gQ a' 57,gQ a' 58,gQ a' 59,gQ a' 60,gQ a' 61,gQ a' 62,gQ a' 63,gQ a' 64,gQ a' 65,gQ a' 66,gQ a' 67,gQ a' 68,gQ a' 69,gQ a' 70,gQ a' 71,gQ a' 72,gQ a' 73,gQ a' 74,gQ a' 75,gQ a' 76,gQ a' 77,gQ a' 78,gQ a' 79,gQ a' 80,gQ a' 81,gQ a' 82,gQ a' 83,gQ a' 84,gQ a' 85,gQ a' 86,gQ a' 87,gQ a' 88,gQ a' 89,gQ a' 90,gQ a' 91,gQ a' 92,gQ a' 93,gQ a' 94,gQ a' 95,gQ a' 96,gQ a' 97,gQ a' 98,gQ a' 99,gQ a' 100,gQ a' 101,gQ a' 102,gQ a' 103,gQ a' 104,gQ a' 105,gQ a' 106,gQ a' 107,gQ a' 108,gQ a' 109,gQ a' 110,gQ a' 111,gQ a' 112,gQ a' 113,gQ a' 114,gQ a' 115,gQ a' 116,gQ a' 117,gQ a' 118,gQ a' 119,gQ a' 120,gQ a' 121,gQ a' 122,gQ a' 123,gQ a' 124,gQ a' 125,gQ a' 126,gQ a' 127,gQ a' 128,gQ a' 129,gQ a' 130,gQ a' 131,gQ a' 132,gQ a' 133,gQ a' 134,gQ a' 135,gQ a' 136,gQ a' 137,gQ a' 138,gQ a' 139,gQ a' 140,gQ a' 141,gQ a' 142,gQ a' 143,gQ a' 144,gQ a' 145,gQ a' 146,gQ a' 147,gQ a' 148,gQ a' 149,gQ a' 150,gQ a' 151,gQ a' 152,gQ a' 153,gQ a' 154,gQ a' 155,gQ a' 156,gQ a' 157,gQ a' 158,gQ a' 159,gQ a' 160,gQ a' 161,gQ a' 162,gQ a' 163,gQ a' 164,gQ a' 165,gQ a' 166,gQ a' 167,gQ a' 168,gQ a' 169,gQ a' 170,gQ a' 171,gQ a' 172,gQ a' 173,gQ a' 174,gQ a' 175,gQ a' 176,gQ a' 177,gQ a' 178,gQ a' 179,gQ a' 180,gQ a' 181,gQ a' 182,gQ a' 183,gQ a' 184,gQ a' 185,gQ a' 186,gQ a' 187,gQ a' 188,gQ a' 189,gQ a' 190,gQ a' 191,gQ a' 192,gQ a' 193,gQ a' 194,gQ a' 195,gQ a' 196,gQ a' 197,gQ a' 198,gQ a' 199,gQ a' 200,gQ a' 201,gQ a' 202,gQ a' 203,gQ a' 204,gQ a' 205,gQ a' 206,gQ a' 207,gQ a' 208,gQ a' 209,gQ a' 210,gQ a' 211,gQ a' 212,gQ a' 213,gQ a' 214,gQ a' 215,gQ a' 216,gQ a' 217,gQ a' 218,gQ a' 219,gQ a' 220,gQ a' 221,gQ a' 222,gQ a' 223,gQ a' 224,gQ a' 225],defers := [] } ∧ j + r = xl ∧ Hs.length = j ∧ Hs.map ChE.v = X.take j ∧ SrcO w0 wr b ((bitsB P).drop (tn + (chgsB (evs Wl) 0 (X.take j)).length)) false (Cells bd #[vg,vm,.slice ha j hc] 106 :: Row 112 4 (.slice ha j hc) j (cat ChE.cs Hs) :: (hrows Hs ++ Z))) (fun a' _ => (intOf (a'.tmps.getD 16 undef)).toNat) ?_ ?_
 ·obtain ⟨sv,hO,hB⟩ := H.out
  exact ⟨0,xl,[],none,0,rfl,by omega,rfl,rfl,sv,(hO.two.nilRow _ _).sel 3 [2,1,0] (by decide),hB⟩
 ·intro a' wr hI
  obtain ⟨j,r,Hs,ha,hc,hact,hj,hHl,hHv,hO⟩ := hI
  obtain ⟨u2,hu⟩ : ∃ u2 : Nat → Value,∀ k,gQ a' k = u2 k := ⟨_,fun _ => rfl⟩
  simp only [hu] at hact
  clear hu
  subst hact
  clear H
  have HM : Hid (Hs.length = j ∧ Hs.map ChE.v = X.take j) := ⟨hHl,hHv⟩
  have p1 := hO.bad
  clear hHl hHv
  by_cases hlt : 0 < r
  ·obtain ⟨x,hx⟩ : ∃ x,X[j]? = some x := ⟨_,List.getElem?_eq_getElem (by rw [HN.out.1]; omega)⟩
   have hlt' : (0 : Int) < (r : Int) := by omega
   have hr := HN.out.2.2.1 x (List.mem_of_getElem? hx)
   have htk : X.take (j + 1) = X.take j ++ [x] := by rw [List.take_add_one,hx]; rfl
   have hla : lastI 0 ((X.take j).map (·.id)) < x.id := by
    have hP : ((X.take (j + 1)).map (·.id)).Pairwise (· < ·) := by rw [List.map_take]; exact HN.out.2.1.sublist (List.take_sublist _ _)
    rw [htk,List.map_append] at hP
    refine lastI_lt hP (fun y hy => ?_)
    have hy2 : y ∈ (X.take (j + 1)).map (·.id) := by rw [htk,List.map_append]; exact hy
    obtain ⟨z,hz,rfl⟩ := List.mem_map.1 hy2
    exact (HN.out.2.2.1 z (List.mem_of_mem_take hz)).ok.id0
   obtain ⟨xi,xo,xN,xS⟩ := x
   simp only at hla
   obtain ⟨A,hA⟩ : ∃ A,A = wasC (evs Wl) xi := ⟨_,rfl⟩
   have hd0 := drop_next (show (bitsB P).drop tn = chgsB (evs Wl) 0 (X.take j) ++ (idB (lastI 0 ((X.take j).map (·.id))) xi ++ (bitsN 5 xo ++ (bitsN 5 (msk xN) ++ (bitsN 5 (msk xS) ++ (cpsB xN ++ (stpsB A xS ++ (chgsB (evs Wl) xi (X.drop (j + 1)) ++ R))))))) by rw [HN.out.2.2.2.1,chgsB_at hx]; unfold chgB; simp only; rw [← hA]; simp only [List.append_assoc]) rfl
   have hd1 := drop_next hd0 rfl
   have hd2 := drop_next hd1 (length_bitsN _ _)
   have hd3 := drop_next hd2 (length_bitsN _ _)
   have hd4 := drop_next hd3 (length_bitsN _ _)
   have hd5 := drop_next hd4 rfl
   have hid32 : xi < 4294967296 := hr.ok.id32
   have hlo : xo < 32 := hr.ok.lost
   have hPl := HN.out.2.2.2.2
   obtain ⟨t1,ht1⟩ : ∃ t1,t1 = tn + (chgsB (evs Wl) 0 (X.take j)).length + (idB (lastI 0 ((X.take j).map (·.id))) xi).length := ⟨_,rfl⟩
   rw [← ht1] at hd1 hd2 hd3 hd4 hd5
   have HP : Hid (Calls _ _ _ _ _) := sid w0 wr _ b _ ((bitsB P).drop t1) (lastI 0 ((X.take j).map (·.id))) xi hO hla hid32 (by rw [hd1]; exact hd0) (by rw [List.length_drop]; omega)
   have HTK : Hid (tn + (chgsB (evs Wl) 0 (X.take (j + 1))).length = t1 + 5 + 5 + 5 + (cpsB xN).length + (stpsB A xS).length ∧ lastI 0 ((X.take (j + 1)).map (·.id)) = xi ∧ j + 1 ≤ xl) := by
    rw [htk,chgsB_app,List.map_append,ht1,List.length_append]
    refine ⟨?_,lastI_snoc _ _ _,by omega⟩
    simp only [chgsB,chgB,List.append_nil,List.length_append,length_bitsN]
    rw [← hA]
    omega
   have HC1 : Hid (∀ Z' Y,SrcO w0 Z' b ((bitsB P).drop t1) false Y → Calls Tryz.prog 50 #[.pointer (some ⟨b,0,none⟩),.int .i64 5] Z' fun e w' => e = .returned (.int .u64 (xo : Int)) ∧ SrcO w0 w' b ((bitsB P).drop (t1 + 5)) false Y) := fun Z' Y hZ => smask w0 Z' Y b P t1 xo _ hPl hZ hlo hd1
   have HC2 : Hid (∀ Z' Y,SrcO w0 Z' b ((bitsB P).drop (t1 + 5)) false Y → Calls Tryz.prog 50 #[.pointer (some ⟨b,0,none⟩),.int .i64 5] Z' fun e w' => e = .returned (.int .u64 ((msk xN : Nat) : Int)) ∧ SrcO w0 w' b ((bitsB P).drop (t1 + 5 + 5)) false Y) := fun Z' Y hZ => smask w0 Z' Y b P (t1 + 5) (msk xN) _ hPl hZ hr.ok.mn hd2
   have HC3 : Hid (∀ Z' Y,SrcO w0 Z' b ((bitsB P).drop (t1 + 5 + 5)) false Y → Calls Tryz.prog 50 #[.pointer (some ⟨b,0,none⟩),.int .i64 5] Z' fun e w' => e = .returned (.int .u64 ((msk xS : Nat) : Int)) ∧ SrcO w0 w' b ((bitsB P).drop (t1 + 5 + 5 + 5)) false Y) := fun Z' Y hZ => smask w0 Z' Y b P (t1 + 5 + 5) (msk xS) _ hPl hZ hr.ok.ms hd3
   have ht15 : t1 + 5 + 5 + 5 ≤ 8 * P.length := by
    have h1 := congrArg List.length hd3
    rw [List.length_drop,List.length_append,length_bitsN,length_bitsB] at h1
    omega
   have HC4 : Hid (∀ Z' Y,SrcO w0 Z' b ((bitsB P).drop (t1 + 5 + 5 + 5)) false Y → Calls Tryz.prog 51 #[.pointer (some ⟨b,0,none⟩),.int .u64 ((msk xN : Nat) : Int)] Z' fun e w' => ∃ ao cap,e = .returned (.slice ao xN.length cap) ∧ SrcO w0 w' b ((bitsB P).drop (t1 + 5 + 5 + 5 + (cpsB xN).length)) false (Row 63 4 (.slice ao xN.length cap) xN.length (ccat xN) :: Y)) := fun Z' Y hZ => scomps w0 Z' Y b P (t1 + 5 + 5 + 5) xN _ hPl ht15 hZ hr.ln hr.un hd4
   have ht16 : t1 + 5 + 5 + 5 + (cpsB xN).length ≤ 8 * P.length := by
    have h1 := congrArg List.length hd4
    rw [List.length_drop,List.length_append,length_bitsB] at h1
    omega
   have HS5 : Hid ((∀ q ∈ xS,∃ y,fst A q.k = some y ∧ chk q.k (f3 y.a y.b y.c) = 0 ∧ chk q.k (f3 q.a q.b q.c) = 0) ∧ (bitsB P).drop (t1 + 5 + 5 + 5 + (cpsB xN).length) = stpsB A xS ++ (chgsB (evs Wl) xi (X.drop (j + 1)) ++ R) ∧ kl (msk xS) 5 = xS.map (·.k) ∧ (bitsB P).length ≤ 100000 ∧ t1 + 5 + 5 + 5 + (cpsB xN).length ≤ 8 * P.length) := ⟨fun q hq => (by have h := hr.ok.st q hq; simp only at h; rw [← hA] at h; exact h),hd5,kl_kinds hr.gs (un_has5 hr.us),hPl,ht16⟩
   have hcl5 : xS.length ≤ 5 := by
    have := kl_len (msk xS) 5
    rw [kl_kinds hr.gs (un_has5 hr.us),List.length_map] at this
    exact this
   have hnl5 : xN.length ≤ 5 := by
    have := kl_len (msk xN) 5
    rw [kl_kinds (good_of hr.ln) (un_has5 hr.un),List.length_map] at this
    exact this
   have HM2 : Hid (∀ na nc sa sc,(Hs ++ [ChE.mk xi xo xN na nc xS sa sc]).map ChE.v = X.take (j + 1)) := fun na nc sa sc => by
    rw [List.map_append,HM.out.2,htk]; rfl
   have hmN : msk xN < 32 := hr.ok.mn
   have hmS : msk xS < 32 := hr.ok.ms
   have HTH : Hid (∃ e,fstE (evs Wl) xi = some e) := hr.ok.there
   have HAW : Hid (A = wasC (evs Wl) xi) := hA
   obtain ⟨la,hlaE⟩ : ∃ la,la = lastI 0 ((X.take j).map (·.id)) := ⟨_,rfl⟩
   rw [← hlaE] at HP
   rw [← hlaE]
   obtain ⟨nl,hnl⟩ : ∃ nl,nl = xN.length := ⟨_,rfl⟩
   rw [← hnl] at HC4 hnl5
   have HLN : Hid (xN.length = nl) := hnl.symm
   have hxo : IntKind.u8.wrap (xo : Int) = (xo : Int) := by rw [show IntKind.u8.wrap (xo : Int) = (xo : Int) % 256 from by simp [IntKind.wrap,IntKind.signed,IntKind.bits]]; omega
   clear hO hla hlaE htk hd0 hd1 hd2 hd3 hd4 hd5 hx ht1 hr hnl hA ht15 ht16 hPl
   generalize msk xN = mN at *
   generalize msk xS = mS at *
   generalize (cpsB xN).length = cN at *
   go_wp2_with fail
   refine HP.out.mono ?_
   rintro e w2 ⟨rfl,h3⟩
   have HM1 : Hid (Calls _ _ _ _ _) := HC1.out _ _ h3
   clear h3 HP p1 HC1
   go_wp2_with fail
   refine HM1.out.mono ?_
   rintro e w3 ⟨rfl,h4⟩
   have h4 := h4.allocC #[.int .u32 (xi : Int),.int .u8 (xo : Int),.slice none 0 0,.slice none 0 0] 112
   have HM3 : Hid (Calls _ _ _ _ _) := HC2.out _ _ h4
   clear h4 HM1 HC2
   go_wp2_with fail
   refine HM3.out.mono ?_
   rintro e w4 ⟨rfl,h5⟩
   generalize w3.heap.size = bc at *
   have HM4 : Hid (Calls _ _ _ _ _) := HC3.out _ _ h5
   clear h5 HM3 HC3
   go_wp2_with fail
   refine HM4.out.mono ?_
   rintro e w5 ⟨rfl,h6⟩
   have HM5 : Hid (Calls _ _ _ _ _) := HC4.out _ _ h6
   clear h6 HM4 HC4
   go_wp2_with fail
   refine HM5.out.mono ?_
   rintro e w6 ⟨na,nc,rfl,h7⟩
   have h7 := h7.mid
   have z2 := h7.fzH 2
   have y2 := h7.cellH 2
   simp at y2
   have h8 := h7.setH (by decide) 2 (.slice na nl nc)
   simp at h8
   have hFD := rfindE_any _ aw nw cw Wl (HW.out.1 _ (by have h9 := h8.own; exact h9.tail.tail.tail.tail.dropA)) HW.out.2.1 (by have := HW.out.2.2.1; omega) xi
   have HFD : Hid (Calls _ _ _ _ _) := hFD
   have H8 : Hid (SrcO w0 _ b _ false _) := h8
   clear h7 h8 HM5 hFD
   go_wp2_with fail
   refine HFD.out.mono ?_
   rintro e w7 ⟨ri,rfl,hfi,hf7⟩
   have h9 := H8.out.quiet hf7
   clear HFD H8 hf7 y2 z2
   by_cases hrn : ri < 0
   ·obtain ⟨e1,he1⟩ := HTH.out
    rw [find_no hfi hrn] at he1
    cases he1
   ·obtain ⟨jw,y0,rfl,hjw,hyi,hfe⟩ := find_is HW.out.2.2.2.1 hfi hrn
    have hjn : jw < nw := by rw [← HW.out.2.1]; exact (List.getElem?_eq_some_iff.1 hjw).1
    have hym := List.mem_of_getElem? hjw
    have hAy : A = y0.C := by rw [HAW.out]; unfold wasC; rw [hfe]; rfl
    have hW9 := HW.out.1 _ (by have h10 := h9.own; exact h10.tail.tail.tail.tail.dropA)
    obtain ⟨gw,ow,haw,-,-⟩ : ∃ gw ow,aw = some ⟨gw,ow,none⟩ ∧ True ∧ True := by
     rcases hW9.1 with h | ⟨g,o,h1,_⟩
     ·rw [h] at hjw; simp at hjw
     ·exact ⟨g,o,h1,trivial,trivial⟩
    subst haw
    have H9 : Hid (SrcO w0 w7 b _ false _) := h9
    have HAA : Hid ((∀ w',Own w0 w' (Row 63 4 (.slice na nl nc) nl (ccat xN) :: Cells bd #[vg,vm,.slice ha j hc] 106 :: Row 112 4 (.slice ha j hc) j (cat ChE.cs Hs) :: (hrows Hs ++ Z)) → Cs w' y0.ao A ∧ w'.cell? ⟨gw,ow + jw * 2 + 1,none⟩ = some (.slice y0.ao y0.C.length y0.cap)) ∧ A.length = y0.C.length ∧ A.Pairwise (fun x y => x.k < y.k) ∧ ∀ q ∈ A,q.k < 256) := by
     refine ⟨fun w' hw => ?_,by rw [hAy],by rw [hAy]; exact (HW.out.2.2.2.2 y0 hym).2.1,by rw [hAy]; exact (HW.out.2.2.2.2 y0 hym).2.2⟩
     have hE := HW.out.1 w' hw.tail.tail.tail.dropA
     refine ⟨by rw [hAy]; exact hE.2 y0 hym,?_⟩
     rcases hE.1 with h | ⟨g,o,h1,h2⟩
     ·rw [h] at hjw; simp at hjw
     ·cases h1
      exact (h2 jw y0 hjw).2
    have hyl := (HW.out.2.2.2.2 y0 hym).1
    clear hfi hrn h9 hW9 hjw hyi hfe hym hAy
    go_upto_block 5 with fail
    rename_i KK hKK
    refine ro_set w0 w7 _ v0 v4 v7 _ nw cw b bd P (.int .u32 (xi : Int)) (.int .u64 (r : Int)) (.int .u32 (xi : Int)) (.int .u8 (xo : Int)) (.slice na nl nc) bc mS jw gw ow rfl hjn _ y0.ao y0.C.length y0.cap (by omega) A xS _ hmS hcl5 HS5 HAA H9 KK KK _ ?hm (fun _ _ h => h) _ ?ha
    case ha => rfl
    case hm =>
     intro a' w8 hm
     obtain ⟨sa,sc,hact,h10⟩ := hm
     obtain ⟨u3,hu⟩ : ∃ u3 : Nat → Value,∀ k,gQ a' k = u3 k := ⟨_,fun _ => rfl⟩
     simp only [hu] at hact
     clear hu
     subst hact
     obtain ⟨sl,hsl⟩ : ∃ sl,sl = xS.length := ⟨_,rfl⟩
     rw [← hsl] at h10
     have HSL : Hid (xS.length = sl) := hsl.symm
     have c0 := h10.cellH 0
     have c1 := h10.cellH 1
     have c2 := h10.cellH 2
     have c3 := h10.cellH 3
     have d2 := (h10.perm (m := Cells bd #[vg,vm,.slice ha j hc] 106 :: Cells bc #[.int .u32 (xi : Int),.int .u8 (xo : Int),.slice na nl nc,.slice sa sl sc] 112 :: Row 63 4 (.slice sa sl sc) sl (ccat xS) :: Row 63 4 (.slice na nl nc) nl (ccat xN) :: Row 112 4 (.slice ha j hc) j (cat ChE.cs Hs) :: (hrows Hs ++ Z)) (List.perm_middle (l₁ := [_,_,_]))).cellH 2
     simp at c0 c1 c2 c3 d2
     have HS10 : Hid (SrcO w0 w8 b ((bitsB P).drop (t1 + 5 + 5 + 5 + cN + (stpsB A xS).length)) false (Row 112 4 (.slice ha j hc) j (cat ChE.cs Hs) :: Cells bd #[vg,vm,.slice ha j hc] 106 :: Row 63 4 (.slice na nl nc) nl (ccat xN) :: Row 63 4 (.slice sa sl sc) sl (ccat xS) :: (hrows Hs ++ Z))) := by
      obtain ⟨sv,hO,hB⟩ := h10
      exact ⟨sv,hO.sel 6 [0,5,4,3,2] (by decide),hB⟩
     clear h10 HAA H9 HS5 hsl
     go_wp2_with (at_builtin; refine append1_src rfl _ _ 104 rfl 112 i0 _ 4 56 Tryz.underlying104 hi hz0 hz1 hz2 rfl (by decide) (by decide) _ _ _ rfl HS10.out _ #[.int .u32 (xi : Int),.int .u8 (xo : Int),.slice na nl nc,.slice sa sl sc] (by simp) rfl rfl (by intro u hu; simp at hu; rcases hu with rfl | rfl | rfl | rfl <;> rfl) (by unfold maxLen; omega) (by omega) ?_)
     intro g9 c9 w9 h11
     have h11 := h11.mid
     have z2 := h11.fzH 2
     have y2 := h11.cellH 2
     simp at y2
     have h12 := h11.setH (by decide) 2 (.slice (some ⟨g9,0,none⟩) (j + 1) c9)
     simp at h12
     have H12 : Hid (SrcO w0 _ b _ false _) := h12
     clear h11 h12 HS10
     go_wp2
     refine ⟨⟨j + 1,r - 1,Hs ++ [ChE.mk xi xo xN na nc xS sa sc],some ⟨g9,0,none⟩,c9,?_,by omega,by rw [List.length_append,HM.out.1]; rfl,HM2.out na nc sa sc,?_⟩,by simp [intOf]; omega⟩
     ·rw [HTK.out.2.1]
      have e : ((r - 1 : Nat) : Int) = (r : Int) - 1 := by omega
      rw [e]
      rfl
     ·rw [HTK.out.1]
      have e1 : cat ChE.cs (Hs ++ [ChE.mk xi xo xN na nc xS sa sc]) = cat ChE.cs Hs ++ [.int .u32 (xi : Int),.int .u8 (xo : Int),.slice na nl nc,.slice sa sl sc] := by
       rw [cat_append]
       congr 1
       simp [cat,ChE.cs,HLN.out,HSL.out]
      have e2 : hrows (Hs ++ [ChE.mk xi xo xN na nc xS sa sc]) ++ Z = hrows Hs ++ (Row 63 4 (.slice na nl nc) nl (ccat xN) :: Row 63 4 (.slice sa sl sc) sl (ccat xS) :: Z) := by
       simp [hrows,ChE.rows,ChE.nrow,ChE.srow,HLN.out,HSL.out]
      rw [e1,e2]
      refine H12.out.perm (List.Perm.cons _ (List.Perm.cons _ ?_))
      have h2 := (List.perm_append_comm (l₁ := hrows Hs) (l₂ := [Row 63 4 (.slice na nl nc) nl (ccat xN),Row 63 4 (.slice sa sl sc) sl (ccat xS)])).append_right Z
      rw [List.append_assoc] at h2
      exact h2.symm
  ·have hr0 : r = 0 := by omega
   subst hr0
   have hjg : j = xl := by omega
   subst hjg
   have hXt : X.take j = X := List.take_of_length_le (by rw [HN.out.1]; exact Nat.le_refl _)
   rw [hXt] at hO
   have HF : Hid (Hs.length = j ∧ Hs.map ChE.v = X) := ⟨HM.out.1,by rw [HM.out.2,hXt]⟩
   have HO : Hid (SrcO w0 wr b _ false _) := hO
   clear hO hXt
   go_wp2
   exact Met.intro (HJ.out _ _ ⟨Hs,ha,hc,rfl,HF.out.1,HF.out.2,HO.out⟩)
theorem step_readW {P : Program} {w0 w : World} {l : List Thing} {ops : Array Oper} {o : Oper} {a : Act} {K : Act → World → Prop} {Q : Exit → Act → World → Prop} {E : Prop} (hgd : o.guard = none) (sx x : Operand) (t : TypeId)
  (ho : o.op = .call { callee := .builtin .append,args := #[sx,x],argTypes := #[t,t] })
  (e : TypeId) (i : TypeInfo) (z : Value) (size bytes : Nat) (ht : P.underlying t = some (.slice e)) (hi : P.info? e = some i) (hz : i.zero = some z)
  (hsize : i.size = size) (hby : i.bytes = bytes) (hzs : z.cells.size = size) (hsz : 0 < size)
  (v : Value) (n : Nat) (xs : List Value) (hs : a.eval sx = v) (xa : Option Addr) (m xc : Nat) (ys : List Value) (hx : a.eval x = .slice xa m xc) (hown : Own w0 w (Row e size v n xs :: l)) (hl : ys.length = m * size) (hr : m = 0 ∨ ∃ a,xa = some a ∧ ∀ j u,ys[j]? = some u → w.cell? (a.add j) = some u) (h1 : ∀ u ∈ ys,u.oneCell' = true)
  (h63 : n + m ≤ maxLen) (hbytes : (n + m) * bytes ≤ 140737488355328)
  (h : ∀ ao cap w',Own w0 w' (Row e size (.slice ao (n + m) cap) (n + m) (xs ++ ys) :: l) → K (a.put o.dst (.slice ao (n + m) cap)) w') :
  if Region.wanted o (yielded ops a.tmps) = true then Oper.wp P o a w K Q else E := by
 have hw : Region.wanted o (yielded ops a.tmps) = true := by simp [Region.wanted,hgd]
 rw [if_pos hw]
 rcases Nat.eq_zero_or_pos m with h0 | h0
 ·subst h0
  have hy : ys = [] := List.eq_nil_of_length_eq_zero (by rw [hl]; simp)
  subst hy
  obtain ⟨va,vc,rfl⟩ := row_any hown.row
  have hr := run_append_empty (P := P) w 0 t o.type e i size ht hi _ n xs hown.row xa xc
  unfold Oper.wp
  simp [execOp,ho,resolve,invoke,builtin,hs,hx,hr,Result.andThen]
  have := h va vc w (by simpa using hown)
  simp at this
  exact this
 ·rcases hr with hr | ⟨ad,rfl,hc⟩
  ·omega
  refine wp_append_lies w sx x t ho 0 e i z size bytes ht hi hz hsize hby hzs hsz v n xs hs hown.row ad m xc ys hx hl hc h1 h0 h63 hbytes (Nat.zero_le _) _ rfl ?_
  intro g' cap' w' h2 h3 h4 h5
  refine h _ _ w' (hown.grow h2 h3 (fun k hk => ?_))
  have hk' : g' = k := by simpa [Value.ownBlock] using hk
  subst hk'
  rcases h4 with h4 | h4
  ·exact .inl h4
  ·exact .inr (by omega)
end Go.Proofs.YtgifeckbflkkpaaGreatDoor
