/- The document's Open: the components that a change sets. -/
import Derived.Test.YtgifeckbflkkpaaGreatDoorQr23
import Derived.Test.YtgifeckbflkkpaaGreatDoorQr24
import Derived.Test.YtgifeckbflkkpaaGreatDoorQr11
import Derived.Test.YtgifeckbflkkpaaGreatDoorQr25
import Derived.Test.YtgifeckbflkkpaaGreatDoorQr27
import Derived.Deep.RegionHeld3
namespace Go.Proofs.YtgifeckbflkkpaaGreatDoor
open Go.RowKit
set_option linter.unusedVariables false
set_option maxHeartbeats 16000000
set_option maxRecDepth 100000
def R41 (w0 : World) (Y : List Thing) (cs : Array Value) (RL : List Bool) (v23 v24 v25 : Value) (wc : World) : Prop := ∃ (bx : Nat) (ua : Option Addr) (uc : Nat),v23 = .pointer (some ⟨bx,0,none⟩) ∧ v24 = .slice ua RL.length uc ∧ v25 = .int .i64 0 ∧ Own w0 wc (Cells bx cs 63 :: Y) ∧ Bs wc (.slice ua RL.length uc) RL
theorem ro_set (w0 W : World) (Z : List Thing) (v0 v4 v7 : Value) (aw : Option Addr) (nw cw b bd : Nat) (P : List Nat) (v14 v16 vi vl vn : Value) (bc mm i gw ow : Nat) (haw : aw = some ⟨gw,ow,none⟩) (hiw : i < nw) (t : Nat) (aa : Option Addr) (na ca : Nat) (hna : na ≤ 1000000) (A C : List Cp) (R : List Bool) (hm32 : mm < 32) (hcl : C.length ≤ 5) (HN : Hid ((∀ q ∈ C,∃ y,fst A q.k = some y ∧ chk q.k (f3 y.a y.b y.c) = 0 ∧ chk q.k (f3 q.a q.b q.c) = 0) ∧ (bitsB P).drop t = stpsB A C ++ R ∧ kl mm 5 = C.map (·.k) ∧ (bitsB P).length ≤ 100000 ∧ t ≤ 8 * P.length)) (HA : Hid ((∀ w',Own w0 w' Z → Cs w' aa A ∧ w'.cell? ⟨gw,ow + i * 2 + 1,none⟩ = some (.slice aa na ca)) ∧ A.length = na ∧ A.Pairwise (fun x y => x.k < y.k) ∧ ∀ q ∈ A,q.k < 256)) (H : Hid (SrcO w0 W b ((bitsB P).drop t) false (Cells bc #[vi,vl,vn,.slice none 0 0] 112 :: Z))) (J K' : Act → World → Prop) (Q' : Exit → Act → World → Prop) (HJ : Hid (∀ a' wc,(∃ (sa : Option Addr) (sc : Nat),a' = { tmps := #[v0,.slice aw nw cw,gQ a' 2,gQ a' 3,v4,gQ a' 5,gQ a' 6,v7,gQ a' 8,gQ a' 9,gQ a' 10,.pointer (some ⟨b,0,none⟩),gQ a' 12,.pointer (some ⟨bd,0,none⟩),v14,gQ a' 15,v16,.pointer (some ⟨bc,0,none⟩),gQ a' 18,gQ a' 19,gQ a' 20,gQ a' 21,gQ a' 22,gQ a' 23,gQ a' 24,gQ a' 25,gQ a' 26,gQ a' 27,gQ a' 28,gQ a' 29,gQ a' 30,gQ a' 31,gQ a' 32,gQ a' 33,gQ a' 34,gQ a' 35,gQ a' 36,gQ a' 37,gQ a' 38,gQ a' 39,gQ a' 40,gQ a' 41,gQ a' 42,gQ a' 43,gQ a' 44,gQ a' 45,gQ a' 46,gQ a' 47,gQ a' 48,gQ a' 49,gQ a' 50,gQ a' 51,gQ a' 52,gQ a' 53,gQ a' 54,gQ a' 55,gQ a' 56,gQ a' 57,gQ a' 58,gQ a' 59,gQ a' 60,gQ a' 61,gQ a' 62,gQ a' 63,gQ a' 64,gQ a' 65,gQ a' 66,gQ a' 67,gQ a' 68,gQ a' 69,gQ a' 70,gQ a' 71,gQ a' 72,gQ a' 73,gQ a' 74,gQ a' 75,gQ a' 76,gQ a' 77,gQ a' 78,gQ a' 79,gQ a' 80,gQ a' 81,gQ a' 82,gQ a' 83,gQ a' 84,gQ a' 85,gQ a' 86,gQ a' 87,gQ a' 88,gQ a' 89,gQ a' 90,gQ a' 91,gQ a' 92,gQ a' 93,gQ a' 94,gQ a' 95,gQ a' 96,gQ a' 97,gQ a' 98,gQ a' 99,gQ a' 100,gQ a' 101,gQ a' 102,gQ a' 103,gQ a' 104,gQ a' 105,gQ a' 106,gQ a' 107,gQ a' 108,gQ a' 109,gQ a' 110,gQ a' 111,gQ a' 112,gQ a' 113,gQ a' 114,gQ a' 115,gQ a' 116,gQ a' 117,gQ a' 118,gQ a' 119,gQ a' 120,gQ a' 121,gQ a' 122,gQ a' 123,gQ a' 124,gQ a' 125,gQ a' 126,gQ a' 127,gQ a' 128,gQ a' 129,gQ a' 130,gQ a' 131,gQ a' 132,gQ a' 133,gQ a' 134,gQ a' 135,gQ a' 136,gQ a' 137,gQ a' 138,gQ a' 139,gQ a' 140,gQ a' 141,gQ a' 142,gQ a' 143,gQ a' 144,gQ a' 145,gQ a' 146,gQ a' 147,gQ a' 148,gQ a' 149,gQ a' 150,gQ a' 151,gQ a' 152,gQ a' 153,gQ a' 154,gQ a' 155,gQ a' 156,gQ a' 157,gQ a' 158,gQ a' 159,gQ a' 160,gQ a' 161,gQ a' 162,gQ a' 163,gQ a' 164,gQ a' 165,gQ a' 166,gQ a' 167,gQ a' 168,gQ a' 169,gQ a' 170,gQ a' 171,gQ a' 172,gQ a' 173,gQ a' 174,gQ a' 175,gQ a' 176,gQ a' 177,gQ a' 178,gQ a' 179,gQ a' 180,gQ a' 181,gQ a' 182,gQ a' 183,gQ a' 184,gQ a' 185,gQ a' 186,gQ a' 187,gQ a' 188,gQ a' 189,gQ a' 190,gQ a' 191,gQ a' 192,gQ a' 193,gQ a' 194,gQ a' 195,gQ a' 196,gQ a' 197,gQ a' 198,gQ a' 199,gQ a' 200,gQ a' 201,gQ a' 202,gQ a' 203,gQ a' 204,gQ a' 205,gQ a' 206,gQ a' 207,gQ a' 208,gQ a' 209,gQ a' 210,gQ a' 211,gQ a' 212,gQ a' 213,gQ a' 214,gQ a' 215,gQ a' 216,gQ a' 217,gQ a' 218,gQ a' 219,gQ a' 220,gQ a' 221,gQ a' 222,gQ a' 223,gQ a' 224,gQ a' 225],defers := [] } ∧ SrcO w0 wc b ((bitsB P).drop (t + (stpsB A C).length)) false (Cells bc #[vi,vl,vn,.slice sa C.length sc] 112 :: Row 63 4 (.slice sa C.length sc) C.length (ccat C) :: Z)) → J a' wc)) (hK' : ∀ a' w',Met J a' w' → K' a' w') (a' : Act) (hact : a' = { tmps := #[v0,.slice aw nw cw,gQ a' 2,gQ a' 3,v4,gQ a' 5,gQ a' 6,v7,gQ a' 8,gQ a' 9,gQ a' 10,.pointer (some ⟨b,0,none⟩),gQ a' 12,.pointer (some ⟨bd,0,none⟩),v14,gQ a' 15,v16,.pointer (some ⟨bc,0,none⟩),gQ a' 18,.int .u64 (mm : Int),.int .i64 (i : Int),gQ a' 21,gQ a' 22,gQ a' 23,gQ a' 24,gQ a' 25,gQ a' 26,gQ a' 27,gQ a' 28,gQ a' 29,gQ a' 30,gQ a' 31,gQ a' 32,gQ a' 33,gQ a' 34,gQ a' 35,gQ a' 36,gQ a' 37,gQ a' 38,gQ a' 39,gQ a' 40,gQ a' 41,gQ a' 42,gQ a' 43,gQ a' 44,gQ a' 45,gQ a' 46,gQ a' 47,gQ a' 48,gQ a' 49,gQ a' 50,gQ a' 51,gQ a' 52,gQ a' 53,gQ a' 54,gQ a' 55,gQ a' 56,gQ a' 57,gQ a' 58,gQ a' 59,gQ a' 60,gQ a' 61,gQ a' 62,gQ a' 63,gQ a' 64,gQ a' 65,gQ a' 66,gQ a' 67,gQ a' 68,gQ a' 69,gQ a' 70,gQ a' 71,gQ a' 72,gQ a' 73,gQ a' 74,gQ a' 75,gQ a' 76,gQ a' 77,gQ a' 78,gQ a' 79,gQ a' 80,gQ a' 81,gQ a' 82,gQ a' 83,gQ a' 84,gQ a' 85,gQ a' 86,gQ a' 87,gQ a' 88,gQ a' 89,gQ a' 90,gQ a' 91,gQ a' 92,gQ a' 93,gQ a' 94,gQ a' 95,gQ a' 96,gQ a' 97,gQ a' 98,gQ a' 99,gQ a' 100,gQ a' 101,gQ a' 102,gQ a' 103,gQ a' 104,gQ a' 105,gQ a' 106,gQ a' 107,gQ a' 108,gQ a' 109,gQ a' 110,gQ a' 111,gQ a' 112,gQ a' 113,gQ a' 114,gQ a' 115,gQ a' 116,gQ a' 117,gQ a' 118,.int .u8 0,gQ a' 120,gQ a' 121,gQ a' 122,gQ a' 123,gQ a' 124,gQ a' 125,gQ a' 126,gQ a' 127,gQ a' 128,gQ a' 129,gQ a' 130,gQ a' 131,gQ a' 132,gQ a' 133,gQ a' 134,gQ a' 135,gQ a' 136,gQ a' 137,gQ a' 138,gQ a' 139,gQ a' 140,gQ a' 141,gQ a' 142,gQ a' 143,gQ a' 144,gQ a' 145,gQ a' 146,gQ a' 147,gQ a' 148,gQ a' 149,gQ a' 150,gQ a' 151,gQ a' 152,gQ a' 153,gQ a' 154,gQ a' 155,gQ a' 156,gQ a' 157,gQ a' 158,gQ a' 159,gQ a' 160,gQ a' 161,gQ a' 162,gQ a' 163,gQ a' 164,gQ a' 165,gQ a' 166,gQ a' 167,gQ a' 168,gQ a' 169,gQ a' 170,gQ a' 171,gQ a' 172,gQ a' 173,gQ a' 174,gQ a' 175,gQ a' 176,gQ a' 177,gQ a' 178,gQ a' 179,gQ a' 180,gQ a' 181,gQ a' 182,gQ a' 183,gQ a' 184,gQ a' 185,gQ a' 186,gQ a' 187,gQ a' 188,gQ a' 189,gQ a' 190,gQ a' 191,gQ a' 192,gQ a' 193,gQ a' 194,gQ a' 195,gQ a' 196,gQ a' 197,gQ a' 198,gQ a' 199,gQ a' 200,gQ a' 201,gQ a' 202,gQ a' 203,gQ a' 204,gQ a' 205,gQ a' 206,gQ a' 207,gQ a' 208,gQ a' 209,gQ a' 210,gQ a' 211,gQ a' 212,gQ a' 213,gQ a' 214,gQ a' 215,gQ a' 216,gQ a' 217,gQ a' 218,gQ a' 219,gQ a' 220,gQ a' 221,gQ a' 222,gQ a' 223,gQ a' 224,gQ a' 225],defers := [] }) : (csnd (cfst (csnd (csnd (csnd (csnd (csnd (csnd (cinn (cfst (csnd (cinn (cinn (csnd (cfst (csnd (csnd (csnd (csnd (csnd (csnd (cthn (csnd (cels (csnd (cinn (csnd (cfst (csnd (csnd (csnd (csnd (csnd (csnd (csnd ((Tryz.f15.body).getD .skip)))))))))))))))))))))))))))))))))))).wp Tryz.prog (Exit.then K' Q') a' W := by
 obtain ⟨ic,hic,hz0,hz1,hz2⟩ := info_parts Tryz.infoComp
 subst haw
 obtain ⟨u,hu⟩ : ∃ u : Nat → Value,∀ k,gQ a' k = u k := ⟨_,fun _ => rfl⟩
 simp only [hu] at hact
 clear hu
 subst hact
 dsimp only [cfst,csnd,cinn,cthn,cels,Tryz.f15,Option.getD]
 go_wp2
 refine wp_loop (fun a' wr => ∃ (k j : Nat) (sa : Option Addr) (sc : Nat),a' = { tmps := #[v0,.slice (some ⟨gw,ow,none⟩) nw cw,gQ a' 2,gQ a' 3,v4,gQ a' 5,gQ a' 6,v7,gQ a' 8,gQ a' 9,gQ a' 10,.pointer (some ⟨b,0,none⟩),gQ a' 12,.pointer (some ⟨bd,0,none⟩),v14,gQ a' 15,v16,.pointer (some ⟨bc,0,none⟩),gQ a' 18,.int .u64 (mm : Int),.int .i64 (i : Int),gQ a' 21,gQ a' 22,gQ a' 23,gQ a' 24,gQ a' 25,gQ a' 26,gQ a' 27,gQ a' 28,gQ a' 29,gQ a' 30,gQ a' 31,gQ a' 32,gQ a' 33,gQ a' 34,gQ a' 35,gQ a' 36,gQ a' 37,gQ a' 38,gQ a' 39,gQ a' 40,gQ a' 41,gQ a' 42,gQ a' 43,gQ a' 44,gQ a' 45,gQ a' 46,gQ a' 47,gQ a' 48,gQ a' 49,gQ a' 50,gQ a' 51,gQ a' 52,gQ a' 53,gQ a' 54,gQ a' 55,gQ a' 56,gQ a' 57,gQ a' 58,gQ a' 59,gQ a' 60,gQ a' 61,gQ a' 62,gQ a' 63,gQ a' 64,gQ a' 65,gQ a' 66,gQ a' 67,gQ a' 68,gQ a' 69,gQ a' 70,gQ a' 71,gQ a' 72,gQ a' 73,gQ a' 74,gQ a' 75,gQ a' 76,gQ a' 77,gQ a' 78,gQ a' 79,gQ a' 80,gQ a' 81,gQ a' 82,gQ a' 83,gQ a' 84,gQ a' 85,gQ a' 86,gQ a' 87,gQ a' 88,gQ a' 89,gQ a' 90,gQ a' 91,gQ a' 92,gQ a' 93,gQ a' 94,gQ a' 95,gQ a' 96,gQ a' 97,gQ a' 98,gQ a' 99,gQ a' 100,gQ a' 101,gQ a' 102,gQ a' 103,gQ a' 104,gQ a' 105,gQ a' 106,gQ a' 107,gQ a' 108,gQ a' 109,gQ a' 110,gQ a' 111,gQ a' 112,gQ a' 113,gQ a' 114,gQ a' 115,gQ a' 116,gQ a' 117,gQ a' 118,.int .u8 (k : Int),gQ a' 120,gQ a' 121,gQ a' 122,gQ a' 123,gQ a' 124,gQ a' 125,gQ a' 126,gQ a' 127,gQ a' 128,gQ a' 129,gQ a' 130,gQ a' 131,gQ a' 132,gQ a' 133,gQ a' 134,gQ a' 135,gQ a' 136,gQ a' 137,gQ a' 138,gQ a' 139,gQ a' 140,gQ a' 141,gQ a' 142,gQ a' 143,gQ a' 144,gQ a' 145,gQ a' 146,gQ a' 147,gQ a' 148,gQ a' 149,gQ a' 150,gQ a' 151,gQ a' 152,gQ a' 153,gQ a' 154,gQ a' 155,gQ a' 156,gQ a' 157,gQ a' 158,gQ a' 159,gQ a' 160,gQ a' 161,gQ a' 162,gQ a' 163,gQ a' 164,gQ a' 165,gQ a' 166,gQ a' 167,gQ a' 168,gQ a' 169,gQ a' 170,gQ a' 171,gQ a' 172,gQ a' 173,gQ a' 174,gQ a' 175,gQ a' 176,gQ a' 177,gQ a' 178,gQ a' 179,gQ a' 180,gQ a' 181,gQ a' 182,gQ a' 183,gQ a' 184,gQ a' 185,gQ a' 186,gQ a' 187,gQ a' 188,gQ a' 189,gQ a' 190,gQ a' 191,gQ a' 192,gQ a' 193,gQ a' 194,gQ a' 195,gQ a' 196,gQ a' 197,gQ a' 198,gQ a' 199,gQ a' 200,gQ a' 201,gQ a' 202,gQ a' 203,gQ a' 204,gQ a' 205,gQ a' 206,gQ a' 207,gQ a' 208,gQ a' 209,gQ a' 210,gQ a' 211,gQ a' 212,gQ a' 213,gQ a' 214,gQ a' 215,gQ a' 216,gQ a' 217,gQ a' 218,gQ a' 219,gQ a' 220,gQ a' 221,gQ a' 222,gQ a' 223,gQ a' 224,gQ a' 225],defers := [] } ∧ k ≤ 5 ∧ j ≤ C.length ∧ kl mm k = (C.take j).map (·.k) ∧ SrcO w0 wr b ((bitsB P).drop (t + (stpsB A (C.take j)).length)) false (Cells bc #[vi,vl,vn,.slice sa j sc] 112 :: Row 63 4 (.slice sa j sc) j (ccat (C.take j)) :: Z)) (fun a' _ => 5 - (intOf (a'.tmps.getD 119 undef)).toNat) ?_ ?_
 ·obtain ⟨sv,hO,hB⟩ := H.out
  exact ⟨0,0,none,0,rfl,by decide,Nat.zero_le _,rfl,sv,(hO.two.nilRow _ _).sel 3 [2,1,0] (by decide),hB⟩
 ·intro a' wr hI
  obtain ⟨k,j,sa,sc,hact,hk,hj,hkj,hO⟩ := hI
  obtain ⟨u2,hu⟩ : ∃ u2 : Nat → Value,∀ k,gQ a' k = u2 k := ⟨_,fun _ => rfl⟩
  simp only [hu] at hact
  clear hu
  subst hact
  clear H
  by_cases hlt : k < 5
  ·have hlt' : (k : Int) < 5 := by omega
   have eI : ((mm : Int) / 2 ^ k).tmod 2 = ((mm / 2 ^ k % 2 : Nat) : Int) := by
    have e0 : ((mm : Int) / 2 ^ k) = ((mm / 2 ^ k : Nat) : Int) := by simp
    rw [e0]
    exact (Int.tmod_eq_emod_of_nonneg (Int.natCast_nonneg _)).trans (by simp)
   by_cases hbit : mm / 2 ^ k % 2 = 1
   ·obtain ⟨q,hq,hqk,hk1⟩ := kl_next HN.out.2.2.1 hj hkj hlt hbit
    rw [hbit] at eI
    have hmod : ((mm : Int) / 2 ^ k).tmod 2 = 1 := eI
    obtain ⟨y,hy,hy0,hq0⟩ := HN.out.1 q (List.mem_of_getElem? hq)
    have hyk : y.k = q.k := (fst_some hy).2
    have hd := drop_next (show (bitsB P).drop t = stpsB A (C.take j) ++ (stpB A q ++ (stpsB A (C.drop (j + 1)) ++ R)) by rw [HN.out.2.1,stpsB_at hq]; simp only [List.append_assoc]) rfl
    have e1 : stpB A q = sbs q.k (f3 y.a y.b y.c) (f3 q.a q.b q.c) (cnt q.k) := by unfold stpB; rw [hy]
    have HTK : Hid (t + (stpsB A (C.take (j + 1))).length = t + (stpsB A (C.take j)).length + (stpB A q).length ∧ ccat (C.take (j + 1)) = ccat (C.take j) ++ [.int .u8 (q.k : Int),.int .i32 q.a,.int .i32 q.b,.int .i32 q.c] ∧ kl mm (k + 1) = (C.take (j + 1)).map (·.k) ∧ j + 1 ≤ C.length) := by
     refine ⟨?_,?_,hk1,(List.getElem?_eq_some_iff.1 hq).1⟩
     ·rw [List.take_add_one,hq,stpsB_app,List.length_append]
      simp [stpsB]; omega
     ·rw [List.take_add_one,hq]
      unfold ccat cat
      rw [List.flatMap_append]
      simp [Cp.cs]
    have htj : t + (stpsB A (C.take j)).length ≤ 8 * P.length := by
     have h1 := congrArg List.length HN.out.2.1
     rw [List.length_drop,length_bitsB,stpsB_at hq,List.length_append,List.length_append] at h1
     have := HN.out.2.2.2.2
     omega
    rw [e1] at hd
    obtain ⟨s1,s2⟩ := split_at htj hd
    obtain ⟨g1,g2,g3⟩ := step_back q.k (f3 y.a y.b y.c) (f3 q.a q.b q.c) P ((bitsB P).take (t + (stpsB A (C.take j)).length)) _ s1 hy0 hq0
    rw [s2] at g1 g2 g3
    have hsl : (stpB A q).length = ssum q.k (f3 y.a y.b y.c) (f3 q.a q.b q.c) (cnt q.k) := by rw [e1,length_sbs]
    rw [← hsl,hqk] at g2
    have hq8 : q.k < 6 := (chk_ok _ _ hq0).1
    obtain ⟨r,hr,hcall⟩ := rplace_fix aa na ca A HA.out.2.1 HA.out.2.2.1 HA.out.2.2.2 hna k (by omega)
    rcases hr with ⟨_,hno⟩ | ⟨jj,y',rfl,hjj,hy'⟩
    ·rw [← hqk,hy] at hno; cases hno
    ·have ey : y' = y := by rw [← hqk,hy] at hy'; cases hy'; rfl
     subst ey
     have hjn : jj < na := by rw [← HA.out.2.1]; exact (List.getElem?_eq_some_iff.1 hjj).1
     obtain ⟨sv,hO1,hB⟩ := hO
     obtain ⟨sva,svc,rfl⟩ := hB.shape
     obtain ⟨ga,oa,haa,-,-⟩ := (HA.out.1 wr hO1.tail.tail.tail).1.at jj y' hjj
     subst haa
     have HCELL : Hid (∀ W',Fr Nobody wr W' → W'.cell? ⟨b,0,none⟩ = some (.slice sva ((bitsB P).drop (t + (stpsB A (C.take j)).length)).length svc) ∧ W'.cell? ⟨gw,ow + i * 2 + 1,none⟩ = some (.slice (some ⟨ga,oa,none⟩) na ca) ∧ W'.cell? ⟨ga,oa + jj * 4,none⟩ = some (.int .u8 (k : Int)) ∧ W'.cell? ⟨ga,oa + jj * 4 + 1,none⟩ = some (.int .i32 y'.a) ∧ W'.cell? ⟨ga,oa + jj * 4 + 2,none⟩ = some (.int .i32 y'.b) ∧ W'.cell? ⟨ga,oa + jj * 4 + 3,none⟩ = some (.int .i32 y'.c)) := fun W' hf => by
      have hO2 := hO1.quiet hf
      have c0 := hO2.cell 0
      simp at c0
      obtain ⟨hcs,hcw⟩ := HA.out.1 W' hO2.tail.tail.tail
      obtain ⟨g',o',h1,_,h2,h3,h4,h5⟩ := hcs.at jj y' hjj
      cases h1
      rw [hyk,hqk] at h2
      exact ⟨by simpa using c0,hcw,h2,h3,h4,h5⟩
     have HFD : Hid (Calls _ _ _ _ _) := hcall wr (HA.out.1 wr hO1.tail.tail.tail).1
     have HGS : Hid (∀ W',Fr Nobody wr W' → Calls Tryz.prog 54 #[.slice sva ((bitsB P).drop (t + (stpsB A (C.take j)).length)).length svc,.agg #[.int .u8 (k : Int),.int .i32 y'.a,.int .i32 y'.b,.int .i32 y'.c]] W' fun e w' => ∃ u,e = .returned (.tuple #[.agg #[.int .u8 (k : Int),.int .i32 q.a,.int .i32 q.b,.int .i32 q.c],u,.int .i64 0]) ∧ Bs w' u ((bitsB P).drop (t + (stpsB A (C.take j)).length + (stpB A q).length)) ∧ Fr Nobody W' w') := fun W' hf => by
      rw [hqk] at g1 g3
      have h := rstepC_any W' _ P (t + (stpsB A (C.take j)).length) k (by omega) (f3 y'.a y'.b y'.c) (hB.quiet hf) HN.out.2.2.2.1 (cmp k (f3 q.a q.b q.c)) (fun _ => g3.symm) (fun h => absurd g1 h)
      rw [g1,g2] at h
      exact h
     have p1 := hO1.cell 1
     simp at p1
     have HO1 : Hid (Own w0 wr _) := hO1
     obtain ⟨p0,x1,x2,-⟩ := HCELL.out wr (Fr.refl _ _)
     have hi' : ¬ (i : Int) < 0 := by omega
     have hiw' : (i : Int) < (nw : Int) := by omega
     have hjj' : ¬ (jj : Int) < 0 := by omega
     have hjn' : (jj : Int) < (na : Int) := by omega
     rw [hqk] at HTK
     clear hO1 hd hq0 hq s1 s2 g1 g2 g3 hsl hcall hB hbit eI hk1 hkj htj hy hy0 hy' hjj e1 hyk hqk hq8
     obtain ⟨qk,qa,qb,qc⟩ := q
     obtain ⟨yk,ya,yb,yc⟩ := y'
     simp only at HTK HCELL HGS
     obtain ⟨tj,htj⟩ : ∃ tj,tj = t + (stpsB A (C.take j)).length := ⟨_,rfl⟩
     rw [← htj] at HTK HCELL HGS p0
     generalize (stpB A ⟨qk,qa,qb,qc⟩).length = cl at *
     generalize ccat (C.take j) = cc at *
     obtain ⟨ln,hln⟩ : ∃ ln,ln = ((bitsB P).drop tj).length := ⟨_,rfl⟩
     rw [← hln] at HCELL HGS p0
     obtain ⟨RL,hRL⟩ : ∃ RL,RL = (bitsB P).drop (tj + cl) := ⟨_,rfl⟩
     rw [← hRL] at HGS
     have HRL : Hid (RL = (bitsB P).drop (tj + cl)) := hRL
     rw [← htj,← hln] at HO1
     clear hln htj hRL
     go_wp2_with fail
     refine HFD.out.mono ?_
     rintro e w2 ⟨rfl,hf2⟩
     obtain ⟨x3,x4,x5,x6,x7,x8⟩ := HCELL.out w2 hf2
     have HFD2 : Hid (Fr Nobody wr w2.drew) := hf2.drew
     have HW2 : Hid (Fr Nobody wr w2) := hf2
     clear HFD hf2 p0 p1 x1 x2
     go_upto_region 41 with (fail)
     have CZ : Array Value := #[]
     obtain ⟨Y,hY⟩ : ∃ Y : List Thing,Y = (Cells b #[.slice sva ln svc,.bool false] 95 :: Cells bc #[vi,vl,vn,.slice sa j sc] 112 :: Row 63 4 (.slice sa j sc) j cc :: Z) := ⟨_,rfl⟩
     rw [← hY] at HO1
     have HY : Hid (Y = (Cells b #[.slice sva ln svc,.bool false] 95 :: Cells bc #[vi,vl,vn,.slice sa j sc] 112 :: Row 63 4 (.slice sa j sc) j cc :: Z)) := hY
     clear hY CZ
     go_cut [23,24,25] from 147 to 163 (R41 w0 Y #[.int .u8 (k : Int),.int .i32 qa,.int .i32 qb,.int .i32 qc] RL)
     case first =>
      have HO2 : Hid (Own w0 w2.drew Y) := HO1.out.quiet HFD2.out
      have HFD3 : Hid (Fr Nobody wr (w2.alloc (.cells #[.int .u8 0,.int .i32 0,.int .i32 0,.int .i32 0] 63)).drew) := (HW2.out.alloc _).drew
      have O1b := ((HO1.out.quiet HW2.out).allocC #[.int .u8 0,.int .i32 0,.int .i32 0,.int .i32 0] 63).drew
      have HO1b : Hid (Own w0 _ _) := O1b
      clear O1b
      have nb : w2.heap.size ≠ b := by have := World.block_lt_of_cell? w2 _ x3; simp only at this; omega
      have ng : w2.heap.size ≠ gw := by have := World.block_lt_of_cell? w2 _ x4; simp only at this; omega
      have na' : w2.heap.size ≠ ga := by have := World.block_lt_of_cell? w2 _ x5; simp only at this; omega
      go_region_held3 (fun w' => w'.cell? ⟨b,0,none⟩ = some (.slice sva ln svc) ∧ w'.cell? ⟨gw,ow + i * 2 + 1,none⟩ = some (.slice (some ⟨ga,oa,none⟩) na ca) ∧ w'.cell? ⟨ga,oa + jj * 4,none⟩ = some (.int .u8 (k : Int)) ∧ w'.cell? ⟨ga,oa + jj * 4 + 1,none⟩ = some (.int .i32 ya) ∧ w'.cell? ⟨ga,oa + jj * 4 + 2,none⟩ = some (.int .i32 yb) ∧ w'.cell? ⟨ga,oa + jj * 4 + 3,none⟩ = some (.int .i32 yc)) (go_keep)
       (first
         | (go_at_call 54; with_reducible refine (HGS.out _ HFD2.out).mono ?_; rintro e w3 ⟨u,rfl,hB3,hf3⟩
            obtain ⟨ua,uc,hua⟩ := hB3.shape
            subst hua
            obtain ⟨x3,x4,x5,x6,x7,x8⟩ := HCELL.out w3 (HFD2.out.trans hf3)
            have HA3 : Hid (Own w0 w3 Y ∧ Bs w3 (.slice ua RL.length uc) RL) := ⟨HO2.out.quiet hf3,hB3⟩
            clear hB3 hf3)
         | (go_at_call 54; with_reducible refine (HGS.out _ HFD3.out).mono ?_; rintro e w3 ⟨u,rfl,hB3,hf3⟩
            obtain ⟨ua,uc,hua⟩ := hB3.shape
            subst hua
            obtain ⟨x3,x4,x5,x6,x7,x8⟩ := HCELL.out w3 (HFD3.out.trans hf3)
            have O8 := HO1b.out.quiet hf3
            have m0 := Own.cell O8 0
            have n0 := Own.froz O8 0
            have m1 := Own.cell O8 1
            have n1 := Own.froz O8 1
            have m2 := Own.cell O8 2
            have n2 := Own.froz O8 2
            have m3 := Own.cell O8 3
            have n3 := Own.froz O8 3
            simp at m0 m1 m2 m3
            have HB3 : Hid (Own w0 w3 (Cells w2.heap.size #[.int .u8 0,.int .i32 0,.int .i32 0,.int .i32 0] 63 :: Y) ∧ Bs w3 (.slice ua RL.length uc) RL) := ⟨O8,hB3⟩
            clear hB3 hf3 O8)
         | fail)
      all_goals
       go_wp2
       go_meet
       case rel =>
        first
         | exact ⟨_,ua,uc,rfl,rfl,rfl,HA3.out.1.allocC _ _,HA3.out.2.quiet ((Fr.refl Nobody _).alloc _)⟩
         | exact ⟨_,ua,uc,rfl,rfl,rfl,by simpa using (((HB3.out.1.setC 0 (.int .u8 (k : Int))).setC 1 (.int .i32 qa)).setC 2 (.int .i32 qb)).setC 3 (.int .i32 qc),bs_set (((HB3.out.1.setC 0 (.int .u8 (k : Int))).setC 1 (.int .i32 qa)).setC 2 (.int .i32 qb)) (by decide) (bs_set ((HB3.out.1.setC 0 (.int .u8 (k : Int))).setC 1 (.int .i32 qa)) (by decide) (bs_set (HB3.out.1.setC 0 (.int .u8 (k : Int))) (by decide) (bs_set HB3.out.1 (by decide) HB3.out.2 0 (.int .u8 (k : Int))) 1 (.int .i32 qa)) 2 (.int .i32 qb)) 3 (.int .i32 qc)⟩
     case rest =>
      obtain ⟨bx,ua,uc,rfl,rfl,rfl,h3,hB3⟩ := hcut
      rw [HY.out] at h3
      have h3 := h3.two
      have z0 := h3.froz 0
      have y0 := h3.cell 0
      have y1 := h3.cell 1
      simp at y0 y1
      have h4 := h3.setC 0 (.slice ua RL.length uc)
      simp at h4
      have z1 := h4.froz 1
      have r1 := h4.cell 1
      simp at r1
      have h5 := h4.setC 1 (.bool false)
      simp at h5
      have v0 := h5.two.cell 0
      have v1 := h5.two.cell 1
      have v2 := h5.two.cell 2
      have v3 := h5.two.cell 3
      have c3 := (h5.sel 3 [2] (by decide)).cell 3
      simp at v0 v1 v2 v3 c3
      have HS : Hid (SrcO w0 _ b RL false (Row 63 4 (.slice sa j sc) j cc :: Cells bc #[vi,vl,vn,.slice sa j sc] 112 :: Z)) := ⟨_,h5.sel 4 [0,3,2] (by decide),bs_set h4 (by decide) (bs_set h3 (by decide) hB3 0 (.slice ua RL.length uc)) 1 (.bool false)⟩
      clear h3 h4 h5 hB3 HO1 HGS HCELL HFD2 HW2 x3 x4 x5 x6 x7 x8
      generalize RL.length = rl at *
      go_wp2_with (at_builtin; refine append1_src rfl _ _ 58 rfl 63 ic _ 4 16 Tryz.underlying58 hic hz0 hz1 hz2 rfl (by decide) (by decide) _ _ _ rfl HS.out _ #[.int .u8 (k : Int),.int .i32 qa,.int .i32 qb,.int .i32 qc] (by simp) rfl rfl (by intro u hu; simp at hu; rcases hu with rfl | rfl | rfl | rfl <;> rfl) (by unfold maxLen; omega) (by omega) ?_)
      intro g7 c7 w7 h7
      have h7 := h7.mid
      have z3 := h7.fzH 3
      have y3 := h7.cellH 3
      simp at y3
      have h8 := h7.setH (by decide) 3 (.slice (some ⟨g7,0,none⟩) (j + 1) c7)
      simp at h8
      have H8 : Hid (SrcO w0 _ b RL false _) := h8
      clear h7 h8 HS
      go_wp2
      refine ⟨⟨k + 1,j + 1,some ⟨g7,0,none⟩,c7,(by first | rfl | exact ⟨rfl,rfl⟩),by omega,HTK.out.2.2.2,HTK.out.2.2.1,?_⟩,by simp [intOf]; omega⟩
      rw [HTK.out.1,HTK.out.2.1,← HRL.out]
      exact H8.out
   ·have hk1 := kl_off hbit
    have h0 : mm / 2 ^ k % 2 = 0 := by omega
    rw [h0] at eI
    have hmod : ((mm : Int) / 2 ^ k).tmod 2 = 0 := eI
    have HKK : Hid (kl mm (k + 1) = (C.take j).map (·.k)) := by show _ = _; rw [hk1]; exact hkj
    have HO : Hid (SrcO w0 wr b _ false _) := hO
    have p1 := hO.bad
    clear hO eI hbit h0 hk1 hkj
    go_wp2
    exact ⟨⟨k + 1,j,sa,sc,(by first | rfl | exact ⟨rfl,rfl⟩),by omega,hj,HKK.out,HO.out⟩,by simp [intOf]; omega⟩
  ·have hk5 : k = 5 := by omega
   subst hk5
   have hjl : j = C.length := by
    have h1 := congrArg List.length (hkj.symm.trans HN.out.2.2.1)
    rw [List.length_map,List.length_map,List.length_take] at h1
    omega
   subst hjl
   rw [List.take_of_length_le (Nat.le_refl _)] at hO
   have HO : Hid (SrcO w0 wr b _ false _) := hO
   clear hO hkj
   go_wp2
   exact Met.intro (HJ.out _ _ ⟨sa,sc,rfl,HO.out⟩)
def wasC (W : List En) (i : Nat) : List Cp := ((fstE W i).map (·.2)).getD []
def chgB (W : List En) (a : Nat) (c : Chg) : List Bool := idB a c.id ++ (bitsN 5 c.lost ++ (bitsN 5 (msk c.new) ++ (bitsN 5 (msk c.set) ++ (cpsB c.new ++ stpsB (wasC W c.id) c.set))))
def chgsB (W : List En) : Nat → List Chg → List Bool
 | _,[] => []
 | a,c :: t => chgB W a c ++ chgsB W c.id t
theorem chgsB_snoc (W : List En) (a : Nat) (X : List Chg) (c : Chg) : chgsB W a (X ++ [c]) = chgsB W a X ++ chgB W (lastI a (X.map (·.id))) c := by
 induction X generalizing a with
 | nil => simp [chgsB,lastI]
 | cons y t ih => simp [chgsB,lastI,ih y.id]
def chz : List Chg → Nat
 | [] => 0
 | c :: t => c.new.length + c.set.length + chz t
theorem chz_take (X : List Chg) : ∀ {k : Nat} {c : Chg},X[k]? = some c → chz (X.take k) + (c.new.length + c.set.length) ≤ chz X := by
 induction X with
 | nil => intro k c h; simp at h
 | cons y t ih =>
  intro k c h
  cases k with
  | zero => simp at h; subst h; simp [chz]
  | succ k =>
   have := ih (k := k) (c := c) (by simpa using h)
   simp only [List.take_succ_cons,chz]
   omega
theorem chgB_le (W : List En) (a : Nat) (c : Chg) (h : c.id < 4294967296) : (chgB W a c).length ≤ 95 + 66 * (c.new.length + c.set.length) := by
 have h1 := idB_le a c.id h
 have h2 := cpsB_le c.new
 have h3 := stpsB_le (wasC W c.id) c.set
 simp only [chgB,List.length_append,length_bitsN]
 omega
theorem chgsB_le (W : List En) (a : Nat) (X : List Chg) (h : ∀ c ∈ X,c.id < 4294967296) : (chgsB W a X).length ≤ 95 * X.length + 66 * chz X := by
 induction X generalizing a with
 | nil => simp [chgsB]
 | cons c t ih =>
  have h1 := chgB_le W a c (h c (by simp))
  have h2 := ih c.id (fun i hi => h i (by simp [hi]))
  simp only [chgsB,List.length_append,List.length_cons,chz]
  omega
structure ChOk (W : List En) (c : Chg) : Prop where
 id0 : 0 < c.id
 id32 : c.id < 4294967296
 lost : c.lost < 32
 mn : msk c.new < 32
 ms : msk c.set < 32
 kn : ∀ q ∈ c.new,q.k < 256 ∧ chk q.k (f3 q.a q.b q.c) = 0
 ks : ∀ q ∈ c.set,q.k < 256
 st : ∀ q ∈ c.set,∃ y,fst (wasC W c.id) q.k = some y ∧ chk q.k (f3 y.a y.b y.c) = 0 ∧ chk q.k (f3 q.a q.b q.c) = 0
 there : ∃ x,fstE W c.id = some x
def ChL (w : World) (ao : Option Addr) (H : List ChE) : Prop := ∀ (j : Nat) x,H[j]? = some x → ∃ g o,ao = some ⟨g,o,none⟩ ∧ (w.cell? ⟨g,o + j * 4,none⟩ = some (.int .u32 (x.id : Int)) ∧ w.cell? ⟨g,o + j * 4 + 1,none⟩ = some (.int .u8 (x.lost : Int)) ∧ w.cell? ⟨g,o + j * 4 + 2,none⟩ = some (.slice x.na x.N.length x.nc) ∧ w.cell? ⟨g,o + j * 4 + 3,none⟩ = some (.slice x.sa x.S.length x.sc)) ∧ Cs w x.na x.N ∧ Cs w x.sa x.S
end Go.Proofs.YtgifeckbflkkpaaGreatDoor
