/- The document's Patch: the components that a change brings. -/
import Derived.Test.YtgifeckbflkkpaaGreatDoorQr23
import Derived.Test.YtgifeckbflkkpaaGreatDoorQr32
import Derived.Test.YtgifeckbflkkpaaGreatDoorQr27
namespace Go.Proofs.YtgifeckbflkkpaaGreatDoor
open Go.ChangeShapes Go.WideShapes Go.ChangeAt Go.RowKit
set_option linter.unusedVariables false
set_option maxHeartbeats 8000000
set_option maxRecDepth 100000
theorem gp_new (w0 W : World) (Z Y : List Thing) (RN : Thing) (v0 v3 v59 v60 v61 : Value) (b12 : Nat) (cs : Array Value) (i nn cn gn nl nc kl cc : Nat) (XN C : List Cp) (na ac : Option Addr) (hin : i < nn) (hnl : nl ≤ 50000) (hkl : kl ≤ 50000) (HX : Hid (XN.length = nl ∧ (∀ w',Own w0 w' Z → Cs w' na XN) ∧ ∀ q ∈ XN,q.k < 256)) (HC : Hid ((∀ w' Y,Own w0 w' (RN :: (Y ++ Z)) → w'.cell? ⟨gn,i * 2 + 1,none⟩ = some (.slice ac kl cc) ∧ Cs w' ac C) ∧ (∀ q ∈ C,q.k < 256) ∧ C.length = kl ∧ Ups C ∧ True)) (al : Option Addr) (cl ll : Nat) (L : List Cp) (hll : ll ≤ 50000) (HL : Hid (L.length = ll ∧ (∀ w',Own w0 w' (Y ++ Z) → Cs w' al L) ∧ ∀ q ∈ L,q.k < 256)) (H : Hid (Own w0 W (Cells b12 cs 112 :: (Y ++ RN :: Z)))) (J K' : Act → World → Prop) (Q' : Exit → Act → World → Prop) (HJ : Hid (∀ a' wc,(∃ (Y' : List Thing) (al' : Option Addr) (cl' : Nat) (L' : List Cp),a' = { tmps := #[v0,gQ a' 1,gQ a' 2,v3,gQ a' 4,gQ a' 5,gQ a' 6,.slice (some ⟨gn,0,none⟩) nn cn,gQ a' 8,gQ a' 9,gQ a' 10,gQ a' 11,.pointer (some ⟨b12,0,none⟩),.int .i64 (i : Int),.slice al' L'.length cl',gQ a' 15,gQ a' 16,gQ a' 17,gQ a' 18,gQ a' 19,gQ a' 20,gQ a' 21,gQ a' 22,gQ a' 23,gQ a' 24,gQ a' 25,gQ a' 26,gQ a' 27,gQ a' 28,gQ a' 29,gQ a' 30,gQ a' 31,gQ a' 32,gQ a' 33,gQ a' 34,gQ a' 35,gQ a' 36,gQ a' 37,gQ a' 38,gQ a' 39,gQ a' 40,gQ a' 41,gQ a' 42,gQ a' 43,gQ a' 44,gQ a' 45,gQ a' 46,gQ a' 47,gQ a' 48,gQ a' 49,gQ a' 50,gQ a' 51,gQ a' 52,gQ a' 53,gQ a' 54,gQ a' 55,gQ a' 56,gQ a' 57,gQ a' 58,v59,v60,v61,gQ a' 62,gQ a' 63,gQ a' 64,gQ a' 65,gQ a' 66,gQ a' 67,gQ a' 68,gQ a' 69,gQ a' 70,gQ a' 71,gQ a' 72,gQ a' 73,gQ a' 74,gQ a' 75,gQ a' 76,gQ a' 77,gQ a' 78,gQ a' 79,gQ a' 80,gQ a' 81,gQ a' 82,gQ a' 83,gQ a' 84,gQ a' 85,gQ a' 86,gQ a' 87,gQ a' 88,gQ a' 89,gQ a' 90,gQ a' 91,gQ a' 92,gQ a' 93,gQ a' 94,gQ a' 95,gQ a' 96,gQ a' 97,gQ a' 98,gQ a' 99,gQ a' 100,gQ a' 101,gQ a' 102,gQ a' 103,gQ a' 104,gQ a' 105,gQ a' 106,gQ a' 107,gQ a' 108,gQ a' 109,gQ a' 110,gQ a' 111,gQ a' 112,gQ a' 113,gQ a' 114,gQ a' 115,gQ a' 116,gQ a' 117,gQ a' 118,gQ a' 119,gQ a' 120,gQ a' 121,gQ a' 122,gQ a' 123,gQ a' 124,gQ a' 125,gQ a' 126,gQ a' 127,gQ a' 128,gQ a' 129,gQ a' 130,gQ a' 131,gQ a' 132,gQ a' 133,gQ a' 134,gQ a' 135,gQ a' 136,gQ a' 137,gQ a' 138,gQ a' 139,gQ a' 140,gQ a' 141,gQ a' 142,gQ a' 143,gQ a' 144,gQ a' 145,gQ a' 146,gQ a' 147,gQ a' 148,gQ a' 149,gQ a' 150,gQ a' 151,gQ a' 152,gQ a' 153,gQ a' 154,gQ a' 155,gQ a' 156,gQ a' 157,gQ a' 158,gQ a' 159,gQ a' 160,gQ a' 161,gQ a' 162,gQ a' 163,gQ a' 164,gQ a' 165,gQ a' 166,gQ a' 167,gQ a' 168,gQ a' 169,gQ a' 170,gQ a' 171,gQ a' 172,gQ a' 173,gQ a' 174,gQ a' 175,gQ a' 176,gQ a' 177,gQ a' 178,gQ a' 179,gQ a' 180,gQ a' 181,gQ a' 182,gQ a' 183,gQ a' 184,gQ a' 185,gQ a' 186,gQ a' 187,gQ a' 188,gQ a' 189,gQ a' 190,gQ a' 191,gQ a' 192,gQ a' 193,gQ a' 194],defers := [] } ∧ putNew C L XN = some L' ∧ L'.length ≤ ll + nl ∧ (∀ q ∈ L',q.k < 256) ∧ (∀ w',Own w0 w' (Y' ++ Z) → Cs w' al' L') ∧ Own w0 wc (Cells b12 cs 112 :: (Y' ++ RN :: Z))) → J a' wc)) (HR : Hid (∀ a' wc,(a' = { tmps := #[gQ a' 0,gQ a' 1,gQ a' 2,gQ a' 3,.slice none 0 0,.int .i64 4,gQ a' 6,gQ a' 7,gQ a' 8,gQ a' 9,gQ a' 10,gQ a' 11,gQ a' 12,gQ a' 13,gQ a' 14,gQ a' 15,gQ a' 16,gQ a' 17,gQ a' 18,gQ a' 19,gQ a' 20,gQ a' 21,gQ a' 22,gQ a' 23,gQ a' 24,gQ a' 25,gQ a' 26,gQ a' 27,gQ a' 28,gQ a' 29,gQ a' 30,gQ a' 31,gQ a' 32,gQ a' 33,gQ a' 34,gQ a' 35,gQ a' 36,gQ a' 37,gQ a' 38,gQ a' 39,gQ a' 40,gQ a' 41,gQ a' 42,gQ a' 43,gQ a' 44,gQ a' 45,gQ a' 46,gQ a' 47,gQ a' 48,gQ a' 49,gQ a' 50,gQ a' 51,gQ a' 52,gQ a' 53,gQ a' 54,gQ a' 55,gQ a' 56,gQ a' 57,gQ a' 58,gQ a' 59,gQ a' 60,gQ a' 61,gQ a' 62,gQ a' 63,gQ a' 64,gQ a' 65,gQ a' 66,gQ a' 67,gQ a' 68,gQ a' 69,gQ a' 70,gQ a' 71,gQ a' 72,gQ a' 73,gQ a' 74,gQ a' 75,gQ a' 76,gQ a' 77,gQ a' 78,gQ a' 79,gQ a' 80,gQ a' 81,gQ a' 82,gQ a' 83,gQ a' 84,gQ a' 85,gQ a' 86,gQ a' 87,gQ a' 88,gQ a' 89,gQ a' 90,gQ a' 91,gQ a' 92,gQ a' 93,gQ a' 94,gQ a' 95,gQ a' 96,gQ a' 97,gQ a' 98,gQ a' 99,gQ a' 100,gQ a' 101,gQ a' 102,gQ a' 103,gQ a' 104,gQ a' 105,gQ a' 106,gQ a' 107,gQ a' 108,gQ a' 109,gQ a' 110,gQ a' 111,gQ a' 112,gQ a' 113,gQ a' 114,gQ a' 115,gQ a' 116,gQ a' 117,gQ a' 118,gQ a' 119,gQ a' 120,gQ a' 121,gQ a' 122,gQ a' 123,gQ a' 124,gQ a' 125,gQ a' 126,gQ a' 127,gQ a' 128,gQ a' 129,gQ a' 130,gQ a' 131,gQ a' 132,gQ a' 133,gQ a' 134,gQ a' 135,gQ a' 136,gQ a' 137,gQ a' 138,gQ a' 139,gQ a' 140,gQ a' 141,gQ a' 142,gQ a' 143,gQ a' 144,gQ a' 145,gQ a' 146,gQ a' 147,gQ a' 148,gQ a' 149,gQ a' 150,gQ a' 151,gQ a' 152,gQ a' 153,gQ a' 154,gQ a' 155,gQ a' 156,gQ a' 157,gQ a' 158,gQ a' 159,gQ a' 160,gQ a' 161,gQ a' 162,gQ a' 163,gQ a' 164,gQ a' 165,gQ a' 166,gQ a' 167,gQ a' 168,gQ a' 169,gQ a' 170,gQ a' 171,gQ a' 172,gQ a' 173,gQ a' 174,gQ a' 175,gQ a' 176,gQ a' 177,gQ a' 178,gQ a' 179,gQ a' 180,gQ a' 181,gQ a' 182,gQ a' 183,gQ a' 184,gQ a' 185,gQ a' 186,gQ a' 187,gQ a' 188,gQ a' 189,gQ a' 190,gQ a' 191,gQ a' 192,gQ a' 193,gQ a' 194],defers := [] } ∧ putNew C L XN = none ∧ Own w0 wc Z) → Q' .ret a' wc)) (hK' : ∀ a' w',Met J a' w' → K' a' w') (a' : Act) (hact : a' = { tmps := #[v0,gQ a' 1,gQ a' 2,v3,gQ a' 4,gQ a' 5,gQ a' 6,.slice (some ⟨gn,0,none⟩) nn cn,gQ a' 8,gQ a' 9,gQ a' 10,gQ a' 11,.pointer (some ⟨b12,0,none⟩),.int .i64 (i : Int),.slice al ll cl,gQ a' 15,gQ a' 16,gQ a' 17,gQ a' 18,gQ a' 19,gQ a' 20,gQ a' 21,gQ a' 22,gQ a' 23,gQ a' 24,gQ a' 25,gQ a' 26,gQ a' 27,gQ a' 28,gQ a' 29,gQ a' 30,gQ a' 31,gQ a' 32,gQ a' 33,gQ a' 34,gQ a' 35,gQ a' 36,gQ a' 37,gQ a' 38,gQ a' 39,gQ a' 40,gQ a' 41,gQ a' 42,gQ a' 43,gQ a' 44,gQ a' 45,gQ a' 46,gQ a' 47,gQ a' 48,gQ a' 49,gQ a' 50,gQ a' 51,gQ a' 52,gQ a' 53,gQ a' 54,gQ a' 55,gQ a' 56,gQ a' 57,gQ a' 58,v59,v60,v61,gQ a' 62,gQ a' 63,gQ a' 64,gQ a' 65,gQ a' 66,gQ a' 67,gQ a' 68,gQ a' 69,gQ a' 70,gQ a' 71,gQ a' 72,gQ a' 73,gQ a' 74,gQ a' 75,gQ a' 76,gQ a' 77,gQ a' 78,gQ a' 79,gQ a' 80,gQ a' 81,gQ a' 82,gQ a' 83,gQ a' 84,gQ a' 85,gQ a' 86,gQ a' 87,gQ a' 88,gQ a' 89,gQ a' 90,gQ a' 91,gQ a' 92,gQ a' 93,.slice na nl nc,.int .i64 (nl : Int),.int .i64 0,gQ a' 97,gQ a' 98,gQ a' 99,gQ a' 100,gQ a' 101,gQ a' 102,gQ a' 103,gQ a' 104,gQ a' 105,gQ a' 106,gQ a' 107,gQ a' 108,gQ a' 109,gQ a' 110,gQ a' 111,gQ a' 112,gQ a' 113,gQ a' 114,gQ a' 115,gQ a' 116,gQ a' 117,gQ a' 118,gQ a' 119,gQ a' 120,gQ a' 121,gQ a' 122,gQ a' 123,gQ a' 124,gQ a' 125,gQ a' 126,gQ a' 127,gQ a' 128,gQ a' 129,gQ a' 130,gQ a' 131,gQ a' 132,gQ a' 133,gQ a' 134,gQ a' 135,gQ a' 136,gQ a' 137,gQ a' 138,gQ a' 139,gQ a' 140,gQ a' 141,gQ a' 142,gQ a' 143,gQ a' 144,gQ a' 145,gQ a' 146,gQ a' 147,gQ a' 148,gQ a' 149,gQ a' 150,gQ a' 151,gQ a' 152,gQ a' 153,gQ a' 154,gQ a' 155,gQ a' 156,gQ a' 157,gQ a' 158,gQ a' 159,gQ a' 160,gQ a' 161,gQ a' 162,gQ a' 163,gQ a' 164,gQ a' 165,gQ a' 166,gQ a' 167,gQ a' 168,gQ a' 169,gQ a' 170,gQ a' 171,gQ a' 172,gQ a' 173,gQ a' 174,gQ a' 175,gQ a' 176,gQ a' 177,gQ a' 178,gQ a' 179,gQ a' 180,gQ a' 181,gQ a' 182,gQ a' 183,gQ a' 184,gQ a' 185,gQ a' 186,gQ a' 187,gQ a' 188,gQ a' 189,gQ a' 190,gQ a' 191,gQ a' 192,gQ a' 193,gQ a' 194],defers := [] }) : (csnd (cfst (csnd (csnd (csnd (csnd (csnd (cinn (cfst (csnd (csnd (cinn (cinn (csnd (cfst (csnd (csnd (csnd (csnd ((Tryz.f55.body).getD .skip)))))))))))))))))))).wp Tryz.prog (Exit.then K' Q') a' W := by
 obtain ⟨u,hu⟩ : ∃ u : Nat → Value,∀ k,gQ a' k = u k := ⟨_,fun _ => rfl⟩
 simp only [hu] at hact
 clear hu
 subst hact
 refine wp_qP ?_
 dsimp only [cfst,csnd,cinn,Tryz.f55,Option.getD]
 go_wp2
 refine wp_loop (fun a' wr => ∃ (j : Nat) (Y' : List Thing) (al' : Option Addr) (cl' : Nat) (L' : List Cp),a' = { tmps := #[v0,gQ a' 1,gQ a' 2,v3,gQ a' 4,gQ a' 5,gQ a' 6,.slice (some ⟨gn,0,none⟩) nn cn,gQ a' 8,gQ a' 9,gQ a' 10,gQ a' 11,.pointer (some ⟨b12,0,none⟩),.int .i64 (i : Int),.slice al' L'.length cl',gQ a' 15,gQ a' 16,gQ a' 17,gQ a' 18,gQ a' 19,gQ a' 20,gQ a' 21,gQ a' 22,gQ a' 23,gQ a' 24,gQ a' 25,gQ a' 26,gQ a' 27,gQ a' 28,gQ a' 29,gQ a' 30,gQ a' 31,gQ a' 32,gQ a' 33,gQ a' 34,gQ a' 35,gQ a' 36,gQ a' 37,gQ a' 38,gQ a' 39,gQ a' 40,gQ a' 41,gQ a' 42,gQ a' 43,gQ a' 44,gQ a' 45,gQ a' 46,gQ a' 47,gQ a' 48,gQ a' 49,gQ a' 50,gQ a' 51,gQ a' 52,gQ a' 53,gQ a' 54,gQ a' 55,gQ a' 56,gQ a' 57,gQ a' 58,v59,v60,v61,gQ a' 62,gQ a' 63,gQ a' 64,gQ a' 65,gQ a' 66,gQ a' 67,gQ a' 68,gQ a' 69,gQ a' 70,gQ a' 71,gQ a' 72,gQ a' 73,gQ a' 74,gQ a' 75,gQ a' 76,gQ a' 77,gQ a' 78,gQ a' 79,gQ a' 80,gQ a' 81,gQ a' 82,gQ a' 83,gQ a' 84,gQ a' 85,gQ a' 86,gQ a' 87,gQ a' 88,gQ a' 89,gQ a' 90,gQ a' 91,gQ a' 92,gQ a' 93,.slice na nl nc,.int .i64 (nl : Int),.int .i64 (j : Int),gQ a' 97,gQ a' 98,gQ a' 99,gQ a' 100,gQ a' 101,gQ a' 102,gQ a' 103,gQ a' 104,gQ a' 105,gQ a' 106,gQ a' 107,gQ a' 108,gQ a' 109,gQ a' 110,gQ a' 111,gQ a' 112,gQ a' 113,gQ a' 114,gQ a' 115,gQ a' 116,gQ a' 117,gQ a' 118,gQ a' 119,gQ a' 120,gQ a' 121,gQ a' 122,gQ a' 123,gQ a' 124,gQ a' 125,gQ a' 126,gQ a' 127,gQ a' 128,gQ a' 129,gQ a' 130,gQ a' 131,gQ a' 132,gQ a' 133,gQ a' 134,gQ a' 135,gQ a' 136,gQ a' 137,gQ a' 138,gQ a' 139,gQ a' 140,gQ a' 141,gQ a' 142,gQ a' 143,gQ a' 144,gQ a' 145,gQ a' 146,gQ a' 147,gQ a' 148,gQ a' 149,gQ a' 150,gQ a' 151,gQ a' 152,gQ a' 153,gQ a' 154,gQ a' 155,gQ a' 156,gQ a' 157,gQ a' 158,gQ a' 159,gQ a' 160,gQ a' 161,gQ a' 162,gQ a' 163,gQ a' 164,gQ a' 165,gQ a' 166,gQ a' 167,gQ a' 168,gQ a' 169,gQ a' 170,gQ a' 171,gQ a' 172,gQ a' 173,gQ a' 174,gQ a' 175,gQ a' 176,gQ a' 177,gQ a' 178,gQ a' 179,gQ a' 180,gQ a' 181,gQ a' 182,gQ a' 183,gQ a' 184,gQ a' 185,gQ a' 186,gQ a' 187,gQ a' 188,gQ a' 189,gQ a' 190,gQ a' 191,gQ a' 192,gQ a' 193,gQ a' 194],defers := [] } ∧ j ≤ nl ∧ putNew C L' (XN.drop j) = putNew C L XN ∧ L'.length ≤ ll + j ∧ (∀ q ∈ L',q.k < 256) ∧ (∀ w',Own w0 w' (Y' ++ Z) → Cs w' al' L') ∧ Own w0 wr (Cells b12 cs 112 :: (Y' ++ RN :: Z))) (fun a' _ => nl - (intOf (a'.tmps.getD 96 undef)).toNat) ?_ ?_
 ·exact ⟨0,Y,al,cl,L,by rw [HL.out.1]; rfl,Nat.zero_le _,by rw [List.drop_zero],by rw [HL.out.1]; exact Nat.le_refl _,HL.out.2.2,HL.out.2.1,H.out⟩
 ·intro a' wr hI
  obtain ⟨j,Y',al',cl',L',hact,hj,hdr,hlen,hkk,hcs,hO⟩ := hI
  obtain ⟨u2,hu⟩ : ∃ u2 : Nat → Value,∀ k,gQ a' k = u2 k := ⟨_,fun _ => rfl⟩
  simp only [hu] at hact
  clear hu
  subst hact
  have HI : Hid (putNew C L' (XN.drop j) = putNew C L XN ∧ (∀ q ∈ L',q.k < 256) ∧ (∀ w',Own w0 w' (Y' ++ Z) → Cs w' al' L')) := ⟨hdr,hkk,hcs⟩
  by_cases hlt : j < nl
  ·have hlt' : (j : Int) < (nl : Int) := by omega
   obtain ⟨q,hq⟩ : ∃ q,XN[j]? = some q := ⟨_,List.getElem?_eq_getElem (by rw [HX.out.1]; exact hlt)⟩
   have hq8 := HX.out.2.2 q (List.mem_of_getElem? hq)
   obtain ⟨g,o,hna,-,y0,y1,y2,y3⟩ := (HX.out.2.1 wr hO.tail.lift.tail.dropA).at j q hq
   obtain ⟨r,hr,HRA⟩ := rplace_fix ac kl cc C HC.out.2.2.1 HC.out.2.2.2.1 HC.out.2.1 (by omega) q.k hq8
   have HQ : Hid (XN[j]? = some q) := hq
   have HWI : Hid (∀ w2 l',Own w0 w2 (l' ++ (Y' ++ RN :: Z)) → Calls _ _ _ _ _) := fun w2 l' hw2 => rwith_any w0 w2 _ hw2 al' L'.length cl' L' rfl (fun w' hw' => hcs w' hw'.dropA.lift.tail) hkk (by omega) q hq8
   have HGA : Hid (na = some ⟨g,o,none⟩) := hna
   obtain ⟨qk,qa,qb,qc⟩ := q
   simp only at y0 y1 y2 y3 hq8 HRA hr
   unfold Cp.ag at HWI
   simp only at HWI
   have HO : Hid (Own w0 (wr.alloc (.cells #[.int .u8 (qk : Int),.int .i32 qa,.int .i32 qb,.int .i32 qc] 63)) _) := hO.allocC #[.int .u8 (qk : Int),.int .i32 qa,.int .i32 qb,.int .i32 qc] 63
   have HRR : Hid (PlR C qk r) := hr
   obtain ⟨WA,hWA⟩ : ∃ WA,wr.alloc (.cells #[.int .u8 (qk : Int),.int .i32 qa,.int .i32 qb,.int .i32 qc] 63) = WA := ⟨_,rfl⟩
   rw [hWA] at HO
   have hEN : ∀ f : FrOf WA,Own w0 f.val (RN :: ((Cells wr.heap.size #[.int .u8 (qk : Int),.int .i32 qa,.int .i32 qb,.int .i32 qc] 63 :: Cells b12 cs 112 :: Y') ++ Z)) := fun f => Own.lift (l := Cells wr.heap.size #[.int .u8 (qk : Int),.int .i32 qa,.int .i32 qb,.int .i32 qc] 63 :: Cells b12 cs 112 :: Y') (HO.out.quiet f.fr)
   have CA : Hid (∀ f : FrOf WA,Calls Tryz.prog 53 #[.slice ac kl cc,.int .u8 (qk : Int)] f.val fun e w' => e = .returned (.int .i64 r) ∧ Fr Nobody f.val w') := fun f => HRA f.val (HC.out.1 f.val _ (hEN f)).2
   have r12 : ∀ f : FrOf WA,f.val.cell? ⟨gn,i * 2 + 1,none⟩ = some (.slice ac kl cc) := fun f => (HC.out.1 f.val _ (hEN f)).1
   have r17 : ∀ f : FrOf WA,f.val.cell? ⟨wr.heap.size,0,none⟩ = some (.int .u8 (qk : Int)) := fun f => by
    have := (HO.out.quiet f.fr).cell 0
    simpa using this
   have hin' : (i : Int) < (nn : Int) := by omega
   rw [hna]
   clear hO hdr hkk hcs hq hr HRA hEN
   go_wp2
   generalize hbs : wr.heap.size = b17 at *
   clear hWA
   refine wp_region_fr (by kernel_rfl) (by kernel_rfl) ?_
   repeat (with_reducible refine wpQuiet_step (fun K hK => ?_)
           go_simp
           first
            | (refine hK _ ?_; clear hK K)
            | (apply Exists.intro
               refine ⟨fun _ => ?_,hK _ ?_⟩
               (go_at_call 53; with_reducible refine Calls.fr_of (CA.out _))
               clear hK K))
   refine wpQuiet_nil ?_
   rintro w' ⟨f,rfl⟩
   have hO2 := HO.out.quiet f.fr
   clear r12 r17 CA HO
   generalize f.val = W4 at *
   rcases HRR.out with ⟨rfl,hno⟩ | ⟨jx,px,rfl,hjx,hyes⟩
   ·have HS : Hid (putNew C (insc L' ⟨qk,qa,qb,qc⟩) (XN.drop (j + 1)) = putNew C L XN) := by show _ = _; rw [← HI.out.1,putNew_is HQ.out (fst_has hno)]
    have HW2 : Hid (Calls _ _ _ _ _) := HWI.out W4 [_,_] hO2
    have q0 := hO2.cell 0
    have q1 := hO2.cell 1
    have q2 := hO2.cell 2
    have q3 := hO2.cell 3
    simp at q0 q1 q2 q3
    clear hno hO2 HWI
    go_wp2_with fail
    refine HW2.out.mono ?_
    rintro e w3 ⟨a3,c3,rfl,hO3⟩
    have HO3 : Hid (Own w0 w3 _) := hO3
    have hle := insc_len L' ⟨qk,qa,qb,qc⟩
    have HKK : Hid (∀ q ∈ insc L' ⟨qk,qa,qb,qc⟩,q.k < 256) := insc_kinds HI.out.2.1 hq8
    clear hO3 HW2 q0 q1 q2 q3
    go_wp2
    exact ⟨⟨j + 1,Row 63 4 (.slice a3 (insc L' ⟨qk,qa,qb,qc⟩).length c3) (insc L' ⟨qk,qa,qb,qc⟩).length (ccat (insc L' ⟨qk,qa,qb,qc⟩)) :: Cells b17 #[.int .u8 (qk : Int),.int .i32 qa,.int .i32 qb,.int .i32 qc] 63 :: Y',a3,c3,_,rfl,by omega,HS.out,by omega,HKK.out,fun w' hw' => Own.cs (hw'.view (by decide)) rfl,HO3.out.three⟩,by simp [intOf]; omega⟩
   ·have hj0 : (0 : Int) ≤ (jx : Int) := by omega
    have HN : Hid (putNew C L XN = none) := by
     show _ = _
     have h1 := fst_some hyes
     have h2 := mem_hasK h1.1
     rw [h1.2] at h2
     rw [← HI.out.1,putNew_bad HQ.out h2]
    have HZ : Hid (Own w0 W4 Z) := hO2.tail.tail.lift.tail.dropA
    clear hyes hjx hO2
    go_wp2
    exact HR.out _ _ ⟨rfl,HN.out,HZ.out⟩
  ·have hjn : j = nl := by omega
   subst hjn
   have hlt' : ¬ (j : Int) < (j : Int) := by omega
   have HE : Hid (putNew C L XN = some L') := by show _ = _; rw [← hdr,putNew_end (by rw [HX.out.1]; exact Nat.le_refl _)]
   have HO : Hid (Own w0 wr _) := hO
   clear hO hdr hkk hcs
   go_wp2
   exact Met.intro (HJ.out _ _ ⟨Y',al',cl',L',rfl,HE.out,hlen,HI.out.2.1,HI.out.2.2,HO.out⟩)
end Go.Proofs.YtgifeckbflkkpaaGreatDoor
