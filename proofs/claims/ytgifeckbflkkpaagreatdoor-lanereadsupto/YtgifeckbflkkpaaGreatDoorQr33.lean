/- The document's Patch: the kinds that a change takes away. -/
import Derived.Test.YtgifeckbflkkpaaGreatDoorQr23
import Derived.Test.YtgifeckbflkkpaaGreatDoorQr32
import Derived.Test.YtgifeckbflkkpaaGreatDoorQr15
namespace Go.Proofs.YtgifeckbflkkpaaGreatDoor
open Go.ChangeShapes Go.WideShapes Go.ChangeAt Go.RowKit
set_option linter.unusedVariables false
set_option maxHeartbeats 8000000
set_option maxRecDepth 100000
theorem gp_drop (w0 W : World) (Z Y : List Thing) (RN : Thing) (v0 v3 v7 v13 v59 v60 v61 : Value) (b12 : Nat) (cs : Array Value) (lost : Nat) (hlost : lost < 256) (HC1 : Hid (cs[1]? = some (.int .u8 (lost : Int)))) (al : Option Addr) (cl ll : Nat) (L : List Cp) (hll : ll ≤ 50000) (HL : Hid (L.length = ll ∧ (∀ w',Own w0 w' (Y ++ Z) → Cs w' al L) ∧ ∀ q ∈ L,q.k < 256)) (H : Hid (Own w0 W (Cells b12 cs 112 :: (Y ++ RN :: Z)))) (J K' : Act → World → Prop) (Q' : Exit → Act → World → Prop) (HJ : Hid (∀ a' wc,(∃ (Y' : List Thing) (al' : Option Addr) (cl' : Nat) (L' : List Cp),a' = { tmps := #[v0,gQ a' 1,gQ a' 2,v3,gQ a' 4,gQ a' 5,gQ a' 6,v7,gQ a' 8,gQ a' 9,gQ a' 10,gQ a' 11,.pointer (some ⟨b12,0,none⟩),v13,.slice al' L'.length cl',gQ a' 15,gQ a' 16,gQ a' 17,gQ a' 18,gQ a' 19,gQ a' 20,gQ a' 21,gQ a' 22,gQ a' 23,gQ a' 24,gQ a' 25,gQ a' 26,gQ a' 27,gQ a' 28,gQ a' 29,gQ a' 30,gQ a' 31,gQ a' 32,gQ a' 33,gQ a' 34,gQ a' 35,gQ a' 36,gQ a' 37,gQ a' 38,gQ a' 39,gQ a' 40,gQ a' 41,gQ a' 42,gQ a' 43,gQ a' 44,gQ a' 45,gQ a' 46,gQ a' 47,gQ a' 48,gQ a' 49,gQ a' 50,gQ a' 51,gQ a' 52,gQ a' 53,gQ a' 54,gQ a' 55,gQ a' 56,gQ a' 57,gQ a' 58,v59,v60,v61,gQ a' 62,gQ a' 63,gQ a' 64,gQ a' 65,gQ a' 66,gQ a' 67,gQ a' 68,gQ a' 69,gQ a' 70,gQ a' 71,gQ a' 72,gQ a' 73,gQ a' 74,gQ a' 75,gQ a' 76,gQ a' 77,gQ a' 78,gQ a' 79,gQ a' 80,gQ a' 81,gQ a' 82,gQ a' 83,gQ a' 84,gQ a' 85,gQ a' 86,gQ a' 87,gQ a' 88,gQ a' 89,gQ a' 90,gQ a' 91,gQ a' 92,gQ a' 93,gQ a' 94,gQ a' 95,gQ a' 96,gQ a' 97,gQ a' 98,gQ a' 99,gQ a' 100,gQ a' 101,gQ a' 102,gQ a' 103,gQ a' 104,gQ a' 105,gQ a' 106,gQ a' 107,gQ a' 108,gQ a' 109,gQ a' 110,gQ a' 111,gQ a' 112,gQ a' 113,gQ a' 114,gQ a' 115,gQ a' 116,gQ a' 117,gQ a' 118,gQ a' 119,gQ a' 120,gQ a' 121,gQ a' 122,gQ a' 123,gQ a' 124,gQ a' 125,gQ a' 126,gQ a' 127,gQ a' 128,gQ a' 129,gQ a' 130,gQ a' 131,gQ a' 132,gQ a' 133,gQ a' 134,gQ a' 135,gQ a' 136,gQ a' 137,gQ a' 138,gQ a' 139,gQ a' 140,gQ a' 141,gQ a' 142,gQ a' 143,gQ a' 144,gQ a' 145,gQ a' 146,gQ a' 147,gQ a' 148,gQ a' 149,gQ a' 150,gQ a' 151,gQ a' 152,gQ a' 153,gQ a' 154,gQ a' 155,gQ a' 156,gQ a' 157,gQ a' 158,gQ a' 159,gQ a' 160,gQ a' 161,gQ a' 162,gQ a' 163,gQ a' 164,gQ a' 165,gQ a' 166,gQ a' 167,gQ a' 168,gQ a' 169,gQ a' 170,gQ a' 171,gQ a' 172,gQ a' 173,gQ a' 174,gQ a' 175,gQ a' 176,gQ a' 177,gQ a' 178,gQ a' 179,gQ a' 180,gQ a' 181,gQ a' 182,gQ a' 183,gQ a' 184,gQ a' 185,gQ a' 186,gQ a' 187,gQ a' 188,gQ a' 189,gQ a' 190,gQ a' 191,gQ a' 192,gQ a' 193,gQ a' 194],defers := [] } ∧ dropK lost (List.range 8) L = some L' ∧ L'.length ≤ ll ∧ (∀ q ∈ L',q.k < 256) ∧ (∀ w',Own w0 w' (Y' ++ Z) → Cs w' al' L') ∧ Own w0 wc (Cells b12 cs 112 :: (Y' ++ RN :: Z))) → J a' wc)) (HR : Hid (∀ a' wc,(a' = { tmps := #[gQ a' 0,gQ a' 1,gQ a' 2,gQ a' 3,.slice none 0 0,.int .i64 4,gQ a' 6,gQ a' 7,gQ a' 8,gQ a' 9,gQ a' 10,gQ a' 11,gQ a' 12,gQ a' 13,gQ a' 14,gQ a' 15,gQ a' 16,gQ a' 17,gQ a' 18,gQ a' 19,gQ a' 20,gQ a' 21,gQ a' 22,gQ a' 23,gQ a' 24,gQ a' 25,gQ a' 26,gQ a' 27,gQ a' 28,gQ a' 29,gQ a' 30,gQ a' 31,gQ a' 32,gQ a' 33,gQ a' 34,gQ a' 35,gQ a' 36,gQ a' 37,gQ a' 38,gQ a' 39,gQ a' 40,gQ a' 41,gQ a' 42,gQ a' 43,gQ a' 44,gQ a' 45,gQ a' 46,gQ a' 47,gQ a' 48,gQ a' 49,gQ a' 50,gQ a' 51,gQ a' 52,gQ a' 53,gQ a' 54,gQ a' 55,gQ a' 56,gQ a' 57,gQ a' 58,gQ a' 59,gQ a' 60,gQ a' 61,gQ a' 62,gQ a' 63,gQ a' 64,gQ a' 65,gQ a' 66,gQ a' 67,gQ a' 68,gQ a' 69,gQ a' 70,gQ a' 71,gQ a' 72,gQ a' 73,gQ a' 74,gQ a' 75,gQ a' 76,gQ a' 77,gQ a' 78,gQ a' 79,gQ a' 80,gQ a' 81,gQ a' 82,gQ a' 83,gQ a' 84,gQ a' 85,gQ a' 86,gQ a' 87,gQ a' 88,gQ a' 89,gQ a' 90,gQ a' 91,gQ a' 92,gQ a' 93,gQ a' 94,gQ a' 95,gQ a' 96,gQ a' 97,gQ a' 98,gQ a' 99,gQ a' 100,gQ a' 101,gQ a' 102,gQ a' 103,gQ a' 104,gQ a' 105,gQ a' 106,gQ a' 107,gQ a' 108,gQ a' 109,gQ a' 110,gQ a' 111,gQ a' 112,gQ a' 113,gQ a' 114,gQ a' 115,gQ a' 116,gQ a' 117,gQ a' 118,gQ a' 119,gQ a' 120,gQ a' 121,gQ a' 122,gQ a' 123,gQ a' 124,gQ a' 125,gQ a' 126,gQ a' 127,gQ a' 128,gQ a' 129,gQ a' 130,gQ a' 131,gQ a' 132,gQ a' 133,gQ a' 134,gQ a' 135,gQ a' 136,gQ a' 137,gQ a' 138,gQ a' 139,gQ a' 140,gQ a' 141,gQ a' 142,gQ a' 143,gQ a' 144,gQ a' 145,gQ a' 146,gQ a' 147,gQ a' 148,gQ a' 149,gQ a' 150,gQ a' 151,gQ a' 152,gQ a' 153,gQ a' 154,gQ a' 155,gQ a' 156,gQ a' 157,gQ a' 158,gQ a' 159,gQ a' 160,gQ a' 161,gQ a' 162,gQ a' 163,gQ a' 164,gQ a' 165,gQ a' 166,gQ a' 167,gQ a' 168,gQ a' 169,gQ a' 170,gQ a' 171,gQ a' 172,gQ a' 173,gQ a' 174,gQ a' 175,gQ a' 176,gQ a' 177,gQ a' 178,gQ a' 179,gQ a' 180,gQ a' 181,gQ a' 182,gQ a' 183,gQ a' 184,gQ a' 185,gQ a' 186,gQ a' 187,gQ a' 188,gQ a' 189,gQ a' 190,gQ a' 191,gQ a' 192,gQ a' 193,gQ a' 194],defers := [] } ∧ dropK lost (List.range 8) L = none ∧ Own w0 wc Z) → Q' .ret a' wc)) (hK' : ∀ a' w',Met J a' w' → K' a' w') (a' : Act) (hact : a' = { tmps := #[v0,gQ a' 1,gQ a' 2,v3,gQ a' 4,gQ a' 5,gQ a' 6,v7,gQ a' 8,gQ a' 9,gQ a' 10,gQ a' 11,.pointer (some ⟨b12,0,none⟩),v13,.slice al ll cl,gQ a' 15,gQ a' 16,gQ a' 17,gQ a' 18,gQ a' 19,gQ a' 20,gQ a' 21,gQ a' 22,gQ a' 23,gQ a' 24,gQ a' 25,gQ a' 26,gQ a' 27,gQ a' 28,gQ a' 29,gQ a' 30,gQ a' 31,gQ a' 32,gQ a' 33,gQ a' 34,gQ a' 35,gQ a' 36,gQ a' 37,gQ a' 38,gQ a' 39,gQ a' 40,gQ a' 41,gQ a' 42,gQ a' 43,gQ a' 44,gQ a' 45,gQ a' 46,gQ a' 47,gQ a' 48,gQ a' 49,gQ a' 50,gQ a' 51,gQ a' 52,gQ a' 53,gQ a' 54,gQ a' 55,gQ a' 56,gQ a' 57,gQ a' 58,v59,v60,v61,gQ a' 62,gQ a' 63,gQ a' 64,gQ a' 65,gQ a' 66,gQ a' 67,gQ a' 68,gQ a' 69,gQ a' 70,gQ a' 71,gQ a' 72,gQ a' 73,gQ a' 74,gQ a' 75,.int .u8 0,gQ a' 77,gQ a' 78,gQ a' 79,gQ a' 80,gQ a' 81,gQ a' 82,gQ a' 83,gQ a' 84,gQ a' 85,gQ a' 86,gQ a' 87,gQ a' 88,gQ a' 89,gQ a' 90,gQ a' 91,gQ a' 92,gQ a' 93,gQ a' 94,gQ a' 95,gQ a' 96,gQ a' 97,gQ a' 98,gQ a' 99,gQ a' 100,gQ a' 101,gQ a' 102,gQ a' 103,gQ a' 104,gQ a' 105,gQ a' 106,gQ a' 107,gQ a' 108,gQ a' 109,gQ a' 110,gQ a' 111,gQ a' 112,gQ a' 113,gQ a' 114,gQ a' 115,gQ a' 116,gQ a' 117,gQ a' 118,gQ a' 119,gQ a' 120,gQ a' 121,gQ a' 122,gQ a' 123,gQ a' 124,gQ a' 125,gQ a' 126,gQ a' 127,gQ a' 128,gQ a' 129,gQ a' 130,gQ a' 131,gQ a' 132,gQ a' 133,gQ a' 134,gQ a' 135,gQ a' 136,gQ a' 137,gQ a' 138,gQ a' 139,gQ a' 140,gQ a' 141,gQ a' 142,gQ a' 143,gQ a' 144,gQ a' 145,gQ a' 146,gQ a' 147,gQ a' 148,gQ a' 149,gQ a' 150,gQ a' 151,gQ a' 152,gQ a' 153,gQ a' 154,gQ a' 155,gQ a' 156,gQ a' 157,gQ a' 158,gQ a' 159,gQ a' 160,gQ a' 161,gQ a' 162,gQ a' 163,gQ a' 164,gQ a' 165,gQ a' 166,gQ a' 167,gQ a' 168,gQ a' 169,gQ a' 170,gQ a' 171,gQ a' 172,gQ a' 173,gQ a' 174,gQ a' 175,gQ a' 176,gQ a' 177,gQ a' 178,gQ a' 179,gQ a' 180,gQ a' 181,gQ a' 182,gQ a' 183,gQ a' 184,gQ a' 185,gQ a' 186,gQ a' 187,gQ a' 188,gQ a' 189,gQ a' 190,gQ a' 191,gQ a' 192,gQ a' 193,gQ a' 194],defers := [] }) : (csnd (cfst (csnd (csnd (csnd (csnd (cinn (cfst (csnd (csnd (cinn (cinn (csnd (cfst (csnd (csnd (csnd (csnd ((Tryz.f55.body).getD .skip))))))))))))))))))).wp Tryz.prog (Exit.then K' Q') a' W := by
 obtain ⟨u,hu⟩ : ∃ u : Nat → Value,∀ k,gQ a' k = u k := ⟨_,fun _ => rfl⟩
 simp only [hu] at hact
 clear hu
 subst hact
 refine wp_qP ?_
 dsimp only [cfst,csnd,cinn,Tryz.f55,Option.getD]
 go_wp2
 refine wp_loop (fun a' wr => ∃ (k : Nat) (Y' : List Thing) (al' : Option Addr) (cl' : Nat) (L' : List Cp),a' = { tmps := #[v0,gQ a' 1,gQ a' 2,v3,gQ a' 4,gQ a' 5,gQ a' 6,v7,gQ a' 8,gQ a' 9,gQ a' 10,gQ a' 11,.pointer (some ⟨b12,0,none⟩),v13,.slice al' L'.length cl',gQ a' 15,gQ a' 16,gQ a' 17,gQ a' 18,gQ a' 19,gQ a' 20,gQ a' 21,gQ a' 22,gQ a' 23,gQ a' 24,gQ a' 25,gQ a' 26,gQ a' 27,gQ a' 28,gQ a' 29,gQ a' 30,gQ a' 31,gQ a' 32,gQ a' 33,gQ a' 34,gQ a' 35,gQ a' 36,gQ a' 37,gQ a' 38,gQ a' 39,gQ a' 40,gQ a' 41,gQ a' 42,gQ a' 43,gQ a' 44,gQ a' 45,gQ a' 46,gQ a' 47,gQ a' 48,gQ a' 49,gQ a' 50,gQ a' 51,gQ a' 52,gQ a' 53,gQ a' 54,gQ a' 55,gQ a' 56,gQ a' 57,gQ a' 58,v59,v60,v61,gQ a' 62,gQ a' 63,gQ a' 64,gQ a' 65,gQ a' 66,gQ a' 67,gQ a' 68,gQ a' 69,gQ a' 70,gQ a' 71,gQ a' 72,gQ a' 73,gQ a' 74,gQ a' 75,.int .u8 (k : Int),gQ a' 77,gQ a' 78,gQ a' 79,gQ a' 80,gQ a' 81,gQ a' 82,gQ a' 83,gQ a' 84,gQ a' 85,gQ a' 86,gQ a' 87,gQ a' 88,gQ a' 89,gQ a' 90,gQ a' 91,gQ a' 92,gQ a' 93,gQ a' 94,gQ a' 95,gQ a' 96,gQ a' 97,gQ a' 98,gQ a' 99,gQ a' 100,gQ a' 101,gQ a' 102,gQ a' 103,gQ a' 104,gQ a' 105,gQ a' 106,gQ a' 107,gQ a' 108,gQ a' 109,gQ a' 110,gQ a' 111,gQ a' 112,gQ a' 113,gQ a' 114,gQ a' 115,gQ a' 116,gQ a' 117,gQ a' 118,gQ a' 119,gQ a' 120,gQ a' 121,gQ a' 122,gQ a' 123,gQ a' 124,gQ a' 125,gQ a' 126,gQ a' 127,gQ a' 128,gQ a' 129,gQ a' 130,gQ a' 131,gQ a' 132,gQ a' 133,gQ a' 134,gQ a' 135,gQ a' 136,gQ a' 137,gQ a' 138,gQ a' 139,gQ a' 140,gQ a' 141,gQ a' 142,gQ a' 143,gQ a' 144,gQ a' 145,gQ a' 146,gQ a' 147,gQ a' 148,gQ a' 149,gQ a' 150,gQ a' 151,gQ a' 152,gQ a' 153,gQ a' 154,gQ a' 155,gQ a' 156,gQ a' 157,gQ a' 158,gQ a' 159,gQ a' 160,gQ a' 161,gQ a' 162,gQ a' 163,gQ a' 164,gQ a' 165,gQ a' 166,gQ a' 167,gQ a' 168,gQ a' 169,gQ a' 170,gQ a' 171,gQ a' 172,gQ a' 173,gQ a' 174,gQ a' 175,gQ a' 176,gQ a' 177,gQ a' 178,gQ a' 179,gQ a' 180,gQ a' 181,gQ a' 182,gQ a' 183,gQ a' 184,gQ a' 185,gQ a' 186,gQ a' 187,gQ a' 188,gQ a' 189,gQ a' 190,gQ a' 191,gQ a' 192,gQ a' 193,gQ a' 194],defers := [] } ∧ k ≤ 8 ∧ dropK lost ((List.range 8).drop k) L' = dropK lost (List.range 8) L ∧ L'.length ≤ ll ∧ (∀ q ∈ L',q.k < 256) ∧ (∀ w',Own w0 w' (Y' ++ Z) → Cs w' al' L') ∧ Own w0 wr (Cells b12 cs 112 :: (Y' ++ RN :: Z))) (fun a' _ => 8 - (intOf (a'.tmps.getD 76 undef)).toNat) ?_ ?_
 ·exact ⟨0,Y,al,cl,L,by rw [HL.out.1]; rfl,Nat.zero_le _,rfl,by rw [HL.out.1]; exact Nat.le_refl _,HL.out.2.2,HL.out.2.1,H.out⟩
 ·intro a' wr hI
  obtain ⟨k,Y',al',cl',L',hact,hk,hdr,hlen,hkk,hcs,hO⟩ := hI
  obtain ⟨u2,hu⟩ : ∃ u2 : Nat → Value,∀ k,gQ a' k = u2 k := ⟨_,fun _ => rfl⟩
  simp only [hu] at hact
  clear hu
  subst hact
  have HO : Hid (Own w0 wr _) := hO
  have HI : Hid (dropK lost ((List.range 8).drop k) L' = dropK lost (List.range 8) L ∧ (∀ q ∈ L',q.k < 256) ∧ (∀ w',Own w0 w' (Y' ++ Z) → Cs w' al' L')) := ⟨hdr,hkk,hcs⟩
  by_cases hlt : k < 8
  ·have hlt' : (k : Int) < 8 := by omega
   have c1 := hO.cell 1
   rw [HC1.out] at c1
   have HFI : Hid (Calls _ _ _ _ _) := find_any wr al' L'.length cl' L' rfl (hcs wr hO.tail.lift.tail) hkk (by omega) k (by omega)
   have HWO : Hid (∀ w2,Own w0 w2 (Cells b12 cs 112 :: (Y' ++ RN :: Z)) → Calls _ _ _ _ _) := fun w2 hw2 => rwithout_any w0 w2 _ hw2 al' L'.length cl' L' rfl (fun w' hw' => hcs w' hw'.tail.lift.tail) hkk (by omega) k (by omega)
   clear hO hdr hkk hcs
   by_cases hb : lost / 2 ^ k % 2 = 0
   ·have hbit : ((((lost : Int) / 2 ^ k).tmod 2) == 0) = true := by rw [shr_bit]; exact decide_eq_true hb
    have HS : Hid (dropK lost ((List.range 8).drop (k + 1)) L' = dropK lost (List.range 8) L) := by show _ = _; rw [← HI.out.1,dropK_no hlt hb]
    clear hb
    go_wp2
    refine ⟨⟨k + 1,Y',al',cl',L',rfl,by omega,HS.out,hlen,HI.out.2.1,HI.out.2.2,HO.out⟩,by simp [intOf]; omega⟩
   ·have hbit : ((((lost : Int) / 2 ^ k).tmod 2) == 0) = false := by rw [shr_bit]; exact decide_eq_false hb
    have HB : Hid (¬ lost / 2 ^ k % 2 = 0) := hb
    clear hb
    go_wp2_with fail
    refine HFI.out.mono ?_
    rintro e w2 ⟨r,rfl,hf,hr⟩
    have hO2 := HO.out.quiet hf
    clear hf HFI HO c1
    rcases hr with ⟨rfl,hno⟩ | ⟨i,rfl,q,hq,hqk,hyes⟩
    ·have HN : Hid (dropK lost (List.range 8) L = none) := by show _ = _; rw [← HI.out.1,dropK_bad hlt HB.out hno]
     have HZ : Hid (Own w0 w2 Z) := hO2.tail.lift.tail.dropA
     clear hno hO2
     go_wp2
     exact HR.out _ _ ⟨rfl,HN.out,HZ.out⟩
    ·have HS : Hid (dropK lost ((List.range 8).drop (k + 1)) (outk L' k) = dropK lost (List.range 8) L) := by show _ = _; rw [← HI.out.1,dropK_is hlt HB.out hyes]
     have hi0 : ¬ ((i : Int) < 0) := by omega
     have HW2 : Hid (Calls _ _ _ _ _) := HWO.out w2 hO2
     clear hq hqk hyes hO2 HWO
     go_wp2_with fail
     refine HW2.out.mono ?_
     rintro e w3 ⟨a3,c3,rfl,hO3⟩
     have HO3 : Hid (Own w0 w3 _) := hO3
     clear hO3 HW2
     go_wp2
     refine ⟨⟨k + 1,Row 63 4 (.slice a3 (outk L' k).length c3) (outk L' k).length (ccat (outk L' k)) :: Y',a3,c3,outk L' k,rfl,by omega,HS.out,Nat.le_trans (outk_len _ _) hlen,outk_kinds k HI.out.2.1,fun w' hw' => Own.cs (hw'.view (by decide)) rfl,HO3.out.two⟩,by simp [intOf]; omega⟩
  ·have hk8 : k = 8 := by omega
   subst hk8
   have hlt' : ¬ (8 : Int) < 8 := by omega
   have HE : Hid (dropK lost (List.range 8) L = some L') := by show _ = _; rw [← hdr,dropK_end (Nat.le_refl 8)]
   clear hO hdr hkk hcs
   go_wp2
   exact Met.intro (HJ.out _ _ ⟨Y',al',cl',L',rfl,HE.out,hlen,HI.out.2.1,HI.out.2.2,HO.out⟩)
end Go.Proofs.YtgifeckbflkkpaaGreatDoor
