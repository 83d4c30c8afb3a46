/- The document's Patch: one that comes is laid in. -/
import Derived.Test.YtgifeckbflkkpaaGreatDoorQr23
namespace Go.Proofs.YtgifeckbflkkpaaGreatDoor
open Go.ChangeShapes Go.WideShapes Go.ChangeAt Go.RowKit
set_option linter.unusedVariables false
set_option maxHeartbeats 8000000
set_option maxRecDepth 100000
theorem ecat_snoc (O : List EnE) (e : EnE) : cat EnE.cs (O ++ [e]) = cat EnE.cs O ++ [.int .u32 (e.id : Int),.slice e.ao e.C.length e.cap] := by rw [cat_append]; simp [cat,EnE.cs]
theorem gp_lay (w0 W : World) (Z : List Thing) (v0 v3 v136 v137 v138 : Value) (a : Option Addr) (n c b21 ei el ec : Nat) (ea : Option Addr) (eC : List Cp) (N : List EnE) (hn : n ≤ 100000) (HN : Hid (N.length = n ∧ eC.length = el)) (H : Hid (Own w0 W (Cells b21 #[.int .u32 (ei : Int),.slice ea el ec] 60 :: Row 60 2 (.slice a n c) n (cat EnE.cs N) :: Z))) (J K' : Act → World → Prop) (Q' : Exit → Act → World → Prop) (HJ : Hid (∀ a' wc,(∃ (O : List EnE) (dn : Bool) (a1 : Option Addr) (c1 : Nat),a' = { tmps := #[v0,gQ a' 1,gQ a' 2,v3,gQ a' 4,gQ a' 5,gQ a' 6,.slice a n c,gQ a' 8,gQ a' 9,gQ a' 10,gQ a' 11,gQ a' 12,gQ a' 13,gQ a' 14,gQ a' 15,gQ a' 16,gQ a' 17,gQ a' 18,gQ a' 19,gQ a' 20,.pointer (some ⟨b21,0,none⟩),.slice a1 O.length c1,.bool dn,gQ a' 24,gQ a' 25,gQ a' 26,gQ a' 27,gQ a' 28,gQ a' 29,gQ a' 30,gQ a' 31,gQ a' 32,gQ a' 33,gQ a' 34,gQ a' 35,gQ a' 36,gQ a' 37,gQ a' 38,gQ a' 39,gQ a' 40,gQ a' 41,gQ a' 42,gQ a' 43,gQ a' 44,gQ a' 45,gQ a' 46,gQ a' 47,gQ a' 48,gQ a' 49,gQ a' 50,gQ a' 51,gQ a' 52,gQ a' 53,gQ a' 54,gQ a' 55,gQ a' 56,gQ a' 57,gQ a' 58,gQ a' 59,gQ a' 60,gQ a' 61,gQ a' 62,gQ a' 63,gQ a' 64,gQ a' 65,gQ a' 66,gQ a' 67,gQ a' 68,gQ a' 69,gQ a' 70,gQ a' 71,gQ a' 72,gQ a' 73,gQ a' 74,gQ a' 75,gQ a' 76,gQ a' 77,gQ a' 78,gQ a' 79,gQ a' 80,gQ a' 81,gQ a' 82,gQ a' 83,gQ a' 84,gQ a' 85,gQ a' 86,gQ a' 87,gQ a' 88,gQ a' 89,gQ a' 90,gQ a' 91,gQ a' 92,gQ a' 93,gQ a' 94,gQ a' 95,gQ a' 96,gQ a' 97,gQ a' 98,gQ a' 99,gQ a' 100,gQ a' 101,gQ a' 102,gQ a' 103,gQ a' 104,gQ a' 105,gQ a' 106,gQ a' 107,gQ a' 108,gQ a' 109,gQ a' 110,gQ a' 111,gQ a' 112,gQ a' 113,gQ a' 114,gQ a' 115,gQ a' 116,gQ a' 117,gQ a' 118,gQ a' 119,gQ a' 120,gQ a' 121,gQ a' 122,gQ a' 123,gQ a' 124,gQ a' 125,gQ a' 126,gQ a' 127,gQ a' 128,gQ a' 129,gQ a' 130,gQ a' 131,gQ a' 132,gQ a' 133,gQ a' 134,gQ a' 135,v136,v137,v138,gQ a' 139,gQ a' 140,gQ a' 141,gQ a' 142,gQ a' 143,gQ a' 144,gQ a' 145,gQ a' 146,gQ a' 147,gQ a' 148,gQ a' 149,gQ a' 150,gQ a' 151,gQ a' 152,gQ a' 153,gQ a' 154,gQ a' 155,gQ a' 156,gQ a' 157,gQ a' 158,gQ a' 159,gQ a' 160,gQ a' 161,gQ a' 162,gQ a' 163,gQ a' 164,gQ a' 165,gQ a' 166,gQ a' 167,gQ a' 168,gQ a' 169,gQ a' 170,gQ a' 171,gQ a' 172,gQ a' 173,gQ a' 174,gQ a' 175,gQ a' 176,gQ a' 177,gQ a' 178,gQ a' 179,gQ a' 180,gQ a' 181,gQ a' 182,gQ a' 183,gQ a' 184,gQ a' 185,gQ a' 186,gQ a' 187,gQ a' 188,gQ a' 189,gQ a' 190,gQ a' 191,gQ a' 192,gQ a' 193,gQ a' 194],defers := [] } ∧ CmI ⟨ei,ea,ec,eC⟩ N n O dn ∧ Own w0 wc (Row 60 2 (.slice a1 O.length c1) O.length (cat EnE.cs O) :: Cells b21 #[.int .u32 (ei : Int),.slice ea el ec] 60 :: Row 60 2 (.slice a n c) n (cat EnE.cs N) :: Z)) → J a' wc)) (hK' : ∀ a' w',Met J a' w' → K' a' w') (a' : Act) (hact : a' = { tmps := #[v0,gQ a' 1,gQ a' 2,v3,gQ a' 4,gQ a' 5,gQ a' 6,.slice a n c,gQ a' 8,gQ a' 9,gQ a' 10,gQ a' 11,gQ a' 12,gQ a' 13,gQ a' 14,gQ a' 15,gQ a' 16,gQ a' 17,gQ a' 18,gQ a' 19,gQ a' 20,.pointer (some ⟨b21,0,none⟩),.slice none 0 0,.bool false,gQ a' 24,gQ a' 25,gQ a' 26,gQ a' 27,gQ a' 28,gQ a' 29,gQ a' 30,gQ a' 31,gQ a' 32,gQ a' 33,gQ a' 34,gQ a' 35,gQ a' 36,gQ a' 37,gQ a' 38,gQ a' 39,gQ a' 40,gQ a' 41,gQ a' 42,gQ a' 43,gQ a' 44,gQ a' 45,gQ a' 46,gQ a' 47,gQ a' 48,gQ a' 49,gQ a' 50,gQ a' 51,gQ a' 52,gQ a' 53,gQ a' 54,gQ a' 55,gQ a' 56,gQ a' 57,gQ a' 58,gQ a' 59,gQ a' 60,gQ a' 61,gQ a' 62,gQ a' 63,gQ a' 64,gQ a' 65,gQ a' 66,gQ a' 67,gQ a' 68,gQ a' 69,gQ a' 70,gQ a' 71,gQ a' 72,gQ a' 73,gQ a' 74,gQ a' 75,gQ a' 76,gQ a' 77,gQ a' 78,gQ a' 79,gQ a' 80,gQ a' 81,gQ a' 82,gQ a' 83,gQ a' 84,gQ a' 85,gQ a' 86,gQ a' 87,gQ a' 88,gQ a' 89,gQ a' 90,gQ a' 91,gQ a' 92,gQ a' 93,gQ a' 94,gQ a' 95,gQ a' 96,gQ a' 97,gQ a' 98,gQ a' 99,gQ a' 100,gQ a' 101,gQ a' 102,gQ a' 103,gQ a' 104,gQ a' 105,gQ a' 106,gQ a' 107,gQ a' 108,gQ a' 109,gQ a' 110,gQ a' 111,gQ a' 112,gQ a' 113,gQ a' 114,gQ a' 115,gQ a' 116,gQ a' 117,gQ a' 118,gQ a' 119,gQ a' 120,gQ a' 121,gQ a' 122,gQ a' 123,gQ a' 124,gQ a' 125,gQ a' 126,gQ a' 127,gQ a' 128,gQ a' 129,gQ a' 130,gQ a' 131,gQ a' 132,gQ a' 133,gQ a' 134,gQ a' 135,v136,v137,v138,gQ a' 139,gQ a' 140,gQ a' 141,gQ a' 142,gQ a' 143,gQ a' 144,gQ a' 145,gQ a' 146,.slice a n c,.int .i64 (n : Int),.int .i64 0,gQ a' 150,gQ a' 151,gQ a' 152,gQ a' 153,gQ a' 154,gQ a' 155,gQ a' 156,gQ a' 157,gQ a' 158,gQ a' 159,gQ a' 160,gQ a' 161,gQ a' 162,gQ a' 163,gQ a' 164,gQ a' 165,gQ a' 166,gQ a' 167,gQ a' 168,gQ a' 169,gQ a' 170,gQ a' 171,gQ a' 172,gQ a' 173,gQ a' 174,gQ a' 175,gQ a' 176,gQ a' 177,gQ a' 178,gQ a' 179,gQ a' 180,gQ a' 181,gQ a' 182,gQ a' 183,gQ a' 184,gQ a' 185,gQ a' 186,gQ a' 187,gQ a' 188,gQ a' 189,gQ a' 190,gQ a' 191,gQ a' 192,gQ a' 193,gQ a' 194],defers := [] }) : (csnd (cfst (csnd (csnd (csnd (csnd (cinn (cfst (csnd (csnd (cinn (cinn (csnd (cfst (csnd (csnd (csnd (csnd (csnd ((Tryz.f55.body).getD .skip)))))))))))))))))))).wp Tryz.prog (Exit.then K' Q') a' W := by
 obtain ⟨iE,hiE,hE0,hE1,hE2⟩ := info3w Tryz.infoEnt
 obtain ⟨u,hu⟩ : ∃ u : Nat → Value,∀ k,gQ a' k = u k := ⟨_,fun _ => rfl⟩
 simp only [hu] at hact
 clear hu
 subst hact
 refine wp_qP ?_
 dsimp only [cfst,csnd,cinn,Tryz.f55,Option.getD]
 go_wp2
 refine wp_loop (fun a' wr => ∃ (j m : Nat) (O : List EnE) (dn : Bool) (a1 : Option Addr) (c1 : Nat),a' = { tmps := #[v0,gQ a' 1,gQ a' 2,v3,gQ a' 4,gQ a' 5,gQ a' 6,.slice a n c,gQ a' 8,gQ a' 9,gQ a' 10,gQ a' 11,gQ a' 12,gQ a' 13,gQ a' 14,gQ a' 15,gQ a' 16,gQ a' 17,gQ a' 18,gQ a' 19,gQ a' 20,.pointer (some ⟨b21,0,none⟩),.slice a1 m c1,.bool dn,gQ a' 24,gQ a' 25,gQ a' 26,gQ a' 27,gQ a' 28,gQ a' 29,gQ a' 30,gQ a' 31,gQ a' 32,gQ a' 33,gQ a' 34,gQ a' 35,gQ a' 36,gQ a' 37,gQ a' 38,gQ a' 39,gQ a' 40,gQ a' 41,gQ a' 42,gQ a' 43,gQ a' 44,gQ a' 45,gQ a' 46,gQ a' 47,gQ a' 48,gQ a' 49,gQ a' 50,gQ a' 51,gQ a' 52,gQ a' 53,gQ a' 54,gQ a' 55,gQ a' 56,gQ a' 57,gQ a' 58,gQ a' 59,gQ a' 60,gQ a' 61,gQ a' 62,gQ a' 63,gQ a' 64,gQ a' 65,gQ a' 66,gQ a' 67,gQ a' 68,gQ a' 69,gQ a' 70,gQ a' 71,gQ a' 72,gQ a' 73,gQ a' 74,gQ a' 75,gQ a' 76,gQ a' 77,gQ a' 78,gQ a' 79,gQ a' 80,gQ a' 81,gQ a' 82,gQ a' 83,gQ a' 84,gQ a' 85,gQ a' 86,gQ a' 87,gQ a' 88,gQ a' 89,gQ a' 90,gQ a' 91,gQ a' 92,gQ a' 93,gQ a' 94,gQ a' 95,gQ a' 96,gQ a' 97,gQ a' 98,gQ a' 99,gQ a' 100,gQ a' 101,gQ a' 102,gQ a' 103,gQ a' 104,gQ a' 105,gQ a' 106,gQ a' 107,gQ a' 108,gQ a' 109,gQ a' 110,gQ a' 111,gQ a' 112,gQ a' 113,gQ a' 114,gQ a' 115,gQ a' 116,gQ a' 117,gQ a' 118,gQ a' 119,gQ a' 120,gQ a' 121,gQ a' 122,gQ a' 123,gQ a' 124,gQ a' 125,gQ a' 126,gQ a' 127,gQ a' 128,gQ a' 129,gQ a' 130,gQ a' 131,gQ a' 132,gQ a' 133,gQ a' 134,gQ a' 135,v136,v137,v138,gQ a' 139,gQ a' 140,gQ a' 141,gQ a' 142,gQ a' 143,gQ a' 144,gQ a' 145,gQ a' 146,.slice a n c,.int .i64 (n : Int),.int .i64 (j : Int),gQ a' 150,gQ a' 151,gQ a' 152,gQ a' 153,gQ a' 154,gQ a' 155,gQ a' 156,gQ a' 157,gQ a' 158,gQ a' 159,gQ a' 160,gQ a' 161,gQ a' 162,gQ a' 163,gQ a' 164,gQ a' 165,gQ a' 166,gQ a' 167,gQ a' 168,gQ a' 169,gQ a' 170,gQ a' 171,gQ a' 172,gQ a' 173,gQ a' 174,gQ a' 175,gQ a' 176,gQ a' 177,gQ a' 178,gQ a' 179,gQ a' 180,gQ a' 181,gQ a' 182,gQ a' 183,gQ a' 184,gQ a' 185,gQ a' 186,gQ a' 187,gQ a' 188,gQ a' 189,gQ a' 190,gQ a' 191,gQ a' 192,gQ a' 193,gQ a' 194],defers := [] } ∧ j ≤ n ∧ O.length = m ∧ CmI ⟨ei,ea,ec,eC⟩ N j O dn ∧ Own w0 wr (Row 60 2 (.slice a1 m c1) m (cat EnE.cs O) :: Cells b21 #[.int .u32 (ei : Int),.slice ea el ec] 60 :: Row 60 2 (.slice a n c) n (cat EnE.cs N) :: Z)) (fun a' _ => n - (intOf (a'.tmps.getD 149 undef)).toNat) ?_ ?_
 ·exact ⟨0,0,[],false,none,0,rfl,Nat.zero_le _,rfl,.inl ⟨rfl,rfl,by simp⟩,H.out.nilRow _ _⟩
 ·intro a' wr hI
  obtain ⟨j,m,O,dn,a1,c1,hact,hj,hm,hcm,hO⟩ := hI
  obtain ⟨u2,hu⟩ : ∃ u2 : Nat → Value,∀ k,gQ a' k = u2 k := ⟨_,fun _ => rfl⟩
  simp only [hu] at hact
  clear hu
  subst hact
  have hol := hcm.len (by rw [HN.out.1]; exact hj)
  have hol2 : m ≤ 100001 := by rw [← hm,hol]; split <;> omega
  have HM : Hid (O.length = m) := hm
  have HCM : Hid (CmI ⟨ei,ea,ec,eC⟩ N j O dn) := hcm
  have HO : Hid (Own w0 wr _) := hO
  clear H hol hm
  by_cases hlt : j < n
  ·have hlt' : (j : Int) < (n : Int) := by omega
   obtain ⟨x,hx⟩ : ∃ x,N[j]? = some x := ⟨_,List.getElem?_eq_getElem (by rw [HN.out.1]; exact hlt)⟩
   obtain ⟨g,cp,hv,_⟩ := row_shape hO.three.row (by omega)
   obtain ⟨hga,_,rfl⟩ := Value.slice.inj hv
   subst hga
   have y0 : wr.cell? ⟨g,j * 2,none⟩ = some (.int .u32 (x.id : Int)) := by
    rw [hO.three.row.cellAt _ (by omega)]
    exact cat_at EnE.cs 2 (fun _ => rfl) N j 0 x hx (by decide)
   have y1 : wr.cell? ⟨g,j * 2 + 1,none⟩ = some (.slice x.ao x.C.length x.cap) := by
    rw [hO.three.row.cellAt _ (by omega)]
    exact cat_at EnE.cs 2 (fun _ => rfl) N j 1 x hx (by decide)
   have HX : Hid (N[j]? = some x) := hx
   obtain ⟨xi,xa,xc,xC⟩ := x
   simp only at y0 y1
   obtain ⟨xl,hxl⟩ : ∃ xl,xl = xC.length := ⟨_,rfl⟩
   have HXL : Hid (xC.length = xl) := hxl.symm
   rw [← hxl] at y1
   have hA := hO.allocC #[.int .u32 (xi : Int),.slice xa xl xc] 60
   have q0 := hA.cell 0
   have q1 := hA.cell 1
   have q2 := hA.three.cell 0
   have q3 := hA.three.cell 1
   simp only [List.getElem?_toArray,List.getElem?_cons_zero,List.getElem?_cons_succ] at q0 q1 q2 q3
   have HA : Hid (Own w0 _ _) := hA.two
   clear hO hA hcm hx hxl HO
   cases dn with
   | true =>
    have HS : Hid (CmI ⟨ei,ea,ec,eC⟩ N (j + 1) (O ++ [⟨xi,xa,xc,xC⟩]) true) := HCM.out.on HX.out
    go_wp2_with (at_builtin; refine append1_own rfl _ _ 23 rfl 60 iE _ 2 32 Tryz.underlying23 hiE hE0 hE1 hE2 rfl (by decide) _ _ _ rfl HA.out _ #[.int .u32 (xi : Int),.slice xa xl xc] (by simp) rfl rfl (by intro u hu; simp at hu; rcases hu with rfl | rfl <;> rfl) (by unfold maxLen; omega) (by omega) ?_)
    intro g4 c4 w4 hO4 hsz
    have H4 : Hid (Own w0 w4 (Row 60 2 (.slice (some ⟨g4,0,none⟩) (m + 1) c4) (m + 1) (cat EnE.cs (O ++ [⟨xi,xa,xc,xC⟩])) :: Cells b21 #[.int .u32 (ei : Int),.slice ea el ec] 60 :: Row 60 2 (.slice (some ⟨g,0,none⟩) n c) n (cat EnE.cs N) :: Z)) := by
     show Own _ _ _
     rw [ecat_snoc]
     simp only [HXL.out]
     exact hO4.two.tail
    clear hO4 hsz q0 q1 q2 q3
    go_wp2
    exact ⟨⟨j + 1,m + 1,_,true,_,c4,rfl,by omega,by rw [List.length_append,HM.out]; rfl,HS.out,H4.out⟩,by simp [intOf]; omega⟩
   | false =>
    by_cases hge : ei ≤ xi
    ·have hge' : (ei : Int) ≤ (xi : Int) := by omega
     have HS : Hid (CmI ⟨ei,ea,ec,eC⟩ N (j + 1) (O ++ [⟨ei,ea,ec,eC⟩] ++ [⟨xi,xa,xc,xC⟩]) true) := HCM.out.put HX.out hge
     go_wp2_with (at_builtin; refine append1_own rfl _ _ 23 rfl 60 iE _ 2 32 Tryz.underlying23 hiE hE0 hE1 hE2 rfl (by decide) _ _ _ rfl HA.out _ #[.int .u32 (ei : Int),.slice ea el ec] (by simp) rfl rfl (by intro u hu; simp at hu; rcases hu with rfl | rfl <;> rfl) (by unfold maxLen; omega) (by omega) ?_)
     intro g4 c4 w4 hO4 hsz
     have s0 := hO4.two.cell 0
     have s1 := hO4.two.cell 1
     simp only [List.getElem?_toArray,List.getElem?_cons_zero,List.getElem?_cons_succ] at s0 s1
     have H4 : Hid (Own w0 w4 (Row 60 2 (.slice (some ⟨g4,0,none⟩) (m + 1) c4) (m + 1) (cat EnE.cs (O ++ [⟨ei,ea,ec,eC⟩])) :: Cells wr.heap.size #[.int .u32 (xi : Int),.slice xa xl xc] 60 :: Cells b21 #[.int .u32 (ei : Int),.slice ea el ec] 60 :: Row 60 2 (.slice (some ⟨g,0,none⟩) n c) n (cat EnE.cs N) :: Z)) := by
      show Own _ _ _
      rw [ecat_snoc]
      simp only [HN.out.2]
      exact hO4
     clear hO4 hsz q0 q1 q2 q3
     go_wp2_with (at_builtin; refine append1_own rfl _ _ 23 rfl 60 iE _ 2 32 Tryz.underlying23 hiE hE0 hE1 hE2 rfl (by decide) _ _ _ rfl H4.out _ #[.int .u32 (xi : Int),.slice xa xl xc] (by simp) rfl rfl (by intro u hu; simp at hu; rcases hu with rfl | rfl <;> rfl) (by unfold maxLen; omega) (by omega) ?_)
     intro g5 c5 w5 hO5 hsz
     have H5 : Hid (Own w0 w5 (Row 60 2 (.slice (some ⟨g5,0,none⟩) (m + 1 + 1) c5) (m + 1 + 1) (cat EnE.cs (O ++ [⟨ei,ea,ec,eC⟩] ++ [⟨xi,xa,xc,xC⟩])) :: Cells b21 #[.int .u32 (ei : Int),.slice ea el ec] 60 :: Row 60 2 (.slice (some ⟨g,0,none⟩) n c) n (cat EnE.cs N) :: Z)) := by
      show Own _ _ _
      rw [ecat_snoc]
      simp only [HXL.out]
      exact hO5.two.tail
     clear hO5 hsz s0 s1 H4
     go_wp2
     exact ⟨⟨j + 1,m + 1 + 1,_,true,_,c5,rfl,by omega,by rw [List.length_append,List.length_append,HM.out]; rfl,HS.out,H5.out⟩,by simp [intOf]; omega⟩
    ·have hge' : ¬ (ei : Int) ≤ (xi : Int) := by omega
     have HS : Hid (CmI ⟨ei,ea,ec,eC⟩ N (j + 1) (O ++ [⟨xi,xa,xc,xC⟩]) false) := HCM.out.by HX.out hge
     go_wp2_with (at_builtin; refine append1_own rfl _ _ 23 rfl 60 iE _ 2 32 Tryz.underlying23 hiE hE0 hE1 hE2 rfl (by decide) _ _ _ rfl HA.out _ #[.int .u32 (xi : Int),.slice xa xl xc] (by simp) rfl rfl (by intro u hu; simp at hu; rcases hu with rfl | rfl <;> rfl) (by unfold maxLen; omega) (by omega) ?_)
     intro g4 c4 w4 hO4 hsz
     have H4 : Hid (Own w0 w4 (Row 60 2 (.slice (some ⟨g4,0,none⟩) (m + 1) c4) (m + 1) (cat EnE.cs (O ++ [⟨xi,xa,xc,xC⟩])) :: Cells b21 #[.int .u32 (ei : Int),.slice ea el ec] 60 :: Row 60 2 (.slice (some ⟨g,0,none⟩) n c) n (cat EnE.cs N) :: Z)) := by
      show Own _ _ _
      rw [ecat_snoc]
      simp only [HXL.out]
      exact hO4.two.tail
     clear hO4 hsz q0 q1 q2 q3
     go_wp2
     exact ⟨⟨j + 1,m + 1,_,false,_,c4,rfl,by omega,by rw [List.length_append,HM.out]; rfl,HS.out,H4.out⟩,by simp [intOf]; omega⟩
  ·have hjn : j = n := by omega
   subst hjn
   have hlt' : ¬ (j : Int) < (j : Int) := by omega
   clear hO hcm
   go_wp2
   obtain rfl : O.length = m := HM.out
   exact Met.intro (HJ.out _ _ ⟨O,dn,a1,c1,rfl,HCM.out,HO.out⟩)
end Go.Proofs.YtgifeckbflkkpaaGreatDoor
