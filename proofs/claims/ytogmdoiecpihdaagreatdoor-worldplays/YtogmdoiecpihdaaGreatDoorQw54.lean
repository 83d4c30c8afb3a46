/- The world is the model, whatever it is told, tick by tick; so is a nil world: WorldPlays returns true, whatever its arguments, where the table of the components lies as the program's text lays it, and changes nothing that was there. -/
import Derived.Test.YtogmdoiecpihdaaGreatDoorQw53
import Derived.Test.YtogmdoiecpihdaaGreatDoorQw18
import Derived.OpenShut
import Derived.SevenTiedAt
import Derived.Deep.DeepCutAuto
import Derived.Deep.CutBlock
namespace Go.Proofs.YtogmdoiecpihdaaGreatDoor
open Go.ChangeShapes Go.WideShapes Go.ChangeAt Go.RowKit Go.Maps
set_option linter.unusedVariables false
set_option maxHeartbeats 32000000
set_option maxRecDepth 100000
theorem worldPlays_fr (w : World) (ht : Tab w) (n f : Int) (T : Nat) (hT : T ≤ 4294967295) (ao : Option Addr) (len cap : Nat) (Q : List TrnE) (hQ : IsTurns w ao len cap Q) :
  Calls Tryz.prog 3 #[.int .i64 n,.int .i64 f,.int .u32 (T : Int),.slice ao len cap] w fun e w' => e = .returned (.bool true) ∧ Fr Nobody w w' := by
 obtain ⟨hQl,hlc,hcm,hQa⟩ := hQ
 unfold maxLen at hcm
 have HT : Hid (Tab w) := ht
 have HQ : Hid (Q.length = len ∧ RowsAt (TrnIs w) 2 w ao Q) := ⟨hQl,hQa⟩
 have HAW : Hid (Calls _ _ _ _ _) := awake15 w ht
 have hJ0 := jw_start n f T hT
 have HNW : Hid (∀ W l',Own w W l' → _) := fun W l' h => wnew_o w W l' n f T hT h
 have HNR : Hid (∀ W l',Own w W l' → _) := fun W l' h => rnew_o w W l' n f T hT h
 generalize (if n < 1 ∨ 1024 < n ∨ f < 1 ∨ 4194303 < f then (⟨0,Sto.new 1 1,[],fun _ _ => none,[]⟩ : Wd) else ⟨T,Sto.new n.toNat f.toNat,[],fun _ _ => none,[]⟩) = x0 at *
 generalize (if n < 1 ∨ 1024 < n ∨ f < 1 ∨ 4194303 < f then (⟨0,Sto.new 1 1,[],[],[]⟩ : RWd) else ⟨T,Sto.new n.toNat f.toNat,[],[],[]⟩) = y0 at *
 generalize (n < 1 ∨ 1024 < n ∨ f < 1 ∨ 4194303 < f) = bad at *
 have HJ0 : Hid (JW x0 y0) := hJ0
 clear hQl hQa ht hJ0 hT
 go_enter Tryz.func3,Tryz.ntmps3
 go_wp2_with fail
 refine HAW.out.mono ?_
 rintro e w1 ⟨rfl,hf⟩
 have HC : Hid (Calls _ _ _ _ _) := HNW.out w1 [] (Own.of_fr hf)
 clear hf HAW HNW
 go_wp2_with fail
 refine HC.out.mono ?_
 rintro e w2 ⟨p,nc,rfl,hnc,hp,hO⟩
 have HC2 : Hid (Calls _ _ _ _ _) := HNR.out w2 _ hO
 have HNC : Hid (nc = _) := hnc
 clear HC hO HNR hnc
 go_wp2_with fail
 refine HC2.out.mono ?_
 rintro e w3 ⟨q,nc2,rfl,hnc2,hq,hO⟩
 have HB : Hid (Both p q) := Bool.eq_iff_iff.2 (hp.trans hq.symm)
 have H3 : Hid (Own w w3 [WO p x0 0 0,RO q y0 0]) := hO.two
 have hcc : nc2 = nc := by
  have := HB.out
  unfold Both at this
  rw [HNC.out,hnc2,this]
 subst hcc
 have hnn : ((pw p).isNone == (pw q).isNone) = true := by
  have := HB.out
  unfold Both at this
  cases p <;> cases q <;> first | rfl | cases this
 clear HC2 hO hp hq HNC hnc2
 go_wp2
 clear hnn
 refine wp_loop (fun a' wr => ∃ (k : Nat) (x : Wd) (y : RWd) (K n2 K2 : Nat),a' = { tmps := #[gf a' 0,gf a' 1,gf a' 2,gf a' 3,gf a' 4,gf a' 5,gf a' 6,gf a' 7,gf a' 8,.pointer (pw p),gf a' 10,.pointer (pw q),gf a' 12,gf a' 13,gf a' 14,gf a' 15,gf a' 16,gf a' 17,gf a' 18,gf a' 19,gf a' 20,gf a' 21,gf a' 22,gf a' 23,gf a' 24,gf a' 25,gf a' 26,gf a' 27,gf a' 28,gf a' 29,gf a' 30,gf a' 31,gf a' 32,gf a' 33,gf a' 34,gf a' 35,gf a' 36,gf a' 37,gf a' 38,gf a' 39,gf a' 40,gf a' 41,gf a' 42,gf a' 43,gf a' 44,gf a' 45,gf a' 46,gf a' 47,gf a' 48,.slice ao len cap,.int .i64 (len : Int),.int .i64 (k : Int),gf a' 52,gf a' 53,gf a' 54,gf a' 55,gf a' 56,gf a' 57,gf a' 58,gf a' 59,gf a' 60,gf a' 61,gf a' 62,gf a' 63,gf a' 64,gf a' 65,gf a' 66,gf a' 67,gf a' 68,gf a' 69,gf a' 70,gf a' 71,gf a' 72,gf a' 73,gf a' 74,gf a' 75,gf a' 76,gf a' 77,gf a' 78,gf a' 79,gf a' 80,gf a' 81,gf a' 82,gf a' 83,gf a' 84,gf a' 85,gf a' 86,gf a' 87,gf a' 88,gf a' 89,gf a' 90,gf a' 91,gf a' 92,gf a' 93,gf a' 94,gf a' 95,gf a' 96,gf a' 97,gf a' 98,gf a' 99,gf a' 100,gf a' 101,gf a' 102,gf a' 103,gf a' 104,gf a' 105,gf a' 106,gf a' 107,gf a' 108,gf a' 109,gf a' 110,gf a' 111,gf a' 112,gf a' 113,gf a' 114,gf a' 115,gf a' 116,gf a' 117,gf a' 118,gf a' 119,gf a' 120,gf a' 121,gf a' 122,gf a' 123,gf a' 124,gf a' 125,gf a' 126,gf a' 127,gf a' 128,gf a' 129,gf a' 130,gf a' 131,gf a' 132,gf a' 133,gf a' 134,gf a' 135,gf a' 136,gf a' 137,gf a' 138,gf a' 139,gf a' 140,gf a' 141,gf a' 142,gf a' 143,gf a' 144,gf a' 145,gf a' 146,gf a' 147,gf a' 148,gf a' 149,gf a' 150,gf a' 151,gf a' 152,gf a' 153,gf a' 154,gf a' 155],defers := [] } ∧ k ≤ len ∧ k ≤ 12 ∧ JW x y ∧ K ≤ 4000 * k ∧ n2 ≤ 100000 ∧ K2 ≤ 4000 * k ∧ Own w wr [WO p x K n2,RO q y K2]) (fun a' _ => len - (intOf (a'.tmps.getD 51 undef)).toNat) ?_ ?_
 ·exact ⟨0,x0,y0,0,0,0,rfl,Nat.zero_le _,Nat.zero_le _,HJ0.out,Nat.le_refl _,Nat.zero_le _,Nat.le_refl _,H3.out⟩
 ·intro a' wr hI
  obtain ⟨k,x,y,K,n2,K2,hact,hk,hk12,hj,hK,hn2,hK2,hO⟩ := hI
  obtain ⟨u,hu⟩ : ∃ u : Nat → Value,∀ k,gf a' k = u k := ⟨_,fun _ => rfl⟩
  simp only [hu] at hact
  clear hu
  subst hact
  have HJ : Hid (JW x y) := hj
  clear H3 HJ0 hj
  by_cases hlt : k < len
  ·have hlt' : (k : Int) < (len : Int) := by omega
   obtain ⟨g,o,qq,hao,hIO,p0,p1⟩ := trn_at (HQ.out.2.quiet hO.fr) k (by rw [HQ.out.1]; exact hlt)
   subst hao
   obtain ⟨qa,ql,qc,qQ,qk⟩ := qq
   simp only at hIO p0 p1
   by_cases h12 : k < 12
   ·have h12' : ¬ (12 : Int) ≤ (k : Int) := by omega
    obtain ⟨hql,hqc,hqm,_⟩ := id hIO
    obtain ⟨hOr,hw⟩ := hIO.ords
    unfold maxLen at hqm
    obtain ⟨L,hL⟩ : ∃ L,few12 qQ = L := ⟨_,rfl⟩
    obtain ⟨m,hm⟩ : ∃ m,L.length = m := ⟨_,rfl⟩
    have hm12 : m ≤ 12 := by rw [← hm,← hL]; exact few12_len qQ
    have HLI : Hid (∀ x ∈ L,Cs w x.ao x.C ∧ x.In ∧ x.C.length ≤ 20) := by
     intro x hx
     rw [← hL] at hx
     obtain ⟨o,ho,rfl⟩ := List.mem_map.1 hx
     have ho := List.mem_of_mem_take ho
     obtain ⟨h1,h2,h3,h4⟩ := hw o ho
     have hl : (o.C.take 20).length ≤ 20 := by rw [List.length_take]; exact Nat.min_le_left _ _
     exact ⟨(hOr.2 o ho).take 20,⟨h1,h2,h3,fun q hq => h4.cs.2 q (List.mem_of_mem_take hq),Nat.le_trans hl (by decide)⟩,hl⟩
    have hA := hO.allocC #[.slice qa ql qc,.int .u32 (qk : Int)] 34
    obtain ⟨bt,hbt⟩ : ∃ bt,wr.heap.size = bt := ⟨_,rfl⟩
    rw [hbt] at hA
    have HFW : Hid (Calls _ _ _ _ _) := few12_ok w _ _ hA qa ql qc qQ hql (by omega) (fun w'' h'' => hOr.quiet h''.fr) (fun o ho => ⟨(hw o ho).2.2.2.2.1,(hw o ho).2.2.2.2.2.1⟩)
    rw [hL,hm] at HFW
    have HN : Hid (L.length = m) := hm
    clear hO hA hOr hw hIO hL hm hql
    go_wp2_with fail
    refine HFW.out.mono ?_
    rintro e w4 ⟨fa,fc,rfl,hO⟩
    have HTW : Hid (Calls _ _ _ _ _) := twins_ok w w4 _ hO fa m fc L HN.out (by omega) (fun w' hw' => Own.ords hw' HN.out (fun x hx => (HLI.out x hx).1.quiet hw'.fr)) (fun o ho => by have := (HLI.out o ho).2.2; omega)
    clear HFW hO p0 hbt
    go_wp2_with fail
    refine HTW.out.mono ?_
    rintro e w5 ⟨E0,ra,rc,rfl,hE0,hE0l,hO⟩
    have H5 : Hid (Own w w5 [WO p x K n2,RO q y K2,WtT (.slice ra m rc) E0,Row 41 4 (.slice fa m fc) m (cat OrdE.cs L),Cells bt #[.slice qa ql qc,.int .u32 (qk : Int)] 34]) := by
     have h2 : Own w w5 (WtT (.slice ra m rc) E0 :: _) := Own.wtS (by rw [hE0l]; exact hO)
     exact h2.sel 5 [3,4,0,1,2] (by decide)
    have HE0 : Hid (E0.map OrdE.is = L.map OrdE.is ∧ E0.length = m) := ⟨hE0,hE0l⟩
    clear HTW hO hE0 hE0l
    go_upto_block 2 with (fail)
    refine wp_cut (fun a' wc => ∃ (x' : Wd) (y' : RWd),a' = { tmps := #[gf a' 0,gf a' 1,gf a' 2,gf a' 3,gf a' 4,gf a' 5,gf a' 6,gf a' 7,gf a' 8,.pointer (pw p),gf a' 10,.pointer (pw q),gf a' 12,gf a' 13,.pointer (some ⟨bt,0,none⟩),gf a' 15,gf a' 16,gf a' 17,gf a' 18,gf a' 19,gf a' 20,gf a' 21,gf a' 22,gf a' 23,gf a' 24,gf a' 25,gf a' 26,gf a' 27,gf a' 28,gf a' 29,gf a' 30,gf a' 31,gf a' 32,gf a' 33,gf a' 34,gf a' 35,gf a' 36,gf a' 37,gf a' 38,gf a' 39,gf a' 40,gf a' 41,gf a' 42,gf a' 43,gf a' 44,gf a' 45,gf a' 46,gf a' 47,gf a' 48,.slice (some ⟨g,o,none⟩) len cap,.int .i64 (len : Int),.int .i64 (k : Int),gf a' 52,gf a' 53,gf a' 54,gf a' 55,gf a' 56,gf a' 57,gf a' 58,gf a' 59,gf a' 60,gf a' 61,gf a' 62,gf a' 63,gf a' 64,gf a' 65,gf a' 66,gf a' 67,gf a' 68,gf a' 69,gf a' 70,gf a' 71,gf a' 72,gf a' 73,gf a' 74,gf a' 75,gf a' 76,gf a' 77,gf a' 78,gf a' 79,gf a' 80,gf a' 81,gf a' 82,gf a' 83,gf a' 84,gf a' 85,gf a' 86,gf a' 87,gf a' 88,gf a' 89,gf a' 90,gf a' 91,gf a' 92,gf a' 93,gf a' 94,gf a' 95,gf a' 96,gf a' 97,gf a' 98,gf a' 99,gf a' 100,gf a' 101,gf a' 102,gf a' 103,gf a' 104,gf a' 105,gf a' 106,gf a' 107,gf a' 108,gf a' 109,gf a' 110,gf a' 111,gf a' 112,gf a' 113,gf a' 114,gf a' 115,gf a' 116,gf a' 117,gf a' 118,gf a' 119,gf a' 120,gf a' 121,gf a' 122,gf a' 123,gf a' 124,gf a' 125,gf a' 126,gf a' 127,gf a' 128,gf a' 129,gf a' 130,gf a' 131,gf a' 132,gf a' 133,gf a' 134,gf a' 135,gf a' 136,gf a' 137,gf a' 138,gf a' 139,gf a' 140,gf a' 141,gf a' 142,gf a' 143,gf a' 144,gf a' 145,gf a' 146,gf a' 147,gf a' 148,gf a' 149,gf a' 150,gf a' 151,gf a' 152,gf a' 153,gf a' 154,gf a' 155],defers := [] } ∧ JW x' y' ∧ Own w wc [WO p x' K n2,RO q y' K2,Cells bt #[.slice qa ql qc,.int .u32 (qk : Int)] 34]) ?rest ?first
    case first =>
     intro J K' hJ hK'
     have HJJ : Hid _ := hJ
     clear hJ
     go_wp2
     refine wp_loop (fun a' wr => ∃ (j : Nat) (x' : Wd) (y' : RWd) (E : List OrdE),a' = { tmps := #[gf a' 0,gf a' 1,gf a' 2,gf a' 3,gf a' 4,gf a' 5,gf a' 6,gf a' 7,gf a' 8,.pointer (pw p),gf a' 10,.pointer (pw q),gf a' 12,gf a' 13,.pointer (some ⟨bt,0,none⟩),.slice fa m fc,.slice ra m rc,gf a' 17,gf a' 18,gf a' 19,gf a' 20,gf a' 21,gf a' 22,gf a' 23,gf a' 24,gf a' 25,gf a' 26,gf a' 27,gf a' 28,gf a' 29,gf a' 30,gf a' 31,gf a' 32,gf a' 33,gf a' 34,gf a' 35,gf a' 36,gf a' 37,gf a' 38,gf a' 39,gf a' 40,gf a' 41,gf a' 42,gf a' 43,gf a' 44,gf a' 45,gf a' 46,gf a' 47,gf a' 48,.slice (some ⟨g,o,none⟩) len cap,.int .i64 (len : Int),.int .i64 (k : Int),gf a' 52,gf a' 53,gf a' 54,gf a' 55,gf a' 56,gf a' 57,gf a' 58,gf a' 59,gf a' 60,gf a' 61,gf a' 62,.slice fa m fc,.int .i64 (m : Int),.int .i64 (j : Int),gf a' 66,gf a' 67,gf a' 68,gf a' 69,gf a' 70,gf a' 71,gf a' 72,gf a' 73,gf a' 74,gf a' 75,gf a' 76,gf a' 77,gf a' 78,gf a' 79,gf a' 80,gf a' 81,gf a' 82,gf a' 83,gf a' 84,gf a' 85,gf a' 86,gf a' 87,gf a' 88,gf a' 89,gf a' 90,gf a' 91,gf a' 92,gf a' 93,gf a' 94,gf a' 95,gf a' 96,gf a' 97,gf a' 98,gf a' 99,gf a' 100,gf a' 101,gf a' 102,gf a' 103,gf a' 104,gf a' 105,gf a' 106,gf a' 107,gf a' 108,gf a' 109,gf a' 110,gf a' 111,gf a' 112,gf a' 113,gf a' 114,gf a' 115,gf a' 116,gf a' 117,gf a' 118,gf a' 119,gf a' 120,gf a' 121,gf a' 122,gf a' 123,gf a' 124,gf a' 125,gf a' 126,gf a' 127,gf a' 128,gf a' 129,gf a' 130,gf a' 131,gf a' 132,gf a' 133,gf a' 134,gf a' 135,gf a' 136,gf a' 137,gf a' 138,gf a' 139,gf a' 140,gf a' 141,gf a' 142,gf a' 143,gf a' 144,gf a' 145,gf a' 146,gf a' 147,gf a' 148,gf a' 149,gf a' 150,gf a' 151,gf a' 152,gf a' 153,gf a' 154,gf a' 155],defers := [] } ∧ j ≤ m ∧ JW x' y' ∧ E.length = m ∧ (∀ i,j ≤ i → (E[i]?).map OrdE.is = (L[i]?).map OrdE.is) ∧ Own w wr [WO p x' K n2,RO q y' K2,WtT (.slice ra m rc) E,Row 41 4 (.slice fa m fc) m (cat OrdE.cs L),Cells bt #[.slice qa ql qc,.int .u32 (qk : Int)] 34]) (fun a' _ => m - (intOf (a'.tmps.getD 65 undef)).toNat) ?_ ?_
     ·exact ⟨0,x,y,E0,rfl,Nat.zero_le _,HJ.out,HE0.out.2,fun i _ => by have := congrArg (fun l => l[i]?) HE0.out.1; simpa using this,H5.out⟩
     ·intro a' wr hI
      obtain ⟨j,x',y',E,hact,hjm,hj',hEl,hEL,hO⟩ := hI
      obtain ⟨u2,hu⟩ : ∃ u2 : Nat → Value,∀ k,gf a' k = u2 k := ⟨_,fun _ => rfl⟩
      simp only [hu] at hact
      clear hu
      subst hact
      clear H5 HE0 HJ
      have HJ : Hid (JW x' y') := hj'
      have HEL : Hid (E.length = m ∧ ∀ i,j ≤ i → (E[i]?).map OrdE.is = (L[i]?).map OrdE.is) := ⟨hEl,hEL⟩
      clear hj' hEl hEL
      by_cases hjn : j < m
      ·have hjn' : (j : Int) < (m : Int) := by omega
       obtain ⟨o1,ho1⟩ : ∃ o1,E[j]? = some o1 := ⟨_,List.getElem?_eq_getElem (by rw [HEL.out.1]; exact hjn)⟩
       obtain ⟨o2,ho2⟩ : ∃ o2,L[j]? = some o2 := ⟨_,List.getElem?_eq_getElem (by rw [HN.out]; exact hjn)⟩
       have his : o1.is = o2.is := by have := HEL.out.2 j (Nat.le_refl _); rw [ho1,ho2] at this; simpa using this
       obtain ⟨cs2,in2,l20⟩ := HLI.out o2 (List.mem_of_getElem? ho2)
       have in1 : o1.In := by
        obtain ⟨a1,a2,a3,a4,a5,a6⟩ := o1
        obtain ⟨b1,b2,b3,b4,b5,b6⟩ := o2
        simp only [OrdE.is,Prod.mk.injEq] at his
        obtain ⟨rfl,rfl,rfl,rfl⟩ := his
        exact ⟨in2.d,in2.id,in2.k,in2.C,in2.len⟩
       obtain ⟨gm,rc',hv,_⟩ := row_shape hO.three.wtO.row (by rw [HEL.out.1]; omega)
       have hra := (Value.slice.inj hv).1
       subst hra
       obtain ⟨gF,fc',hv2,_⟩ := row_shape hO.four.row (by omega)
       have hfa := (Value.slice.inj hv2).1
       subst hfa
       obtain ⟨m0,m1,m2,m3⟩ := hO.three.wtA HEL.out.1 ho1
       obtain ⟨l0,l1,l2,l3⟩ := ord_cells hO.four HN.out j o2 ho2
       obtain ⟨hpc,hjw⟩ := jw_push HB.out HJ.out his in1 in2
       have HAA : Hid (∀ W,Own w W [WO p x' K n2,RO q y' K2,WtT (.slice (some ⟨gm,0,none⟩) m rc) E,Row 41 4 (.slice (some ⟨gF,0,none⟩) m fc) m (cat OrdE.cs L),Cells bt #[.slice qa ql qc,.int .u32 (qk : Int)] 34] → Calls Tryz.prog 12 #[.pointer (pw p),o1.ag] W fun e w' => ∃ E',e = .returned (.int .i64 (pco p x'.E o1)) ∧ PushO p x'.E o1 E' ∧ Own w w' [WO p { x' with E := E' } K n2,RO q y' K2,WtT (.slice (some ⟨gm,0,none⟩) m rc) E,Row 41 4 (.slice (some ⟨gF,0,none⟩) m fc) m (cat OrdE.cs L),Cells bt #[.slice qa ql qc,.int .u32 (qk : Int)] 34]) := fun W hW => wpush_o w W _ p K n2 x' HT.out hW o1 in1 (fun w' hw' => (hw'.two).wtC ho1)
       have HBB : Hid (∀ W x'',Own w W [WO p x'' K n2,RO q y' K2,WtT (.slice (some ⟨gm,0,none⟩) m rc) E,Row 41 4 (.slice (some ⟨gF,0,none⟩) m fc) m (cat OrdE.cs L),Cells bt #[.slice qa ql qc,.int .u32 (qk : Int)] 34] → Calls Tryz.prog 13 #[.pointer (pw q),o2.ag] W fun e w' => ∃ E',e = .returned (.int .i64 (pco p x'.E o1)) ∧ PushO q y'.E o2 E' ∧ Own w w' [WO p x'' K n2,RO q { y' with E := E' } K2,WtT (.slice (some ⟨gm,0,none⟩) m rc) E,Row 41 4 (.slice (some ⟨gF,0,none⟩) m fc) m (cat OrdE.cs L),Cells bt #[.slice qa ql qc,.int .u32 (qk : Int)] 34]) := fun W x'' hW => by
        rw [hpc]
        refine (rpush_o w W _ q K2 y' hW.two o2 in2 (fun w' hw' => cs2.quiet hw'.fr) (by rw [HJ.out.len]; exact HJ.out.le)).mono ?_
        rintro e w' ⟨E',rfl,h1,h2⟩
        exact ⟨E',rfl,h1,h2.two⟩
       have HSS : Hid (∀ W x'' y'',Own w W [WO p x'' K n2,RO q y'' K2,WtT (.slice (some ⟨gm,0,none⟩) m rc) E,Row 41 4 (.slice (some ⟨gF,0,none⟩) m fc) m (cat OrdE.cs L),Cells bt #[.slice qa ql qc,.int .u32 (qk : Int)] 34] → Calls Tryz.prog 14 #[o1.ag,o2.ag] W fun e w' => e = .returned (.bool true) ∧ Own w w' [WO p x'' K n2,RO q y'' K2,WtT (.slice (some ⟨gm,0,none⟩) m rc) E,Row 41 4 (.slice (some ⟨gF,0,none⟩) m fc) m (cat OrdE.cs L),Cells bt #[.slice qa ql qc,.int .u32 (qk : Int)] 34]) := fun W x'' y'' hW => by
        have e : o1.C = o2.C := by unfold OrdE.is at his; simp only [Prod.mk.injEq] at his; exact his.2.2.2
        refine (sameOrder_any W o1 o2 his (hW.three.wtC ho1) (cs2.quiet hW.fr) (by rw [e]; omega)).mono ?_
        rintro e w' ⟨rfl,hf⟩
        exact ⟨rfl,hW.quiet hf⟩
       have HJW : Hid (∀ E' E2,PushO p x'.E o1 E' → PushO q y'.E o2 E2 → JW { x' with E := E' } { y' with E := E2 }) := hjw
       have HO : Hid (Own w wr _) := hO
       have HO1 : Hid (E[j]? = some o1 ∧ (∀ i,j + 1 ≤ i → (E[i]?).map OrdE.is = (L[i]?).map OrdE.is)) := ⟨ho1,fun i hi => HEL.out.2 i (by omega)⟩
       have HEN : Hid (E.length = m) := HEL.out.1
       have HO2 : Hid (L[j]? = some o2) := ho2
       have hcl : o1.C.length ≤ 1000000 := in1.len
       unfold OrdE.ag at HAA HBB HSS
       generalize pco p x'.E o1 = pc at *
       clear hO his cs2 in2 in1 hv hv2 hpc hjw ho1 ho2 HEL HJ l20
       obtain ⟨d1,i1,k1,C1,a1,c1⟩ := o1
       obtain ⟨d2,i2,k2,C2,a2,c2⟩ := o2
       simp only at m0 m1 m2 m3 l0 l1 l2 l3 HAA HBB HSS HJW HO1 HO2 hcl
       obtain ⟨ol,hol⟩ : ∃ ol,C1.length = ol := ⟨_,rfl⟩
       have HOL : Hid (C1.length = ol) := hol
       rw [hol] at m3 HAA HSS hcl
       clear hol
       obtain ⟨ol2,hol2⟩ : ∃ ol2,C2.length = ol2 := ⟨_,rfl⟩
       have HOL2 : Hid (C2.length = ol2) := hol2
       rw [hol2] at l3 HBB HSS
       clear hol2
       have hpp : (pc != pc) = false := by simp
       go_wp2_with fail
       refine wp_cut (fun a' w' => ∃ (EA EB : List OrdE),a' = { tmps := #[gf a' 0,gf a' 1,gf a' 2,gf a' 3,gf a' 4,gf a' 5,gf a' 6,gf a' 7,gf a' 8,.pointer (pw p),gf a' 10,.pointer (pw q),gf a' 12,gf a' 13,.pointer (some ⟨bt,0,none⟩),.slice (some ⟨gF,0,none⟩) m fc,.slice (some ⟨gm,0,none⟩) m rc,.int .i64 (j : Int),gf a' 18,gf a' 19,gf a' 20,gf a' 21,gf a' 22,gf a' 23,gf a' 24,gf a' 25,gf a' 26,gf a' 27,gf a' 28,gf a' 29,gf a' 30,gf a' 31,gf a' 32,gf a' 33,gf a' 34,gf a' 35,gf a' 36,gf a' 37,gf a' 38,gf a' 39,gf a' 40,gf a' 41,gf a' 42,gf a' 43,gf a' 44,gf a' 45,gf a' 46,gf a' 47,gf a' 48,.slice (some ⟨g,o,none⟩) len cap,.int .i64 (len : Int),.int .i64 (k : Int),gf a' 52,gf a' 53,gf a' 54,gf a' 55,gf a' 56,gf a' 57,gf a' 58,gf a' 59,gf a' 60,gf a' 61,gf a' 62,.slice (some ⟨gF,0,none⟩) m fc,.int .i64 (m : Int),.int .i64 (j : Int),gf a' 66,gf a' 67,gf a' 68,gf a' 69,gf a' 70,gf a' 71,gf a' 72,gf a' 73,gf a' 74,gf a' 75,gf a' 76,gf a' 77,gf a' 78,gf a' 79,gf a' 80,gf a' 81,gf a' 82,gf a' 83,gf a' 84,gf a' 85,gf a' 86,gf a' 87,gf a' 88,gf a' 89,gf a' 90,gf a' 91,.bool false,gf a' 93,gf a' 94,gf a' 95,gf a' 96,gf a' 97,gf a' 98,gf a' 99,gf a' 100,gf a' 101,gf a' 102,gf a' 103,gf a' 104,gf a' 105,gf a' 106,gf a' 107,gf a' 108,gf a' 109,gf a' 110,gf a' 111,gf a' 112,gf a' 113,gf a' 114,gf a' 115,gf a' 116,gf a' 117,gf a' 118,gf a' 119,gf a' 120,gf a' 121,gf a' 122,gf a' 123,gf a' 124,gf a' 125,gf a' 126,gf a' 127,gf a' 128,gf a' 129,gf a' 130,gf a' 131,gf a' 132,gf a' 133,gf a' 134,gf a' 135,gf a' 136,gf a' 137,gf a' 138,gf a' 139,gf a' 140,gf a' 141,gf a' 142,gf a' 143,gf a' 144,gf a' 145,gf a' 146,gf a' 147,gf a' 148,gf a' 149,gf a' 150,gf a' 151,gf a' 152,gf a' 153,gf a' 154,gf a' 155],defers := [] } ∧ JW { x' with E := EA } { y' with E := EB } ∧ Own w w' [WO p { x' with E := EA } K n2,RO q { y' with E := EB } K2,WtT (.slice (some ⟨gm,0,none⟩) m rc) E,Row 41 4 (.slice (some ⟨gF,0,none⟩) m fc) m (cat OrdE.cs L),Cells bt #[.slice qa ql qc,.int .u32 (qk : Int)] 34]) ?rest3 ?first3
       case first3 =>
        intro J2 K2' hJ2 hK2'
        have HJ2 : Hid _ := hJ2
        clear hJ2
        have HAA1 : Hid (Calls _ _ _ _ _) := HAA.out wr.drew HO.out.drew
        go_region_held3 (fun w' => w'.cell? ⟨gm,j * 4,none⟩ = some (.int .u8 (d1 : Int)) ∧ w'.cell? ⟨gm,j * 4 + 1,none⟩ = some (.int .u32 (i1 : Int)) ∧ w'.cell? ⟨gm,j * 4 + 2,none⟩ = some (.int .u8 (k1 : Int)) ∧ w'.cell? ⟨gm,j * 4 + 3,none⟩ = some (.slice a1 ol c1) ∧ w'.cell? ⟨gF,j * 4,none⟩ = some (.int .u8 (d2 : Int)) ∧ w'.cell? ⟨gF,j * 4 + 1,none⟩ = some (.int .u32 (i2 : Int)) ∧ w'.cell? ⟨gF,j * 4 + 2,none⟩ = some (.int .u8 (k2 : Int)) ∧ w'.cell? ⟨gF,j * 4 + 3,none⟩ = some (.slice a2 ol2 c2)) (go_keep)
         (first
           | (go_at_call 12; with_reducible refine HAA1.out.mono ?_; rintro e w6 ⟨EA,rfl,hPA,hO6⟩
              obtain ⟨m0,m1,m2,m3⟩ := hO6.three.wtA HEN.out HO1.out.1
              obtain ⟨l0,l1,l2,l3⟩ := ord_cells hO6.four HN.out j _ HO2.out
              simp only [HOL.out,HOL2.out] at m0 m1 m2 m3 l0 l1 l2 l3
              have H6 : Hid (Own w w6 _) := hO6
              have HPA : Hid (PushO _ _ _ _) := hPA
              clear hO6 hPA)
           | (go_at_call 13; with_reducible refine (HBB.out _ _ H6.out).mono ?_; rintro e w7 ⟨EB,rfl,hPB,hO7⟩
              obtain ⟨m0,m1,m2,m3⟩ := hO7.three.wtA HEN.out HO1.out.1
              obtain ⟨l0,l1,l2,l3⟩ := ord_cells hO7.four HN.out j _ HO2.out
              simp only [HOL.out,HOL2.out] at m0 m1 m2 m3 l0 l1 l2 l3
              have H7 : Hid (Own w w7 _) := hO7
              have HPB : Hid (PushO _ _ _ _) := hPB
              clear hO7 hPB)
           | (go_at_call 14; with_reducible refine (HSS.out _ _ _ H7.out).mono ?_; rintro e w8 ⟨rfl,hO8⟩
              obtain ⟨m0,m1,m2,m3⟩ := hO8.three.wtA HEN.out HO1.out.1
              obtain ⟨l0,l1,l2,l3⟩ := ord_cells hO8.four HN.out j _ HO2.out
              simp only [HOL.out,HOL2.out] at m0 m1 m2 m3 l0 l1 l2 l3
              have H8 : Hid (Own w w8 _) := hO8
              clear hO8))
        all_goals exact hK2' _ _ (Met.intro (HJ2.out _ _ ⟨EA,EB,rfl,HJW.out EA EB HPA.out HPB.out,H8.out⟩))
       case rest3 =>
        intro a' wc2 hcut
        obtain ⟨EA,EB,hact,hjw,hO⟩ := hcut
        obtain ⟨u3,hu⟩ : ∃ u3 : Nat → Value,∀ k,gf a' k = u3 k := ⟨_,fun _ => rfl⟩
        simp only [hu] at hact
        clear hu
        subst hact
        have HJ3 : Hid (JW _ _) := hjw
        have hW : Own w wc2 (WtT (.slice (some ⟨gm,0,none⟩) m rc) E :: [WO p { x' with E := EA } K n2,RO q { y' with E := EB } K2,Row 41 4 (.slice (some ⟨gF,0,none⟩) m fc) m (cat OrdE.cs L),Cells bt #[.slice qa ql qc,.int .u32 (qk : Int)] 34]) := hO.sel 5 [2,0,1,3,4] (by decide)
        have hD := hW.ordOut HO1.out.1
        obtain ⟨RS,hRS⟩ : ∃ RS,((E.take j).map orow ++ ((E.drop (j + 1)).map orow ++ [WO p { x' with E := EA } K n2,RO q { y' with E := EB } K2,Row 41 4 (.slice (some ⟨gF,0,none⟩) m fc) m (cat OrdE.cs L),Cells bt #[.slice qa ql qc,.int .u32 (qk : Int)] 34])) = RS := ⟨_,rfl⟩
        have HIN : Hid (∀ W (Cx : List Cp),Cx.length = ol → Own w W (Row 41 4 (.slice (some ⟨gm,0,none⟩) m rc) m (cat OrdE.cs E) :: Row 46 4 (.slice a1 ol c1) ol (ccat Cx) :: RS) → Own w W [WO p { x' with E := EA } K n2,RO q { y' with E := EB } K2,WtT (.slice (some ⟨gm,0,none⟩) m rc) (E.set j ⟨d1,i1,k1,Cx,a1,c1⟩),Row 41 4 (.slice (some ⟨gF,0,none⟩) m fc) m (cat OrdE.cs L),Cells bt #[.slice qa ql qc,.int .u32 (qk : Int)] 34]) := fun W Cx hCx hW => by
         have h1 := Own.ordIn (l := [WO p { x' with E := EA } K n2,RO q { y' with E := EB } K2,Row 41 4 (.slice (some ⟨gF,0,none⟩) m fc) m (cat OrdE.cs L),Cells bt #[.slice qa ql qc,.int .u32 (qk : Int)] 34]) (v := .slice (some ⟨gm,0,none⟩) m rc) (C2 := Cx) HO1.out.1 (by simp only; rw [hCx,HOL.out]) (w := W) (w0 := w) (by
          rw [HEN.out,hRS]
          unfold orow
          simp only
          rw [hCx]
          exact hW)
         exact h1.sel 5 [1,2,0,3,4] (by decide)
        have HD : Hid (Own w wc2 (Row 41 4 (.slice (some ⟨gm,0,none⟩) m rc) m (cat OrdE.cs E) :: Row 46 4 (.slice a1 ol c1) ol (ccat C1) :: RS)) := by
         rw [HEN.out,hRS] at hD
         unfold orow at hD
         simp only [HOL.out] at hD
         exact hD
        have m3 := (ord_cells HD.out HEN.out j _ HO1.out.1).2.2.2
        simp only [HOL.out] at m3
        clear hjw hO hW hD hRS HAA HBB HSS HJW HO
        go_wp2
        refine wp_loop (fun a' wr => ∃ (i : Nat) (Cx : List Cp),a' = { tmps := #[gf a' 0,gf a' 1,gf a' 2,gf a' 3,gf a' 4,gf a' 5,gf a' 6,gf a' 7,gf a' 8,.pointer (pw p),gf a' 10,.pointer (pw q),gf a' 12,gf a' 13,.pointer (some ⟨bt,0,none⟩),.slice (some ⟨gF,0,none⟩) m fc,.slice (some ⟨gm,0,none⟩) m rc,.int .i64 (j : Int),gf a' 18,gf a' 19,gf a' 20,gf a' 21,gf a' 22,gf a' 23,gf a' 24,gf a' 25,gf a' 26,gf a' 27,gf a' 28,gf a' 29,gf a' 30,gf a' 31,gf a' 32,gf a' 33,gf a' 34,gf a' 35,gf a' 36,gf a' 37,gf a' 38,gf a' 39,gf a' 40,gf a' 41,gf a' 42,gf a' 43,gf a' 44,gf a' 45,gf a' 46,gf a' 47,gf a' 48,.slice (some ⟨g,o,none⟩) len cap,.int .i64 (len : Int),.int .i64 (k : Int),gf a' 52,gf a' 53,gf a' 54,gf a' 55,gf a' 56,gf a' 57,gf a' 58,gf a' 59,gf a' 60,gf a' 61,gf a' 62,.slice (some ⟨gF,0,none⟩) m fc,.int .i64 (m : Int),.int .i64 (j : Int),gf a' 66,gf a' 67,gf a' 68,gf a' 69,gf a' 70,gf a' 71,gf a' 72,gf a' 73,gf a' 74,gf a' 75,gf a' 76,gf a' 77,gf a' 78,gf a' 79,gf a' 80,gf a' 81,gf a' 82,gf a' 83,gf a' 84,gf a' 85,gf a' 86,gf a' 87,gf a' 88,gf a' 89,gf a' 90,gf a' 91,gf a' 92,gf a' 93,gf a' 94,gf a' 95,gf a' 96,gf a' 97,.int .i64 (ol : Int),.int .i64 (i : Int),gf a' 100,gf a' 101,gf a' 102,gf a' 103,gf a' 104,gf a' 105,gf a' 106,gf a' 107,gf a' 108,gf a' 109,gf a' 110,gf a' 111,gf a' 112,gf a' 113,gf a' 114,gf a' 115,gf a' 116,gf a' 117,gf a' 118,gf a' 119,gf a' 120,gf a' 121,gf a' 122,gf a' 123,gf a' 124,gf a' 125,gf a' 126,gf a' 127,gf a' 128,gf a' 129,gf a' 130,gf a' 131,gf a' 132,gf a' 133,gf a' 134,gf a' 135,gf a' 136,gf a' 137,gf a' 138,gf a' 139,gf a' 140,gf a' 141,gf a' 142,gf a' 143,gf a' 144,gf a' 145,gf a' 146,gf a' 147,gf a' 148,gf a' 149,gf a' 150,gf a' 151,gf a' 152,gf a' 153,gf a' 154,gf a' 155],defers := [] } ∧ i ≤ ol ∧ Cx.length = ol ∧ Own w wr (Row 41 4 (.slice (some ⟨gm,0,none⟩) m rc) m (cat OrdE.cs E) :: Row 46 4 (.slice a1 ol c1) ol (ccat Cx) :: RS)) (fun a' _ => ol - (intOf (a'.tmps.getD 99 undef)).toNat) ?_ ?_
        ·exact ⟨0,C1,rfl,Nat.zero_le _,HOL.out,HD.out⟩
        ·intro a' wr hI
         obtain ⟨i,Cx,hact,hi,hCx,hO8⟩ := hI
         obtain ⟨u5,hu⟩ : ∃ u5 : Nat → Value,∀ k,gf a' k = u5 k := ⟨_,fun _ => rfl⟩
         simp only [hu] at hact
         clear hu
         subst hact
         clear HD m3
         by_cases hio : i < ol
         ·have hio' : (i : Int) < (ol : Int) := by omega
          obtain ⟨z,hz⟩ : ∃ z,Cx[i]? = some z := ⟨_,List.getElem?_eq_getElem (by rw [hCx]; exact hio)⟩
          obtain ⟨gl,cl',hvl,_⟩ := row_shape hO8.two.row (by omega)
          have hgl := (Value.slice.inj hvl).1
          subst hgl
          have f1 := hO8.two.row.cellAt (i * 4 + 1) (by omega)
          rw [ccat_at1 Cx i z hz] at f1
          have f2 := hO8.two.row.frozenAt (i * 4 + 1)
          have k8 := (ord_cells hO8 HEN.out j _ HO1.out.1).2.2.2
          simp only [HOL.out] at k8
          obtain ⟨nv,hnv⟩ : ∃ nv,nv = bits .xor .i32 z.a 1 := ⟨_,rfl⟩
          have HN8 : Hid (Own w (World.setCell _ ⟨gl,i * 4 + 1,none⟩ (.int .i32 nv)) _) := (hO8.two.setR (i * 4 + 1) (.int .i32 nv)).two
          rw [← ccat_set1 Cx i z nv hz] at HN8
          have HCL2 : Hid ((Cx.set i ⟨z.k,nv,z.b,z.c⟩).length = ol) := by show _ = _; rw [List.length_set,hCx]
          clear hO8 hvl hz
          generalize z.a = za at *
          have hnv' := hnv.symm
          clear hnv hCx
          go_wp2
          go_region
          all_goals
           go_wp2
           exact ⟨⟨i + 1,_,rfl,by omega,HCL2.out,HN8.out.drew⟩,by simp [intOf]; omega⟩
         ·have hio' : ¬ (i : Int) < (ol : Int) := by omega
          have H9 : Hid (Own w wr _) := HIN.out wr Cx hCx hO8
          clear hO8 HIN hCx
          go_wp2
          exact ⟨⟨j + 1,rfl,by omega,_,_,HJ3.out,_,by rw [List.length_set]; exact HEN.out,fun i hi => by rw [List.getElem?_set_ne (by omega)]; exact HO1.out.2 i hi,H9.out⟩,by simp [intOf]; omega⟩
      ·have hjn' : ¬ (j : Int) < (m : Int) := by omega
       have H6 : Hid (Own w wr [WO p x' K n2,RO q y' K2,Cells bt #[.slice qa ql qc,.int .u32 (qk : Int)] 34]) := hO.sel 5 [0,1,4] (by decide)
       clear hO
       go_wp2
       exact Met.intro (HJJ.out _ _ ⟨x',y',rfl,HJ.out,H6.out⟩)
    case rest =>
     intro a' wc hcut
     obtain ⟨x',y',hact,hj',hO⟩ := hcut
     obtain ⟨u4,hu⟩ : ∃ u4 : Nat → Value,∀ k,gf a' k = u4 k := ⟨_,fun _ => rfl⟩
     simp only [hu] at hact
     clear hu
     subst hact
     have HJ1 : Hid (JW x' y') := hj'
     have HS1 : Hid (Calls _ _ _ _ _) := wstep_o w wc _ p K n2 x' y' HT.out hj' (by omega) (by omega) hO
     clear hj' hO H5 HE0 HLI HN HJ
     go_wp2_with fail
     refine HS1.out.mono ?_
     rintro e w6 ⟨ra1,rc1,R,code,x2,K3,n3,rfl,hss,hRl,hK3,hn3,hO⟩
     have HS2 : Hid (Calls _ _ _ _ _) := rstep_o w w6 _ q K2 x' y' HJ1.out (by omega) hO.three
     have HSS : Hid (SStep p x' x2 R code) := hss
     clear HS1 hO hss
     go_wp2_with fail
     refine HS2.out.mono ?_
     rintro e w7 ⟨ra2,rc2,R2,code2,y2,K4,rfl,hrs,hK4,hO⟩
     obtain ⟨hR2,hc2,hj2⟩ := jw_step HB.out HJ1.out HSS.out hrs
     have hR3 := hR2.symm
     subst hR3
     subst hc2
     have HJ2 : Hid (JW x2 y2) := hj2
     have H7 : Hid (Own w w7 [WO p x2 K3 n3,RO q y2 K4,Row 89 2 (.slice ra1 R.length rc1) R.length (cat rcel R),Row 89 2 (.slice ra2 R.length rc2) R.length (cat rcel R),Cells bt #[.slice qa ql qc,.int .u32 (qk : Int)] 34]) := hO.sel 5 [3,1,2,0,4] (by decide)
     clear HS2 hO hrs hj2 HSS HJ1 hR2
     have HRL : Hid (R.length ≤ 256) := hRl
     have HSR : Hid (∀ W,Own w W [WO p x2 K3 n3,RO q y2 K4,Row 89 2 (.slice ra1 R.length rc1) R.length (cat rcel R),Row 89 2 (.slice ra2 R.length rc2) R.length (cat rcel R),Cells bt #[.slice qa ql qc,.int .u32 (qk : Int)] 34] → Calls Tryz.prog 17 #[.slice ra1 R.length rc1,.slice ra2 R.length rc2] W fun e w' => e = .returned (.bool true) ∧ Own w w' [WO p x2 K3 n3,RO q y2 K4,Row 89 2 (.slice ra1 R.length rc1) R.length (cat rcel R),Row 89 2 (.slice ra2 R.length rc2) R.length (cat rcel R),Cells bt #[.slice qa ql qc,.int .u32 (qk : Int)] 34]) := fun W hW => by
      refine (same_res W ra1 ra2 R.length rc1 rc2 R (hW.three.rs rfl) (hW.four.rs rfl) rfl (by have := HRL.out; omega)).mono ?_
      rintro e w' ⟨rfl,hf⟩
      exact ⟨rfl,hW.quiet hf⟩
     have HAL : Hid (∀ W,Own w W [WO p x2 K3 n3,RO q y2 K4,Row 89 2 (.slice ra1 R.length rc1) R.length (cat rcel R),Row 89 2 (.slice ra2 R.length rc2) R.length (cat rcel R),Cells bt #[.slice qa ql qc,.int .u32 (qk : Int)] 34] → Calls Tryz.prog 18 #[.pointer (pw p),.pointer (pw q)] W fun e w' => e = .returned (.bool true) ∧ Own w w' [WO p x2 K3 n3,RO q y2 K4,Row 89 2 (.slice ra1 R.length rc1) R.length (cat rcel R),Row 89 2 (.slice ra2 R.length rc2) R.length (cat rcel R),Cells bt #[.slice qa ql qc,.int .u32 (qk : Int)] 34]) := fun W hW => alike_o w W _ p q HB.out K3 n3 K4 x2 y2 HJ2.out (by omega) (by omega) hW
     have HWS : Hid (∀ W l',Own w W (WO p x2 K3 n3 :: l') → Calls Tryz.prog 20 #[.pointer (pw p),.int .u32 (qk : Int)] W fun e w' => ∃ ao cap X,e = .returned (.slice ao X.length cap) ∧ X = (if p.isNone = true then [] else x2.σ.S.list.filter (fun id => chS x2.S id (qk : Int))) ∧ Own w w' (Row 38 1 (.slice ao X.length cap) X.length (irow .u32 X) :: WO p x2 K3 n3 :: l')) := fun W l' hW => wsince_o w W l' p K3 n3 x2 HJ2.out.ok (qk : Int) hW
     have HRS : Hid (∀ W l',Own w W (RO q y2 K4 :: l') → Calls Tryz.prog 21 #[.pointer (pw q),.int .u32 (qk : Int)] W fun e w' => ∃ ao cap X,e = .returned (.slice ao X.length cap) ∧ X = (if p.isNone = true then [] else x2.σ.S.list.filter (fun id => chS x2.S id (qk : Int))) ∧ Own w w' (Row 38 1 (.slice ao X.length cap) X.length (irow .u32 X) :: RO q y2 K4 :: l')) := fun W l' hW => by
      have := rsince_o w W l' q K4 x2 y2 HJ2.out (qk : Int) hW
      have hb : p.isNone = q.isNone := HB.out
      rw [hb]
      exact this
     have HXL : Hid (∀ X : List Nat,X = (if p.isNone = true then [] else x2.σ.S.list.filter (fun id => chS x2.S id (qk : Int))) → X.length ≤ 1024) := fun X hX => by
      rw [hX]
      split
      ·simp
      ·exact Nat.le_trans (List.length_filter_le _ _) (list_lenW HJ2.out.ok.s)
     have p1 := H7.out.five.cell 1
     simp at p1
     have hcc : (code2 != code2) = false := by simp
     generalize R.length = rl at *
     go_wp2
     have HSR1 : Hid (Calls _ _ _ _ _) := HSR.out w7.drew H7.out.drew
     go_region_held3 (fun w' => w'.cell? ⟨bt,1,none⟩ = some (.int .u32 (qk : Int))) (go_keep)
      (first
        | (go_at_call 17; with_reducible refine HSR1.out.mono ?_; rintro e w8 ⟨rfl,hO8⟩
           have p1 := hO8.five.cell 1
           simp at p1
           have H8 : Hid (Own w w8 _) := hO8
           clear hO8)
        | (go_at_call 18; with_reducible refine (HAL.out _ H8.out).mono ?_; rintro e w9 ⟨rfl,hO9⟩
           have p1 := hO9.five.cell 1
           simp at p1
           have H9 : Hid (Own w w9 _) := hO9
           clear hO9)
        | (go_at_call 20; with_reducible refine (HWS.out _ _ H9.out).mono ?_; rintro e w10 ⟨xa,xc,X,rfl,hX,hO10⟩
           have p1 := (hO10.sel 6 [5] (by decide)).cell 1
           simp at p1
           have H10 : Hid (Own w w10 _) := hO10.three
           have HX : Hid (X = _) := hX
           clear hO10 hX)
        | (go_at_call 21; with_reducible refine (HRS.out _ _ H10.out).mono ?_; rintro e w11 ⟨ya,yc,Y,rfl,hY,hO11⟩
           have p1 := (hO11.sel 7 [6] (by decide)).cell 1
           simp at p1
           have hXY : Y = X := hY.trans HX.out.symm
           subst hXY
           have HSM : Hid (Calls _ _ _ _ _) := same_ok w11 (.slice xa Y.length xc) (.slice ya Y.length yc) Y (hO11.three.nums) hO11.nums (by have := HXL.out Y HX.out; omega)
           have H11 : Hid (Own w w11 _) := hO11
           clear hO11 hY)
        | (go_at_call 19; with_reducible refine HSM.out.mono ?_; rintro e w12 ⟨rfl,hf⟩
           have h12 := H11.out.quiet hf
           have p1 := (h12.sel 7 [6] (by decide)).cell 1
           simp at p1
           have H12 : Hid (Own w w12 [WO p x2 K3 n3,RO q y2 K4]) := h12.sel 7 [3,1] (by decide)
           clear hf h12))
     all_goals
      go_wp2
      exact ⟨⟨k + 1,x2,y2,K3,n3,K4,rfl,by omega,by omega,HJ2.out,by omega,by omega,by omega,H12.out⟩,by simp [intOf]; omega⟩
   ·have h12' : (12 : Int) ≤ (k : Int) := by omega
    have HF : Hid (Fr Nobody w _) := hO.fr.alloc (.cells #[.slice qa ql qc,.int .u32 (qk : Int)] 34)
    clear hO hIO
    go_wp2
    go_ret
    exact ⟨rfl,HF.out⟩
  ·have hlt' : ¬ (k : Int) < (len : Int) := by omega
   have HF : Hid (Fr Nobody w wr) := hO.fr
   clear hO
   go_wp2
   go_ret
   exact ⟨rfl,HF.out⟩
theorem worldPlays_walk (w : World) (ht : Tab w) (n : Int) (h0 : (Lit.int .i64 n).wf = true) (f : Int) (h1 : (Lit.int .i64 f).wf = true) (T : Int) (h2 : (Lit.int .u32 T).wf = true) (a0 : Option Addr) (len0 cap0 : Nat) (z0 : List TrnE) (w0 : IsTurns w a0 len0 cap0 z0) :
  Calls Tryz.prog 3 #[.int .i64 n,.int .i64 f,.int .u32 T,.slice a0 len0 cap0] w fun e w' => e = .returned (.bool true) ∧ Below w.heap.size w w' := by
 have hb : 0 ≤ T ∧ T ≤ 4294967295 := by simpa [Lit.wf,IntKind.min,IntKind.max,IntKind.signed,IntKind.bits] using h2
 obtain ⟨T',rfl⟩ := Int.eq_ofNat_of_zero_le hb.1
 refine (worldPlays_fr w ht n f T' (by omega) a0 len0 cap0 z0 w0).mono ?_
 rintro e w' ⟨rfl,hf⟩
 exact ⟨rfl,hf.below (Nat.le_refl _) (fun _ _ => id)⟩
theorem laidOut : laidOutB Tryz.prog = true := by kernel_rfl
set_option maxRecDepth 100000 in
theorem worldPlays_lifted (os : Os) (started : os.Started) (H : Type) (enc : TypeId × Value → H) :
  ReturnsInHanded {} Tryz.checked os 3 .any (fun w args => (Rows.worldPlaysSpec.pre enc Tryz.prog Tryz.f3 [] false w args ∧ laidMetH Tryz.prog laid1 w) ∧ sizedMet enc Tryz.prog Tryz.f3 (OpenSpec.ofChange Rows.worldPlaysSpec) false w args) (Rows.worldPlaysSpec.post enc Tryz.prog Tryz.f3 false true false false) := by
 refine returnsInHanded_of_change_and (C := Tryz.checked) (X := fun w _ => laidMetH Tryz.prog laid1 w) (fun _ _ _ hh h => h.of_heap hh) own started (by kernel_rfl) Tryz.func3
  (ChangeSpec.witness_shaped (enc := enc) (C := Tryz.checked) (os := os) (X := fun w _ => laidMetH Tryz.prog laid1 w) false (World.doorLaid Tryz.prog 400 os) #[.int .i64 0,.int .i64 0,.int .u32 0,.slice none 0 0] 8 rfl (World.shaped_of_RefB (by kernel_rfl) (by kernel_rfl)) (by kernel_rfl) (by kernel_rfl) (by kernel_rfl) (door_met os _)) ?_
 intro W base args ds gs before hval0 hW _ _ hL _
 have hval : ∀ (j : Nat) t v,Tryz.f3.params[j]? = some t → args[j]? = some v → Value.okWide Tryz.prog W .any base t v := hval0
 have hW' := hW
 obtain ⟨p,q,hA0,hV,rfl,hfz,hnd⟩ := hW
 have hA : DataW.TrodAll enc Tryz.prog W 0 (fun _ => true) true Tryz.f3.params.toList args.toList ds p := hA0
 rw [Tryz.params3] at hA hval
 obtain ⟨v0,vs0,d0,ds0,p0,q0,hargs,rfl,rfl,h0,r0⟩ := trodAll_cons hA
 obtain ⟨v1,vs1,d1,ds1,p1,q1,rfl,rfl,rfl,h1,r1⟩ := trodAll_cons r0
 obtain ⟨v2,vs2,d2,ds2,p2,q2,rfl,rfl,rfl,h2,r2⟩ := trodAll_cons r1
 obtain ⟨v3,vs3,d3,ds3,p3,q3,rfl,rfl,rfl,h3,r3⟩ := trodAll_cons r2
 obtain ⟨rfl,rfl,rfl⟩ := trodAll_nil r3
 obtain rfl : args = #[v0,v1,v2,v3] := by cases args; simp_all
 obtain ⟨rfl,rfl⟩ := trodVars_none hV
 obtain ⟨a0,rfl,rfl,rfl,w0⟩ := open_int Tryz.underlying3 (hval 0 3 v0 rfl rfl) h0
 obtain ⟨a1,rfl,rfl,rfl,w1⟩ := open_int Tryz.underlying3 (hval 1 3 v1 rfl rfl) h1
 obtain ⟨a2,rfl,rfl,rfl,w2⟩ := open_int Tryz.underlying22 (hval 2 22 v2 rfl rfl) h2
 obtain ⟨a3,len3,cap3,rfl⟩ := okWide_slice Tryz.underlying23 (hval 3 23 v3 rfl rfl)
 have k3 := h3
 have lt3 : ∀ x ∈ p3,x.block < W.heap.size := by obtain ⟨m,hm⟩ := k3; exact DataW.trod_lt m _ _ _ hm
 obtain ⟨z3,w3⟩ := open_turns (hval 3 23 _ rfl rfl) h3
 clear hA0 hval0
 refine (worldPlays_walk W (of_laid hL) a0 w0 a1 w1 a2 w2 a3 len3 cap3 z3 w3).mono fun e W' ⟨he,bel⟩ => ?_
 subst he
 exact ⟨_,rfl,_,_,_,[],_,[],hW',trodAll_mk1 (shut_bool Tryz.underlying4 _),(trodAll_cons_mk (shut_int Tryz.underlying3 w0) (trodAll_cons_mk (shut_int Tryz.underlying3 w1) (trodAll_cons_mk (shut_int Tryz.underlying22 w2) (trodAll_cons_mk (Below.trod laidOut (by kernel_rfl) (of_decide_eq_true (by kernel_rfl)) k3 bel lt3) trodAll_mk0)))),rfl,bel.frame _,fun h => by cases h⟩
theorem worldPlays_row : Rows.WorldPlaysSaid :=
 OpenClaim.holds_of_wide 3 Tryz.f3 rfl rfl rfl rfl rfl rfl rfl ⟨rfl,rfl,rfl,rfl,rfl⟩ rfl rfl rfl rfl rfl (by kernel_rfl) Tryz.func3 (by kernel_rfl)
  (of_decide_eq_true (by kernel_rfl)) (by unfold Func.isWrapper; first | (rw [if_pos (by decide +kernel)]; kernel_rfl) | (rw [if_neg (by decide +kernel)]; exact ⟨rfl,rfl⟩))
  (fun os started H enc _ => worldPlays_lifted os started H enc)
theorem worldPlays_holds : Rows.WorldPlaysCardSaid :=
 Claim7.holds_tied_plain_at .later [] [.data] true (true,"4b41c9bd5891817d31698d06efdb6009454ae84fba62bff55935f977f7490441") false
  worldPlays_row (fun _ h => by cases h) (by kernel_rfl) (fun _ h => by cases h) worldPlays_row_tie rfl ⟨rfl,rfl⟩ (by kernel_rfl) rfl
  (fun f fn hf hfn => by
    obtain rfl : f = 3 := Option.some.inj ((show Tryz.prog.funcNamed "pinnace/pinnacelaw15.WorldPlays" = some 3 by kernel_rfl).symm.trans hf) |>.symm
    obtain rfl : fn = Tryz.f3 := (Option.some.inj (Tryz.func3.symm.trans hfn)).symm
    exact ⟨by kernel_rfl,fun j t ht => by
     rw [Tryz.params3] at ht
     have hm : t ∈ [3,3,22,23] := by simpa using Array.mem_of_getElem? ht
     have hall : ([3,3,22,23].all fun u => !Tryz.prog.wantsStandIn u) = true := by kernel_rfl
     exact (show Tryz.prog.wantsStandIn t = false by simpa using List.all_eq_true.1 hall t hm)⟩)
  (by kernel_rfl)
end Go.Proofs.YtogmdoiecpihdaaGreatDoor
