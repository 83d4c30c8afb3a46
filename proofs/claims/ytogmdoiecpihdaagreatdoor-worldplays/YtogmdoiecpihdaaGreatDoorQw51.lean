/- The document's world: List, Since. -/
import Derived.Test.YtogmdoiecpihdaaGreatDoorQw50
import Derived.Test.YtogmdoiecpihdaaGreatDoorQw35
import Derived.Test.YtogmdoiecpihdaaGreatDoorQw36
import Derived.Test.YtogmdoiecpihdaaGreatDoorQw10
namespace Go.Proofs.YtogmdoiecpihdaaGreatDoor
open Go.RowKit Go.Maps
set_option linter.unusedVariables false
set_option maxHeartbeats 8000000
set_option maxRecDepth 100000
def RWdL (la : Option Addr) (lc b : Nat) (y : RWd) (bs : Nat) (wv mv pv : Value) (xs : RX) : List Thing := [SeeT la lc bs y.σ xs,Cells b (rwcs bs wv y.T mv pv) 109,WtT wv y.E,Row 121 3 mv y.M.length (cat MkE.cs y.M),Row 126 4 pv y.P.length (cat PlE.cs y.P)]
theorem Own.rwC {w0 w : World} {l : List Thing} {la : Option Addr} {lc b bs K : Nat} {y : RWd} {wv mv pv : Value} {xs : RX} (h : Own w0 w (RWdL la lc b y bs wv mv pv xs ++ l)) (hx : RXok y.σ xs K) : Own w0 w (RWdT b y K :: l) := by
 have h1 : Own w0 w (SeeT la lc bs y.σ xs :: Cells b (rwcs bs wv y.T mv pv) 109 :: WtT wv y.E :: Row 121 3 mv y.M.length (cat MkE.cs y.M) :: Row 126 4 pv y.P.length (cat PlE.cs y.P) :: l) := h
 exact Own.rwS (RSto.mk hx h1.seeO.tail)
theorem rlist15 (w0 w : World) (l : List Thing) (b K : Nat) (y : RWd) (h : Own w0 w (RWdT b y K :: l)) (hσ : y.σ.Ok) (hK : K ≤ 1000000) :
  Calls Tryz.prog 61 #[.pointer (some ⟨b,0,none⟩)] w fun e w' => ∃ la lc bs wv mv pv xs,e = .returned (.slice la y.σ.S.list.length lc) ∧ RXok y.σ xs K ∧ Own w0 w' (RWdL la lc b y bs wv mv pv xs ++ l) := by
 obtain ⟨bs,wv,mv,pv,h⟩ := h.rwO
 obtain ⟨xs,hxs,h1⟩ := RSto.opn h
 have q0 := h1.two.cell 0
 simp [rwcs] at q0
 have HX : Hid (RXok y.σ xs K) := hxs
 have HL : Hid (Calls _ _ _ _ _) := rlistS w0 w _ bs y.σ K xs h1 hxs hσ (by omega) (fun id hid => (St.list_w hσ.s hid).1)
 clear h h1 hxs hσ
 go_enter Tryz.func61,Tryz.ntmps61
 go_wp2_with fail
 refine HL.out.mono ?_
 rintro e w1 ⟨la,lc,rfl,hO⟩
 have HS : Hid (Own w0 w1 _) := hO.seeS
 clear hO HL
 go_wp2
 go_ret
 exact ⟨la,lc,bs,wv,mv,pv,xs,rfl,HX.out,HS.out⟩
theorem rlist15_nil (w : World) : Calls Tryz.prog 61 #[.pointer none] w fun e w' => e = .returned (.slice none 0 0) ∧ w' = w := by
 go_enter Tryz.func61,Tryz.ntmps61
 go_wp2
 go_ret
 exact ⟨rfl,rfl⟩
theorem rsince15_nil (w : World) (tk : Int) : Calls Tryz.prog 21 #[.pointer none,.int .u32 tk] w fun e w' => e = .returned (.slice none 0 0) ∧ w' = w := by
 go_enter Tryz.func21,Tryz.ntmps21
 go_wp2
 go_ret
 exact ⟨rfl,rfl⟩
def RWdO (b T : Nat) (σ : Sto) (E : List OrdE) (M : List MkE) (P : List PlE) (K bs : Nat) (wv : Value) (mva : Option Addr) (mvc : Nat) (pv : Value) : Thing := Ex (fun _ : Unit => [RSto bs σ K,Cells b (rwcs bs wv T (.slice mva M.length mvc) pv) 109,WtT wv E,Row 121 3 (.slice mva M.length mvc) M.length (cat MkE.cs M),Row 126 4 pv P.length (cat PlE.cs P)])
theorem last_at {L : List Nat} {x : Nat} (h : L.getLast? = some x) : L[L.length - 1]? = some x := by rw [← h,List.getLast?_eq_getElem?]
theorem rsince15 (w0 w : World) (l : List Thing) (b K : Nat) (y : RWd) (h : Own w0 w (RWdT b y K :: l)) (hM : y.M.length ≤ 100000) (tk : Int) :
  Calls Tryz.prog 21 #[.pointer (some ⟨b,0,none⟩),.int .u32 tk] w fun e w' => ∃ ao cap,e = .returned (.slice ao (y.M.foldl (sstep tk) []).length cap) ∧ Own w0 w' (Row 38 1 (.slice ao (y.M.foldl (sstep tk) []).length cap) (y.M.foldl (sstep tk) []).length (irow .u32 (y.M.foldl (sstep tk) [])) :: RWdT b y K :: l) := by
 obtain ⟨i0,hi,hz0,hz1,hz2⟩ := info_parts Tryz.infoIDh
 obtain ⟨T,σ,E,M,P⟩ := y
 simp only at hM ⊢
 have HO : Hid (∀ W l',Own w0 W (RWdT b ⟨T,σ,E,M,P⟩ K :: l') → ∃ bs wv mv pv,Own w0 W (RSto bs σ K :: Cells b (rwcs bs wv T mv pv) 109 :: WtT wv E :: Row 121 3 mv M.length (cat MkE.cs M) :: Row 126 4 pv P.length (cat PlE.cs P) :: l')) := fun W l' hW => hW.rwO
 obtain ⟨bs,wv,mv,pv,h1⟩ := HO.out w l h
 obtain ⟨mva,mvc,hmv⟩ := row_any h1.four.row
 subst hmv
 obtain ⟨ml,hml⟩ : ∃ ml,M.length = ml := ⟨_,rfl⟩
 have HML : Hid (M.length = ml) := hml
 have HMA : Hid (∀ W l',Own w0 W (RWdO b T σ E M P K bs wv mva mvc pv :: l') → MksAt W mva M) := fun W l' hW => by
  have h2 := (Own.ex_iff.1 hW).elim (fun _ h => h)
  have h3 : Own w0 W (RSto bs σ K :: Cells b (rwcs bs wv T (.slice mva ml mvc) pv) 109 :: WtT wv E :: Row 121 3 (.slice mva ml mvc) ml (cat MkE.cs M) :: Row 126 4 pv P.length (cat PlE.cs P) :: l') := by
   have h3 := h2
   simp only [hml] at h3
   exact h3
  exact mks_row h3.four.row hml
 have q3 := h1.two.cell 3
 simp [rwcs] at q3
 rw [hml] at hM q3
 have H1 : Hid (Own w0 w (RWdO b T σ E M P K bs wv mva mvc pv :: l)) := Own.ex_iff.2 ⟨(),h1⟩
 have HCL : Hid (∀ W l',Own w0 W (RWdO b T σ E M P K bs wv mva mvc pv :: l') → Own w0 W (RWdT b ⟨T,σ,E,M,P⟩ K :: l')) := fun W l' hW => Own.rwS (x := ⟨T,σ,E,M,P⟩) ((Own.ex_iff.1 hW).elim (fun _ h => h))
 clear h h1 hml HO
 go_enter Tryz.func21,Tryz.ntmps21
 go_wp2
 refine wp_loop (fun a' wr => ∃ (i on oc : Nat) (oa : Option Addr) (out : List Nat),a' = { tmps := #[.pointer (some ⟨b,0,none⟩),.int .u32 tk,gf a' 2,gf a' 3,gf a' 4,.slice oa on oc,gf a' 6,gf a' 7,gf a' 8,gf a' 9,gf a' 10,gf a' 11,gf a' 12,.slice mva ml mvc,.int .i64 (ml : Int),.int .i64 (i : Int),gf a' 16,gf a' 17,gf a' 18,gf a' 19,gf a' 20,gf a' 21,gf a' 22,gf a' 23,gf a' 24,gf a' 25,gf a' 26,gf a' 27,gf a' 28,gf a' 29,gf a' 30,gf a' 31,gf a' 32,gf a' 33,gf a' 34,gf a' 35,gf a' 36,gf a' 37,gf a' 38,gf a' 39,gf a' 40,gf a' 41,gf a' 42,gf a' 43,gf a' 44,gf a' 45],defers := [] } ∧ i ≤ ml ∧ on ≤ i ∧ out.length = on ∧ out = (M.take i).foldl (sstep tk) [] ∧ Own w0 wr (Row 38 1 (.slice oa on oc) on (irow .u32 out) :: RWdO b T σ E M P K bs wv mva mvc pv :: l)) (fun a' _ => ml - (intOf (a'.tmps.getD 15 undef)).toNat) ?_ ?_
 ·exact ⟨0,0,0,none,[],rfl,Nat.zero_le _,Nat.le_refl _,rfl,rfl,H1.out.nilRow _ _⟩
 ·intro a' wr hI
  obtain ⟨i,on,oc,oa,out,hact,hi',hon,hol,hout,hO⟩ := hI
  obtain ⟨u,hu⟩ : ∃ u : Nat → Value,∀ k,gf a' k = u k := ⟨_,fun _ => rfl⟩
  simp only [hu] at hact
  clear hu
  subst hact
  clear H1
  have HOL : Hid (out.length = on ∧ out = (M.take i).foldl (sstep tk) []) := ⟨hol,hout⟩
  clear hol hout
  by_cases hlt : i < ml
  ·have hlt' : (i : Int) < (ml : Int) := by omega
   obtain ⟨m,hm⟩ : ∃ m,M[i]? = some m := ⟨_,List.getElem?_eq_getElem (by rw [HML.out]; exact hlt)⟩
   obtain ⟨g,o,hma,c0,c1,c2⟩ := (HMA.out wr _ hO.tail).at hm
   subst hma
   have HST : Hid ((M.take (i + 1)).foldl (sstep tk) [] = sstep tk out m) := by
    show _ = _
    rw [List.take_add_one,hm,List.foldl_append,← HOL.out.2]
    rfl
   have hB := hO.allocC #[.int .u32 (m.id : Int),.int .u8 (m.k : Int),.int .u32 (m.t : Int)] 121
   obtain ⟨mi,mk,mt⟩ := m
   simp only at c0 c1 c2 HST hB
   obtain ⟨bm,hbm⟩ : ∃ bm,wr.heap.size = bm := ⟨_,rfl⟩
   rw [hbm] at hB
   have HB : Hid (Own w0 _ _) := hB
   clear hO hB hm
   go_wp2
   generalize hWg : wr.alloc (.cells #[.int .u32 (mi : Int),.int .u8 (mk : Int),.int .u32 (mt : Int)] 121) = W2 at *
   clear c0 c1 c2 hWg hbm
   have f0 : ∀ f : FrOf W2,f.val.cell? ⟨bm,0,none⟩ = some (.int .u32 (mi : Int)) := fun f => (HB.out.frCells f 0).trans rfl
   have f2 : ∀ f : FrOf W2,f.val.cell? ⟨bm,2,none⟩ = some (.int .u32 (mt : Int)) := fun f => (HB.out.frCells f 2).trans rfl
   by_cases c : tk < (mt : Int)
   ·rcases Nat.eq_zero_or_pos on with h0 | h0
    ·subst h0
     have hoe : out = [] := List.eq_nil_of_length_eq_zero HOL.out.1
     have HS2 : Hid (out ++ [mi] = (M.take (i + 1)).foldl (sstep tk) []) := by
      show _ = _
      rw [HST.out,hoe]
      unfold sstep
      rw [if_pos ⟨c,by simp⟩]
     clear hoe HST
     refine wp_region_fr (by kernel_rfl) (by kernel_rfl) ?_
     repeat (with_reducible refine wpQuiet_step (fun K hK => ?_)
             go_simp
             first
              | (refine hK _ ?_; clear hK K))
     refine wpQuiet_nil ?_
     rintro w' ⟨f,rfl⟩
     have hB2 := HB.out.quiet f.fr
     have g0 := f0 f
     have HB2 : Hid (Own w0 f.val _) := hB2.two
     clear hB2 HB f0 f2
     go_wp2_with (at_builtin; refine append1_own rfl _ _ 55 rfl 38 i0 (.int .u32 0) 1 4 Tryz.underlying55 hi hz0 hz1 hz2 rfl (by decide) _ _ _ rfl HB2.out _ #[.int .u32 (mi : Int)] (by simp) rfl rfl (one_int _ _) (by unfold maxLen; omega) (by omega) ?_)
     intro g2 cap2 w5 hO2 hsz
     have H5 : Hid (Own w0 w5 (Row 38 1 (.slice (some ⟨g2,0,none⟩) (0 + 1) cap2) (0 + 1) (irow .u32 (out ++ [mi])) :: RWdO b T σ E M P K bs wv (some ⟨g,o,none⟩) mvc pv :: l)) := by
      show Own _ _ _
      rw [irow_append]
      exact hO2.two.tail
     clear hO2 HB2
     go_wp2
     exact ⟨⟨i + 1,0 + 1,cap2,_,out ++ [mi],rfl,by omega,by omega,by rw [List.length_append,HOL.out.1]; rfl,HS2.out,H5.out⟩,by simp [intOf]; omega⟩
    ·obtain ⟨go,c',hv,_⟩ := row_shape HB.out.two.row h0
     obtain ⟨rfl,_,rfl⟩ := Value.slice.inj hv
     obtain ⟨x,hx⟩ : ∃ x,out.getLast? = some x := by
      cases he : out.getLast? with
      | none => rw [List.getLast?_eq_none_iff] at he; have := HOL.out.1; rw [he] at this; simp at this; omega
      | some x => exact ⟨x,rfl⟩
     have hxa := last_at hx
     rw [HOL.out.1] at hxa
     obtain ⟨z,hz⟩ : ∃ z,on = z + 1 := ⟨on - 1,by omega⟩
     have fz : ∀ f : FrOf W2,f.val.cell? ⟨go,z,none⟩ = some (.int .u32 (x : Int)) := by
      intro f
      have := (HB.out.quiet f.fr).two.row.cellAt z (by omega)
      rw [this,getElem?_irow]
      have e : on - 1 = z := by omega
      rw [e] at hxa
      rw [hxa]; rfl
     have hk0 : ((on : Int) == 0) = false := by rw [beq_eq_false_iff_ne]; omega
     have hk1 : (on : Int) - 1 = (z : Int) := by omega
     have hk2 : (z : Int) < (on : Int) := by omega
     have hk3 : IntKind.i64.wrap (z : Int) = (z : Int) := by rw [IntKind.wrap_i64]; omega
     clear hz
     by_cases hxi : x = mi
     ·have HS2 : Hid (out = (M.take (i + 1)).foldl (sstep tk) []) := by
       show _ = _
       rw [HST.out]
       unfold sstep
       rw [if_neg]
       rintro ⟨_,hh⟩
       simp only at hh
       rw [hx,hxi] at hh
       exact hh rfl
      have hne : ((x : Int) != (mi : Int)) = false := by rw [hxi]; simp
      clear HST hx hxa hxi hv
      refine wp_region_fr (by kernel_rfl) (by kernel_rfl) ?_
      repeat (with_reducible refine wpQuiet_step (fun K hK => ?_)
              go_simp
              first
               | (refine hK _ ?_; clear hK K))
      refine wpQuiet_nil ?_
      rintro w' ⟨f,rfl⟩
      have hB2 := HB.out.quiet f.fr
      have HB2 : Hid (Own w0 f.val _) := hB2.tail
      clear hB2 HB f0 f2 fz
      go_wp2
      exact ⟨⟨i + 1,on,oc,some ⟨go,0,none⟩,⟨⟨rfl,rfl,rfl⟩,by omega⟩,by omega,by omega,out,HOL.out.1,HS2.out,HB2.out⟩,by simp [intOf]; omega⟩
     ·have HS2 : Hid (out ++ [mi] = (M.take (i + 1)).foldl (sstep tk) []) := by
       show _ = _
       rw [HST.out]
       unfold sstep
       rw [if_pos ⟨c,by simp only; rw [hx]; intro q; injection q with q; exact hxi q⟩]
      have hne : ((x : Int) != (mi : Int)) = true := by rw [bne_iff_ne]; omega
      clear HST hx hxa hxi hv
      refine wp_region_fr (by kernel_rfl) (by kernel_rfl) ?_
      repeat (with_reducible refine wpQuiet_step (fun K hK => ?_)
              go_simp
              first
               | (refine hK _ ?_; clear hK K))
      refine wpQuiet_nil ?_
      rintro w' ⟨f,rfl⟩
      have hB2 := HB.out.quiet f.fr
      have g0 := f0 f
      have HB2 : Hid (Own w0 f.val _) := hB2.two
      clear hB2 HB f0 f2 fz
      go_wp2_with (at_builtin; refine append1_own rfl _ _ 55 rfl 38 i0 (.int .u32 0) 1 4 Tryz.underlying55 hi hz0 hz1 hz2 rfl (by decide) _ _ _ rfl HB2.out _ #[.int .u32 (mi : Int)] (by simp) rfl rfl (one_int _ _) (by unfold maxLen; omega) (by omega) ?_)
      intro g2 cap2 w5 hO2 hsz
      have H5 : Hid (Own w0 w5 (Row 38 1 (.slice (some ⟨g2,0,none⟩) (on + 1) cap2) (on + 1) (irow .u32 (out ++ [mi])) :: RWdO b T σ E M P K bs wv (some ⟨g,o,none⟩) mvc pv :: l)) := by
       show Own _ _ _
       rw [irow_append]
       exact hO2.two.tail
      clear hO2 HB2
      go_wp2
      exact ⟨⟨i + 1,on + 1,cap2,_,out ++ [mi],rfl,by omega,by omega,by rw [List.length_append,HOL.out.1]; rfl,HS2.out,H5.out⟩,by simp [intOf]; omega⟩
   ·have HS2 : Hid (out = (M.take (i + 1)).foldl (sstep tk) []) := by
     show _ = _
     rw [HST.out]
     unfold sstep
     rw [if_neg (fun q => c q.1)]
    clear HST
    refine wp_region_fr (by kernel_rfl) (by kernel_rfl) ?_
    repeat (with_reducible refine wpQuiet_step (fun K hK => ?_)
            go_simp
            first
             | (refine hK _ ?_; clear hK K))
    refine wpQuiet_nil ?_
    rintro w' ⟨f,rfl⟩
    have hB2 := HB.out.quiet f.fr
    have HB2 : Hid (Own w0 f.val _) := hB2.tail
    clear hB2 HB f0 f2
    go_wp2
    exact ⟨⟨i + 1,on,oc,oa,⟨⟨rfl,rfl,rfl⟩,by omega⟩,by omega,by omega,out,HOL.out.1,HS2.out,HB2.out⟩,by simp [intOf]; omega⟩
  ·have hlt' : ¬ (i : Int) < (ml : Int) := by omega
   have HE : Hid (out = M.foldl (sstep tk) [] ∧ out.length = on) := by
    refine ⟨?_,HOL.out.1⟩
    rw [HOL.out.2,List.take_of_length_le (by rw [HML.out]; omega)]
   have HB : Hid (Own w0 wr _) := hO
   clear hO HOL
   go_wp2
   go_ret
   rw [← HE.out.1,HE.out.2]
   exact ⟨oa,oc,rfl,(HCL.out wr _ HB.out.two).two⟩
end Go.Proofs.YtogmdoiecpihdaaGreatDoor
namespace Go.Proofs.YtogmdoiecpihdaaGreatDoor
open Go.RowKit
set_option linter.unusedVariables false
set_option maxHeartbeats 8000000
set_option maxRecDepth 100000
theorem cp_eq (x y : Cp) : ((((x.k : Int) == (y.k : Int))) && ((x.a == y.a) && (x.b == y.b) && (x.c == y.c))) = decide (x = y) := by
 rw [Bool.eq_iff_iff]
 cases x; cases y
 simp
 omega
theorem take_ne {α : Type} [DecidableEq α] {A B : List α} {k : Nat} {x y : α} (hx : A[k]? = some x) (hy : B[k]? = some y) (h : decide (x = y) = false) : decide (A = B) = false := by
 apply decide_eq_false
 intro e
 rw [e,hy] at hx
 have : y = x := by simpa using hx
 exact of_decide_eq_false h this.symm
theorem take_eq {α : Type} [DecidableEq α] {A B : List α} {k : Nat} {x y : α} (hx : A[k]? = some x) (hy : B[k]? = some y) (h : decide (x = y) = true) (ht : A.take k = B.take k) : A.take (k + 1) = B.take (k + 1) := by
 rw [List.take_add_one,List.take_add_one,hx,hy,ht,of_decide_eq_true h]
theorem take_all {α : Type} [DecidableEq α] {A B : List α} {k : Nat} (hA : A.length ≤ k) (hB : B.length ≤ k) (ht : A.take k = B.take k) : decide (A = B) = true := by
 rw [List.take_of_length_le hA,List.take_of_length_le hB] at ht
 exact decide_eq_true ht
theorem len_ne {α : Type} [DecidableEq α] {A B : List α} (h : A.length ≠ B.length) : decide (A = B) = false := decide_eq_false (fun e => h (by rw [e]))
theorem eqCs_r (w : World) (a1 a2 : Option Addr) (n1 n2 c1 c2 : Nat) (A B : List Cp) (h1 : Cs w a1 A) (h2 : Cs w a2 B) (hn1 : A.length = n1) (hn2 : B.length = n2) (hm1 : n1 ≤ 2097152) (hm2 : n2 ≤ 2097152) :
  Calls Tryz.prog 45 #[.slice a1 n1 c1,.slice a2 n2 c2] w fun e w' => e = .returned (.bool (decide (A = B))) ∧ Fr Nobody w w' := by
 by_cases hne : n1 = n2
 ·have H1 : Hid (Cs w a1 A ∧ Cs w a2 B ∧ A.length = n1 ∧ B.length = n1) := ⟨h1,h2,hn1,by rw [hn2,hne]⟩
  rw [← hne]
  clear h1 h2 hn1 hn2 hne hm2
  have hne' : ((n1 : Int) != (n1 : Int)) = false := by simp
  go_enter Tryz.func45,Tryz.ntmps45
  go_wp2
  clear hne'
  go_loopw [13] (fun cc wr => ∃ k : Nat,k ≤ n1 ∧ cc = .int .i64 k ∧ Fr Nobody w wr ∧ A.take k = B.take k) (fun cc _ => n1 - (intOf cc).toNat)
  case atStart => exact ⟨0,Nat.zero_le _,rfl,Fr.refl _ _,by simp⟩
  case round =>
   obtain ⟨k,hk,rfl,hf,heq⟩ := hrel
   have HF : Hid (Fr Nobody w wr) := hf
   have HE : Hid (A.take k = B.take k) := heq
   clear hf heq
   by_cases hlt : k < n1
   ·obtain ⟨x,hx⟩ : ∃ x,A[k]? = some x := ⟨_,List.getElem?_eq_getElem (by rw [H1.out.2.2.1]; exact hlt)⟩
    obtain ⟨y,hy⟩ : ∃ y,B[k]? = some y := ⟨_,List.getElem?_eq_getElem (by rw [H1.out.2.2.2]; exact hlt)⟩
    obtain ⟨g1,o1,hg1,_,p0,p1,p2,p3⟩ := (H1.out.1.quiet HF.out).at k x hx
    obtain ⟨g2,o2,hg2,_,q0,q1,q2,q3⟩ := (H1.out.2.1.quiet HF.out).at k y hy
    subst hg1 hg2
    have hlt' : (k : Int) < (n1 : Int) := by omega
    have HXY : Hid (A[k]? = some x ∧ B[k]? = some y) := ⟨hx,hy⟩
    obtain ⟨r0,e0⟩ : ∃ r,((x.k : Int) == (y.k : Int)) = r := ⟨_,rfl⟩
    obtain ⟨r1,e1⟩ : ∃ r,((x.a == y.a) && (x.b == y.b) && (x.c == y.c)) = r := ⟨_,rfl⟩
    have HD : Hid (decide (x = y) = (r0 && r1)) := by show _ = _; rw [← cp_eq,e0,e1]
    have eqa : ∀ d w,(Op.equalIn (d + 1 + 1) 44 (.agg #[.int .i32 x.a,.int .i32 x.b,.int .i32 x.c]) (.agg #[.int .i32 y.a,.int .i32 y.b,.int .i32 y.c])).run Tryz.prog w = .ok r1 w := fun d w => by rw [eq_a3,e1]
    clear hx hy e1
    obtain ⟨xk,xa,xb,xc⟩ := x
    obtain ⟨yk,ya,yb,yc⟩ := y
    simp only at p0 p1 p2 p3 q0 q1 q2 q3 e0 eqa
    by_cases hb : (r0 && r1) = true
    ·obtain ⟨rfl,rfl⟩ : r0 = true ∧ r1 = true := by simpa using hb
     have HN : Hid (A.take (k + 1) = B.take (k + 1)) := take_eq HXY.out.1 HXY.out.2 HD.out HE.out
     go_wp2
     go_quiet (fail)
     go_wp2
     go_roundw
     case rel => exact ⟨k + 1,by omega,by go_num,HF.out.drewN _,HN.out⟩
     case measure => simp [intOf]; omega
    ·have HN : Hid (decide (A = B) = false) := take_ne HXY.out.1 HXY.out.2 (by rw [HD.out]; simpa using hb)
     have hb2 : (r0 && r1) = false := by simpa using hb
     have hc : r0 = false ∨ (r0 = true ∧ r1 = false) := by cases r0 <;> cases r1 <;> simp at hb2 ⊢
     clear hb hb2
     rcases hc with rfl | ⟨rfl,rfl⟩
     all_goals
      go_wp2
      go_quiet (fail)
      go_wp2
      go_ret
      exact ⟨by rw [HN.out]; rfl,HF.out.drewN _⟩
   ·have hlt' : ¬ (k : Int) < (n1 : Int) := by omega
    have HN : Hid (decide (A = B) = true) := take_all (by rw [H1.out.2.2.1]; omega) (by rw [H1.out.2.2.2]; omega) HE.out
    go_wp2
    go_ret
    exact ⟨by rw [HN.out]; rfl,HF.out⟩
 ·have HN : Hid (decide (A = B) = false) := len_ne (by rw [hn1,hn2]; exact hne)
  have hne' : ((n1 : Int) != (n2 : Int)) = true := by rw [bne_iff_ne]; omega
  clear h1 h2 hn1 hn2 hne
  go_enter Tryz.func45,Tryz.ntmps45
  go_wp2
  go_ret
  exact ⟨by rw [HN.out]; rfl,Fr.refl _ _⟩
theorem eqEn_r (w : World) (i1 i2 : Nat) (a1 a2 : Option Addr) (n1 n2 c1 c2 : Nat) (A B : List Cp) (h1 : Cs w a1 A) (h2 : Cs w a2 B) (hn1 : A.length = n1) (hn2 : B.length = n2) (hm1 : n1 ≤ 2097152) (hm2 : n2 ≤ 2097152) :
  Calls Tryz.prog 64 #[.agg #[.int .u32 (i1 : Int),.slice a1 n1 c1],.agg #[.int .u32 (i2 : Int),.slice a2 n2 c2]] w fun e w' => e = .returned (.bool (decide ((i1,A) = (i2,B)))) ∧ Fr Nobody w w' := by
 have HF : Hid (Fr Nobody w ((w.alloc (.cells #[.int .u32 (i1 : Int),.slice a1 n1 c1] 76)).alloc (.cells #[.int .u32 (i2 : Int),.slice a2 n2 c2] 76))) := ((Fr.refl _ _).alloc _).alloc _
 have HS : Hid (Calls _ _ _ _ _) := eqCs_r _ a1 a2 n1 n2 c1 c2 A B (h1.quiet HF.out) (h2.quiet HF.out) hn1 hn2 hm1 hm2
 by_cases hi : i1 = i2
 ·have HD : Hid (decide ((i1,A) = (i2,B)) = decide (A = B)) := by show _ = _; simp [hi]
  have hii : ((i1 : Int) == (i2 : Int)) = true := by simp [hi]
  generalize decide (A = B) = r at *
  clear h1 h2 hn1 hn2 hi
  go_enter Tryz.func64,Tryz.ntmps64
  go_wp2_with fail
  refine HS.out.mono ?_
  rintro e w1 ⟨rfl,hf⟩
  have H1 : Hid (Fr Nobody w w1) := HF.out.trans hf
  clear hf HS
  go_wp2
  go_ret
  exact ⟨by rw [HD.out]; rfl,H1.out⟩
 ·have HD : Hid (decide ((i1,A) = (i2,B)) = false) := by show _ = _; simp [hi]
  have hii : ((i1 : Int) == (i2 : Int)) = false := by simp; omega
  clear h1 h2 hn1 hn2 hi HS
  go_enter Tryz.func64,Tryz.ntmps64
  go_wp2
  go_ret
  exact ⟨by rw [HD.out]; rfl,HF.out⟩
theorem sameEnts_any (w : World) (a1 a2 : Option Addr) (n1 n2 c1 c2 : Nat) (L M : List EnE) (h1 : EntsAt w a1 L) (h2 : EntsAt w a2 M) (hn1 : L.length = n1) (hn2 : M.length = n2) (hz1 : esz L ≤ 2097152) (hz2 : esz M ≤ 2097152) :
  Calls Tryz.prog 26 #[.slice a1 n1 c1,.slice a2 n2 c2] w fun e w' => e = .returned (.bool (decide (evs L = evs M))) ∧ Fr Nobody w w' := by
 have hm1 : n1 ≤ 2097152 := by unfold esz at hz1; omega
 have HZ : Hid ((∀ x ∈ L,x.C.length ≤ 2097152) ∧ ∀ x ∈ M,x.C.length ≤ 2097152) := ⟨fun x hx => by have := csz_mem hx; unfold esz at hz1; omega,fun x hx => by have := csz_mem hx; unfold esz at hz2; omega⟩
 have hlL := evs_len L
 have hlM := evs_len M
 by_cases hne : n1 = n2
 ·have H1 : Hid (EntsAt w a1 L ∧ EntsAt w a2 M ∧ L.length = n1 ∧ M.length = n1) := ⟨h1,h2,hn1,by rw [hn2,hne]⟩
  have HLL : Hid ((evs L).length ≤ n1 ∧ (evs M).length ≤ n1) := ⟨by omega,by omega⟩
  rw [← hne]
  clear h1 h2 hn1 hn2 hne hz1 hz2 hlL hlM
  have hne' : ((n1 : Int) != (n1 : Int)) = false := by simp
  go_enter Tryz.func26,Tryz.ntmps26
  go_wp2
  clear hne'
  go_loopw [13] (fun cc wr => ∃ k : Nat,k ≤ n1 ∧ cc = .int .i64 k ∧ Fr Nobody w wr ∧ (evs L).take k = (evs M).take k) (fun cc _ => n1 - (intOf cc).toNat)
  case atStart => exact ⟨0,Nat.zero_le _,rfl,Fr.refl _ _,by simp⟩
  case round =>
   obtain ⟨k,hk,rfl,hf,heq⟩ := hrel
   have HF : Hid (Fr Nobody w wr) := hf
   have HE : Hid ((evs L).take k = (evs M).take k) := heq
   clear hf heq
   by_cases hlt : k < n1
   ·obtain ⟨x,hx⟩ : ∃ x,L[k]? = some x := ⟨_,List.getElem?_eq_getElem (by rw [H1.out.2.2.1]; exact hlt)⟩
    obtain ⟨y,hy⟩ : ∃ y,M[k]? = some y := ⟨_,List.getElem?_eq_getElem (by rw [H1.out.2.2.2]; exact hlt)⟩
    obtain ⟨g1,o1,hg1,_,_,_⟩ := (H1.out.1.quiet HF.out).at hx
    obtain ⟨g2,o2,hg2,_,_,_⟩ := (H1.out.2.1.quiet HF.out).at hy
    subst hg1 hg2
    have hlt' : (k : Int) < (n1 : Int) := by omega
    have r0 : ∀ f : FrOf wr,f.val.cell? ⟨g1,o1 + k * 2,none⟩ = some (.int .u32 (x.id : Int)) := fun f => by
     obtain ⟨g,o,hg,h0,h1,_⟩ := (H1.out.1.quiet (HF.out.trans f.fr)).at hx
     cases hg; exact h0
    have r1 : ∀ f : FrOf wr,f.val.cell? ⟨g1,o1 + k * 2 + 1,none⟩ = some (.slice x.ao x.C.length x.cap) := fun f => by
     obtain ⟨g,o,hg,h0,h1,_⟩ := (H1.out.1.quiet (HF.out.trans f.fr)).at hx
     cases hg; exact h1
    have s0 : ∀ f : FrOf wr,f.val.cell? ⟨g2,o2 + k * 2,none⟩ = some (.int .u32 (y.id : Int)) := fun f => by
     obtain ⟨g,o,hg,h0,h1,_⟩ := (H1.out.2.1.quiet (HF.out.trans f.fr)).at hy
     cases hg; exact h0
    have s1 : ∀ f : FrOf wr,f.val.cell? ⟨g2,o2 + k * 2 + 1,none⟩ = some (.slice y.ao y.C.length y.cap) := fun f => by
     obtain ⟨g,o,hg,h0,h1,_⟩ := (H1.out.2.1.quiet (HF.out.trans f.fr)).at hy
     cases hg; exact h1
    obtain ⟨r,hr⟩ : ∃ r,decide ((x.id,x.C) = (y.id,y.C)) = r := ⟨_,rfl⟩
    have CS : Hid (∀ f : FrOf wr,Calls Tryz.prog 64 #[.agg #[.int .u32 (x.id : Int),.slice x.ao x.C.length x.cap],.agg #[.int .u32 (y.id : Int),.slice y.ao y.C.length y.cap]] f.val fun e w' => e = .returned (.bool r) ∧ Fr Nobody f.val w') := fun f => by
     rw [← hr]
     exact eqEn_r f.val x.id y.id x.ao y.ao x.C.length y.C.length x.cap y.cap x.C y.C ((H1.out.1.quiet (HF.out.trans f.fr)).2 x (List.mem_of_getElem? hx)) ((H1.out.2.1.quiet (HF.out.trans f.fr)).2 y (List.mem_of_getElem? hy)) rfl rfl (HZ.out.1 x (List.mem_of_getElem? hx)) (HZ.out.2 y (List.mem_of_getElem? hy))
    have HXY : Hid ((evs L)[k]? = some (x.id,x.C) ∧ (evs M)[k]? = some (y.id,y.C)) := ⟨evs_at hx,evs_at hy⟩
    have HR : Hid (decide ((x.id,x.C) = (y.id,y.C)) = r) := hr
    clear hx hy hr
    obtain ⟨xi,xa,xc,xC⟩ := x
    obtain ⟨yi,ya,yc,yC⟩ := y
    simp only at r0 r1 s0 s1 CS HXY HR
    generalize xC.length = xl at *
    generalize yC.length = yl at *
    go_wp2
    refine wp_region_fr (by kernel_rfl) (by kernel_rfl) ?_
    repeat (with_reducible refine wpQuiet_step (fun K hK => ?_)
            go_simp
            first
             | (refine hK _ ?_; clear hK K)
             | (apply Exists.intro
                refine ⟨fun _ => ?_,hK _ ?_⟩
                (go_at_call 64; with_reducible refine Calls.fr_of (CS.out _))
                clear hK K))
    refine wpQuiet_nil ?_
    rintro w' ⟨f,rfl⟩
    have HF2 : Hid (Fr Nobody w f.val) := HF.out.trans f.fr
    clear r0 r1 s0 s1 CS
    cases r
    ·have HN : Hid (decide (evs L = evs M) = false) := take_ne HXY.out.1 HXY.out.2 HR.out
     go_wp2
     go_ret
     exact ⟨by rw [HN.out]; rfl,HF2.out⟩
    ·have HN : Hid ((evs L).take (k + 1) = (evs M).take (k + 1)) := take_eq HXY.out.1 HXY.out.2 HR.out HE.out
     go_wp2
     go_roundw
     case rel => exact ⟨k + 1,by omega,by go_num,HF2.out,HN.out⟩
     case measure => simp [intOf]; omega
   ·have hlt' : ¬ (k : Int) < (n1 : Int) := by omega
    have HN : Hid (decide (evs L = evs M) = true) := take_all (by have := HLL.out.1; omega) (by have := HLL.out.2; omega) HE.out
    go_wp2
    go_ret
    exact ⟨by rw [HN.out]; rfl,HF.out⟩
 ·have HN : Hid (decide (evs L = evs M) = false) := len_ne (by omega)
  have hne' : ((n1 : Int) != (n2 : Int)) = true := by rw [bne_iff_ne]; omega
  clear h1 h2 hn1 hn2 hne hlL hlM hz1 hz2
  go_enter Tryz.func26,Tryz.ntmps26
  go_wp2
  go_ret
  exact ⟨by rw [HN.out]; rfl,Fr.refl _ _⟩
end Go.Proofs.YtogmdoiecpihdaaGreatDoor
