/- Lists of entities of their own: the document's Twins, the program's Copy. -/
import Derived.Test.YtgifeckbflkkpaaGreatDoorQf20
namespace Go.Proofs.YtgifeckbflkkpaaGreatDoor
open Go.RowKit
set_option linter.unusedVariables false
set_option maxHeartbeats 8000000
set_option maxRecDepth 100000
theorem Own.dropA {w0 w : World} {A l : List Thing} (h : Own w0 w (A ++ l)) : Own w0 w l := by
 induction A with
 | nil => exact h
 | cons a t ih => exact ih h.tail
theorem step_cs {w0 w : World} {l : List Thing} {ops : Array Oper} {o : Oper} {a : Act} {K : Act → World → Prop} {Q : Exit → Act → World → Prop} {E : Prop} (hgd : o.guard = none) (sx x : Operand)
  (ho : o.op = .call { callee := .builtin .append,args := #[sx,x],argTypes := #[58,58] })
  (i : TypeInfo) (hi : Tryz.prog.info? 63 = some i) (z : Value) (hz : i.zero = some z) (hsize : i.size = 4) (hby : i.bytes = 16) (hzs : z.cells.size = 4)
  (v : Value) (n : Nat) (xs : List Value) (hs : a.eval sx = v) (xa : Option Addr) (m xc : Nat) (C : List Cp) (hx : a.eval x = .slice xa m xc) (hC : C.length = m) (hc : Cs w xa C) (hown : Own w0 w (Row 63 4 v n xs :: l))
  (h63 : n + m ≤ maxLen) (hbytes : (n + m) * 16 ≤ 140737488355328)
  (h : ∀ ao cap w',Own w0 w' (Row 63 4 (.slice ao (n + m) cap) (n + m) (xs ++ ccat C) :: l) → K (a.put o.dst (.slice ao (n + m) cap)) w') :
  if Region.wanted o (yielded ops a.tmps) = true then Oper.wp Tryz.prog o a w K Q else E := by
 have hw : Region.wanted o (yielded ops a.tmps) = true := by simp [Region.wanted,hgd]
 rw [if_pos hw]
 rcases Nat.eq_zero_or_pos m with h0 | h0
 ·subst h0
  have hy : C = [] := List.eq_nil_of_length_eq_zero hC
  subst hy
  obtain ⟨va,vc,rfl⟩ := row_any hown.row
  have hr := run_append_empty (P := Tryz.prog) w 0 58 o.type 63 i 4 Tryz.underlying58 hi _ n xs hown.row xa xc
  unfold Oper.wp
  simp [execOp,ho,resolve,invoke,builtin,hs,hx,hr,Result.andThen]
  have := h va vc w (by simpa [ccat,cat] using hown)
  simp at this
  exact this
 ·rcases hc with hc | ⟨g,o',rfl,hc⟩
  ·subst hc; simp at hC; omega
  refine wp_append_lies w sx x 58 ho 0 63 i z 4 16 Tryz.underlying58 hi hz hsize hby hzs (by decide) v n xs hs hown.row ⟨g,o',none⟩ m xc (ccat C) hx (by rw [length_ccat,hC]) (Cs.cells hc) (one_cat Cp.cs cs_one C) h0 h63 hbytes (Nat.zero_le _) _ rfl ?_
  intro g' cap' w' h2 h3 h4 h5
  refine h _ _ w' (hown.grow h2 h3 (fun k hk => ?_))
  have hk' : g' = k := by simpa [Value.ownBlock] using hk
  subst hk'
  rcases h4 with h4 | h4
  ·exact .inl h4
  ·exact .inr (by omega)
theorem rtwins_any (w0 w : World) (l : List Thing) (h : Own w0 w l) (ae : Option Addr) (n ce : Nat) (L : List EnE) (hQ : ∀ w',Own w0 w' l → EntsAt w' ae L) (hn : L.length = n) (hz : esz L ≤ 1000000) :
  Calls Tryz.prog 11 #[.slice ae n ce] w fun e w' => ∃ (ao : Option Addr) (cap : Nat),e = .returned (.slice ao n cap) ∧ ∃ M : List EnE,M.length = n ∧ evs M = evs L ∧ Own w0 w' (EntsT ao cap M :: l) := by
 obtain ⟨i0,hi,hz0,hz1,hz2⟩ := info3w Tryz.infoEnt
 obtain ⟨i1,hi1,hy0,hy1,hy2⟩ := info_parts Tryz.infoComp
 have HN : Hid (L.length = n) := hn
 have HQ : Hid (∀ w',Own w0 w' l → EntsAt w' ae L) := hQ
 have HC : Hid (∀ x ∈ L,x.C.length ≤ 1000000) := fun x hx => by have := csz_mem hx; unfold esz at hz; omega
 have hl : n ≤ 1000000 := by unfold esz at hz; omega
 have H : Hid (Own w0 w l) := h
 clear h hn hQ hz
 go_enter Tryz.func11,Tryz.ntmps11
 go_wp2
 go_loopw [3,8] (fun vo vi wr => ∃ (j : Nat) (M : List EnE) (ao : Option Addr) (cap : Nat),j ≤ n ∧ vi = .int .i64 (j : Int) ∧ vo = .slice ao j cap ∧ M.length = j ∧ evs M = evs (L.take j) ∧ Own w0 wr (Row 60 2 (.slice ao j cap) j (cat EnE.cs M) :: (M.map erow ++ l))) (fun _ vi _ => n - (intOf vi).toNat)
 case atStart => exact ⟨0,[],none,0,Nat.zero_le _,rfl,rfl,rfl,rfl,H.out.nilRow _ _⟩
 case round =>
  obtain ⟨j,M,ao,cap,hj,rfl,rfl,hMl,hM,hO⟩ := hrel
  have HM : Hid (M.length = j ∧ evs M = evs (L.take j)) := ⟨hMl,hM⟩
  clear H hMl hM
  by_cases hlt : j < n
  ·have hlt' : (j : Int) < (n : Int) := by omega
   obtain ⟨x,hx⟩ : ∃ x,L[j]? = some x := ⟨_,List.getElem?_eq_getElem (by rw [HN.out]; exact hlt)⟩
   obtain ⟨g,o,hg,c0,c1,hcs⟩ := (HQ.out wr hO.tail.dropA).at hx
   have hcl := HC.out x (List.mem_of_getElem? hx)
   have hB := hO.allocC #[.int .u32 (x.id : Int),.slice x.ao x.C.length x.cap] 60
   have HTW : Hid (Calls _ _ _ _ _) := twin_any w0 _ _ hB.drew x.ao x.C.length x.cap x.C rfl (hcs.quiet ((Fr.refl _ _).alloc _).drew) hcl
   have HM2 : Hid (∀ a c,evs (M ++ [EnE.mk x.id a c x.C]) = evs (L.take (j + 1))) := by
    intro a c
    have e := HM.out.2
    unfold evs at e ⊢
    rw [List.map_append,e,List.take_add_one,hx]
    simp
   subst hg
   obtain ⟨xi,xa,xc,C⟩ := x
   simp only at c0 c1 HTW HM2
   have HB : Hid (Own w0 _ _) := hB
   generalize hcl2 : C.length = cl at *
   have HCL : Hid (C.length = cl) := hcl2
   clear hO hB hx hcs hcl2
   go_wp2
   generalize hWg : wr.alloc (.cells #[.int .u32 (xi : Int),.slice xa cl xc] 60) = W1 at *
   generalize wr.heap.size = b5 at *
   clear hWg c0 c1
   have p0 := HB.out.cell 0
   have p1 := HB.out.cell 1
   simp at p0 p1
   go_region_held3 (fun w' => w'.cell? ⟨b5,0,none⟩ = some (.int .u32 (xi : Int)) ∧ w'.cell? ⟨b5,1,none⟩ = some (.slice xa cl xc)) (go_keep)
    (first
      | (go_at_call 36; refine HTW.out.mono ?_; rintro e w5 ⟨a5,c5,rfl,h5⟩
         have u0 := h5.two.cell 0
         have u1 := h5.two.cell 1
         simp at u0 u1
         have h5b := h5.three.alloc (.cells #[.int .u32 (xi : Int),.slice a5 cl c5] 60)
         have h5c := (h5.litRow #[.int .u32 (xi : Int),.slice a5 cl c5] 60 2 1 (by decide) rfl).row
         have v0 := h5b.three.cell 0
         have v1 := h5b.three.cell 1
         simp at v0 v1
         have H5 : Hid (Own w0 _ _) := h5b
         have H5C : Hid (World.ownsRow _ _ _ _ _ _ _) := h5c
         clear h5 h5b h5c)
      | (refine step_allW rfl _ _ 23 rfl 60 i0 (.agg #[.int .u32 0,.slice none 0 0]) 2 32 Tryz.underlying23 hi hz0 hz1 hz2 rfl (by decide) _ _ _ rfl _ _ _ _ rfl H5.out H5C.out (by intro u hu; simp at hu; rcases hu with rfl | rfl <;> rfl) (by unfold maxLen; omega) (by omega) ?_
         intro g6 c6 w6 hO6
         have t0 := hO6.three.cell 0
         have t1 := hO6.three.cell 1
         simp at t0 t1
         have H6 : Hid (Own w0 w6 _) := hO6
         clear hO6))
   have H7 : Hid (Own w0 w6 (Row 60 2 (.slice g6 (j + 1) c6) (j + 1) (cat EnE.cs (M ++ [EnE.mk xi a5 c5 C])) :: ((M ++ [EnE.mk xi a5 c5 C]).map erow ++ l))) := by
    have e1 : cat EnE.cs (M ++ [EnE.mk xi a5 c5 C]) = cat EnE.cs M ++ [.int .u32 (xi : Int),.slice a5 cl c5] := by
     rw [cat_append]
     congr 1
     simp [cat,EnE.cs,HCL.out]
    have e2 : (M ++ [EnE.mk xi a5 c5 C]).map erow ++ l = M.map erow ++ (Row 63 4 (.slice a5 cl c5) cl (ccat C) :: l) := by
     simp [erow,HCL.out]
    show Own _ _ _
    rw [e1,e2]
    have h8 := H6.out.three.tail
    exact h8.perm (List.Perm.cons _ List.perm_middle.symm)
   clear H6 H5 H5C HTW HB u0 u1 v0 v1 t0 t1 p0 p1
   go_wp2
   go_roundw
   case rel => exact ⟨j + 1,M ++ [EnE.mk xi a5 c5 C],g6,c6,by omega,by go_num,rfl,by rw [List.length_append,HM.out.1]; rfl,HM2.out a5 c5,H7.out⟩
   case measure => simp [intOf]; omega
  ·have hlt' : ¬ (j : Int) < (n : Int) := by omega
   have hjn : j = n := by omega
   subst hjn
   have HF : Hid (evs M = evs L) := by
    have := HM.out.2
    rw [List.take_of_length_le (by rw [HN.out]; exact Nat.le_refl _)] at this
    exact this
   have HE : Hid (Own w0 wr (EntsT ao cap M :: l)) := by
    have h1 := hO
    rw [← HM.out.1] at h1
    exact Own.ents h1
   clear hO
   go_wp2
   go_ret
   exact ⟨ao,cap,rfl,M,HM.out.1,HF.out,HE.out⟩
theorem copy_any (w0 w : World) (l : List Thing) (h : Own w0 w l) (ae : Option Addr) (n ce : Nat) (L : List EnE) (hQ : ∀ w',Own w0 w' l → EntsAt w' ae L) (hn : L.length = n) (hz : esz L ≤ 1000000) :
  Calls Tryz.prog 63 #[.slice ae n ce] w fun e w' => ∃ (ao : Option Addr) (cap : Nat),e = .returned (.slice ao n cap) ∧ ∃ M : List EnE,M.length = n ∧ evs M = evs L ∧ Own w0 w' (EntsT ao cap M :: l) := by
 obtain ⟨i0,hi,hz0,hz1,hz2⟩ := info3w Tryz.infoEnt
 obtain ⟨i1,hi1,hy0,hy1,hy2⟩ := info_parts Tryz.infoComp
 have HN : Hid (L.length = n) := hn
 have HQ : Hid (∀ w',Own w0 w' l → EntsAt w' ae L) := hQ
 have HC : Hid (∀ x ∈ L,x.C.length ≤ 1000000) := fun x hx => by have := csz_mem hx; unfold esz at hz; omega
 have hl : n ≤ 1000000 := by unfold esz at hz; omega
 have H : Hid (Own w0 w l) := h
 clear h hn hQ hz
 go_enter Tryz.func63,Tryz.ntmps63
 go_wp2
 go_loopw [3,8] (fun vo vi wr => ∃ (j : Nat) (M : List EnE) (ao : Option Addr) (cap : Nat),j ≤ n ∧ vi = .int .i64 (j : Int) ∧ vo = .slice ao j cap ∧ M.length = j ∧ evs M = evs (L.take j) ∧ Own w0 wr (Row 60 2 (.slice ao j cap) j (cat EnE.cs M) :: (M.map erow ++ l))) (fun _ vi _ => n - (intOf vi).toNat)
 case atStart => exact ⟨0,[],none,0,Nat.zero_le _,rfl,rfl,rfl,rfl,H.out.nilRow _ _⟩
 case round =>
  obtain ⟨j,M,ao,cap,hj,rfl,rfl,hMl,hM,hO⟩ := hrel
  have HM : Hid (M.length = j ∧ evs M = evs (L.take j)) := ⟨hMl,hM⟩
  clear H hMl hM
  by_cases hlt : j < n
  ·have hlt' : (j : Int) < (n : Int) := by omega
   obtain ⟨x,hx⟩ : ∃ x,L[j]? = some x := ⟨_,List.getElem?_eq_getElem (by rw [HN.out]; exact hlt)⟩
   obtain ⟨g,o,hg,c0,c1,hcs⟩ := (HQ.out wr hO.tail.dropA).at hx
   have hcl := HC.out x (List.mem_of_getElem? hx)
   have hB := hO.allocC #[.int .u32 (x.id : Int),.slice x.ao x.C.length x.cap] 60
   have HTW : Hid (Cs (wr.alloc (.cells #[.int .u32 (x.id : Int),.slice x.ao x.C.length x.cap] 60)).drew x.ao x.C) := hcs.quiet ((Fr.refl _ _).alloc _).drew
   have HM2 : Hid (∀ a c,evs (M ++ [EnE.mk x.id a c x.C]) = evs (L.take (j + 1))) := by
    intro a c
    have e := HM.out.2
    unfold evs at e ⊢
    rw [List.map_append,e,List.take_add_one,hx]
    simp
   subst hg
   obtain ⟨xi,xa,xc,C⟩ := x
   simp only at c0 c1 HTW HM2
   have HB : Hid (Own w0 _ _) := hB
   generalize hcl2 : C.length = cl at *
   have HCL : Hid (C.length = cl) := hcl2
   clear hO hB hx hcs hcl2
   go_wp2
   generalize hWg : wr.alloc (.cells #[.int .u32 (xi : Int),.slice xa cl xc] 60) = W1 at *
   generalize wr.heap.size = b5 at *
   clear hWg c0 c1
   have p0 := HB.out.cell 0
   have p1 := HB.out.cell 1
   simp at p0 p1
   go_region_held3 (fun w' => w'.cell? ⟨b5,0,none⟩ = some (.int .u32 (xi : Int)) ∧ w'.cell? ⟨b5,1,none⟩ = some (.slice xa cl xc)) (go_keep)
    (first
      | (refine step_cs rfl _ _ rfl i1 hi1 _ hy0 hy1 hy2 rfl _ 0 [] rfl _ _ _ C rfl HCL.out HTW.out (HB.out.drew.nilRow _ _) (by unfold maxLen; omega) (by omega) ?_
         intro a5 c5 w5 h5r
         have h5 : Own w0 w5 (Row 63 4 (.slice a5 cl c5) cl (ccat C) :: Cells b5 #[.int .u32 (xi : Int),.slice xa cl xc] 60 :: Row 60 2 (.slice ao j cap) j (cat EnE.cs M) :: (M.map erow ++ l)) := by simpa using h5r
         clear h5r
         rw [Nat.zero_add]
         have u0 := h5.two.cell 0
         have u1 := h5.two.cell 1
         simp at u0 u1
         have h5b := h5.three.alloc (.cells #[.int .u32 (xi : Int),.slice a5 cl c5] 60)
         have h5c := (h5.litRow #[.int .u32 (xi : Int),.slice a5 cl c5] 60 2 1 (by decide) rfl).row
         have v0 := h5b.three.cell 0
         have v1 := h5b.three.cell 1
         simp at v0 v1
         have H5 : Hid (Own w0 _ _) := h5b
         have H5C : Hid (World.ownsRow _ _ _ _ _ _ _) := h5c
         clear h5 h5b h5c)
      | (refine step_allW rfl _ _ 23 rfl 60 i0 (.agg #[.int .u32 0,.slice none 0 0]) 2 32 Tryz.underlying23 hi hz0 hz1 hz2 rfl (by decide) _ _ _ rfl _ _ _ _ rfl H5.out H5C.out (by intro u hu; simp at hu; rcases hu with rfl | rfl <;> rfl) (by unfold maxLen; omega) (by omega) ?_
         intro g6 c6 w6 hO6
         have t0 := hO6.three.cell 0
         have t1 := hO6.three.cell 1
         simp at t0 t1
         have H6 : Hid (Own w0 w6 _) := hO6
         clear hO6))
   have H7 : Hid (Own w0 w6 (Row 60 2 (.slice g6 (j + 1) c6) (j + 1) (cat EnE.cs (M ++ [EnE.mk xi a5 c5 C])) :: ((M ++ [EnE.mk xi a5 c5 C]).map erow ++ l))) := by
    have e1 : cat EnE.cs (M ++ [EnE.mk xi a5 c5 C]) = cat EnE.cs M ++ [.int .u32 (xi : Int),.slice a5 cl c5] := by
     rw [cat_append]
     congr 1
     simp [cat,EnE.cs,HCL.out]
    have e2 : (M ++ [EnE.mk xi a5 c5 C]).map erow ++ l = M.map erow ++ (Row 63 4 (.slice a5 cl c5) cl (ccat C) :: l) := by
     simp [erow,HCL.out]
    show Own _ _ _
    rw [e1,e2]
    have h8 := H6.out.three.tail
    exact h8.perm (List.Perm.cons _ List.perm_middle.symm)
   clear H6 H5 H5C HTW HB u0 u1 v0 v1 t0 t1 p0 p1
   go_wp2
   go_roundw
   case rel => exact ⟨j + 1,M ++ [EnE.mk xi a5 c5 C],g6,c6,by omega,by go_num,rfl,by rw [List.length_append,HM.out.1]; rfl,HM2.out a5 c5,H7.out⟩
   case measure => simp [intOf]; omega
  ·have hlt' : ¬ (j : Int) < (n : Int) := by omega
   have hjn : j = n := by omega
   subst hjn
   have HF : Hid (evs M = evs L) := by
    have := HM.out.2
    rw [List.take_of_length_le (by rw [HN.out]; exact Nat.le_refl _)] at this
    exact this
   have HE : Hid (Own w0 wr (EntsT ao cap M :: l)) := by
    have h1 := hO
    rw [← HM.out.1] at h1
    exact Own.ents h1
   clear hO
   go_wp2
   go_ret
   exact ⟨ao,cap,rfl,M,HM.out.1,HF.out,HE.out⟩
end Go.Proofs.YtgifeckbflkkpaaGreatDoor
