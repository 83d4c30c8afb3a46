/- The document's table: Set. -/
import Derived.Test.YtogmdoiecpihdaaGreatDoorQw20
namespace Go.Proofs.YtogmdoiecpihdaaGreatDoor
open Go.RowKit Go.Maps
set_option linter.unusedVariables false
set_option maxHeartbeats 4000000
set_option maxRecDepth 100000
theorem cat_set2 (E : List REnt) (r : Nat) (e e' : REnt) (he : E[r]? = some e) (hi : e'.1 = e.1) : cat rcells (E.set r e') = (cat rcells E).set (r * 2 + 1) e'.v := by
 induction E generalizing r with
 | nil => simp at he
 | cons y E ih =>
  cases r with
  | zero =>
   simp at he; subst he
   simp [cat,rcells,hi]
  | succ r =>
   have ih := ih r (by simpa using he)
   have e1 : ∀ (A : List REnt) (z : REnt),cat rcells (z :: A) = [.int .u32 (z.1 : Int),z.v] ++ cat rcells A := fun _ _ => rfl
   rw [List.set_cons_succ,e1,e1,ih,show (r + 1) * 2 + 1 = r * 2 + 1 + 1 + 1 by omega]
   simp
theorem tset_none {m : Nat} {L : List Ent} {id : Nat} {q : Cp} (h0 : q.chk = 0) (hp : plc L id = none) : tset m L id q = (7,L) ∧ tget m L id q.k = (7,⟨0,0,0,0⟩) := by
 unfold tset tget; rw [if_neg (by simp [h0]),hp]; exact ⟨rfl,rfl⟩
theorem tset_no {m : Nat} {L : List Ent} {id r : Nat} {q : Cp} (h0 : q.chk = 0) (hp : plc L id = some r) (hb : bt m q.k = false) : tset m L id q = (10,L) ∧ tget m L id q.k = (10,⟨0,0,0,0⟩) := by
 unfold tset tget; rw [if_neg (by simp [h0]),hp]; simp [hb]
section
variable (w0 w : World) (l : List Thing) (b o : Nat) (cur : Array Value) (m : Nat) (L : List Ent)
theorem rtsetC (h : Own w0 w (RTab b o cur m L :: l)) (hT : TOk m L) (id : Nat) (hid : id < 4294967296) (q : Cp) (hk : q.k < 256) (hL : L.length ≤ 1000000) :
  Calls Tryz.prog 168 #[.pointer (some ⟨b,o,none⟩),.int .u32 (id : Int),q.ag] w fun e w' => e = .returned (.int .i64 ((tset m L id q).1 : Int)) ∧ Own w0 w' (RTab b o cur m (tset m L id q).2 :: l) := by
 have HCU : Hid (cur[o]? = some (.int .u8 (m : Int)) ∧ o + 1 < cur.size) := RTab.facts h
 have hm := hT.m64
 have hA := h.allocC #[.int .u8 (q.k : Int),.int .i32 q.a,.int .i32 q.b,.int .i32 q.c] 46
 have z0 := hA.cell 0
 have z1 := hA.cell 1
 have z2 := hA.cell 2
 have z3 := hA.cell 3
 simp at z0 z1 z2 z3
 have HC : Hid (Calls _ _ _ _ _) := rcheck3 (w.alloc (.cells #[.int .u8 (q.k : Int),.int .i32 q.a,.int .i32 q.b,.int .i32 q.c] 46)) q.k hk q.a q.b q.c
 have HA : Hid (Own w0 _ (Cells w.heap.size #[.int .u8 (q.k : Int),.int .i32 q.a,.int .i32 q.b,.int .i32 q.c] 46 :: RTab b o cur m L :: l)) := hA
 have HQ : Hid (q.chk = chk q.k (f3 q.a q.b q.c)) := rfl
 clear h hA
 unfold Cp.ag
 obtain ⟨x,hx⟩ : ∃ x,q.chk = x := ⟨_,rfl⟩
 have hx5 : x ≤ 5 := by rw [← hx]; exact chk_lt q
 rw [← HQ.out,hx] at HC
 by_cases hx0 : x = 0
 ·subst hx0
  have HGT : Hid (∀ w',Own w0 w' (RTab b o cur m L :: Cells w.heap.size #[.int .u8 (q.k : Int),.int .i32 q.a,.int .i32 q.b,.int .i32 q.c] 46 :: l) → Calls Tryz.prog 215 #[.pointer (some ⟨b,o,none⟩),.int .u32 (id : Int),.int .u8 (q.k : Int)] w' fun e w'' => e = .returned (.tuple #[(tget m L id q.k).2.ag,.int .i64 ((tget m L id q.k).1 : Int)]) ∧ Own w0 w'' (RTab b o cur m L :: Cells w.heap.size #[.int .u8 (q.k : Int),.int .i32 q.a,.int .i32 q.b,.int .i32 q.c] 46 :: l)) := fun w' h' => rtgetC w0 w' _ b o cur m L h' hT hL id q.k hk
  have hbad : ∀ cd : Nat,cd = 7 ∨ cd = 10 → tset m L id q = (cd,L) ∧ tget m L id q.k = (cd,⟨0,0,0,0⟩) → Calls Tryz.prog 168 #[.pointer (some ⟨b,o,none⟩),.int .u32 (id : Int),.agg #[.int .u8 (q.k : Int),.int .i32 q.a,.int .i32 q.b,.int .i32 q.c]] w fun e w' => e = .returned (.int .i64 ((tset m L id q).1 : Int)) ∧ Own w0 w' (RTab b o cur m (tset m L id q).2 :: l) := by
   rintro cd hcd ⟨e1,e2⟩
   have HV : Hid (tset m L id q = (cd,L)) := e1
   rw [e2] at HGT
   simp only [Cp.ag] at HGT
   have hcd0 : ((cd : Int) != 0) = true := by rw [bne_iff_ne]; omega
   clear e1 e2 hx HQ
   obtain ⟨qk,qa,qb,qc⟩ := q
   simp only at z0 z1 z2 z3 HC HGT HA hk ⊢
   go_enter Tryz.func168,Tryz.ntmps168
   go_wp2_with fail
   refine HC.out.mono ?_
   rintro e w1 ⟨rfl,hf⟩
   have H1 : Hid (Own w0 w1 _) := HA.out.quiet hf
   have y0 := (HA.out.quiet hf).cell 0
   simp at y0
   clear hf HC z0 z1 z2 z3
   go_wp2_with fail
   refine (HGT.out _ H1.out.two).mono ?_
   rintro e w2 ⟨rfl,hO2⟩
   have H2 : Hid (Own w0 w2 _) := hO2
   clear hO2 H1 y0 HGT
   go_wp2
   go_ret
   rw [HV.out]
   exact ⟨rfl,(H2.out.two.tail).alloc _⟩
  cases hp : plc L id with
  | none => exact hbad 7 (.inl rfl) (tset_none hx hp)
  | some r =>
   cases hb : bt m q.k with
   | false => exact hbad 10 (.inr rfl) (tset_no hx hp hb)
   | true =>
    clear hbad
    obtain ⟨d,hd,hdi⟩ := (plc_some hT.ap id r).1 hp
    obtain ⟨did,C⟩ := d
    simp only at hdi
    subst hdi
    have hok := hT.ok _ (List.mem_of_getElem? hd)
    have hC6 : C.length ≤ 6 := hT.c6 hd
    have hCk : ∀ y ∈ C,y.k < 256 := fun y hy => by have := chk_k ((lst_ok hok.1).2 y hy).2; omega
    have hin : insc C q = setc C q := insc_set (lst_ok hok.1).1 q (hasK_bt hok.2 hm hb)
    have HV : Hid (tset m L did q = (0,L.set r (did,insc C q))) := by show _ = _; unfold tset; rw [if_neg (by simp [hx]),hp]; simp [hb,hd,hin]
    have hrL := (List.getElem?_eq_some_iff.1 hd).1
    have hg0 : ∃ y,tget m L did q.k = (0,y) := by unfold tget; rw [hp]; simp [hb]
    obtain ⟨y,hy⟩ := hg0
    rw [hy] at HGT
    simp only [Cp.ag] at HGT
    have HRW : Hid (∀ w' l',Own w0 w' (RTab b o cur m L :: l') → Calls Tryz.prog 164 #[.pointer (some ⟨b,o,none⟩),.int .u32 (did : Int)] w' fun e w'' => e = .returned (.int .i64 (r : Int)) ∧ Fr Nobody w' w'') := fun w' l' h' => by have := rtrow w0 w' l' b o cur m L h' hT.ap hL did; rw [hp] at this; exact this
    have HLD : Hid (L[r]? = some (did,C)) := hd
    have hr0 : ¬ (r : Int) < 0 := by omega
    clear hx HQ hy hp hd hb hin hok hT
    obtain ⟨qk,qa,qb,qc⟩ := q
    obtain ⟨yk,ya,yb,yc⟩ := y
    simp only at z0 z1 z2 z3 HC HGT HA hk ⊢
    go_enter Tryz.func168,Tryz.ntmps168
    go_wp2_with fail
    refine HC.out.mono ?_
    rintro e w1 ⟨rfl,hf⟩
    have H1 : Hid (Own w0 w1 _) := HA.out.quiet hf
    have y0 := (HA.out.quiet hf).cell 0
    simp at y0
    clear hf HC z0 z1 z2 z3 HA
    go_wp2_with fail
    refine (HGT.out _ H1.out.two).mono ?_
    rintro e w2 ⟨rfl,hO2⟩
    have H2 : Hid (Own w0 (w2.alloc (.cells #[.int .u8 (yk : Int),.int .i32 ya,.int .i32 yb,.int .i32 yc] 46)) (RTab b o cur m L :: Cells w.heap.size #[.int .u8 (qk : Int),.int .i32 qa,.int .i32 qb,.int .i32 qc] 46 :: l)) := hO2.alloc _
    clear hO2 H1 y0 HGT
    go_wp2_with fail
    refine (HRW.out _ _ H2.out).mono ?_
    rintro e w3 ⟨rfl,hf3⟩
    have hO3 := (H2.out.quiet hf3).drew
    obtain ⟨v,E,hE,hO⟩ := RTab.open hO3
    have hlen : E.length = L.length := by rw [← hE,List.length_map]
    obtain ⟨g,ce,hvv,_⟩ := row_shape hO.two.row (by omega)
    subst hvv
    obtain ⟨d,hd⟩ : ∃ d,E[r]? = some d := ⟨_,List.getElem?_eq_getElem (by omega)⟩
    have hee : d.e = (did,C) := by
     have : (E.map REnt.e)[r]? = some d.e := by rw [List.getElem?_map,hd]; rfl
     rw [hE,HLD.out] at this
     exact (Option.some.inj this).symm
    obtain ⟨d1,d2,d3,d4⟩ := d
    have e1 : d1 = did := (Prod.mk.inj hee).1
    have e2 : d2 = C := (Prod.mk.inj hee).2
    subst e1 e2
    obtain ⟨_,p2⟩ := ecell hO.two r _ hd
    simp only at p2
    have p1 := hO.cell (o + 1)
    rw [tcur_at HCU.out.2] at p1
    have hbx : ∀ w' l2,Own w0 w' (Cells b (cur.setIfInBounds (o + 1) (.slice (some ⟨g,0,none⟩) E.length ce)) 186 :: Row 76 2 (.slice (some ⟨g,0,none⟩) E.length ce) E.length (cat rcells E) :: (E.map rrow ++ (Cells w.heap.size #[.int .u8 (qk : Int),.int .i32 qa,.int .i32 qb,.int .i32 qc] 46 :: l2))) → Own w0 w' (Cells w.heap.size #[.int .u8 (qk : Int),.int .i32 qa,.int .i32 qb,.int .i32 qc] 46 :: Cells b (cur.setIfInBounds (o + 1) (.slice (some ⟨g,0,none⟩) E.length ce)) 186 :: Row 76 2 (.slice (some ⟨g,0,none⟩) E.length ce) E.length (cat rcells E) :: (E.map rrow ++ l2)) := by
     intro w' l2 h'
     refine h'.perm ?_
     exact (List.perm_middle (l₁ := Cells b (cur.setIfInBounds (o + 1) (.slice (some ⟨g,0,none⟩) E.length ce)) 186 :: Row 76 2 (.slice (some ⟨g,0,none⟩) E.length ce) E.length (cat rcells E) :: E.map rrow) (l₂ := l2))
    have hB := hbx _ _ hO
    have u0 := hB.cell 0
    have u1 := hB.cell 1
    have u2 := hB.cell 2
    have u3 := hB.cell 3
    simp at u0 u1 u2 u3
    have HWI : Hid (Calls _ _ _ _ _) := rwith_any w0 _ _ hO d3 d2.length d4 d2 rfl (fun w'' h'' => Own.rcs (Own.pick r _ hd h'') rfl) hCk (by omega) ⟨qk,qa,qb,qc⟩ hk
    simp only [Cp.ag] at HWI
    have HES : Hid (E.map REnt.e = L ∧ E[r]? = some (d1,d2,d3,d4)) := ⟨hE,hd⟩
    have hen : r < E.length := by omega
    have hen' : (r : Int) < (E.length : Int) := by omega
    obtain ⟨I,hI⟩ : ∃ I,I = insc d2 ⟨qk,qa,qb,qc⟩ := ⟨_,rfl⟩
    rw [← hI] at HWI HV
    have HFI : Hid (∀ w' a5 c5,Own w0 w' (Row 46 4 (.slice a5 I.length c5) I.length (ccat I) :: Cells b (cur.setIfInBounds (o + 1) (.slice (some ⟨g,0,none⟩) E.length ce)) 186 :: Row 76 2 (.slice (some ⟨g,0,none⟩) E.length ce) E.length (cat rcells E) :: (E.map rrow ++ (Cells w.heap.size #[.int .u8 (qk : Int),.int .i32 qa,.int .i32 qb,.int .i32 qc] 46 :: l))) → Own w0 (w'.setCell ⟨g,r * 2 + 1,none⟩ (.slice a5 I.length c5)) (RTab b o cur m (L.set r (d1,I)) :: l)) := by
     intro w' a5 c5 h5
     have h6 := (h5.three.setR (r * 2 + 1) (.slice a5 I.length c5))
     have e3 := cat_set2 E r _ (d1,I,a5,c5) HES.out.2 rfl
     have e4 : (cat rcells E).set (r * 2 + 1) (.slice a5 I.length c5) = cat rcells (E.set r (d1,I,a5,c5)) := e3.symm
     rw [e4] at h6
     have h7 : Own w0 (w'.setCell ⟨g,r * 2 + 1,none⟩ (.slice a5 I.length c5)) (Cells b (cur.setIfInBounds (o + 1) (.slice (some ⟨g,0,none⟩) E.length ce)) 186 :: Row 76 2 (.slice (some ⟨g,0,none⟩) E.length ce) E.length (cat rcells (E.set r (d1,I,a5,c5))) :: (E.map rrow ++ (Row 46 4 (.slice a5 I.length c5) I.length (ccat I) :: Cells w.heap.size #[.int .u8 (qk : Int),.int .i32 qa,.int .i32 qb,.int .i32 qc] 46 :: l))) := by
      refine h6.three.perm ?_
      refine List.Perm.cons _ (List.Perm.cons _ ?_)
      exact List.perm_middle.symm
     have h8 := (Own.pick r _ HES.out.2 h7).tail
     refine RTab.shut (v := .slice (some ⟨g,0,none⟩) E.length ce) (E := E.set r (d1,I,a5,c5)) (by rw [List.map_set,HES.out.1]; rfl) HCU.out ?_
     rw [List.length_set]
     refine Own.unpick (E := E) r (d1,I,a5,c5) (by rw [List.getElem?_set,if_pos rfl,if_pos hen]) (List.eraseIdx_set_eq) ?_
     have h9 : Own w0 (w'.setCell ⟨g,r * 2 + 1,none⟩ (.slice a5 I.length c5)) (Row 46 4 (.slice a5 I.length c5) I.length (ccat I) :: Cells b (cur.setIfInBounds (o + 1) (.slice (some ⟨g,0,none⟩) E.length ce)) 186 :: Row 76 2 (.slice (some ⟨g,0,none⟩) E.length ce) E.length (cat rcells (E.set r (d1,I,a5,c5))) :: ((E.eraseIdx r).map rrow ++ (Cells w.heap.size #[.int .u8 (qk : Int),.int .i32 qa,.int .i32 qb,.int .i32 qc] 46 :: l))) := by
      refine h8.perm ?_
      exact (List.perm_middle (l₁ := Cells b (cur.setIfInBounds (o + 1) (.slice (some ⟨g,0,none⟩) E.length ce)) 186 :: Row 76 2 (.slice (some ⟨g,0,none⟩) E.length ce) E.length (cat rcells (E.set r (d1,I,a5,c5))) :: (E.eraseIdx r).map rrow))
     have h10 : Own w0 (w'.setCell ⟨g,r * 2 + 1,none⟩ (.slice a5 I.length c5)) (Cells w.heap.size #[.int .u8 (qk : Int),.int .i32 qa,.int .i32 qb,.int .i32 qc] 46 :: Row 46 4 (.slice a5 I.length c5) I.length (ccat I) :: Cells b (cur.setIfInBounds (o + 1) (.slice (some ⟨g,0,none⟩) E.length ce)) 186 :: Row 76 2 (.slice (some ⟨g,0,none⟩) E.length ce) E.length (cat rcells (E.set r (d1,I,a5,c5))) :: ((E.eraseIdx r).map rrow ++ l)) := by
      refine h9.perm ?_
      exact (List.perm_middle (l₁ := Row 46 4 (.slice a5 I.length c5) I.length (ccat I) :: Cells b (cur.setIfInBounds (o + 1) (.slice (some ⟨g,0,none⟩) E.length ce)) 186 :: Row 76 2 (.slice (some ⟨g,0,none⟩) E.length ce) E.length (cat rcells (E.set r (d1,I,a5,c5))) :: (E.eraseIdx r).map rrow))
     exact h10.tail
    have HCF : Hid (∀ w' a5 c5,Own w0 w' (Row 46 4 (.slice a5 I.length c5) I.length (ccat I) :: Cells b (cur.setIfInBounds (o + 1) (.slice (some ⟨g,0,none⟩) E.length ce)) 186 :: Row 76 2 (.slice (some ⟨g,0,none⟩) E.length ce) E.length (cat rcells E) :: (E.map rrow ++ (Cells w.heap.size #[.int .u8 (qk : Int),.int .i32 qa,.int .i32 qb,.int .i32 qc] 46 :: l))) → w'.cell? ⟨b,o + 1,none⟩ = some (.slice (some ⟨g,0,none⟩) E.length ce) ∧ w'.cell? ⟨g,r * 2 + 1,none⟩ = some (.slice d3 d2.length d4) ∧ w'.frozen? ⟨g,r * 2 + 1,none⟩ = false) := by
     intro w' a5 c5 h5
     have t1 := h5.two.cell (o + 1)
     rw [tcur_at HCU.out.2] at t1
     have t2 := (ecell h5.three r _ HES.out.2).2
     exact ⟨t1,t2,h5.three.row.frozenAt _⟩
    clear hO hB hO3 hf3 hE hd hee hI hbx HRW HLD H2 hlen
    generalize E.length = en at *
    generalize I.length = il at *
    generalize d2.length = dl at *
    go_wp2_with fail
    go_region_with (
     go_at_call 213
     refine HWI.out.mono ?_
     rintro e w5 ⟨a5,c5,rfl,hO5⟩
     obtain ⟨t1,t2,t3⟩ := HCF.out _ _ _ hO5
     have HF5 : Hid (Own w0 _ (RTab b o cur m (L.set r (d1,I)) :: l)) := HFI.out _ _ _ hO5
     clear hO5)
    all_goals
     go_wp2
     go_ret
     rw [HV.out]
     exact ⟨rfl,HF5.out⟩
 ·have HV : Hid (tset m L id q = (x,L)) := by show _ = _; unfold tset; rw [if_pos (by rw [hx]; exact hx0),hx]
  have hx1 : ((x : Int) != 0) = true := by simpa using hx0
  clear hx HQ
  obtain ⟨qk,qa,qb,qc⟩ := q
  simp only at z0 z1 z2 z3 HC HA hk ⊢
  go_enter Tryz.func168,Tryz.ntmps168
  go_wp2_with fail
  refine HC.out.mono ?_
  rintro e w1 ⟨rfl,hf⟩
  have H1 : Hid (Own w0 w1 _) := HA.out.quiet hf
  clear hf HC z0 z1 z2 z3
  go_wp2
  go_ret
  rw [HV.out]
  exact ⟨rfl,H1.out.tail⟩
end
theorem outr_perm {α : Type} (E : List α) (r : Nat) (e : α) (he : E[r]? = some e) : E.Perm (e :: outr E r) := by
 obtain ⟨hr,hre⟩ := List.getElem?_eq_some_iff.1 he
 have hsp : E = E.take r ++ e :: E.drop (r + 1) := by
  rw [← hre,List.getElem_cons_drop,List.take_append_drop]
 have hA : (E.take r).length = r := by rw [List.length_take]; omega
 generalize E.take r = A at *
 generalize E.drop (r + 1) = B at *
 subst hsp
 rcases List.eq_nil_or_concat B with rfl | ⟨B',x,rfl⟩
 ·have : outr (A ++ [e]) r = A := by
   unfold outr
   rw [List.getLast?_append,List.getLast?_singleton]
   simp only [Option.some_or]
   rw [List.set_append_right _ _ (by omega),hA,Nat.sub_self]
   simp
  rw [this]
  exact List.perm_append_singleton _ _
 ·have : outr (A ++ e :: (B' ++ [x])) r = A ++ x :: B' := by
   unfold outr
   have hl : (A ++ e :: (B' ++ [x])).getLast? = some x := by
    rw [List.getLast?_append,List.getLast?_cons,List.getLast?_append]; simp
   rw [hl]
   simp only
   rw [List.set_append_right _ _ (by omega),hA,Nat.sub_self]
   simp only [List.set_cons_zero]
   rw [show A ++ x :: (B' ++ [x]) = (A ++ x :: B') ++ [x] by simp,List.dropLast_concat]
  rw [List.concat_eq_append,this]
  refine (List.perm_middle).trans (List.Perm.cons e ?_)
  rw [← List.append_assoc]
  refine (List.perm_append_singleton x (A ++ B')).trans ?_
  exact List.perm_middle.symm
section
variable (w0 w : World) (l : List Thing) (b o : Nat) (cur : Array Value) (m : Nat) (L : List Ent)
theorem rtremC (h : Own w0 w (RTab b o cur m L :: l)) (hT : TOk m L) (hL : L.length ≤ 1000000) (id r : Nat) (e : Ent) (hp : plc L id = some r) (he : L[r]? = some e) :
  Calls Tryz.prog 169 #[.pointer (some ⟨b,o,none⟩),.int .u32 (id : Int)] w fun out w' => ∃ ao cap,out = .returned (.tuple #[.slice ao e.2.length cap,.int .i64 0]) ∧ Own w0 w' (Row 46 4 (.slice ao e.2.length cap) e.2.length (ccat e.2) :: RTab b o cur m (outr L r) :: l) := by
 have HCU : Hid (cur[o]? = some (.int .u8 (m : Int)) ∧ o + 1 < cur.size) := RTab.facts h
 obtain ⟨i0,hi,hz0,hz1,hz2⟩ := info_parts Tryz.infoEnt
 have HR : Hid (Calls _ _ _ _ _) := rtrow w0 w _ b o cur m L h hT.ap hL id
 rw [hp] at HR
 simp only [pl1] at HR
 have H : Hid (Own w0 w (RTab b o cur m L :: l)) := h
 have HLE : Hid (L[r]? = some e) := he
 have hrL := (List.getElem?_eq_some_iff.1 he).1
 have hr0 : ¬ (r : Int) < 0 := by omega
 clear h hp he hT
 go_enter Tryz.func169,Tryz.ntmps169
 go_wp2_with fail
 refine HR.out.mono ?_
 rintro out w1 ⟨rfl,hf⟩
 obtain ⟨v,E,hE,hO⟩ := RTab.open (H.out.quiet hf)
 have hlen : E.length = L.length := by rw [← hE,List.length_map]
 obtain ⟨n,hn⟩ : ∃ n,E.length = n + 1 := ⟨E.length - 1,by omega⟩
 rw [hn] at hO
 obtain ⟨g,ce,hvv,_⟩ := row_shape hO.two.row (by omega)
 subst hvv
 obtain ⟨d,hd⟩ : ∃ d,E[r]? = some d := ⟨_,List.getElem?_eq_getElem (by omega)⟩
 have hee : d.e = e := by
  have : (E.map REnt.e)[r]? = some d.e := by rw [List.getElem?_map,hd]; rfl
  rw [hE,HLE.out] at this
  exact (Option.some.inj this).symm
 obtain ⟨xl,hxl⟩ : ∃ x,E[n]? = some x := ⟨_,List.getElem?_eq_getElem (by omega)⟩
 have hcap := (row_cap hO.two.row).2
 have hO2 := hO.two
 rw [← hn] at hO2
 obtain ⟨_,p2⟩ := ecell hO2 r d hd
 have p1 := hO.cell (o + 1)
 rw [tcur_at HCU.out.2] at p1
 have HO : Hid (Own w0 w1 (Cells b (cur.setIfInBounds (o + 1) (.slice (some ⟨g,0,none⟩) (n + 1) ce)) 186 :: Row 76 2 (.slice (some ⟨g,0,none⟩) (n + 1) ce) (n + 1) (cat rcells E) :: (E.map rrow ++ l))) := hO
 have HE : Hid (E.map REnt.e = L ∧ E.length = n + 1 ∧ E[r]? = some d ∧ E[n]? = some xl ∧ d.e = e) := ⟨hE,hn,hd,hxl,hee⟩
 have hrn : r < n + 1 := by omega
 have hrn' : (r : Int) < (n : Int) + 1 := by omega
 have hn6 : n ≤ 1000000 := by omega
 have hcap2 : n ≤ ce := by omega
 have hcap3 : ¬ ce = 0 := by omega
 have HIN : Hid (∀ w' l',Own w0 w' (Row 76 2 (.slice (some ⟨g,0,none⟩) (n + 1) ce) (n + 1) (cat rcells E) :: l') → ∀ i x,E[i]? = some x → w'.cell? ⟨g,i * 2,none⟩ = some (.int .u32 (x.1 : Int)) ∧ w'.cell? ⟨g,i * 2 + 1,none⟩ = some (.slice x.2.2.1 x.2.1.length x.2.2.2)) := by
  intro w' l' h' i x hx
  rw [← HE.out.2.1] at h'
  exact ecell h' i x hx
 clear HR hf H hO hO2 hE hn hd hee hxl hlen hrL
 go_wp2
 go_loopw [9,40] (fun lv cv wr => ∃ j : Nat,j ≤ n ∧ cv = .int .i64 j ∧ ∃ a1 c1,lv = .slice a1 j c1 ∧ Own w0 wr (Row 76 2 (.slice a1 j c1) j (cat rcells ((outr E r).take j)) :: Cells b (cur.setIfInBounds (o + 1) (.slice (some ⟨g,0,none⟩) (n + 1) ce)) 186 :: Row 76 2 (.slice (some ⟨g,0,none⟩) (n + 1) ce) (n + 1) (cat rcells E) :: (E.map rrow ++ l))) (fun _ cv _ => n - (intOf cv).toNat)
 case atStart => exact ⟨0,Nat.zero_le _,rfl,none,0,rfl,by simpa [cat] using HO.out.nilRow 76 2⟩
 case round =>
  obtain ⟨j,hj,rfl,a1,c1,rfl,hO⟩ := hrel
  have H1 : Hid (Own w0 wr (Row 76 2 (.slice a1 j c1) j (cat rcells ((outr E r).take j)) :: Cells b (cur.setIfInBounds (o + 1) (.slice (some ⟨g,0,none⟩) (n + 1) ce)) 186 :: Row 76 2 (.slice (some ⟨g,0,none⟩) (n + 1) ce) (n + 1) (cat rcells E) :: (E.map rrow ++ l))) := hO
  clear HO
  by_cases hlt : j < n
  ·have hlt' : (j : Int) < (n : Int) := by omega
   obtain ⟨x,hx⟩ : ∃ x,E[j]? = some x := ⟨_,List.getElem?_eq_getElem (by rw [HE.out.2.1]; omega)⟩
   obtain ⟨s0,s1⟩ := HIN.out _ _ hO.three j x hx
   obtain ⟨t0,t1⟩ := HIN.out _ _ hO.three n xl HE.out.2.2.2.1
   have u1 := hO.two.cell (o + 1)
   rw [tcur_at HCU.out.2] at u1
   have hbw := hO.two.lt
   have hgw : g < wr.heap.size := (hO.three.row.lt g rfl).2
   have hgn : g ≠ wr.heap.size := by omega
   have hgn' : wr.heap.size ≠ g := by omega
   have hbn : b ≠ wr.heap.size := by omega
   have hbn' : wr.heap.size ≠ b := by omega
   obtain ⟨y,hy⟩ : ∃ y,(outr E r)[j]? = some y := ⟨_,List.getElem?_eq_getElem (by rw [length_outr _ _ (by rw [HE.out.2.1]; omega),HE.out.2.1]; omega)⟩
   have hy2 := hy
   rw [outr_at E r j (by rw [HE.out.2.1]; omega),HE.out.2.1,if_pos (by omega)] at hy2
   have HTK : Hid ((outr E r).take (j + 1) = (outr E r).take j ++ [y]) := take_snoc _ j y hy
   have HAL : Hid (∀ ob,Own w0 (wr.alloc ob) (Row 76 2 (.slice a1 j c1) j (cat rcells ((outr E r).take j)) :: Cells b (cur.setIfInBounds (o + 1) (.slice (some ⟨g,0,none⟩) (n + 1) ce)) 186 :: Row 76 2 (.slice (some ⟨g,0,none⟩) (n + 1) ce) (n + 1) (cat rcells E) :: (E.map rrow ++ l))) := fun ob => H1.out.alloc ob
   clear hO hy
   by_cases hjr : j = r
   ·rw [if_pos hjr] at hy2
    have hyx : y = xl := by
     have := HE.out.2.2.2.1
     rw [show n + 1 - 1 = n by omega,this] at hy2
     exact (Option.some.inj hy2).symm
    have HJR : Hid (j = r) := hjr
    have hjr' : ((j : Int) == (r : Int)) = true := by rw [hjr]; simp
    clear hjr hy2 hx
    subst hyx
    obtain ⟨y1,y2,y3,y4⟩ := y
    obtain ⟨x1,x2,x3,x4⟩ := x
    simp only at s0 s1 t0 t1
    generalize hyl : y2.length = yl at *
    generalize x2.length = xl2 at *
    have HYL : Hid (y2.length = yl) := hyl
    clear hyl
    go_wp2_with (at_builtin; refine append1_own rfl _ _ 62 rfl 76 i0 (.agg #[.int .u32 0,.slice none 0 0]) 2 32 Tryz.underlying62 hi hz0 hz1 hz2 rfl (by decide) _ _ _ rfl (HAL.out _) _ #[.int .u32 (y1 : Int),.slice y3 yl y4] (by simp) rfl rfl (by intro u hu; simp at hu; rcases hu with rfl | rfl <;> rfl) (by unfold maxLen; omega) (by omega) ?_)
    intro g4 c4 w4 hO4 hsz
    have H4 : Hid (Own w0 w4 (Row 76 2 (.slice (some ⟨g4,0,none⟩) (j + 1) c4) (j + 1) (cat rcells ((outr E r).take (j + 1))) :: Cells b (cur.setIfInBounds (o + 1) (.slice (some ⟨g,0,none⟩) (n + 1) ce)) 186 :: Row 76 2 (.slice (some ⟨g,0,none⟩) (n + 1) ce) (n + 1) (cat rcells E) :: (E.map rrow ++ l))) := by
     show Own _ _ _
     rw [HTK.out,cat_append]
     have e2 : cat rcells [(y1,y2,y3,y4)] = [.int .u32 (y1 : Int),.slice y3 yl y4] := by
      show [Value.int .u32 (y1 : Int),Value.slice y3 y2.length y4] = _
      rw [HYL.out]
     rw [e2]; exact hO4
    clear hO4 hsz H1 HAL s0 s1 t0 t1 u1
    go_wp2
    go_roundw
    case rel => exact ⟨j + 1,by omega,by go_num,_,_,rfl,H4.out⟩
    case measure => simp [intOf]; omega
   ·rw [if_neg hjr,hx] at hy2
    have hyx : x = y := Option.some.inj hy2
    have hjr' : ((j : Int) == (r : Int)) = false := by rw [beq_eq_false_iff_ne]; omega
    clear hy2 hx
    subst hyx
    obtain ⟨y1,y2,y3,y4⟩ := x
    simp only at s0 s1
    generalize hyl : y2.length = yl at *
    have HYL : Hid (y2.length = yl) := hyl
    clear hyl t0 t1
    go_wp2_with (at_builtin; refine append1_own rfl _ _ 62 rfl 76 i0 (.agg #[.int .u32 0,.slice none 0 0]) 2 32 Tryz.underlying62 hi hz0 hz1 hz2 rfl (by decide) _ _ _ rfl (HAL.out _) _ #[.int .u32 (y1 : Int),.slice y3 yl y4] (by simp) rfl rfl (by intro u hu; simp at hu; rcases hu with rfl | rfl <;> rfl) (by unfold maxLen; omega) (by omega) ?_)
    intro g4 c4 w4 hO4 hsz
    have H4 : Hid (Own w0 w4 (Row 76 2 (.slice (some ⟨g4,0,none⟩) (j + 1) c4) (j + 1) (cat rcells ((outr E r).take (j + 1))) :: Cells b (cur.setIfInBounds (o + 1) (.slice (some ⟨g,0,none⟩) (n + 1) ce)) 186 :: Row 76 2 (.slice (some ⟨g,0,none⟩) (n + 1) ce) (n + 1) (cat rcells E) :: (E.map rrow ++ l))) := by
     show Own _ _ _
     rw [HTK.out,cat_append]
     have e2 : cat rcells [(y1,y2,y3,y4)] = [.int .u32 (y1 : Int),.slice y3 yl y4] := by
      show [Value.int .u32 (y1 : Int),Value.slice y3 y2.length y4] = _
      rw [HYL.out]
     rw [e2]; exact hO4
    clear hO4 hsz H1 HAL s0 s1 u1
    go_wp2
    go_roundw
    case rel => exact ⟨j + 1,by omega,by go_num,_,_,rfl,H4.out⟩
    case measure => simp [intOf]; omega
  ·have hjn : j = n := by omega
   subst hjn
   have hlt' : ¬ (j : Int) < (j : Int) := by omega
   have u1 := hO.two.cell (o + 1)
   have v1 := hO.two.froz (o + 1)
   rw [tcur_at HCU.out.2] at u1
   have HFIN : Hid (Own w0 (wr.setCell ⟨b,o + 1,none⟩ (.slice a1 j c1)) (Row 46 4 (.slice d.2.2.1 e.2.length d.2.2.2) e.2.length (ccat e.2) :: RTab b o cur m (outr L r) :: l)) := by
    have hlo : (outr E r).length = j := by rw [length_outr _ _ (by rw [HE.out.2.1]; omega),HE.out.2.1]; rfl
    have h1 := hO.two.setC (o + 1) (.slice a1 j c1)
    rw [Array.setIfInBounds_setIfInBounds] at h1
    rw [List.take_of_length_le (by rw [hlo]; exact Nat.le_refl _)] at h1
    have h2 := h1.three.tail
    have h3 : Own w0 (wr.setCell ⟨b,o + 1,none⟩ (.slice a1 j c1)) (rrow d :: Cells b (cur.setIfInBounds (o + 1) (.slice a1 j c1)) 186 :: Row 76 2 (.slice a1 j c1) j (cat rcells (outr E r)) :: ((outr E r).map rrow ++ l)) := by
     refine h2.perm ?_
     have hpm := ((outr_perm E r d HE.out.2.2.1).map rrow).append_right l
     refine ((hpm.cons _).cons _).trans ?_
     exact (List.perm_middle (l₁ := [Cells b (cur.setIfInBounds (o + 1) (.slice a1 j c1)) 186,Row 76 2 (.slice a1 j c1) j (cat rcells (outr E r))]))
    have h4 : Own w0 (wr.setCell ⟨b,o + 1,none⟩ (.slice a1 j c1)) (RTab b o cur m (outr L r) :: rrow d :: l) := by
     refine RTab.shut (v := .slice a1 j c1) (E := outr E r) (by rw [map_outr _ _ _ (by rw [HE.out.2.1]; omega),HE.out.1]) HCU.out ?_
     rw [hlo]
     refine h3.perm ?_
     refine ((List.Perm.swap _ _ _).trans ((List.Perm.swap _ _ _).cons _)).trans ?_
     exact ((List.perm_middle.symm).cons _).cons _
    have hde := HE.out.2.2.2.2
    subst hde
    exact h4.two
   have HDE : Hid (d.e = e) := HE.out.2.2.2.2
   have hdl : d.2.1.length = e.2.length := by rw [← HDE.out]; rfl
   rw [hdl] at p2
   clear hO
   go_wp2
   go_ret2
   exact ⟨_,_,rfl,HFIN.out⟩
end
end Go.Proofs.YtogmdoiecpihdaaGreatDoor
