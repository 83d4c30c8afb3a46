/- Orders that come in; orders on no store. -/
import Derived.Test.YtogmdoiecpihdaaGreatDoorQw30
import Derived.Test.YtogmdoiecpihdaaGreatDoorQw16
import Derived.Test.YtogmdoiecpihdaaGreatDoorQw15
namespace Go.Proofs.YtogmdoiecpihdaaGreatDoor
open Go.ChangeShapes Go.WideShapes Go.ChangeAt Go.RowKit Go.Deep
set_option linter.unusedVariables false
set_option maxHeartbeats 2000000
set_option maxRecDepth 100000
theorem cellsOrd : Tryz.prog.cellsOf 41 = 4 := by kernel_rfl
theorem cellsOB : Tryz.prog.cellsOf 5 = 1 := by kernel_rfl
theorem cellsOU : Tryz.prog.cellsOf 38 = 1 := by kernel_rfl
theorem cellsOC : Tryz.prog.cellsOf 39 = 1 := by kernel_rfl
theorem lst4 {β : Type} {l : List β} (h : l.length = 4) : ∃ a b c d,l = [a,b,c,d] := by
 match l,h with
 | [a,b,c,d],_ => exact ⟨a,b,c,d,rfl⟩
def OrdT (W : World) (cs : List Value) (o : OrdE) : Prop := cs = o.cs ∧ o.d < 256 ∧ o.id < 4294967296 ∧ o.k < 256 ∧ IsComps W o.ao o.C.length o.cap o.C
theorem ord_is {H : Type} {enc : TypeId × Value → H} {W : World} (fuel : Nat) (cs : List Value) (x : DataW H × List MemPlace)
  (h : DataW.trod enc Tryz.prog W 0 (fun _ => true) true fuel 41 cs = some x) : ∃ o,OrdT W cs o := by
 obtain ⟨xs,n,_,hx,hl,hlen,hf⟩ := DataW.trod_struct Tryz.underlying41 h
 rw [cellsOrd] at hl
 obtain ⟨c0,c1,c2,c3,rfl⟩ := lst4 hl
 obtain ⟨y0,y1,y2,y3,rfl⟩ := lst4 hlen
 have h0 := hf 0 _ rfl
 have h1 := hf 1 _ rfl
 have h2 := hf 2 _ rfl
 have h3 := hf 3 _ rfl
 simp [cellsOB,cellsOU,cellsOC] at h0 h1 h2 h3
 obtain ⟨a,a0,_,wa⟩ := DataW.trod_int Tryz.underlying5 h0
 obtain ⟨b,b0,_,wb⟩ := DataW.trod_int Tryz.underlying38 h1
 obtain ⟨c,e0,_,wc⟩ := DataW.trod_int Tryz.underlying5 h2
 simp at a0 b0 e0
 subst a0 b0 e0
 have ha : 0 ≤ a ∧ a ≤ 255 := by simpa [Lit.wf,IntKind.min,IntKind.max,IntKind.signed,IntKind.bits] using wa
 have hb : 0 ≤ b ∧ b ≤ 4294967295 := by simpa [Lit.wf,IntKind.min,IntKind.max,IntKind.signed,IntKind.bits] using wb
 have hc : 0 ≤ c ∧ c ≤ 255 := by simpa [Lit.wf,IntKind.min,IntKind.max,IntKind.signed,IntKind.bits] using wc
 obtain ⟨an,rfl⟩ := Int.eq_ofNat_of_zero_le ha.1
 obtain ⟨bn,rfl⟩ := Int.eq_ofNat_of_zero_le hb.1
 obtain ⟨cn,rfl⟩ := Int.eq_ofNat_of_zero_le hc.1
 obtain ⟨ao,len,cap,hv⟩ : ∃ ao len cap,c3 = .slice ao len cap := by
  rcases open_slice Tryz.underlying39 h3 with ⟨hc,_⟩ | ⟨a,l,c,m,n,D,Pl,hc,_⟩
  ·simp at hc; exact ⟨_,_,_,hc⟩
  ·simp at hc; exact ⟨_,_,_,hc⟩
 subst hv
 obtain ⟨d,p⟩ := y3
 obtain ⟨Q,hQ⟩ : ∃ Q,IsComps W ao len cap Q := open_rows 4 Tryz.underlying39 cellsComp (by decide) CompIs (fun fuel cs x hx => by
  obtain ⟨k,a,b,c,h1,h2,h3,h4,hcs,_⟩ := comp_cells hx
  obtain ⟨n,rfl,hn⟩ := ok8_nat h1
  exact ⟨⟨n,a,b,c⟩,hcs,hn⟩) ⟨_,h3⟩
 have hql := hQ.1
 subst hql
 exact ⟨⟨an,bn,cn,Q,ao,cap⟩,rfl,by show an < _; omega,by show bn < _; omega,by show cn < _; omega,hQ⟩
theorem ock_one {d k : Nat} {C : List Cp} (hd : d = 3 ∨ d = 4) (h : ock d k C = 0) : C.length = 1 := by
 unfold ock at h
 rw [if_neg (by omega),if_neg (by omega),if_pos hd] at h
 split at h
 ·assumption
 ·cases h
theorem ock_ways {d k : Nat} {C : List Cp} (h : ock d k C = 0) : d = 1 ∨ d = 2 ∨ d = 3 ∨ d = 4 ∨ d = 5 := by
 rcases Nat.lt_or_ge d 1 with c | c
 ·rw [ock_bad d k C (.inl c)] at h; cases h
 ·rcases Nat.lt_or_ge 5 d with e | e
  ·rw [ock_bad d k C (.inr e)] at h; cases h
  ·omega
end Go.Proofs.YtogmdoiecpihdaaGreatDoor
namespace Go.Proofs.YtogmdoiecpihdaaGreatDoor
open Go.RowKit
set_option linter.unusedVariables false
set_option maxHeartbeats 2000000
set_option maxRecDepth 100000
def OrdE.is (o : OrdE) : Nat × Nat × Nat × List Cp := (o.d,o.id,o.k,o.C)
def OrdE.cut (o : OrdE) : OrdE := { o with C := o.C.take 20 }
theorem cat_one (o : OrdE) : cat OrdE.cs [o] = o.cs := by simp [cat]
theorem sameOrder_any (w : World) (x y : OrdE) (hxy : x.is = y.is) (h1 : Cs w x.ao x.C) (h2 : Cs w y.ao y.C) (hm : x.C.length ≤ 1000000) :
  Calls Tryz.prog 14 #[x.ag,y.ag] w fun e w' => e = .returned (.bool true) ∧ Fr Nobody w w' := by
 obtain ⟨d,id,k,C,a1,c1⟩ := x
 obtain ⟨d',id',k',C',a2,c2⟩ := y
 simp only [OrdE.is,Prod.mk.injEq] at hxy
 obtain ⟨rfl,rfl,rfl,rfl⟩ := hxy
 have HF : Hid (Fr Nobody w ((w.alloc (.cells #[.int .u8 (d : Int),.int .u32 (id : Int),.int .u8 (k : Int),.slice a1 C.length c1] 41)).alloc (.cells #[.int .u8 (d : Int),.int .u32 (id : Int),.int .u8 (k : Int),.slice a2 C.length c2] 41))) := ((Fr.refl _ _).alloc _).alloc _
 have HS : Hid (Calls _ _ _ _ _) := same_cs _ a1 a2 C.length c1 c2 C (h1.quiet HF.out) (h2.quiet HF.out) rfl hm
 have e0 : ((d : Int) == (d : Int)) = true := by simp
 have e1 : ((id : Int) == (id : Int)) = true := by simp
 have e2 : ((k : Int) == (k : Int)) = true := by simp
 unfold OrdE.ag
 simp only
 clear h1 h2
 go_enter Tryz.func14,Tryz.ntmps14
 go_wp2_with fail
 refine HS.out.mono ?_
 rintro e w1 ⟨rfl,hf⟩
 go_wp2
 go_ret
 exact ⟨rfl,HF.out.trans hf⟩
theorem Own.dropl {w0 w : World} {l : List Thing} (L : List Thing) (h : Own w0 w (L ++ l)) : Own w0 w l := by
 induction L with
 | nil => exact h
 | cons P L ih => exact ih h.tail
theorem twins_ok (w0 w : World) (l : List Thing) (h : Own w0 w l) (ao : Option Addr) (n cap : Nat) (Q : List OrdE) (hn : Q.length = n) (hn6 : n ≤ 1000) (hQ : ∀ w',Own w0 w' l → Ords w' ao Q) (hw : ∀ o ∈ Q,o.C.length ≤ 1000) :
  Calls Tryz.prog 11 #[.slice ao n cap] w fun e w' => ∃ E ra rc,e = .returned (.slice ra n rc) ∧ E.map OrdE.is = Q.map OrdE.is ∧ E.length = n ∧ Own w0 w' (Row 41 4 (.slice ra n rc) n (cat OrdE.cs E) :: (E.map orow ++ l)) := by
 obtain ⟨i0,hi0,hz0,hz1,hz2⟩ := info_parts Tryz.infoOrd
 have H : Hid (Own w0 w l) := h
 have HN : Hid (Q.length = n) := hn
 have HQ : Hid (∀ w',Own w0 w' l → Ords w' ao Q) := hQ
 have HW : Hid (∀ o ∈ Q,o.C.length ≤ 1000) := hw
 clear h hn hQ hw
 go_enter Tryz.func11,Tryz.ntmps11
 go_wp2
 go_loopw [3,8] (fun ov jv wr => ∃ (j : Nat) (E : List OrdE) (ra : Option Addr) (rc : Nat),j ≤ n ∧ jv = .int .i64 j ∧ ov = .slice ra j rc ∧ E.map OrdE.is = (Q.take j).map OrdE.is ∧ E.length = j ∧ Own w0 wr (Row 41 4 (.slice ra j rc) j (cat OrdE.cs E) :: (E.map orow ++ l))) (fun _ jv _ => n - (intOf jv).toNat)
 case atStart => exact ⟨0,[],none,0,Nat.zero_le _,rfl,rfl,rfl,rfl,H.out.nilRow 41 4⟩
 case round =>
  obtain ⟨j,E,ra,rc,hj,rfl,rfl,hE,hEl,hO⟩ := hrel
  have HE : Hid (E.map OrdE.is = (Q.take j).map OrdE.is ∧ E.length = j) := ⟨hE,hEl⟩
  clear H
  by_cases hlt : j < n
  ·obtain ⟨o,ho⟩ : ∃ o,Q[j]? = some o := ⟨_,List.getElem?_eq_getElem (by rw [HN.out]; exact hlt)⟩
   obtain ⟨g,off,hao,c0,c1,c2,c3⟩ := (HQ.out wr (hO.tail.dropl _)).at j o ho
   have hlt' : (j : Int) < (n : Int) := by omega
   have hB := hO.allocC #[.int .u8 (o.d : Int),.int .u32 (o.id : Int),.int .u8 (o.k : Int),.slice o.ao o.C.length o.cap] 41
   have HTW : Hid (Calls _ _ _ _ _) := twin_any w0 _ _ hB o.ao o.C.length o.cap o.C rfl ((HQ.out _ (hB.tail.tail.dropl _)).2 o (List.mem_of_getElem? ho)) (by have := HW.out o (List.mem_of_getElem? ho); omega)
   have HE2 : Hid (∀ a c,(E ++ [{ o with ao := a,cap := c }]).map OrdE.is = (Q.take (j + 1)).map OrdE.is) := by
    intro a c
    rw [List.map_append,HE.out.1,List.take_add_one,ho]
    simp [OrdE.is]
   subst hao
   obtain ⟨d,oid,ok,C,oa,oc⟩ := o
   simp only at c0 c1 c2 c3 HTW HE2
   clear hO hB ho hE hEl
   go_wp2_with fail
   refine HTW.out.mono ?_
   rintro e w2 ⟨a2,c2',rfl,hO2⟩
   have hO2 := hO2.two
   have p3 := hO2.cell 3
   have z3 := hO2.froz 3
   simp at p3
   have hO3 := hO2.setC 3 (.slice a2 C.length c2')
   have s0 := hO3.cell 0
   have s1 := hO3.cell 1
   have s2 := hO3.cell 2
   have s3 := hO3.cell 3
   simp at s0 s1 s2 s3
   have H3 : Hid (Own w0 _ _) := hO3.three
   clear hO2 hO3 HTW c0 c1 c2 c3
   go_wp2_with (at_builtin; refine append1_own rfl _ _ 32 rfl 41 i0 (.agg #[.int .u8 0,.int .u32 0,.int .u8 0,.slice none 0 0]) 4 40 Tryz.underlying32 hi0 hz0 hz1 hz2 rfl (by decide) _ j (cat OrdE.cs E) rfl H3.out _ #[.int .u8 (d : Int),.int .u32 (oid : Int),.int .u8 (ok : Int),.slice a2 C.length c2'] (by simp) rfl rfl (by intro u hu; simp at hu; rcases hu with rfl | rfl | rfl | rfl <;> rfl) (by unfold maxLen; omega) (by omega) ?_)
   intro g6 c6 w6 hO6 hsz6
   have H6 : Hid (Own w0 w6 (Row 41 4 (.slice (some ⟨g6,0,none⟩) (j + 1) c6) (j + 1) (cat OrdE.cs (E ++ [OrdE.mk d oid ok C a2 c2'])) :: ((E ++ [OrdE.mk d oid ok C a2 c2']).map orow ++ l))) := by
    show Own _ _ _
    rw [cat_append,cat_one,List.map_append]
    have h7 := hO6.two.tail
    refine h7.perm (List.Perm.cons _ ?_)
    rw [List.append_assoc]
    exact List.perm_middle.symm
   clear hO6 hsz6 H3 p3 z3 s0 s1 s2 s3
   go_wp2
   go_roundw
   case rel => exact ⟨j + 1,_,_,_,by omega,by go_num,rfl,HE2.out _ _,by rw [List.length_append,HE.out.2]; rfl,H6.out⟩
   case measure => simp [intOf]; omega
  ·have hlt' : ¬ (j : Int) < (n : Int) := by omega
   have hjn : j = n := by omega
   subst hjn
   have hT : Q.take j = Q := List.take_of_length_le (by rw [HN.out]; exact Nat.le_refl _)
   rw [hT] at HE
   have HO : Hid (Own w0 wr _) := hO
   clear hO hT hE hEl
   go_wp2
   go_ret
   exact ⟨E,_,_,rfl,HE.out.1,HE.out.2,HO.out⟩
theorem Sto.remove_ok {σ : Sto} (h : σ.Ok) (id k : Nat) : (σ.remove id k).2.Ok := by
 unfold Sto.remove
 split
 ·exact h
 ·rename_i h1
  have hl : σ.S.isLive id = true := by simpa using h1
  split
  ·exact h
  ·obtain ⟨r,C,hr,he,hC,hm,h6⟩ := h.ent hl
   rw [Sto.cps_of hr he]
   exact Sto.turn_ok h hl (outk_ok hC k)
theorem tell_set (w0 w : World) (l : List Thing) (b : Nat) (σ : Sto) (K : Nat) (ht : Tab w0) (h : Own w0 w (Store b σ K :: l)) (hσ : σ.Ok) (id k : Nat) (hid : id < 4294967296) (q : Cp) (hq : q.k < 256) (ao : Option Addr) (cap : Nat) (hCs : ∀ w',Own w0 w' l → Cs w' ao [q]) (hK : K + 1 < 1000000) :
  Calls Tryz.prog 149 #[.pointer (some ⟨b,0,none⟩),.agg #[.int .u8 3,.int .u32 (id : Int),.int .u8 (k : Int),.slice ao 1 cap]] w fun e w' => e = .returned (.tuple #[.int .u32 (id : Int),.int .i64 (σ.set id q).1]) ∧ Own w0 w' (Store b (σ.set id q).2 K :: l) := by
 have hA := (h.allocC #[.int .u8 3,.int .u32 (id : Int),.int .u8 (k : Int),.slice ao 1 cap] 41).two
 obtain ⟨g,o,rfl,_,c0,c1,c2,c3⟩ := (hCs _ hA.tail.tail).at 0 q rfl
 have HCE : Hid (∀ w',Own w0 w' l → At4 w' g o q) := by
  intro w' h'
  obtain ⟨g',o',he,_,hat⟩ := (hCs _ h').at 0 q rfl
  cases he
  simpa using hat
 have HS : Hid (Calls _ _ _ _ _) := setC0 w0 _ _ b σ K ht hA.drew hσ id hid q hq (by omega)
 have HB : Hid (w.heap.size = w.heap.size) := rfl
 have b1 := hA.two.cell 1
 have b3 := hA.two.cell 3
 simp at b1 b3
 simp only [Nat.zero_mul,Nat.add_zero] at c0 c1 c2 c3
 obtain ⟨qk,qa,qb,qc⟩ := q
 unfold Cp.ag at HS
 simp only at c0 c1 c2 c3 HS
 generalize σ.set id ⟨qk,qa,qb,qc⟩ = r at *
 clear h hσ hA hCs
 go_enter Tryz.func149,Tryz.ntmps149
 go_wp2_with fail
 go_region_held3 (fun w' => w'.cell? ⟨w.heap.size,1,none⟩ = some (.int .u32 (id : Int)) ∧ w'.cell? ⟨w.heap.size,3,none⟩ = some (.slice (some ⟨g,o,none⟩) 1 cap) ∧ w'.cell? ⟨g,o,none⟩ = some (.int .u8 (qk : Int)) ∧ w'.cell? ⟨g,o + 1,none⟩ = some (.int .i32 qa) ∧ w'.cell? ⟨g,o + 2,none⟩ = some (.int .i32 qb) ∧ w'.cell? ⟨g,o + 3,none⟩ = some (.int .i32 qc)) (go_keep)
  (first
   | (go_at_call 99; refine HS.out.mono ?_; rintro e w1 ⟨rfl,hO⟩
      have t1 := hO.two.cell 1
      have t3 := hO.two.cell 3
      simp at t1 t3
      obtain ⟨s0,s1,s2,s3⟩ := HCE.out _ hO.tail.tail
      have H1 : Hid (Own w0 w1 _) := hO
      clear hO))
 all_goals
  go_wp2
  go_ret2
  exact ⟨rfl,H1.out.two.tail⟩
theorem tell_add (w0 w : World) (l : List Thing) (b : Nat) (σ : Sto) (K : Nat) (ht : Tab w0) (h : Own w0 w (Store b σ K :: l)) (hσ : σ.Ok) (id k : Nat) (hid : id < 4294967296) (q : Cp) (hq : q.k < 256) (ao : Option Addr) (cap : Nat) (hCs : ∀ w',Own w0 w' l → Cs w' ao [q]) (hK : K + 1 < 1000000) :
  Calls Tryz.prog 149 #[.pointer (some ⟨b,0,none⟩),.agg #[.int .u8 4,.int .u32 (id : Int),.int .u8 (k : Int),.slice ao 1 cap]] w fun e w' => e = .returned (.tuple #[.int .u32 (id : Int),.int .i64 (σ.add id q).1]) ∧ Own w0 w' (Store b (σ.add id q).2 (K + 2) :: l) := by
 have hA := (h.allocC #[.int .u8 4,.int .u32 (id : Int),.int .u8 (k : Int),.slice ao 1 cap] 41).two
 obtain ⟨g,o,rfl,_,c0,c1,c2,c3⟩ := (hCs _ hA.tail.tail).at 0 q rfl
 have HCE : Hid (∀ w',Own w0 w' l → At4 w' g o q) := by
  intro w' h'
  obtain ⟨g',o',he,_,hat⟩ := (hCs _ h').at 0 q rfl
  cases he
  simpa using hat
 have HS : Hid (Calls _ _ _ _ _) := addC w0 _ _ b σ K ht hA.drew hσ id hid q hq hK
 have HB : Hid (w.heap.size = w.heap.size) := rfl
 have b1 := hA.two.cell 1
 have b3 := hA.two.cell 3
 simp at b1 b3
 simp only [Nat.zero_mul,Nat.add_zero] at c0 c1 c2 c3
 obtain ⟨qk,qa,qb,qc⟩ := q
 unfold Cp.ag at HS
 simp only at c0 c1 c2 c3 HS
 generalize σ.add id ⟨qk,qa,qb,qc⟩ = r at *
 clear h hσ hA hCs
 go_enter Tryz.func149,Tryz.ntmps149
 go_wp2_with fail
 go_region_held3 (fun w' => w'.cell? ⟨w.heap.size,1,none⟩ = some (.int .u32 (id : Int)) ∧ w'.cell? ⟨w.heap.size,3,none⟩ = some (.slice (some ⟨g,o,none⟩) 1 cap) ∧ w'.cell? ⟨g,o,none⟩ = some (.int .u8 (qk : Int)) ∧ w'.cell? ⟨g,o + 1,none⟩ = some (.int .i32 qa) ∧ w'.cell? ⟨g,o + 2,none⟩ = some (.int .i32 qb) ∧ w'.cell? ⟨g,o + 3,none⟩ = some (.int .i32 qc)) (go_keep)
  (first
   | (go_at_call 191; refine HS.out.mono ?_; rintro e w1 ⟨rfl,hO⟩
      have t1 := hO.two.cell 1
      have t3 := hO.two.cell 3
      simp at t1 t3
      obtain ⟨s0,s1,s2,s3⟩ := HCE.out _ hO.tail.tail
      have H1 : Hid (Own w0 w1 _) := hO
      clear hO))
 all_goals
  go_wp2
  go_ret2
  exact ⟨rfl,H1.out.two.tail⟩
theorem tell_remove (w0 w : World) (l : List Thing) (b : Nat) (σ : Sto) (K : Nat) (ht : Tab w0) (h : Own w0 w (Store b σ K :: l)) (hσ : σ.Ok) (id k : Nat) (hid : id < 4294967296) (hk : k < 256) (v : Value) (hv : v.oneCell' = true) (hK : K + 1 < 1000000) (ao : Option Addr) (len cap : Nat) :
  Calls Tryz.prog 149 #[.pointer (some ⟨b,0,none⟩),.agg #[.int .u8 5,.int .u32 (id : Int),.int .u8 (k : Int),.slice ao len cap]] w fun e w' => e = .returned (.tuple #[.int .u32 (id : Int),.int .i64 (σ.remove id k).1]) ∧ Own w0 w' (Store b (σ.remove id k).2 (K + 2) :: l) := by
 have hA := (h.allocC #[.int .u8 5,.int .u32 (id : Int),.int .u8 (k : Int),.slice ao len cap] 41).two
 have HS : Hid (Calls _ _ _ _ _) := removeC w0 _ _ b σ K ht hA.drew hσ id hid k hk hK
 have b1 := hA.two.cell 1
 have b2 := hA.two.cell 2
 simp at b1 b2
 generalize σ.remove id k = r at *
 clear h hσ hA
 go_enter Tryz.func149,Tryz.ntmps149
 go_wp2_with fail
 go_region_held3 (fun w' => w'.cell? ⟨w.heap.size,1,none⟩ = some (.int .u32 (id : Int)) ∧ w'.cell? ⟨w.heap.size,2,none⟩ = some (.int .u8 (k : Int))) (go_keep)
  (first
   | (go_at_call 192; refine HS.out.mono ?_; rintro e w1 ⟨rfl,hO⟩
      have t1 := hO.two.cell 1
      have t2 := hO.two.cell 2
      simp at t1 t2
      have H1 : Hid (Own w0 w1 _) := hO
      clear hO))
 all_goals
  go_wp2
  go_ret2
  exact ⟨rfl,H1.out.two.tail⟩
def OrdE.c (o : OrdE) : Cp := o.C.headD ⟨0,0,0,0⟩
def stq (s : Sto × Nat) (o : OrdE) : (Int × Nat) × (Sto × Nat) :=
 if o.ck ≠ 0 then (((o.ck : Int),0),(s.1,s.2 + 2))
 else if o.d = 1 then (res (s.1.spawn o.C).2.1 (s.1.spawn o.C).1,((s.1.spawn o.C).2.2,s.2 + 2))
 else if o.d = 2 then (res (s.1.despawn o.id).1 o.id,((s.1.despawn o.id).2,s.2 + 2))
 else if o.d = 3 then (res (s.1.set o.id o.c).1 o.id,((s.1.set o.id o.c).2,s.2 + 2))
 else if o.d = 4 then (res (s.1.add o.id o.c).1 o.id,((s.1.add o.id o.c).2,s.2 + 2))
 else (res (s.1.remove o.id o.k).1 o.id,((s.1.remove o.id o.k).2,s.2 + 2))
theorem stq_ok (s : Sto × Nat) (h : s.1.Ok) (o : OrdE) : (stq s o).2.1.Ok ∧ (stq s o).2.2 = s.2 + 2 := by
 unfold stq
 split
 ·exact ⟨h,rfl⟩
 ·split
  ·exact ⟨Sto.spawn_ok h _,rfl⟩
  ·split
   ·exact ⟨Sto.despawn_ok h _,rfl⟩
   ·split
    ·exact ⟨Sto.set_ok h _ _,rfl⟩
    ·split
     ·exact ⟨Sto.add_ok h _ _,rfl⟩
     ·exact ⟨Sto.remove_ok h _ _,rfl⟩
theorem do_any (w0 w : World) (l : List Thing) (b : Nat) (s : Sto × Nat) (ht : Tab w0) (h : Own w0 w (Store b s.1 s.2 :: l)) (hσ : s.1.Ok) (hK : s.2 + 1 < 1000000) (o : OrdE) (hi : o.In) (hCs : ∀ w',Own w0 w' l → Cs w' o.ao o.C) :
  Calls Tryz.prog 94 #[.pointer (some ⟨b,0,none⟩),o.ag] w fun e w' => e = .returned (rag (stq s o).1) ∧ Own w0 w' (Store b (stq s o).2.1 (stq s o).2.2 :: l) := by
 obtain ⟨σ,K⟩ := s
 simp only at h hσ hK
 by_cases hb : o.ck = 0
 ·have key : ∀ (id : Nat) (er : Int) (σ' : Sto),(∀ w' l',Own w0 w' (Store b σ K :: l') → (∀ w'',Own w0 w'' l' → Cs w'' o.ao o.C) → Calls Tryz.prog 149 #[.pointer (some ⟨b,0,none⟩),o.ag] w' fun e w'' => e = .returned (.tuple #[.int .u32 (id : Int),.int .i64 er]) ∧ Own w0 w'' (Store b σ' (K + 2) :: l')) → stq (σ,K) o = (res er id,(σ',K + 2)) → Calls Tryz.prog 94 #[.pointer (some ⟨b,0,none⟩),o.ag] w fun e w' => e = .returned (rag (stq (σ,K) o).1) ∧ Own w0 w' (Store b (stq (σ,K) o).2.1 (stq (σ,K) o).2.2 :: l) := by
   intro id er σ' HT he
   rw [he]
   exact do_of w0 w _ (Store b σ' (K + 2)) l h ht _ o hi hCs hb id er HT
  obtain ⟨d,id,k,C,ao,cap⟩ := o
  have hw := ock_ways hb
  simp only at hw
  rcases hw with rfl | rfl | rfl | rfl | rfl
  ·refine key _ _ (σ.spawn C).2.2 (fun w' l' h' hC => ?_) (by unfold stq; rw [if_neg (by simp [hb]),if_pos rfl])
   refine (tell_spawn w0 w' l' b σ K ht h' hσ _ hi rfl hC (by omega)).mono ?_
   rintro e w'' ⟨he,h2⟩
   exact ⟨he,h2.stoK (by omega)⟩
  ·refine key _ _ (σ.despawn id).2 (fun w' l' h' hC => ?_) (by unfold stq; rw [if_neg (by simp [hb]),if_neg (by simp),if_pos rfl])
   refine (tell_despawn w0 w' l' b σ K h' hσ _ hi rfl (by omega)).mono ?_
   rintro e w'' ⟨he,h2⟩
   exact ⟨he,h2.stoK (by omega)⟩
  ·obtain ⟨q,rfl⟩ : ∃ q,C = [q] := List.length_eq_one_iff.1 (ock_one (.inl rfl) hb)
   refine key _ _ (σ.set id q).2 (fun w' l' h' hC => ?_) (by unfold stq; rw [if_neg (by simp [hb]),if_neg (by simp),if_neg (by simp),if_pos rfl]; rfl)
   refine (tell_set w0 w' l' b σ K ht h' hσ id k hi.id q (hi.C q (by simp)) ao cap hC hK).mono ?_
   rintro e w'' ⟨he,h2⟩
   exact ⟨he,h2.stoK (by omega)⟩
  ·obtain ⟨q,rfl⟩ : ∃ q,C = [q] := List.length_eq_one_iff.1 (ock_one (.inr rfl) hb)
   refine key _ _ (σ.add id q).2 (fun w' l' h' hC => ?_) (by unfold stq; rw [if_neg (by simp [hb]),if_neg (by simp),if_neg (by simp),if_neg (by simp),if_pos rfl]; rfl)
   exact tell_add w0 w' l' b σ K ht h' hσ id k hi.id q (hi.C q (by simp)) ao cap hC hK
  ·refine key _ _ (σ.remove id k).2 (fun w' l' h' hC => ?_) (by unfold stq; rw [if_neg (by simp [hb]),if_neg (by simp),if_neg (by simp),if_neg (by simp),if_neg (by simp)])
   exact tell_remove w0 w' l' b σ K ht h' hσ id k hi.id hi.k (.bool false) rfl hK ao C.length cap
 ·have e : stq (σ,K) o = (((o.ck : Int),0),(σ,K + 2)) := by unfold stq; rw [if_pos hb]
  rw [e]
  refine (do_bad w0 w _ h ht _ o hi (fun w' h' => hCs w' h'.tail) hb).mono ?_
  rintro e w' ⟨he,h2⟩
  exact ⟨he,h2.stoK (Nat.le_add_right K 2)⟩
theorem stq_is (s : Sto × Nat) (x y : OrdE) (h : x.is = y.is) : stq s x = stq s y := by
 obtain ⟨d,id,k,C,a,c⟩ := x
 obtain ⟨d',id',k',C',a',c'⟩ := y
 simp only [OrdE.is,Prod.mk.injEq] at h
 obtain ⟨rfl,rfl,rfl,rfl⟩ := h
 rfl
theorem runs_is (A : List OrdE) : ∀ (B : List OrdE) (s : Sto × Nat),A.map OrdE.is = B.map OrdE.is → runs stq s A = runs stq s B := by
 induction A with
 | nil =>
  intro B s h
  cases B with
  | nil => rfl
  | cons y B => simp at h
 | cons x A ih =>
  intro B s h
  cases B with
  | nil => simp at h
  | cons y B =>
   simp only [List.map_cons,List.cons.injEq] at h
   unfold runs
   rw [stq_is s x y h.1,ih B _ h.2]
end Go.Proofs.YtogmdoiecpihdaaGreatDoor
namespace Go.Proofs.YtogmdoiecpihdaaGreatDoor
open Go.ChangeShapes Go.WideShapes Go.ChangeAt Go.RowKit Go.Deep
set_option linter.unusedVariables false
set_option maxHeartbeats 2000000
set_option maxRecDepth 100000
def IsOrds (w : World) (ao : Option Addr) (len cap : Nat) (Q : List OrdE) : Prop := Q.length = len ∧ len ≤ cap ∧ cap ≤ maxLen ∧ RowsAt (OrdT w) 4 w ao Q
theorem IsOrds.ords {w : World} {ao : Option Addr} {len cap : Nat} {Q : List OrdE} (h : IsOrds w ao len cap Q) : Ords w ao Q ∧ ∀ o ∈ Q,o.d < 256 ∧ o.id < 4294967296 ∧ o.k < 256 ∧ IsComps w o.ao o.C.length o.cap o.C := by
 obtain ⟨hl,_,_,hR⟩ := h
 have key : ∀ o ∈ Q,o.d < 256 ∧ o.id < 4294967296 ∧ o.k < 256 ∧ IsComps w o.ao o.C.length o.cap o.C := by
  intro o ho
  obtain ⟨j,hj⟩ := List.getElem?_of_mem ho
  rcases hR with h | ⟨g,of,ha,hc⟩
  ·subst h; simp at hj
  ·obtain ⟨cs,⟨_,h1,h2,h3,h4⟩,_⟩ := hc j o hj
   exact ⟨h1,h2,h3,h4⟩
 refine ⟨⟨?_,fun o ho => (key o ho).2.2.2.cs.1⟩,key⟩
 rcases hR with h | ⟨g,of,ha,hc⟩
 ·exact .inl h
 ·refine .inr ⟨g,of,ha,fun j o hj => ?_⟩
  obtain ⟨cs,⟨rfl,_⟩,_,h3⟩ := hc j o hj
  exact ⟨h3 0 (by decide),h3 1 (by decide),h3 2 (by decide),h3 3 (by decide)⟩
theorem ord_len (x : OrdE) : x.cs.length = 4 := rfl
theorem Own.ords {w0 w : World} {l : List Thing} {ao : Option Addr} {n cap : Nat} {L : List OrdE} (h : Own w0 w (Row 41 4 (.slice ao n cap) n (cat OrdE.cs L) :: l)) (hn : L.length = n) (hc : ∀ x ∈ L,Cs w x.ao x.C) : Ords w ao L := by
 refine ⟨?_,hc⟩
 have r := h.row
 rcases Nat.eq_zero_or_pos n with h0 | h0
 ·exact .inl (List.eq_nil_of_length_eq_zero (by omega))
 ·obtain ⟨g,c,hv,_⟩ := row_shape r h0
  have ha := (Value.slice.inj hv).1
  subst ha
  refine .inr ⟨g,0,rfl,fun j x hx => ?_⟩
  have hj := (List.getElem?_eq_some_iff.1 hx).1
  have e := fun i (hi : i < 4) => cat_at OrdE.cs 4 ord_len L j i x hx hi
  have k := fun i (hi : i < 4) => r.cellAt (j * 4 + i) (by omega)
  refine ⟨?_,?_,?_,?_⟩
  ·have := k 0 (by decide); rw [e 0 (by decide)] at this; simpa [OrdE.cs] using this
  ·have := k 1 (by decide); rw [e 1 (by decide)] at this; simpa [Nat.zero_add,OrdE.cs] using this
  ·have := k 2 (by decide); rw [e 2 (by decide)] at this; simpa [Nat.zero_add,OrdE.cs] using this
  ·have := k 3 (by decide); rw [e 3 (by decide)] at this; simpa [Nat.zero_add,OrdE.cs] using this
theorem orow_pick (M : List OrdE) (j : Nat) (y : OrdE) (hy : M[j]? = some y) : (M.map orow).Perm (orow y :: (M.eraseIdx j).map orow) := by
 obtain ⟨hj,he⟩ := List.getElem?_eq_some_iff.1 hy
 have hd : M.drop j = y :: M.drop (j + 1) := by rw [List.drop_eq_getElem_cons hj,he]
 have e1 : M.map orow = (M.take j).map orow ++ orow y :: (M.drop (j + 1)).map orow := by
  have := congrArg (List.map orow) (List.take_append_drop j M)
  rw [hd,List.map_append,List.map_cons] at this
  exact this.symm
 rw [e1,List.eraseIdx_eq_take_drop_succ,List.map_append]
 exact List.perm_middle
theorem ccat_at1 (C : List Cp) (j : Nat) (q : Cp) (hq : C[j]? = some q) : (ccat C)[j * 4 + 1]? = some (.int .i32 q.a) := by
 unfold ccat
 rw [cat_at Cp.cs 4 cs_len C j 1 q hq (by decide)]; rfl
theorem ccat_set1 (C : List Cp) (k : Nat) (q : Cp) (a : Int) (hq : C[k]? = some q) : ccat (C.set k ⟨q.k,a,q.b,q.c⟩) = (ccat C).set (k * 4 + 1) (.int .i32 a) := by
 induction C generalizing k with
 | nil => simp at hq
 | cons y C ih =>
  have e1 : ∀ (A : List Cp) (z : Cp),ccat (z :: A) = [.int .u8 (z.k : Int),.int .i32 z.a,.int .i32 z.b,.int .i32 z.c] ++ ccat A := fun _ _ => rfl
  cases k with
  | zero => simp at hq; subst hq; rw [List.set_cons_zero,e1,e1]; simp
  | succ k =>
   have ih := ih k (by simpa using hq)
   rw [List.set_cons_succ,e1,e1,ih]
   have h1 : (k + 1) * 4 + 1 = (k * 4 + 1) + 4 := by omega
   rw [h1]
   simp
end Go.Proofs.YtogmdoiecpihdaaGreatDoor
namespace Go.Proofs.YtogmdoiecpihdaaGreatDoor
open Go.RowKit Go.Maps
set_option linter.unusedVariables false
set_option maxHeartbeats 2000000
set_option maxRecDepth 100000
def Sto.gv (σ : Sto) (id k : Nat) : Cp := if hasK (σ.cps id) k then mkc k (fv (σ.cps id) k) else ⟨0,0,0,0⟩
theorem sgetC (w0 w : World) (l : List Thing) (b : Nat) (σ : Sto) (K : Nat) (h : Own w0 w (Store b σ K :: l)) (hσ : σ.Ok) (id : Nat) (hid : id < 4294967296) (hl : σ.S.isLive id = true) (k : Nat) (hk : k < 256) :
  Calls Tryz.prog 97 #[.pointer (some ⟨b,0,none⟩),.int .u32 (id : Int),.int .u8 (k : Int)] w fun e w' => e = .returned (.tuple #[(σ.gv id k).ag,.int .i64 (if hasK (σ.cps id) k then 0 else 10)]) ∧ Own w0 w' (Store b σ K :: l) := by
 obtain ⟨bs,v,p,h⟩ := h.stoX
 obtain ⟨h6,hn,_⟩ := hσ.home hl
 obtain ⟨r,C,hr,he,_⟩ := hσ.ent hl
 have hA := (h.allocC #[.int .u8 0,.int .i32 0,.int .i32 0,.int .i32 0] 46).two
 have HH : Hid (Calls _ _ _ _ _) := home_ok w0 _ _ b bs v p σ K hA hσ.s id hid hl hn h6
 obtain ⟨bt,hp⟩ := stoP h h6 he
 rw [hp,pp_some] at HH
 have HG : Hid (∀ w' l',Own w0 w' (StoX b σ K (bs,v,p) :: l') → Calls Tryz.prog 153 #[.pointer (some ⟨bt,0,none⟩),.int .u32 (id : Int),.int .u8 (k : Int)] w' fun e w'' => e = .returned (.tuple #[(σ.gv id k).ag,.int .i64 (if hasK (σ.cps id) k then 0 else 10)]) ∧ Own w0 w'' (StoX b σ K (bs,v,p) :: l')) := fun w' l' h' => homeGet w0 w' l' b bs v p σ K hσ id hid hl bt hp h' k hk
 generalize σ.gv id k = G at *
 generalize (if hasK (σ.cps id) k then (0 : Int) else 10) = er at *
 clear h hA hσ hl he hr hp hn hid
 obtain ⟨gk,ga,gb,gc⟩ := G
 simp only [Cp.ag] at HG ⊢
 go_enter Tryz.func97,Tryz.ntmps97
 go_wp2_with fail
 refine HH.out.mono ?_
 rintro e w1 ⟨rfl,hO⟩
 have H1 : Hid (Own w0 w1 _) := hO
 clear hO HH
 go_wp2_with fail
 refine (HG.out _ _ H1.out).mono ?_
 rintro e w2 ⟨rfl,hO⟩
 have hB := hO.two
 have z0 := hB.cell 0
 have z1 := hB.cell 1
 have z2 := hB.cell 2
 have z3 := hB.cell 3
 simp at z0 z1 z2 z3
 have y0 := hB.froz 0
 have y1 := hB.froz 1
 have y2 := hB.froz 2
 have y3 := hB.froz 3
 have HF : Hid (Own w0 _ _) := (((hB.setC 0 (.int .u8 (gk : Int))).setC 1 (.int .i32 ga)).setC 2 (.int .i32 gb)).setC 3 (.int .i32 gc)
 clear hO hB HG H1
 go_wp2
 (try simp only [Exit.inBlock,Exit.then])
 refine bodyPost_ret (v := .tuple #[.agg #[.int .u8 (gk : Int),.int .i32 ga,.int .i32 gb,.int .i32 gc],.int .i64 er]) ?_ rfl ⟨rfl,HF.out.tail.xSto⟩
 rw [results_cell_tmp rfl]
 have r0 := HF.out.cell 0
 have r1 := HF.out.cell 1
 have r2 := HF.out.cell 2
 have r3 := HF.out.cell 3
 simp at r0 r1 r2 r3
 go_simp
def gl1 (at_ by_ : Int) : Int × Int := (max (-524288) (min (at_ + by_) 524287),if max (-524288) (min (at_ + by_) 524287) = at_ + by_ then by_ else min (-by_) 32767)
theorem keep_in (w : World) (x : Int) (h1 : -2147483648 ≤ x) (h2 : x ≤ 2147483647) : Calls Tryz.prog 236 #[.int .i64 x] w fun e w' => e = .returned (.int .i32 x) ∧ w' = w := by
 have e1 : max x (-2147483648) = x := by omega
 have e2 : min x 2147483647 = x := by omega
 go_enter Tryz.func236,Tryz.ntmps236
 go_wp2
 go_ret
 exact ⟨rfl,rfl⟩
theorem add_in (w : World) (a b : Int) (h1 : -2147483648 ≤ a + b) (h2 : a + b ≤ 2147483647) (ha : -2147483648 ≤ a ∧ a ≤ 2147483647) (hb : -2147483648 ≤ b ∧ b ≤ 2147483647) : Calls Tryz.prog 195 #[.int .i32 a,.int .i32 b] w fun e w' => e = .returned (.int .i32 (a + b)) ∧ w' = w := by
 have HK : Hid (Calls _ _ _ _ _) := keep_in w (a + b) h1 h2
 obtain ⟨ha1,ha2⟩ := ha
 obtain ⟨hb1,hb2⟩ := hb
 go_enter Tryz.func195,Tryz.ntmps195
 go_wp2_with fail
 refine HK.out.mono ?_
 rintro e w1 ⟨rfl,rfl⟩
 go_wp2
 go_ret
 exact ⟨rfl,rfl⟩
theorem clamp_in (w : World) (x : Int) : Calls Tryz.prog 196 #[.int .i32 x,.int .i32 (-524288),.int .i32 524287] w fun e w' => e = .returned (.int .i32 (max (-524288) (min x 524287))) ∧ w' = w := by
 by_cases c1 : x < -524288
 ·have e : max (-524288) (min x 524287) = -524288 := by omega
  rw [e]
  go_enter Tryz.func196,Tryz.ntmps196
  go_wp2
  go_ret
  exact ⟨rfl,rfl⟩
 ·by_cases c2 : 524287 < x
  ·have e : max (-524288) (min x 524287) = 524287 := by omega
   rw [e]
   go_enter Tryz.func196,Tryz.ntmps196
   go_wp2
   go_ret
   exact ⟨rfl,rfl⟩
  ·have e : max (-524288) (min x 524287) = x := by omega
   rw [e]
   clear e
   go_enter Tryz.func196,Tryz.ntmps196
   go_wp2
   go_ret
   exact ⟨rfl,rfl⟩
theorem glide_in (w : World) (a b : Int) (ha : -524288 ≤ a ∧ a ≤ 524287) (hb : -32768 ≤ b ∧ b ≤ 32767) : Calls Tryz.prog 151 #[.int .i32 a,.int .i32 b] w fun e w' => e = .returned (.tuple #[.int .i32 (gl1 a b).1,.int .i32 (gl1 a b).2]) ∧ w' = w := by
 have HA : Hid (Calls _ _ _ _ _) := add_in w a b (by omega) (by omega) (by omega) (by omega)
 have HC : Hid (Calls _ _ _ _ _) := clamp_in w (a + b)
 obtain ⟨hb1,hb2⟩ := hb
 unfold gl1
 simp only
 generalize hk : max (-524288) (min (a + b) 524287) = kp at *
 by_cases hc : kp = a + b
 ·rw [if_pos hc]
  have hne : (kp != a + b) = false := by simp [hc]
  clear hc hk
  generalize a + b = to at *
  go_enter Tryz.func151,Tryz.ntmps151
  go_wp2_with fail
  refine HA.out.mono ?_
  rintro e w1 ⟨rfl,rfl⟩
  go_wp2_with fail
  refine HC.out.mono ?_
  rintro e w2 ⟨rfl,rfl⟩
  go_wp2
  go_ret2
  exact ⟨rfl,rfl⟩
 ·rw [if_neg hc]
  have hne : (kp != a + b) = true := by simpa using hc
  clear hc hk
  generalize a + b = to at *
  generalize hmn : min (-b) 32767 = mn at *
  go_enter Tryz.func151,Tryz.ntmps151
  go_wp2_with fail
  refine HA.out.mono ?_
  rintro e w1 ⟨rfl,rfl⟩
  go_wp2_with fail
  refine HC.out.mono ?_
  rintro e w2 ⟨rfl,rfl⟩
  go_wp2
  go_ret2
  exact ⟨rfl,rfl⟩
theorem chk_pv {k : Nat} {a b c : Int} (hk : k = 0 ∨ k = 1) (h : (⟨k,a,b,c⟩ : Cp).chk = 0) : lo k 0 ≤ a ∧ a ≤ hi k 0 ∧ lo k 1 ≤ b ∧ b ≤ hi k 1 ∧ c = 0 := by
 unfold Cp.chk chk at h
 simp only at h
 rcases hk with rfl | rfl
 all_goals
  rw [if_neg (by decide)] at h
  split at h
  ·cases h
  ·rename_i hs
   split at h
   ·cases h
   ·rename_i ho
    simp [stray,cnt,kinds,f3,List.range,List.range.loop] at hs
    simp [outside,cnt,kinds,f3,List.range,List.range.loop,lo,hi,fld] at ho
    simp [lo,hi,fld,kinds]
    omega
end Go.Proofs.YtogmdoiecpihdaaGreatDoor
