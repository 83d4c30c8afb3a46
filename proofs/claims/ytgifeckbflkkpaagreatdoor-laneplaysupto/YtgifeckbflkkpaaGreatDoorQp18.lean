/- Where the component of a kind stands; changes in lists. -/
import Derived.Test.YtgifeckbflkkpaaGreatDoorQp17
namespace Go.Proofs.YtgifeckbflkkpaaGreatDoor
open Go.RowKit
set_option linter.unusedVariables false
set_option maxHeartbeats 8000000
set_option maxRecDepth 100000
theorem placeP_any (w : World) (bk k : Nat) (hk : w.cell? ⟨bk,0,none⟩ = some (.int .u8 (k : Int))) (q : Cp) :
  Calls Tryz.prog 228 #[.agg #[.int .u8 (q.k : Int),.int .i32 q.a,.int .i32 q.b,.int .i32 q.c],.pointer (some ⟨bk,0,none⟩)] w fun e w' => e = .returned (.bool (decide (q.k = k))) ∧ Fr Nobody w w' := by
 have hlt : bk < w.heap.size := World.block_lt_of_cell? w _ hk
 have hne : bk ≠ w.heap.size := by omega
 have hne2 : w.heap.size ≠ bk := by omega
 by_cases h : q.k = k
 ·subst h
  go_enter Tryz.func228,Tryz.ntmps228
  go_wp2
  go_ret
  exact ⟨by simp,(Fr.refl _ _).alloc _⟩
 ·have h' : ((q.k : Int) == (k : Int)) = false := by simp; omega
  rw [decide_eq_false h]
  go_enter Tryz.func228,Tryz.ntmps228
  go_wp2
  go_ret
  exact ⟨rfl,(Fr.refl _ _).alloc _⟩
def PlR (C : List Cp) (k : Nat) (r : Int) : Prop := (r = -1 ∧ fst C k = none) ∨ ∃ (j : Nat) (q : Cp),r = (j : Int) ∧ C[j]? = some q ∧ fst C k = some q
theorem fst_hit {C : List Cp} {j k : Nat} {q : Cp} (hq : C[j]? = some q) (hn : fst (C.take j) k = none) (h : q.k = k) : fst C k = some q := by
 have hj := List.getElem?_eq_some_iff.1 hq
 have e : C = C.take j ++ q :: C.drop (j + 1) := by
  rw [← hj.2,← List.drop_eq_getElem_cons hj.1,List.take_append_drop]
 unfold fst at hn ⊢
 rw [e,List.find?_append,hn]
 simp [h]
theorem fst_miss {C : List Cp} {j k : Nat} {q : Cp} (hq : C[j]? = some q) (hn : fst (C.take j) k = none) (h : q.k ≠ k) : fst (C.take (j + 1)) k = none := by
 unfold fst at hn ⊢
 rw [take_snoc C j q hq,List.find?_append,hn]
 simp [h]
theorem idxK_any (w : World) (ao : Option Addr) (n cap : Nat) (C : List Cp) (hn : C.length = n) (hs : Cs w ao C) (hm : n ≤ 2097152) (bk k : Nat) (hk : w.cell? ⟨bk,0,none⟩ = some (.int .u8 (k : Int))) :
  Calls Tryz.prog 148 #[.slice ao n cap,.func (.func 228) #[] #[.pointer (some ⟨bk,0,none⟩)]] w fun e w' => ∃ r : Int,e = .returned (.int .i64 r) ∧ PlR C k r ∧ Fr Nobody w w' := by
 have HL : Hid (C.length = n ∧ Cs w ao C ∧ w.cell? ⟨bk,0,none⟩ = some (.int .u8 (k : Int)) ∧ bk < w.heap.size) := ⟨hn,hs,hk,World.block_lt_of_cell? w _ hk⟩
 clear hn hs hk
 go_enter Tryz.func148,Tryz.ntmps148
 go_wp2
 go_loopw [8] (fun cc wr => ∃ j : Nat,j ≤ n ∧ cc = .int .i64 j ∧ Fr Nobody w wr ∧ fst (C.take j) k = none) (fun cc _ => n - (intOf cc).toNat)
 case atStart => exact ⟨0,Nat.zero_le _,rfl,Fr.refl _ _,by simp [fst]⟩
 case round =>
  obtain ⟨j,hj,rfl,hf,hno⟩ := hrel
  have HF : Hid (Fr Nobody w wr) := hf
  have HN : Hid (fst (C.take j) k = none) := hno
  clear hf hno
  by_cases hlt : j < n
  ·obtain ⟨q,hq⟩ : ∃ q,C[j]? = some q := ⟨_,List.getElem?_eq_getElem (by rw [HL.out.1]; exact hlt)⟩
   obtain ⟨g,o,hao,_,c0,c1,c2,c3⟩ := (HL.out.2.1.quiet HF.out).at j q hq
   subst hao
   have hlt' : (j : Int) < (n : Int) := by omega
   have HP : Hid (Calls _ _ _ _ _) := placeP_any wr bk k ((HF.out.cell (p := ⟨bk,0,none⟩) HL.out.2.2.2 id).trans HL.out.2.2.1) q
   have HQ : Hid (C[j]? = some q) := hq
   clear hq
   by_cases he : q.k = k
   ·have HH : Hid (PlR C k (j : Int)) := .inr ⟨j,q,rfl,HQ.out,fst_hit HQ.out HN.out he⟩
    rw [decide_eq_true he] at HP
    clear he HQ
    obtain ⟨qk,qa,qb,qc⟩ := q
    simp only at c0 c1 c2 c3 HP
    go_wp2_with fail
    refine HP.out.mono ?_
    rintro e w2 ⟨rfl,hf⟩
    have HF2 : Hid (Fr Nobody w w2) := HF.out.trans hf
    clear hf HP
    go_wp2
    go_ret
    exact ⟨(j : Int),rfl,HH.out,HF2.out⟩
   ·have HH : Hid (fst (C.take (j + 1)) k = none) := fst_miss HQ.out HN.out he
    rw [decide_eq_false he] at HP
    clear he HQ
    obtain ⟨qk,qa,qb,qc⟩ := q
    simp only at c0 c1 c2 c3 HP
    go_wp2_with fail
    refine HP.out.mono ?_
    rintro e w2 ⟨rfl,hf⟩
    have HF2 : Hid (Fr Nobody w w2) := HF.out.trans hf
    clear hf HP
    go_wp2
    go_roundw
    case rel => exact ⟨j + 1,by omega,by go_num,HF2.out,HH.out⟩
    case measure => simp [intOf]; omega
  ·have hlt' : ¬ (j : Int) < (n : Int) := by omega
   have HU : Hid (PlR C k (-1)) := .inl ⟨rfl,by have := HN.out; rw [List.take_of_length_le (by rw [HL.out.1]; omega)] at this; exact this⟩
   go_wp2
   go_ret
   exact ⟨-1,rfl,HU.out,HF.out⟩
theorem place_any (w : World) (ao : Option Addr) (n cap : Nat) (C : List Cp) (hn : C.length = n) (hs : Cs w ao C) (hm : n ≤ 2097152) (k : Nat) :
  Calls Tryz.prog 207 #[.slice ao n cap,.int .u8 (k : Int)] w fun e w' => ∃ r : Int,e = .returned (.int .i64 r) ∧ PlR C k r ∧ Fr Nobody w w' := by
 have h0 := ((Own.start w).allocC #[.int .u8 (k : Int)] 5).cell 0
 have HI : Hid (Calls _ _ _ _ _) := idxK_any (w.alloc (.cells #[.int .u8 (k : Int)] 5)) ao n cap C hn (hs.quiet ((Fr.refl _ _).alloc _)) hm w.heap.size k h0
 have HF : Hid (Fr Nobody w (w.alloc (.cells #[.int .u8 (k : Int)] 5))) := (Fr.refl _ _).alloc _
 clear hn hs h0
 go_enter Tryz.func207,Tryz.ntmps207
 go_wp2_with fail
 refine HI.out.mono ?_
 rintro e w2 ⟨r,rfl,hr,hf⟩
 have HR : Hid (PlR C k r) := hr
 have HF2 : Hid (Fr Nobody w w2) := HF.out.trans hf
 clear hf HI hr
 go_wp2
 go_ret
 exact ⟨r,rfl,HR.out,HF2.out⟩
structure ChE where
 id : Nat
 lost : Nat
 N : List Cp
 na : Option Addr
 nc : Nat
 S : List Cp
 sa : Option Addr
 sc : Nat
def ChE.cs (x : ChE) : List Value := [.int .u32 (x.id : Int),.int .u8 (x.lost : Int),.slice x.na x.N.length x.nc,.slice x.sa x.S.length x.sc]
def ChE.v (x : ChE) : Chg := ⟨x.id,x.lost,x.N,x.S⟩
def ChE.nrow (x : ChE) : Thing := Row 63 4 (.slice x.na x.N.length x.nc) x.N.length (ccat x.N)
def ChE.srow (x : ChE) : Thing := Row 63 4 (.slice x.sa x.S.length x.sc) x.S.length (ccat x.S)
def ChE.rows (x : ChE) : List Thing := [x.nrow,x.srow]
theorem Tryz.infoChg : (Tryz.prog.info? 112).map (fun i => (i.zero,i.size,i.bytes)) = some (some (.agg #[.int .u32 0,.int .u8 0,.slice none 0 0,.slice none 0 0]),4,56) := by kernel_rfl
theorem cp_eq (x y : Cp) : ((((x.k : Int) == (y.k : Int))) && ((x.a == y.a) && (x.b == y.b) && (x.c == y.c))) = decide (x = y) := by
 rw [Bool.eq_iff_iff]
 cases x; cases y
 simp
 omega
theorem take_ne {α : Type} [DecidableEq α] {A B : List α} {k : Nat} {x y : α} (hx : A[k]? = some x) (hy : B[k]? = some y) (h : decide (x = y) = false) : decide (A = B) = false := by
 apply decide_eq_false
 intro e
 rw [e,hy] at hx
 have : y = x := by simpa using hx
 exact of_decide_eq_false h this.symm
theorem take_eq {α : Type} [DecidableEq α] {A B : List α} {k : Nat} {x y : α} (hx : A[k]? = some x) (hy : B[k]? = some y) (h : decide (x = y) = true) (ht : A.take k = B.take k) : A.take (k + 1) = B.take (k + 1) := by
 rw [List.take_add_one,List.take_add_one,hx,hy,ht,of_decide_eq_true h]
theorem take_all {α : Type} [DecidableEq α] {A B : List α} {k : Nat} (hA : A.length ≤ k) (hB : B.length ≤ k) (ht : A.take k = B.take k) : decide (A = B) = true := by
 rw [List.take_of_length_le hA,List.take_of_length_le hB] at ht
 exact decide_eq_true ht
theorem len_ne {α : Type} [DecidableEq α] {A B : List α} (h : A.length ≠ B.length) : decide (A = B) = false := decide_eq_false (fun e => h (by rw [e]))
theorem eqCs_r (w : World) (a1 a2 : Option Addr) (n1 n2 c1 c2 : Nat) (A B : List Cp) (h1 : Cs w a1 A) (h2 : Cs w a2 B) (hn1 : A.length = n1) (hn2 : B.length = n2) (hm1 : n1 ≤ 2097152) (hm2 : n2 ≤ 2097152) :
  Calls Tryz.prog 115 #[.slice a1 n1 c1,.slice a2 n2 c2] w fun e w' => e = .returned (.bool (decide (A = B))) ∧ Fr Nobody w w' := by
 by_cases hne : n1 = n2
 ·have H1 : Hid (Cs w a1 A ∧ Cs w a2 B ∧ A.length = n1 ∧ B.length = n1) := ⟨h1,h2,hn1,by rw [hn2,hne]⟩
  rw [← hne]
  clear h1 h2 hn1 hn2 hne hm2
  have hne' : ((n1 : Int) != (n1 : Int)) = false := by simp
  go_enter Tryz.func115,Tryz.ntmps115
  go_wp2
  clear hne'
  go_loopw [13] (fun cc wr => ∃ k : Nat,k ≤ n1 ∧ cc = .int .i64 k ∧ Fr Nobody w wr ∧ A.take k = B.take k) (fun cc _ => n1 - (intOf cc).toNat)
  case atStart => exact ⟨0,Nat.zero_le _,rfl,Fr.refl _ _,by simp⟩
  case round =>
   obtain ⟨k,hk,rfl,hf,heq⟩ := hrel
   have HF : Hid (Fr Nobody w wr) := hf
   have HE : Hid (A.take k = B.take k) := heq
   clear hf heq
   by_cases hlt : k < n1
   ·obtain ⟨x,hx⟩ : ∃ x,A[k]? = some x := ⟨_,List.getElem?_eq_getElem (by rw [H1.out.2.2.1]; exact hlt)⟩
    obtain ⟨y,hy⟩ : ∃ y,B[k]? = some y := ⟨_,List.getElem?_eq_getElem (by rw [H1.out.2.2.2]; exact hlt)⟩
    obtain ⟨g1,o1,hg1,_,p0,p1,p2,p3⟩ := (H1.out.1.quiet HF.out).at k x hx
    obtain ⟨g2,o2,hg2,_,q0,q1,q2,q3⟩ := (H1.out.2.1.quiet HF.out).at k y hy
    subst hg1 hg2
    have hlt' : (k : Int) < (n1 : Int) := by omega
    have HXY : Hid (A[k]? = some x ∧ B[k]? = some y) := ⟨hx,hy⟩
    obtain ⟨r0,e0⟩ : ∃ r,((x.k : Int) == (y.k : Int)) = r := ⟨_,rfl⟩
    obtain ⟨r1,e1⟩ : ∃ r,((x.a == y.a) && (x.b == y.b) && (x.c == y.c)) = r := ⟨_,rfl⟩
    have HD : Hid (decide (x = y) = (r0 && r1)) := by show _ = _; rw [← cp_eq,e0,e1]
    have eqa : ∀ d w,(Op.equalIn (d + 1 + 1) 61 (.agg #[.int .i32 x.a,.int .i32 x.b,.int .i32 x.c]) (.agg #[.int .i32 y.a,.int .i32 y.b,.int .i32 y.c])).run Tryz.prog w = .ok r1 w := fun d w => by rw [eq_a3,e1]
    clear hx hy e1
    obtain ⟨xk,xa,xb,xc⟩ := x
    obtain ⟨yk,ya,yb,yc⟩ := y
    simp only at p0 p1 p2 p3 q0 q1 q2 q3 e0 eqa
    by_cases hb : (r0 && r1) = true
    ·obtain ⟨rfl,rfl⟩ : r0 = true ∧ r1 = true := by simpa using hb
     have HN : Hid (A.take (k + 1) = B.take (k + 1)) := take_eq HXY.out.1 HXY.out.2 HD.out HE.out
     go_wp2
     go_quiet (fail)
     go_wp2
     go_roundw
     case rel => exact ⟨k + 1,by omega,by go_num,HF.out.drewN _,HN.out⟩
     case measure => simp [intOf]; omega
    ·have HN : Hid (decide (A = B) = false) := take_ne HXY.out.1 HXY.out.2 (by rw [HD.out]; simpa using hb)
     have hb2 : (r0 && r1) = false := by simpa using hb
     have hc : r0 = false ∨ (r0 = true ∧ r1 = false) := by cases r0 <;> cases r1 <;> simp at hb2 ⊢
     clear hb hb2
     rcases hc with rfl | ⟨rfl,rfl⟩
     all_goals
      go_wp2
      go_quiet (fail)
      go_wp2
      go_ret
      exact ⟨by rw [HN.out]; rfl,HF.out.drewN _⟩
   ·have hlt' : ¬ (k : Int) < (n1 : Int) := by omega
    have HN : Hid (decide (A = B) = true) := take_all (by rw [H1.out.2.2.1]; omega) (by rw [H1.out.2.2.2]; omega) HE.out
    go_wp2
    go_ret
    exact ⟨by rw [HN.out]; rfl,HF.out⟩
 ·have HN : Hid (decide (A = B) = false) := len_ne (by rw [hn1,hn2]; exact hne)
  have hne' : ((n1 : Int) != (n2 : Int)) = true := by rw [bne_iff_ne]; omega
  clear h1 h2 hn1 hn2 hne
  go_enter Tryz.func115,Tryz.ntmps115
  go_wp2
  go_ret
  exact ⟨by rw [HN.out]; rfl,Fr.refl _ _⟩
theorem eqEn_r (w : World) (i1 i2 : Nat) (a1 a2 : Option Addr) (n1 n2 c1 c2 : Nat) (A B : List Cp) (h1 : Cs w a1 A) (h2 : Cs w a2 B) (hn1 : A.length = n1) (hn2 : B.length = n2) (hm1 : n1 ≤ 2097152) (hm2 : n2 ≤ 2097152) :
  Calls Tryz.prog 56 #[.agg #[.int .u32 (i1 : Int),.slice a1 n1 c1],.agg #[.int .u32 (i2 : Int),.slice a2 n2 c2]] w fun e w' => e = .returned (.bool (decide ((i1,A) = (i2,B)))) ∧ Fr Nobody w w' := by
 have HF : Hid (Fr Nobody w ((w.alloc (.cells #[.int .u32 (i1 : Int),.slice a1 n1 c1] 60)).alloc (.cells #[.int .u32 (i2 : Int),.slice a2 n2 c2] 60))) := ((Fr.refl _ _).alloc _).alloc _
 have HS : Hid (Calls _ _ _ _ _) := eqCs_r _ a1 a2 n1 n2 c1 c2 A B (h1.quiet HF.out) (h2.quiet HF.out) hn1 hn2 hm1 hm2
 by_cases hi : i1 = i2
 ·have HD : Hid (decide ((i1,A) = (i2,B)) = decide (A = B)) := by show _ = _; simp [hi]
  have hii : ((i1 : Int) == (i2 : Int)) = true := by simp [hi]
  generalize decide (A = B) = r at *
  clear h1 h2 hn1 hn2 hi
  go_enter Tryz.func56,Tryz.ntmps56
  go_wp2_with fail
  refine HS.out.mono ?_
  rintro e w1 ⟨rfl,hf⟩
  have H1 : Hid (Fr Nobody w w1) := HF.out.trans hf
  clear hf HS
  go_wp2
  go_ret
  exact ⟨by rw [HD.out]; rfl,H1.out⟩
 ·have HD : Hid (decide ((i1,A) = (i2,B)) = false) := by show _ = _; simp [hi]
  have hii : ((i1 : Int) == (i2 : Int)) = false := by simp; omega
  clear h1 h2 hn1 hn2 hi HS
  go_enter Tryz.func56,Tryz.ntmps56
  go_wp2
  go_ret
  exact ⟨by rw [HD.out]; rfl,HF.out⟩
theorem Own.dropA {w0 w : World} {A l : List Thing} (h : Own w0 w (A ++ l)) : Own w0 w l := by
 induction A with
 | nil => exact h
 | cons a t ih => exact ih h.tail
theorem step_cs {w0 w : World} {l : List Thing} {ops : Array Oper} {o : Oper} {a : Act} {K : Act → World → Prop} {Q : Exit → Act → World → Prop} {E : Prop} (hgd : o.guard = none) (sx x : Operand)
  (ho : o.op = .call { callee := .builtin .append,args := #[sx,x],argTypes := #[58,58] })
  (i : TypeInfo) (hi : Tryz.prog.info? 63 = some i) (z : Value) (hz : i.zero = some z) (hsize : i.size = 4) (hby : i.bytes = 16) (hzs : z.cells.size = 4)
  (v : Value) (n : Nat) (xs : List Value) (hs : a.eval sx = v) (xa : Option Addr) (m xc : Nat) (C : List Cp) (hx : a.eval x = .slice xa m xc) (hC : C.length = m) (hc : Cs w xa C) (hown : Own w0 w (Row 63 4 v n xs :: l))
  (h63 : n + m ≤ maxLen) (hbytes : (n + m) * 16 ≤ 140737488355328)
  (h : ∀ ao cap w',Own w0 w' (Row 63 4 (.slice ao (n + m) cap) (n + m) (xs ++ ccat C) :: l) → K (a.put o.dst (.slice ao (n + m) cap)) w') :
  if Region.wanted o (yielded ops a.tmps) = true then Oper.wp Tryz.prog o a w K Q else E := by
 have hw : Region.wanted o (yielded ops a.tmps) = true := by simp [Region.wanted,hgd]
 rw [if_pos hw]
 rcases Nat.eq_zero_or_pos m with h0 | h0
 ·subst h0
  have hy : C = [] := List.eq_nil_of_length_eq_zero hC
  subst hy
  obtain ⟨va,vc,rfl⟩ := row_any hown.row
  have hr := run_append_empty (P := Tryz.prog) w 0 58 o.type 63 i 4 Tryz.underlying58 hi _ n xs hown.row xa xc
  unfold Oper.wp
  simp [execOp,ho,resolve,invoke,builtin,hs,hx,hr,Result.andThen]
  have := h va vc w (by simpa [ccat,cat] using hown)
  simp at this
  exact this
 ·rcases hc with hc | ⟨g,o',rfl,hc⟩
  ·subst hc; simp at hC; omega
  refine wp_append_lies w sx x 58 ho 0 63 i z 4 16 Tryz.underlying58 hi hz hsize hby hzs (by decide) v n xs hs hown.row ⟨g,o',none⟩ m xc (ccat C) hx (by rw [length_ccat,hC]) (Cs.cells hc) (one_cat Cp.cs cs_one C) h0 h63 hbytes (Nat.zero_le _) _ rfl ?_
  intro g' cap' w' h2 h3 h4 h5
  refine h _ _ w' (hown.grow h2 h3 (fun k hk => ?_))
  have hk' : g' = k := by simpa [Value.ownBlock] using hk
  subst hk'
  rcases h4 with h4 | h4
  ·exact .inl h4
  ·exact .inr (by omega)
theorem rtwins_any (w0 w : World) (l : List Thing) (h : Own w0 w l) (ae : Option Addr) (n ce : Nat) (L : List EnE) (hQ : ∀ w',Own w0 w' l → EntsAt w' ae L) (hn : L.length = n) (hz : esz L ≤ 1000000) :
  Calls Tryz.prog 11 #[.slice ae n ce] w fun e w' => ∃ (ao : Option Addr) (cap : Nat),e = .returned (.slice ao n cap) ∧ ∃ M : List EnE,M.length = n ∧ evs M = evs L ∧ Own w0 w' (EntsT ao cap M :: l) := by
 obtain ⟨i0,hi,hz0,hz1,hz2⟩ := info3w Tryz.infoEnt
 obtain ⟨i1,hi1,hy0,hy1,hy2⟩ := info_parts Tryz.infoComp
 have HN : Hid (L.length = n) := hn
 have HQ : Hid (∀ w',Own w0 w' l → EntsAt w' ae L) := hQ
 have HC : Hid (∀ x ∈ L,x.C.length ≤ 1000000) := fun x hx => by have := csz_mem hx; unfold esz at hz; omega
 have hl : n ≤ 1000000 := by unfold esz at hz; omega
 have H : Hid (Own w0 w l) := h
 clear h hn hQ hz
 go_enter Tryz.func11,Tryz.ntmps11
 go_wp2
 go_loopw [3,8] (fun vo vi wr => ∃ (j : Nat) (M : List EnE) (ao : Option Addr) (cap : Nat),j ≤ n ∧ vi = .int .i64 (j : Int) ∧ vo = .slice ao j cap ∧ M.length = j ∧ evs M = evs (L.take j) ∧ Own w0 wr (Row 60 2 (.slice ao j cap) j (cat EnE.cs M) :: (M.map erow ++ l))) (fun _ vi _ => n - (intOf vi).toNat)
 case atStart => exact ⟨0,[],none,0,Nat.zero_le _,rfl,rfl,rfl,rfl,H.out.nilRow _ _⟩
 case round =>
  obtain ⟨j,M,ao,cap,hj,rfl,rfl,hMl,hM,hO⟩ := hrel
  have HM : Hid (M.length = j ∧ evs M = evs (L.take j)) := ⟨hMl,hM⟩
  clear H hMl hM
  by_cases hlt : j < n
  ·have hlt' : (j : Int) < (n : Int) := by omega
   obtain ⟨x,hx⟩ : ∃ x,L[j]? = some x := ⟨_,List.getElem?_eq_getElem (by rw [HN.out]; exact hlt)⟩
   obtain ⟨g,o,hg,c0,c1,hcs⟩ := (HQ.out wr hO.tail.dropA).at hx
   have hcl := HC.out x (List.mem_of_getElem? hx)
   have hB := hO.allocC #[.int .u32 (x.id : Int),.slice x.ao x.C.length x.cap] 60
   have HTW : Hid (Calls _ _ _ _ _) := twin_any w0 _ _ hB.drew x.ao x.C.length x.cap x.C rfl (hcs.quiet ((Fr.refl _ _).alloc _).drew) hcl
   have HM2 : Hid (∀ a c,evs (M ++ [EnE.mk x.id a c x.C]) = evs (L.take (j + 1))) := by
    intro a c
    have e := HM.out.2
    unfold evs at e ⊢
    rw [List.map_append,e,List.take_add_one,hx]
    simp
   subst hg
   obtain ⟨xi,xa,xc,C⟩ := x
   simp only at c0 c1 HTW HM2
   have HB : Hid (Own w0 _ _) := hB
   generalize hcl2 : C.length = cl at *
   have HCL : Hid (C.length = cl) := hcl2
   clear hO hB hx hcs hcl2
   go_wp2
   generalize hWg : wr.alloc (.cells #[.int .u32 (xi : Int),.slice xa cl xc] 60) = W1 at *
   generalize wr.heap.size = b5 at *
   clear hWg c0 c1
   have p0 := HB.out.cell 0
   have p1 := HB.out.cell 1
   simp at p0 p1
   go_region_held3 (fun w' => w'.cell? ⟨b5,0,none⟩ = some (.int .u32 (xi : Int)) ∧ w'.cell? ⟨b5,1,none⟩ = some (.slice xa cl xc)) (go_keep)
    (first
      | (go_at_call 36; refine HTW.out.mono ?_; rintro e w5 ⟨a5,c5,rfl,h5⟩
         have u0 := h5.two.cell 0
         have u1 := h5.two.cell 1
         simp at u0 u1
         have h5b := h5.three.alloc (.cells #[.int .u32 (xi : Int),.slice a5 cl c5] 60)
         have h5c := (h5.litRow #[.int .u32 (xi : Int),.slice a5 cl c5] 60 2 1 (by decide) rfl).row
         have v0 := h5b.three.cell 0
         have v1 := h5b.three.cell 1
         simp at v0 v1
         have H5 : Hid (Own w0 _ _) := h5b
         have H5C : Hid (World.ownsRow _ _ _ _ _ _ _) := h5c
         clear h5 h5b h5c)
      | (refine step_allW rfl _ _ 23 rfl 60 i0 (.agg #[.int .u32 0,.slice none 0 0]) 2 32 Tryz.underlying23 hi hz0 hz1 hz2 rfl (by decide) _ _ _ rfl _ _ _ _ rfl H5.out H5C.out (by intro u hu; simp at hu; rcases hu with rfl | rfl <;> rfl) (by unfold maxLen; omega) (by omega) ?_
         intro g6 c6 w6 hO6
         have t0 := hO6.three.cell 0
         have t1 := hO6.three.cell 1
         simp at t0 t1
         have H6 : Hid (Own w0 w6 _) := hO6
         clear hO6))
   have H7 : Hid (Own w0 w6 (Row 60 2 (.slice g6 (j + 1) c6) (j + 1) (cat EnE.cs (M ++ [EnE.mk xi a5 c5 C])) :: ((M ++ [EnE.mk xi a5 c5 C]).map erow ++ l))) := by
    have e1 : cat EnE.cs (M ++ [EnE.mk xi a5 c5 C]) = cat EnE.cs M ++ [.int .u32 (xi : Int),.slice a5 cl c5] := by
     rw [cat_append]
     congr 1
     simp [cat,EnE.cs,HCL.out]
    have e2 : (M ++ [EnE.mk xi a5 c5 C]).map erow ++ l = M.map erow ++ (Row 63 4 (.slice a5 cl c5) cl (ccat C) :: l) := by
     simp [erow,HCL.out]
    show Own _ _ _
    rw [e1,e2]
    have h8 := H6.out.three.tail
    exact h8.perm (List.Perm.cons _ List.perm_middle.symm)
   clear H6 H5 H5C HTW HB u0 u1 v0 v1 t0 t1 p0 p1
   go_wp2
   go_roundw
   case rel => exact ⟨j + 1,M ++ [EnE.mk xi a5 c5 C],g6,c6,by omega,by go_num,rfl,by rw [List.length_append,HM.out.1]; rfl,HM2.out a5 c5,H7.out⟩
   case measure => simp [intOf]; omega
  ·have hlt' : ¬ (j : Int) < (n : Int) := by omega
   have hjn : j = n := by omega
   subst hjn
   have HF : Hid (evs M = evs L) := by
    have := HM.out.2
    rw [List.take_of_length_le (by rw [HN.out]; exact Nat.le_refl _)] at this
    exact this
   have HE : Hid (Own w0 wr (EntsT ao cap M :: l)) := by
    have h1 := hO
    rw [← HM.out.1] at h1
    exact Own.ents h1
   clear hO
   go_wp2
   go_ret
   exact ⟨ao,cap,rfl,M,HM.out.1,HF.out,HE.out⟩
theorem copy_any (w0 w : World) (l : List Thing) (h : Own w0 w l) (ae : Option Addr) (n ce : Nat) (L : List EnE) (hQ : ∀ w',Own w0 w' l → EntsAt w' ae L) (hn : L.length = n) (hz : esz L ≤ 1000000) :
  Calls Tryz.prog 63 #[.slice ae n ce] w fun e w' => ∃ (ao : Option Addr) (cap : Nat),e = .returned (.slice ao n cap) ∧ ∃ M : List EnE,M.length = n ∧ evs M = evs L ∧ Own w0 w' (EntsT ao cap M :: l) := by
 obtain ⟨i0,hi,hz0,hz1,hz2⟩ := info3w Tryz.infoEnt
 obtain ⟨i1,hi1,hy0,hy1,hy2⟩ := info_parts Tryz.infoComp
 have HN : Hid (L.length = n) := hn
 have HQ : Hid (∀ w',Own w0 w' l → EntsAt w' ae L) := hQ
 have HC : Hid (∀ x ∈ L,x.C.length ≤ 1000000) := fun x hx => by have := csz_mem hx; unfold esz at hz; omega
 have hl : n ≤ 1000000 := by unfold esz at hz; omega
 have H : Hid (Own w0 w l) := h
 clear h hn hQ hz
 go_enter Tryz.func63,Tryz.ntmps63
 go_wp2
 go_loopw [3,8] (fun vo vi wr => ∃ (j : Nat) (M : List EnE) (ao : Option Addr) (cap : Nat),j ≤ n ∧ vi = .int .i64 (j : Int) ∧ vo = .slice ao j cap ∧ M.length = j ∧ evs M = evs (L.take j) ∧ Own w0 wr (Row 60 2 (.slice ao j cap) j (cat EnE.cs M) :: (M.map erow ++ l))) (fun _ vi _ => n - (intOf vi).toNat)
 case atStart => exact ⟨0,[],none,0,Nat.zero_le _,rfl,rfl,rfl,rfl,H.out.nilRow _ _⟩
 case round =>
  obtain ⟨j,M,ao,cap,hj,rfl,rfl,hMl,hM,hO⟩ := hrel
  have HM : Hid (M.length = j ∧ evs M = evs (L.take j)) := ⟨hMl,hM⟩
  clear H hMl hM
  by_cases hlt : j < n
  ·have hlt' : (j : Int) < (n : Int) := by omega
   obtain ⟨x,hx⟩ : ∃ x,L[j]? = some x := ⟨_,List.getElem?_eq_getElem (by rw [HN.out]; exact hlt)⟩
   obtain ⟨g,o,hg,c0,c1,hcs⟩ := (HQ.out wr hO.tail.dropA).at hx
   have hcl := HC.out x (List.mem_of_getElem? hx)
   have hB := hO.allocC #[.int .u32 (x.id : Int),.slice x.ao x.C.length x.cap] 60
   have HTW : Hid (Cs (wr.alloc (.cells #[.int .u32 (x.id : Int),.slice x.ao x.C.length x.cap] 60)).drew x.ao x.C) := hcs.quiet ((Fr.refl _ _).alloc _).drew
   have HM2 : Hid (∀ a c,evs (M ++ [EnE.mk x.id a c x.C]) = evs (L.take (j + 1))) := by
    intro a c
    have e := HM.out.2
    unfold evs at e ⊢
    rw [List.map_append,e,List.take_add_one,hx]
    simp
   subst hg
   obtain ⟨xi,xa,xc,C⟩ := x
   simp only at c0 c1 HTW HM2
   have HB : Hid (Own w0 _ _) := hB
   generalize hcl2 : C.length = cl at *
   have HCL : Hid (C.length = cl) := hcl2
   clear hO hB hx hcs hcl2
   go_wp2
   generalize hWg : wr.alloc (.cells #[.int .u32 (xi : Int),.slice xa cl xc] 60) = W1 at *
   generalize wr.heap.size = b5 at *
   clear hWg c0 c1
   have p0 := HB.out.cell 0
   have p1 := HB.out.cell 1
   simp at p0 p1
   go_region_held3 (fun w' => w'.cell? ⟨b5,0,none⟩ = some (.int .u32 (xi : Int)) ∧ w'.cell? ⟨b5,1,none⟩ = some (.slice xa cl xc)) (go_keep)
    (first
      | (refine step_cs rfl _ _ rfl i1 hi1 _ hy0 hy1 hy2 rfl _ 0 [] rfl _ _ _ C rfl HCL.out HTW.out (HB.out.drew.nilRow _ _) (by unfold maxLen; omega) (by omega) ?_
         intro a5 c5 w5 h5r
         have h5 : Own w0 w5 (Row 63 4 (.slice a5 cl c5) cl (ccat C) :: Cells b5 #[.int .u32 (xi : Int),.slice xa cl xc] 60 :: Row 60 2 (.slice ao j cap) j (cat EnE.cs M) :: (M.map erow ++ l)) := by simpa using h5r
         clear h5r
         rw [Nat.zero_add]
         have u0 := h5.two.cell 0
         have u1 := h5.two.cell 1
         simp at u0 u1
         have h5b := h5.three.alloc (.cells #[.int .u32 (xi : Int),.slice a5 cl c5] 60)
         have h5c := (h5.litRow #[.int .u32 (xi : Int),.slice a5 cl c5] 60 2 1 (by decide) rfl).row
         have v0 := h5b.three.cell 0
         have v1 := h5b.three.cell 1
         simp at v0 v1
         have H5 : Hid (Own w0 _ _) := h5b
         have H5C : Hid (World.ownsRow _ _ _ _ _ _ _) := h5c
         clear h5 h5b h5c)
      | (refine step_allW rfl _ _ 23 rfl 60 i0 (.agg #[.int .u32 0,.slice none 0 0]) 2 32 Tryz.underlying23 hi hz0 hz1 hz2 rfl (by decide) _ _ _ rfl _ _ _ _ rfl H5.out H5C.out (by intro u hu; simp at hu; rcases hu with rfl | rfl <;> rfl) (by unfold maxLen; omega) (by omega) ?_
         intro g6 c6 w6 hO6
         have t0 := hO6.three.cell 0
         have t1 := hO6.three.cell 1
         simp at t0 t1
         have H6 : Hid (Own w0 w6 _) := hO6
         clear hO6))
   have H7 : Hid (Own w0 w6 (Row 60 2 (.slice g6 (j + 1) c6) (j + 1) (cat EnE.cs (M ++ [EnE.mk xi a5 c5 C])) :: ((M ++ [EnE.mk xi a5 c5 C]).map erow ++ l))) := by
    have e1 : cat EnE.cs (M ++ [EnE.mk xi a5 c5 C]) = cat EnE.cs M ++ [.int .u32 (xi : Int),.slice a5 cl c5] := by
     rw [cat_append]
     congr 1
     simp [cat,EnE.cs,HCL.out]
    have e2 : (M ++ [EnE.mk xi a5 c5 C]).map erow ++ l = M.map erow ++ (Row 63 4 (.slice a5 cl c5) cl (ccat C) :: l) := by
     simp [erow,HCL.out]
    show Own _ _ _
    rw [e1,e2]
    have h8 := H6.out.three.tail
    exact h8.perm (List.Perm.cons _ List.perm_middle.symm)
   clear H6 H5 H5C HTW HB u0 u1 v0 v1 t0 t1 p0 p1
   go_wp2
   go_roundw
   case rel => exact ⟨j + 1,M ++ [EnE.mk xi a5 c5 C],g6,c6,by omega,by go_num,rfl,by rw [List.length_append,HM.out.1]; rfl,HM2.out a5 c5,H7.out⟩
   case measure => simp [intOf]; omega
  ·have hlt' : ¬ (j : Int) < (n : Int) := by omega
   have hjn : j = n := by omega
   subst hjn
   have HF : Hid (evs M = evs L) := by
    have := HM.out.2
    rw [List.take_of_length_le (by rw [HN.out]; exact Nat.le_refl _)] at this
    exact this
   have HE : Hid (Own w0 wr (EntsT ao cap M :: l)) := by
    have h1 := hO
    rw [← HM.out.1] at h1
    exact Own.ents h1
   clear hO
   go_wp2
   go_ret
   exact ⟨ao,cap,rfl,M,HM.out.1,HF.out,HE.out⟩
end Go.Proofs.YtgifeckbflkkpaaGreatDoor
