/- The document's With: components with one more, or with another one of its kind. -/
import Derived.Test.YtogmdoiecpihdaaGreatDoorQw09
import Derived.Test.YtogmdoiecpihdaaGreatDoorQw01
import Derived.BigRegion
import Derived.BigQuiet
import Derived.Deep.QuietTactic
namespace Go.Proofs.YtogmdoiecpihdaaGreatDoor
open Go.RowKit Go.Maps
set_option linter.unusedVariables false
set_option maxHeartbeats 4000000
set_option maxRecDepth 100000
def insc (C : List Cp) (c : Cp) : List Cp := C.takeWhile (fun q => decide (q.k < c.k)) ++ c :: (C.dropWhile (fun q => decide (q.k < c.k))).filter (fun q => decide (q.k ≠ c.k))
def wstepU (c : Cp) (st : List Cp × Bool) (q : Cp) : List Cp × Bool :=
 let s1 := if st.2 = false ∧ c.k ≤ q.k then (st.1 ++ [c],true) else st
 if q.k ≠ c.k then (s1.1 ++ [q],s1.2) else s1
def wfold (c : Cp) (C : List Cp) : List Cp × Bool := C.foldl (wstepU c) ([],false)
theorem wfold_snoc (c : Cp) (C : List Cp) (q : Cp) : wfold c (C ++ [q]) = wstepU c (wfold c C) q := by simp [wfold]
theorem fold_done (c : Cp) (C out : List Cp) : C.foldl (wstepU c) (out,true) = (out ++ C.filter (fun q => decide (q.k ≠ c.k)),true) := by
 induction C generalizing out with
 | nil => simp
 | cons q t ih =>
  rw [List.foldl_cons]
  by_cases h : q.k = c.k
  ·have e : wstepU c (out,true) q = (out,true) := by simp [wstepU,h]
   rw [e,ih]; simp [h]
  ·have e : wstepU c (out,true) q = (out ++ [q],true) := by simp [wstepU,h]
   rw [e,ih]; simp [h]
theorem fold_not (c : Cp) (C out : List Cp) : C.foldl (wstepU c) (out,false) = if C.any (fun q => decide (c.k ≤ q.k)) then (out ++ insc C c,true) else (out ++ C,false) := by
 induction C generalizing out with
 | nil => simp
 | cons q t ih =>
  rw [List.foldl_cons]
  by_cases h : c.k ≤ q.k
  ·have hn : ¬ q.k < c.k := by omega
   by_cases h2 : q.k = c.k
   ·have e : wstepU c (out,false) q = (out ++ [c],true) := by simp [wstepU,h2]
    rw [e,fold_done]
    simp [insc,h2]
   ·have e : wstepU c (out,false) q = (out ++ [c] ++ [q],true) := by simp [wstepU,h,h2]
    rw [e,fold_done]
    simp [insc,h,h2,hn]
  ·have hn : q.k < c.k := by omega
   have e : wstepU c (out,false) q = (out ++ [q],false) := by simp [wstepU,h]; omega
   rw [e,ih]
   simp only [List.any_cons,decide_eq_false h,Bool.false_or]
   split
   ·simp [insc,hn]
   ·simp
theorem dw_nil {α : Type} {p : α → Bool} {C : List α} (h : ∀ q ∈ C,p q = true) : C.dropWhile p = [] := by
 induction C with
 | nil => rfl
 | cons q t ih => rw [List.dropWhile_cons,h q List.mem_cons_self]; exact ih (fun x hx => h x (List.mem_cons_of_mem _ hx))
theorem wfold_end (c : Cp) (C : List Cp) : (if (wfold c C).2 then (wfold c C).1 else (wfold c C).1 ++ [c]) = insc C c := by
 unfold wfold
 rw [fold_not]
 by_cases h : C.any (fun q => decide (c.k ≤ q.k)) = true
 ·rw [if_pos h]; simp
 ·rw [if_neg h]
  have hall : ∀ q ∈ C,decide (q.k < c.k) = true := by
   intro q hq
   rw [Bool.not_eq_true,List.any_eq_false] at h
   have := h q hq
   simp at this ⊢; omega
  simp only [List.nil_append]
  unfold insc
  have hd : C.dropWhile (fun q => decide (q.k < c.k)) = [] := dw_nil hall
  have ht := List.takeWhile_append_dropWhile (p := fun q : Cp => decide (q.k < c.k)) (l := C)
  rw [hd,List.append_nil] at ht
  rw [hd,ht]
  simp
theorem insc_set {C : List Cp} (h : C.Pairwise (fun x y => x.k < y.k)) (c : Cp) (hk : hasK C c.k = true) : insc C c = setc C c := by
 induction C with
 | nil => simp [hasK] at hk
 | cons q t ih =>
  obtain ⟨a1,a2⟩ := List.pairwise_cons.1 h
  by_cases h2 : q.k = c.k
  ·have e1 : insc (q :: t) c = c :: t := by
    unfold insc
    rw [List.takeWhile_cons,List.dropWhile_cons,decide_eq_false (by omega)]
    simp only [Bool.false_eq_true,if_false,List.nil_append,List.filter_cons,h2]
    simp only [ne_eq,not_true_eq_false,decide_false,Bool.false_eq_true,if_false]
    rw [List.filter_eq_self.2]
    intro x hx
    have := a1 x hx
    simp; omega
   have e2 : setc (q :: t) c = c :: t := by
    unfold setc
    rw [List.map_cons,if_pos h2]
    congr 1
    conv => rhs; rw [← List.map_id t]
    apply List.map_congr_left
    intro x hx
    have := a1 x hx
    rw [if_neg (by omega)]; rfl
   rw [e1,e2]
  ·rw [hasK_cons,decide_eq_false h2,Bool.false_or] at hk
   obtain ⟨x,hx,hxk⟩ := (hasK_iff _ _).1 hk
   have hlt : q.k < c.k := by have := a1 x hx; omega
   have e1 : insc (q :: t) c = q :: insc t c := by
    unfold insc
    rw [List.takeWhile_cons,List.dropWhile_cons,decide_eq_true hlt]
    simp
   rw [e1,ih a2 hk]
   unfold setc
   rw [List.map_cons,if_neg h2]
theorem ccat_snoc (C : List Cp) (q : Cp) : ccat (C ++ [q]) = ccat C ++ [.int .u8 (q.k : Int),.int .i32 q.a,.int .i32 q.b,.int .i32 q.c] := by
 unfold ccat; rw [cat_append]; rfl
theorem rwith_any (w0 w : World) (l : List Thing) (h : Own w0 w l) (ao : Option Addr) (len cap : Nat) (C : List Cp) (hCl : C.length = len) (hCs : ∀ w',Own w0 w' l → Cs w' ao C) (hCk : ∀ q ∈ C,q.k < 256) (hlen : len ≤ 100000) (c : Cp) (hck : c.k < 256) :
  Calls Tryz.prog 213 #[.slice ao len cap,c.ag] w fun e w' => ∃ ao' cap',e = .returned (.slice ao' (insc C c).length cap') ∧ Own w0 w' (Row 46 4 (.slice ao' (insc C c).length cap') (insc C c).length (ccat (insc C c)) :: l) := by
 obtain ⟨i0,hi,hz0,hz1,hz2⟩ := info_parts Tryz.infoComp
 have HCS : Hid (C.length = len ∧ (∀ w',Own w0 w' l → Cs w' ao C) ∧ ∀ q ∈ C,q.k < 256) := ⟨hCl,hCs,hCk⟩
 obtain ⟨ck,ca,cb,cc⟩ := c
 show Calls _ _ #[_,.agg #[.int .u8 (ck : Int),.int .i32 ca,.int .i32 cb,.int .i32 cc]] _ _
 have H : Hid (Own w0 (w.alloc (.cells #[.int .u8 (ck : Int),.int .i32 ca,.int .i32 cb,.int .i32 cc] 46)) (Cells w.heap.size #[.int .u8 (ck : Int),.int .i32 ca,.int .i32 cb,.int .i32 cc] 46 :: l)) := by
  exact h.allocC _ _
 have HEND : Hid ((if (wfold ⟨ck,ca,cb,cc⟩ C).2 then (wfold ⟨ck,ca,cb,cc⟩ C).1 else (wfold ⟨ck,ca,cb,cc⟩ C).1 ++ [⟨ck,ca,cb,cc⟩]) = insc C ⟨ck,ca,cb,cc⟩) := wfold_end _ _
 simp only at hck
 clear h hCl hCs hCk
 go_enter Tryz.func213,Tryz.ntmps213
 go_wp2
 go_loopw [5,6,11] (fun v5 v6 v11 wr => ∃ j : Nat,j ≤ len ∧ v11 = .int .i64 j ∧ ∃ (S : List Cp) (d : Bool) (a1 : Option Addr) (c1 n : Nat),wfold ⟨ck,ca,cb,cc⟩ (C.take j) = (S,d) ∧ n = S.length ∧ n ≤ 2 * j ∧ v6 = .bool d ∧ v5 = .slice a1 n c1 ∧ Own w0 wr (Row 46 4 (.slice a1 n c1) n (ccat S) :: Cells w.heap.size #[.int .u8 (ck : Int),.int .i32 ca,.int .i32 cb,.int .i32 cc] 46 :: l)) (fun _ _ v11 _ => len - (intOf v11).toNat)
 case atStart => exact ⟨0,Nat.zero_le _,rfl,[],false,none,0,0,rfl,rfl,Nat.le_refl _,rfl,rfl,H.out.nilRow _ _⟩
 case round =>
  obtain ⟨j,hj,rfl,S,d,a1,c1,n,hS,hn,hnj,rfl,rfl,hO⟩ := hrel
  have HO : Hid (Own w0 wr (Row 46 4 (.slice a1 n c1) n (ccat S) :: Cells w.heap.size #[.int .u8 (ck : Int),.int .i32 ca,.int .i32 cb,.int .i32 cc] 46 :: l)) := hO
  have HS : Hid (wfold ⟨ck,ca,cb,cc⟩ (C.take j) = (S,d) ∧ n = S.length) := ⟨hS,hn⟩
  clear H hS hn
  by_cases hlt : j < len
  ·obtain ⟨q,hq⟩ : ∃ q,C[j]? = some q := ⟨_,List.getElem?_eq_getElem (by rw [HCS.out.1]; exact hlt)⟩
   obtain ⟨gg,o0,hao,_,y0,y1,y2,y3⟩ := (HCS.out.2.1 wr hO.tail.tail).at j q hq
   subst hao
   have hq8 := HCS.out.2.2 q (List.mem_of_getElem? hq)
   have HST : Hid (wfold ⟨ck,ca,cb,cc⟩ (C.take (j + 1)) = wstepU ⟨ck,ca,cb,cc⟩ (S,d) q) := by show _ = _; rw [take_snoc C j q hq,wfold_snoc,HS.out.1]
   have hlt' : (j : Int) < (len : Int) := by omega
   clear hq
   obtain ⟨qk,qa,qb,qc⟩ := q
   simp only at y0 y1 y2 y3 hq8
   have hA : Own w0 (wr.alloc (.cells #[.int .u8 (qk : Int),.int .i32 qa,.int .i32 qb,.int .i32 qc] 46)) (Cells wr.heap.size #[.int .u8 (qk : Int),.int .i32 qa,.int .i32 qb,.int .i32 qc] 46 :: Row 46 4 (.slice a1 n c1) n (ccat S) :: Cells w.heap.size #[.int .u8 (ck : Int),.int .i32 ca,.int .i32 cb,.int .i32 cc] 46 :: l) := hO.allocC _ _
   have HA : Hid (Own w0 (wr.alloc (.cells #[.int .u8 (qk : Int),.int .i32 qa,.int .i32 qb,.int .i32 qc] 46)) (Cells wr.heap.size #[.int .u8 (qk : Int),.int .i32 qa,.int .i32 qb,.int .i32 qc] 46 :: Row 46 4 (.slice a1 n c1) n (ccat S) :: Cells w.heap.size #[.int .u8 (ck : Int),.int .i32 ca,.int .i32 cb,.int .i32 cc] 46 :: l)) := hA
   have u0 := hO.two.cell 0
   have u1 := hO.two.cell 1
   have u2 := hO.two.cell 2
   have u3 := hO.two.cell 3
   have t0 := hA.cell 0
   have t1 := hA.cell 1
   have t2 := hA.cell 2
   have t3 := hA.cell 3
   simp at u0 u1 u2 u3 t0 t1 t2 t3
   have hBD : w.heap.size < wr.heap.size := hO.two.lt
   clear hA hO HO
   cases d with
   | false =>
    by_cases hle : ck ≤ qk
    ·have hle' : (ck : Int) ≤ (qk : Int) := by omega
     by_cases heq : qk = ck
     ·have HST2 : Hid (wfold ⟨ck,ca,cb,cc⟩ (C.take (j + 1)) = (S ++ [⟨ck,ca,cb,cc⟩],true)) := by show _ = _; rw [HST.out]; simp [wstepU,heq]
      subst heq
      have hne : ((qk : Int) != (qk : Int)) = false := by simp
      go_wp2_with (at_builtin; refine append1_own rfl _ _ 39 rfl 46 i0 _ 4 16 Tryz.underlying39 hi hz0 hz1 hz2 rfl (by decide) _ _ _ rfl HA.out.two _ #[.int .u8 (qk : Int),.int .i32 ca,.int .i32 cb,.int .i32 cc] (by simp) rfl rfl (by intro u hu; simp at hu; rcases hu with rfl | rfl | rfl | rfl <;> rfl) (by unfold maxLen; omega) (by omega) ?_)
      intro g4 c4 w4 hO4 hsz
      have v0 := hO4.two.cell 0
      have v1 := hO4.three.cell 0
      simp at v0 v1
      have H4 : Hid (Own w0 w4 (Row 46 4 (.slice (some ⟨g4,0,none⟩) (n + 1) c4) (n + 1) (ccat (S ++ [⟨qk,ca,cb,cc⟩])) :: Cells w.heap.size #[.int .u8 (qk : Int),.int .i32 ca,.int .i32 cb,.int .i32 cc] 46 :: l)) := by show Own _ _ _; rw [ccat_snoc]; exact hO4.two.tail
      clear hO4 hsz u0 u1 u2 u3 t0 t1 t2 t3 y0 y1 y2 y3
      go_wp2
      go_roundw
      case rel => exact ⟨j + 1,by omega,by go_num,_,true,_,_,n + 1,HST2.out,by rw [List.length_append,← HS.out.2]; rfl,by omega,rfl,rfl,H4.out⟩
      case measure => simp [intOf]; omega
     ·have hne : ((qk : Int) != (ck : Int)) = true := by simp; omega
      have HST2 : Hid (wfold ⟨ck,ca,cb,cc⟩ (C.take (j + 1)) = (S ++ [⟨ck,ca,cb,cc⟩] ++ [⟨qk,qa,qb,qc⟩],true)) := by show _ = _; rw [HST.out]; simp [wstepU,hle,heq]
      go_wp2_with (at_builtin; refine append1_own rfl _ _ 39 rfl 46 i0 _ 4 16 Tryz.underlying39 hi hz0 hz1 hz2 rfl (by decide) _ _ _ rfl HA.out.two _ #[.int .u8 (ck : Int),.int .i32 ca,.int .i32 cb,.int .i32 cc] (by simp) rfl rfl (by intro u hu; simp at hu; rcases hu with rfl | rfl | rfl | rfl <;> rfl) (by unfold maxLen; omega) (by omega) ?_)
      intro g4 c4 w4 hO4 hsz
      have v0 := hO4.two.cell 0
      have v1 := hO4.three.cell 0
      have x1 := hO4.two.cell 1
      have x2 := hO4.two.cell 2
      have x3 := hO4.two.cell 3
      simp at v0 v1 x1 x2 x3
      have H4 : Hid (Own w0 w4 (Row 46 4 (.slice (some ⟨g4,0,none⟩) (n + 1) c4) (n + 1) (ccat (S ++ [⟨ck,ca,cb,cc⟩])) :: Cells w.heap.size #[.int .u8 (ck : Int),.int .i32 ca,.int .i32 cb,.int .i32 cc] 46 :: l)) := by show Own _ _ _; rw [ccat_snoc]; exact hO4.two.tail
      clear hO4 hsz u0 u1 u2 u3 t0 t1 t2 t3 y0 y1 y2 y3
      go_wp2_with (at_builtin; refine append1_own rfl _ _ 39 rfl 46 i0 _ 4 16 Tryz.underlying39 hi hz0 hz1 hz2 rfl (by decide) _ _ _ rfl H4.out _ #[.int .u8 (qk : Int),.int .i32 qa,.int .i32 qb,.int .i32 qc] (by simp) rfl rfl (by intro u hu; simp at hu; rcases hu with rfl | rfl | rfl | rfl <;> rfl) (by unfold maxLen; omega) (by omega) ?_)
      intro g5 c5 w5 hO5 hsz
      have H5 : Hid (Own w0 w5 (Row 46 4 (.slice (some ⟨g5,0,none⟩) (n + 1 + 1) c5) (n + 1 + 1) (ccat (S ++ [⟨ck,ca,cb,cc⟩] ++ [⟨qk,qa,qb,qc⟩])) :: Cells w.heap.size #[.int .u8 (ck : Int),.int .i32 ca,.int .i32 cb,.int .i32 cc] 46 :: l)) := by show Own _ _ _; rw [ccat_snoc]; exact hO5
      clear hO5 hsz v0 v1 x1 x2 x3 H4
      go_wp2
      go_roundw
      case rel => exact ⟨j + 1,by omega,by go_num,_,true,_,_,n + 1 + 1,HST2.out,by rw [List.length_append,List.length_append,← HS.out.2]; rfl,by omega,rfl,rfl,H5.out⟩
      case measure => simp [intOf]; omega
    ·have hle' : ¬ (ck : Int) ≤ (qk : Int) := by omega
     have hne : ((qk : Int) != (ck : Int)) = true := by simp; omega
     have HST2 : Hid (wfold ⟨ck,ca,cb,cc⟩ (C.take (j + 1)) = (S ++ [⟨qk,qa,qb,qc⟩],false)) := by show _ = _; rw [HST.out]; simp [wstepU,hle]; omega
     go_wp2_with (at_builtin; refine append1_own rfl _ _ 39 rfl 46 i0 _ 4 16 Tryz.underlying39 hi hz0 hz1 hz2 rfl (by decide) _ _ _ rfl HA.out.two _ #[.int .u8 (qk : Int),.int .i32 qa,.int .i32 qb,.int .i32 qc] (by simp) rfl rfl (by intro u hu; simp at hu; rcases hu with rfl | rfl | rfl | rfl <;> rfl) (by unfold maxLen; omega) (by omega) ?_)
     intro g4 c4 w4 hO4 hsz
     have H4 : Hid (Own w0 w4 (Row 46 4 (.slice (some ⟨g4,0,none⟩) (n + 1) c4) (n + 1) (ccat (S ++ [⟨qk,qa,qb,qc⟩])) :: Cells w.heap.size #[.int .u8 (ck : Int),.int .i32 ca,.int .i32 cb,.int .i32 cc] 46 :: l)) := by show Own _ _ _; rw [ccat_snoc]; exact hO4.two.tail
     clear hO4 hsz u0 u1 u2 u3 t0 t1 t2 t3 y0 y1 y2 y3
     go_wp2
     go_roundw
     case rel => exact ⟨j + 1,by omega,by go_num,_,false,_,_,n + 1,HST2.out,by rw [List.length_append,← HS.out.2]; rfl,by omega,rfl,rfl,H4.out⟩
     case measure => simp [intOf]; omega
   | true =>
    by_cases heq : qk = ck
    ·have HST2 : Hid (wfold ⟨ck,ca,cb,cc⟩ (C.take (j + 1)) = (S,true)) := by show _ = _; rw [HST.out]; simp [wstepU,heq]
     subst heq
     have hne : ((qk : Int) != (qk : Int)) = false := by simp
     have H4 : Hid (Own w0 (wr.alloc (.cells #[.int .u8 (qk : Int),.int .i32 qa,.int .i32 qb,.int .i32 qc] 46)) (Row 46 4 (.slice a1 n c1) n (ccat S) :: Cells w.heap.size #[.int .u8 (qk : Int),.int .i32 ca,.int .i32 cb,.int .i32 cc] 46 :: l)) := HA.out.tail
     go_wp2
     go_roundw
     case rel => exact ⟨j + 1,by omega,by go_num,_,true,_,_,n,HST2.out,HS.out.2,by omega,rfl,rfl,H4.out⟩
     case measure => simp [intOf]; omega
    ·have hne : ((qk : Int) != (ck : Int)) = true := by simp; omega
     have HST2 : Hid (wfold ⟨ck,ca,cb,cc⟩ (C.take (j + 1)) = (S ++ [⟨qk,qa,qb,qc⟩],true)) := by show _ = _; rw [HST.out]; simp [wstepU,heq]
     go_wp2_with (at_builtin; refine append1_own rfl _ _ 39 rfl 46 i0 _ 4 16 Tryz.underlying39 hi hz0 hz1 hz2 rfl (by decide) _ _ _ rfl HA.out.two _ #[.int .u8 (qk : Int),.int .i32 qa,.int .i32 qb,.int .i32 qc] (by simp) rfl rfl (by intro u hu; simp at hu; rcases hu with rfl | rfl | rfl | rfl <;> rfl) (by unfold maxLen; omega) (by omega) ?_)
     intro g4 c4 w4 hO4 hsz
     have H4 : Hid (Own w0 w4 (Row 46 4 (.slice (some ⟨g4,0,none⟩) (n + 1) c4) (n + 1) (ccat (S ++ [⟨qk,qa,qb,qc⟩])) :: Cells w.heap.size #[.int .u8 (ck : Int),.int .i32 ca,.int .i32 cb,.int .i32 cc] 46 :: l)) := by show Own _ _ _; rw [ccat_snoc]; exact hO4.two.tail
     clear hO4 hsz u0 u1 u2 u3 t0 t1 t2 t3 y0 y1 y2 y3
     go_wp2
     go_roundw
     case rel => exact ⟨j + 1,by omega,by go_num,_,true,_,_,n + 1,HST2.out,by rw [List.length_append,← HS.out.2]; rfl,by omega,rfl,rfl,H4.out⟩
     case measure => simp [intOf]; omega
  ·have hlt' : ¬ (j : Int) < (len : Int) := by omega
   have hW : wfold ⟨ck,ca,cb,cc⟩ C = (S,d) := by rw [← HS.out.1,List.take_of_length_le (by rw [HCS.out.1]; omega)]
   have u0 := hO.two.cell 0
   have u1 := hO.two.cell 1
   have u2 := hO.two.cell 2
   have u3 := hO.two.cell 3
   simp at u0 u1 u2 u3
   cases d with
   | true =>
    have HE2 : Hid (S = insc C ⟨ck,ca,cb,cc⟩) := by have := HEND.out; rw [hW] at this; exact this
    clear hO hW
    go_wp2
    go_ret
    rw [← HE2.out,← HS.out.2]
    exact ⟨_,_,rfl,HO.out.two.tail⟩
   | false =>
    have HE2 : Hid (S ++ [⟨ck,ca,cb,cc⟩] = insc C ⟨ck,ca,cb,cc⟩) := by have := HEND.out; rw [hW] at this; exact this
    clear hO hW
    go_wp2_with (at_builtin; refine append1_own rfl _ _ 39 rfl 46 i0 _ 4 16 Tryz.underlying39 hi hz0 hz1 hz2 rfl (by decide) _ _ _ rfl HO.out _ #[.int .u8 (ck : Int),.int .i32 ca,.int .i32 cb,.int .i32 cc] (by simp) rfl rfl (by intro u hu; simp at hu; rcases hu with rfl | rfl | rfl | rfl <;> rfl) (by unfold maxLen; omega) (by omega) ?_)
    intro g4 c4 w4 hO4 hsz
    have H4 : Hid (Own w0 w4 (Row 46 4 (.slice (some ⟨g4,0,none⟩) (n + 1) c4) (n + 1) (ccat (S ++ [⟨ck,ca,cb,cc⟩])) :: l)) := by show Own _ _ _; rw [ccat_snoc]; exact hO4.two.tail
    clear hO4 hsz
    go_wp2
    go_ret
    rw [← HE2.out,List.length_append,← HS.out.2]
    exact ⟨_,_,rfl,H4.out⟩
structure St where
 n : Nat
 first : Nat
 last : List Nat
 used : List Bool
 freed : List Nat
 live : Nat
structure St.Ok (S : St) : Prop where
 n1 : 1 ≤ S.n
 n2 : S.n ≤ 1024
 f1 : 1 ≤ S.first
 f2 : S.first ≤ 4194303
 ul : S.used.length = S.last.length
 le : S.last.length ≤ S.n
 id : ∀ i x,S.last[i]? = some x → x % 1024 = i ∧ 1 ≤ x / 1024 ∧ x < 4294967296
 nodup : S.freed.Nodup
 fr : ∀ f ∈ S.freed,S.used[f]? = some false ∧ ∃ x,S.last[f]? = some x ∧ x / 1024 < 4194303
 cnt : S.freed.length + S.live ≤ S.last.length
 live : S.live = S.used.count true
def St.new (n first : Nat) : St := ⟨n,first,[],[],[],0⟩
theorem St.new_ok (n first : Nat) (h1 : 1 ≤ n) (h2 : n ≤ 1024) (h3 : 1 ≤ first) (h4 : first ≤ 4194303) : (St.new n first).Ok :=
 ⟨h1,h2,h3,h4,rfl,by simp [St.new],by simp [St.new],by simp [St.new],by simp [St.new],by simp [St.new],by simp [St.new]⟩
def St.again (S : St) (f : Nat) : St := { S with last := S.last.set f (S.last.getD f 0 + 1024),used := S.used.set f true,freed := S.freed.dropLast,live := S.live + 1 }
def St.more (S : St) : St := { S with last := S.last ++ [S.first * 1024 + S.last.length],used := S.used ++ [true],live := S.live + 1 }
def St.less (S : St) (id : Nat) : St := { S with used := S.used.set (id % 1024) false,live := S.live - 1,freed := if id / 1024 < 4194303 then S.freed ++ [id % 1024] else S.freed }
def St.isLive (S : St) (id : Nat) : Bool := S.used.getD (id % 1024) false && S.last.getD (id % 1024) 0 == id
def St.take (S : St) : Nat × Int × St :=
 match S.freed.getLast? with
 | some f => (S.last.getD f 0 + 1024,0,S.again f)
 | none => if S.last.length < S.n then (S.first * 1024 + S.last.length,0,S.more) else (0,8,S)
def St.free (S : St) (id : Nat) : Int × St := if S.isLive id then (0,S.less id) else (7,S)
def pick : List Nat → List Bool → List Nat
 | x :: l,u :: m => if u then x :: pick l m else pick l m
 | _,_ => []
def St.list (S : St) : List Nat := pick S.last S.used
def St.room (S : St) : Nat := S.freed.length + S.n - S.last.length
theorem length_pick (l : List Nat) (m : List Bool) (h : m.length = l.length) : (pick l m).length = m.count true := by
 induction l generalizing m with
 | nil => cases m with
  | nil => rfl
  | cons u m => simp at h
 | cons x l ih => cases m with
  | nil => simp at h
  | cons u m =>
   have := ih m (by simpa using h)
   cases u <;> simp [pick,this]
theorem pick_snoc (l : List Nat) (m : List Bool) (h : m.length = l.length) (x : Nat) (u : Bool) : pick (l ++ [x]) (m ++ [u]) = pick l m ++ if u then [x] else [] := by
 induction l generalizing m with
 | nil => cases m with
  | nil => cases u <;> rfl
  | cons u m => simp at h
 | cons y l ih => cases m with
  | nil => simp at h
  | cons v m =>
   have := ih m (by simpa using h)
   cases v <;> simp [pick,this]
theorem count_set_true (l : List Bool) (i : Nat) (h : l[i]? = some false) : (l.set i true).count true = l.count true + 1 := by
 obtain ⟨hi,e⟩ := List.getElem?_eq_some_iff.1 h
 rw [List.count_set hi,e]; simp
theorem count_set_false (l : List Bool) (i : Nat) (h : l[i]? = some true) : (l.set i false).count true + 1 = l.count true := by
 obtain ⟨hi,e⟩ := List.getElem?_eq_some_iff.1 h
 have : 0 < l.count true := List.count_pos_iff.2 (List.mem_of_getElem? h)
 rw [List.count_set hi,e]; simp; omega
theorem St.Ok.getD {S : St} (h : S.Ok) {f x : Nat} (hx : S.last[f]? = some x) : S.last.getD f 0 = x := by rw [List.getD_eq_getElem?_getD,hx]; rfl
theorem St.Ok.lt {S : St} (h : S.Ok) {f : Nat} (hf : f ∈ S.freed) : f < S.last.length := by
 obtain ⟨h1,_⟩ := h.fr f hf
 rw [← h.ul]; exact (List.getElem?_eq_some_iff.1 h1).1
theorem dropLast_of (l : List Nat) (f : Nat) (h : l.getLast? = some f) : l = l.dropLast ++ [f] := by
 rw [List.getLast?_eq_some_iff] at h
 obtain ⟨ys,rfl⟩ := h
 simp
theorem St.again_ok {S : St} (h : S.Ok) {f : Nat} (hf : S.freed.getLast? = some f) : (S.again f).Ok := by
 have e := dropLast_of _ _ hf
 have hm : f ∈ S.freed := by rw [e]; simp
 obtain ⟨hu,x,hx,hg⟩ := h.fr f hm
 have hid := h.id f x hx
 have hgd := h.getD hx
 have hn := h.nodup
 rw [e,List.nodup_append] at hn
 have hlen : S.freed.length = S.freed.dropLast.length + 1 := by
  have := congrArg List.length e
  rw [List.length_append,List.length_singleton] at this; exact this
 have hlt := h.lt hm
 refine ⟨h.n1,h.n2,h.f1,h.f2,by simp [St.again,h.ul],by simp [St.again,h.le],?_,hn.1,?_,?_,?_⟩
 ·intro i y hy
  simp only [St.again] at hy
  rw [List.getElem?_set,hgd] at hy
  split at hy
  ·cases hy; omega
  ·exact h.id i y hy
 ·intro k hk
  have hkf : k ∈ S.freed := by rw [e]; exact List.mem_append_left _ hk
  have hne : f ≠ k := fun q => hn.2.2 k hk f (by simp) q.symm
  obtain ⟨a,y,b,c⟩ := h.fr k hkf
  exact ⟨by simp only [St.again]; rw [List.getElem?_set_ne hne]; exact a,y,by simp only [St.again]; rw [List.getElem?_set_ne hne]; exact b,c⟩
 ·have := h.cnt
  simp only [St.again,List.length_set]
  omega
 ·simp only [St.again]
  rw [count_set_true _ _ hu,h.live]
theorem St.more_ok {S : St} (h : S.Ok) (hf : S.freed = []) (hl : S.last.length < S.n) : S.more.Ok := by
 have h2 := h.n2
 have h3 := h.f1
 have h4 := h.f2
 refine ⟨h.n1,h.n2,h.f1,h.f2,by simp [St.more,h.ul],by simp [St.more]; omega,?_,by simp [St.more,hf],by simp [St.more,hf],?_,?_⟩
 ·intro i y hy
  simp only [St.more] at hy
  by_cases c : i < S.last.length
  ·rw [List.getElem?_append_left c] at hy; exact h.id i y hy
  ·rw [List.getElem?_append_right (by omega)] at hy
   have : i - S.last.length = 0 := by
    rcases Nat.eq_zero_or_pos (i - S.last.length) with z | z
    ·exact z
    ·rw [List.getElem?_eq_none (by simp; omega)] at hy; cases hy
   rw [this] at hy
   cases hy
   omega
 ·have := h.cnt
  simp [St.more,hf] at this ⊢
  omega
 ·simp [St.more,h.live]
theorem St.isLive_iff {S : St} (h : S.Ok) (id : Nat) : S.isLive id = true ↔ S.used[id % 1024]? = some true ∧ S.last[id % 1024]? = some id := by
 unfold St.isLive
 rw [List.getD_eq_getElem?_getD,List.getD_eq_getElem?_getD]
 constructor
 ·intro hh
  simp only [Bool.and_eq_true,beq_iff_eq] at hh
  obtain ⟨a,b⟩ := hh
  cases hu : S.used[id % 1024]? with
  | none => rw [hu] at a; cases a
  | some u =>
   rw [hu] at a
   have hlt : id % 1024 < S.last.length := by rw [← h.ul]; exact (List.getElem?_eq_some_iff.1 hu).1
   rw [List.getElem?_eq_getElem hlt] at b ⊢
   simp at a b
   exact ⟨by rw [a],by rw [b]⟩
 ·rintro ⟨a,b⟩
  rw [a,b]; simp
theorem St.less_ok {S : St} (h : S.Ok) {id : Nat} (hl : S.isLive id = true) : (S.less id).Ok := by
 obtain ⟨hu,hx⟩ := (S.isLive_iff h id).1 hl
 have hid := h.id _ _ hx
 have hc := count_set_false _ _ hu
 have hlv := h.live
 have hcnt := h.cnt
 have hnf : id % 1024 ∉ S.freed := by
  intro hm
  have := (h.fr _ hm).1
  rw [hu] at this; cases this
 have hlt : id % 1024 < S.used.length := (List.getElem?_eq_some_iff.1 hu).1
 refine ⟨h.n1,h.n2,h.f1,h.f2,by simp [St.less,h.ul],h.le,h.id,?_,?_,?_,?_⟩
 ·simp only [St.less]
  split
  ·rw [List.nodup_append]
   refine ⟨h.nodup,by simp,?_⟩
   intro a ha b hb
   simp at hb
   rintro rfl
   rw [hb] at ha
   exact hnf ha
  ·exact h.nodup
 ·intro k hk
  have hold : k ∈ S.freed → (S.less id).used[k]? = some false ∧ ∃ x,(S.less id).last[k]? = some x ∧ x / 1024 < 4194303 := by
   intro hk
   have hne : id % 1024 ≠ k := fun q => hnf (q ▸ hk)
   obtain ⟨a,y,b,c⟩ := h.fr k hk
   exact ⟨by simp only [St.less]; rw [List.getElem?_set_ne hne]; exact a,y,b,c⟩
  simp only [St.less] at hk
  split at hk
  ·rename_i hg
   rcases List.mem_append.1 hk with hk | hk
   ·exact hold hk
   ·simp at hk
    subst hk
    exact ⟨by simp only [St.less]; rw [List.getElem?_set_self hlt],id,hx,hg⟩
  ·exact hold hk
 ·simp only [St.less]
  split
  ·rw [List.length_append,List.length_singleton]; omega
  ·omega
 ·simp only [St.less]; omega
theorem St.take_ok {S : St} (h : S.Ok) : S.take.2.2.Ok := by
 unfold St.take
 split
 ·rename_i f hf; exact St.again_ok h hf
 ·rename_i hf
  have hf' : S.freed = [] := List.getLast?_eq_none_iff.1 hf
  split
  ·rename_i hl; exact St.more_ok h hf' hl
  ·exact h
theorem St.free_ok {S : St} (h : S.Ok) (id : Nat) : (S.free id).2.Ok := by
 unfold St.free
 split
 ·rename_i hl; exact St.less_ok h hl
 ·exact h
theorem St.take_n (S : St) : S.take.2.2.n = S.n ∧ S.take.2.2.first = S.first := by
 unfold St.take
 split
 ·exact ⟨rfl,rfl⟩
 ·split <;> exact ⟨rfl,rfl⟩
theorem St.list_length {S : St} (h : S.Ok) : S.list.length = S.live := by rw [St.list,length_pick _ _ h.ul,h.live]
end Go.Proofs.YtogmdoiecpihdaaGreatDoor
namespace Go.Proofs.YtogmdoiecpihdaaGreatDoor
open Go.RowKit
set_option linter.unusedVariables false
set_option maxHeartbeats 4000000
theorem Tryz.infoID : (Tryz.prog.info? 38).map (fun i => (i.zero,i.size,i.bytes)) = some (some (.int .u32 0),1,4) := by kernel_rfl
theorem Tryz.infoInt : (Tryz.prog.info? 3).map (fun i => (i.zero,i.size,i.bytes)) = some (some (.int .i64 0),1,8) := by kernel_rfl
theorem Tryz.infoBool : (Tryz.prog.info? 4).map (fun i => (i.zero,i.size,i.bytes)) = some (some (.bool false),1,1) := by kernel_rfl
def Slots (b : Nat) (S : St) : Thing := Ex (fun v : Value × Value × Value =>
 [Cells b #[.int .i64 (S.n : Int),.int .i64 (S.first : Int),v.1,v.2.1,v.2.2,.int .i64 (S.live : Int)] 236,
  Row 38 1 v.1 S.last.length (irow .u32 S.last),Row 4 1 v.2.1 S.used.length (brow S.used),Row 3 1 v.2.2 S.freed.length (irow .i64 S.freed)])
theorem slot_any (id : Nat) (w : World) (h : id < 4294967296) : Calls Tryz.prog 126 #[.int .u32 (id : Int)] w fun e w' => e = .returned (.int .i64 ((id % 1024 : Nat) : Int)) ∧ w' = w := by
 go_enter Tryz.func126,Tryz.ntmps126
 go_wp2
 go_ret
 exact ⟨ret_int (by omega),rfl⟩
theorem gen_any (id : Nat) (w : World) (h : id < 4294967296) : Calls Tryz.prog 127 #[.int .u32 (id : Int)] w fun e w' => e = .returned (.int .i64 ((id / 1024 : Nat) : Int)) ∧ w' = w := by
 go_enter Tryz.func127,Tryz.ntmps127
 go_wp2
 go_ret
 exact ⟨ret_int (by omega),rfl⟩
theorem isGen_yes (g : Int) (w : World) (h1 : 1 ≤ g) (h2 : g ≤ 4194303) : Calls Tryz.prog 143 #[.int .i64 g] w fun e w' => e = .returned (.bool true) ∧ w' = w := by
 go_enter Tryz.func143,Tryz.ntmps143
 go_wp2
 go_ret
 exact ⟨rfl,rfl⟩
theorem isGen_no (g : Int) (w : World) (h : g < 1 ∨ 4194303 < g) : Calls Tryz.prog 143 #[.int .i64 g] w fun e w' => e = .returned (.bool false) ∧ w' = w := by
 rcases h with h | h
 ·go_enter Tryz.func143,Tryz.ntmps143
  go_wp2
  go_ret
  exact ⟨rfl,rfl⟩
 ·have h1 : 1 ≤ g := by omega
  have hd : decide (g ≤ 4194303) = false := by simp; omega
  go_enter Tryz.func143,Tryz.ntmps143
  go_wp2
  go_ret
  exact ⟨rfl,rfl⟩
theorem number_any (s g : Nat) (w : World) (h1 : s < 1024) (h2 : g ≤ 4194303) : Calls Tryz.prog 176 #[.int .i64 (s : Int),.int .i64 (g : Int)] w fun e w' => e = .returned (.int .u32 ((g * 1024 + s : Nat) : Int)) ∧ w' = w := by
 go_enter Tryz.func176,Tryz.ntmps176
 go_wp2
 go_ret
 exact ⟨ret_int (by omega),rfl⟩
theorem new_ok (w0 w : World) (l : List Thing) (n f : Nat) (h : Own w0 w l) (h1 : 1 ≤ n) (h2 : n ≤ 1024) (h3 : 1 ≤ f) (h4 : f ≤ 4194303) :
  Calls Tryz.prog 88 #[.int .i64 (n : Int),.int .i64 (f : Int)] w fun e w' => ∃ b,e = .returned (.tuple #[.pointer (some ⟨b,0,none⟩),.int .i64 0]) ∧ w.heap.size ≤ b ∧ Own w0 w' (Slots b (St.new n f) :: l) := by
 go_enter Tryz.func88,Tryz.ntmps88
 go_wp2_with (first | (go_at_call 143; refine (isGen_yes _ _ (by omega) (by omega)).mono ?_; rintro e w' ⟨rfl,rfl⟩))
 go_ret2
 refine ⟨_,rfl,Nat.le_refl _,Own.ex_iff.2 ⟨(.slice none 0 0,.slice none 0 0,.slice none 0 0),?_⟩⟩
 have k := ((((h.allocC #[.int .i64 (n : Int),.int .i64 (f : Int),.slice none 0 0,.slice none 0 0,.slice none 0 0,.int .i64 0] 236).nilRow 3 1).nilRow 4 1).nilRow 38 1)
 exact k.four
theorem new_no (w : World) (n f : Int) (h : n < 1 ∨ 1024 < n ∨ f < 1 ∨ 4194303 < f) : Calls Tryz.prog 88 #[.int .i64 n,.int .i64 f] w fun e w' => e = .returned (.tuple #[.pointer none,.int .i64 1]) ∧ w' = w := by
 by_cases c1 : n < 1
 ·go_enter Tryz.func88,Tryz.ntmps88
  go_wp2
  go_ret2
  exact ⟨rfl,rfl⟩
 ·by_cases c2 : 1024 < n
  ·go_enter Tryz.func88,Tryz.ntmps88
   go_wp2
   go_ret2
   exact ⟨rfl,rfl⟩
  ·go_enter Tryz.func88,Tryz.ntmps88
   go_wp2_with (first | (go_at_call 143; refine (isGen_no _ _ (by omega)).mono ?_; rintro e w' ⟨rfl,rfl⟩))
   go_ret2
   exact ⟨rfl,rfl⟩
set_option maxRecDepth 100000 in
theorem again0 (w : World) (b g1 g2 g3 n1 n2 k c1 c2 c3 f x : Nat) (lv : Int) (hx : x + 1024 < 4294967296) (hf1 : f < n1) (hf2 : f < n2) (hl0 : 0 ≤ lv) (hl1 : lv ≤ 1024) (hk : k ≤ 1024) (hkc : k ≤ c3)
  (q2 : w.cell? ⟨b,2,none⟩ = some (.slice (some ⟨g1,0,none⟩) n1 c1)) (q3 : w.cell? ⟨b,3,none⟩ = some (.slice (some ⟨g2,0,none⟩) n2 c2)) (q4 : w.cell? ⟨b,4,none⟩ = some (.slice (some ⟨g3,0,none⟩) (k + 1) c3)) (q5 : w.cell? ⟨b,5,none⟩ = some (.int .i64 lv))
  (z4 : w.frozen? ⟨b,4,none⟩ = false) (z5 : w.frozen? ⟨b,5,none⟩ = false) (p3 : w.cell? ⟨g3,k,none⟩ = some (.int .i64 (f : Int))) (p1 : w.cell? ⟨g1,f,none⟩ = some (.int .u32 (x : Int))) (y1 : w.frozen? ⟨g1,f,none⟩ = false) (y2 : w.frozen? ⟨g2,f,none⟩ = false)
  (e1 : g1 ≠ b) (e2 : g2 ≠ b) (e3 : g3 ≠ b) (e12 : g1 ≠ g2) (p2 : ∃ u,w.cell? ⟨g2,f,none⟩ = some u) :
  Calls Tryz.prog 239 #[.pointer (some ⟨b,0,none⟩)] w fun e w' => e = .returned (.int .u32 ((x + 1024 : Nat) : Int)) ∧
   w' = (((w.setCell ⟨b,4,none⟩ (.slice (some ⟨g3,0,none⟩) k c3)).setCell ⟨g1,f,none⟩ (.int .u32 ((x + 1024 : Nat) : Int))).setCell ⟨g2,f,none⟩ (.bool true)).setCell ⟨b,5,none⟩ (.int .i64 (lv + 1)) := by
 obtain ⟨u2,p2⟩ := p2
 have hx' : ((x + 1024 : Nat) : Int) = (x : Int) + 1024 := by omega
 go_enter Tryz.func239,Tryz.ntmps239
 go_wp2
 go_ret
 exact ⟨ret_int (by omega),by rw [hx']⟩
set_option maxRecDepth 100000 in
theorem takeNew_ok (w0 w : World) (l : List Thing) (b : Nat) (S : St) (h : Own w0 w (Slots b S :: l)) (hS : S.Ok) (hl : S.last.length < S.n) :
  Calls Tryz.prog 240 #[.pointer (some ⟨b,0,none⟩)] w fun e w' => e = .returned (.int .u32 ((S.first * 1024 + S.last.length : Nat) : Int)) ∧ Own w0 w' (Slots b S.more :: l) := by
 obtain ⟨⟨v1,v2,v3⟩,h⟩ := Own.ex_iff.1 h
 obtain ⟨i0,hi,hz0,hz1,hz2⟩ := info_parts Tryz.infoID
 obtain ⟨i1,hi1,hz10,hz11,hz12⟩ := info_parts Tryz.infoBool
 have hn := hS.n2
 have hf := hS.f2
 have hlv : S.live ≤ 1024 := by have := hS.cnt; have := hS.le; omega
 have hul := hS.ul
 have q1 := h.cell 1
 have q2 := h.cell 2
 obtain ⟨a1,c1,rfl⟩ : ∃ a c,v1 = .slice a S.last.length c := by
  rcases h.two.row.2 with ⟨rfl,e⟩ | ⟨g,cap,cur,rfl,_⟩
  ·exact ⟨_,_,by rw [e]⟩
  ·exact ⟨_,_,rfl⟩
 have H : Hid (Own w0 w _) := h
 have HS : Hid S.Ok := hS
 clear h hS
 simp at q1 q2
 go_enter Tryz.func240,Tryz.ntmps240
 go_wp2
 go_quiet ((go_at_call 176; exact Calls.quiet_of_same (number_any S.last.length S.first _ (by omega) (by omega))))
 go_wp2_with (at_builtin; refine append1_own rfl _ _ 55 rfl 38 i0 (.int .u32 0) 1 4 Tryz.underlying55 hi hz0 hz1 hz2 rfl (by decide) _ _ _ rfl (H.out.drewN _).two _ _ (by simp) rfl rfl (one_int _ _) (by unfold maxLen; omega) (by omega) ?_)
 intro g1 c1' w1 hO hsz
 have q3 := hO.two.cell 3
 have k2 := hO.two.cell 2
 have z2 := hO.two.froz 2
 have H1 : Hid (Own w0 w1 _) := hO
 clear hO H q1 q2
 simp at q3 k2
 go_wp2_with (at_builtin; refine append1_own rfl _ _ 233 rfl 4 i1 (.bool false) 1 1 Tryz.underlying233 hi1 hz10 hz11 hz12 rfl (by decide) _ _ _ rfl (H1.out.two.setC 2 (.slice (some ⟨g1,0,none⟩) (S.last.length + 1) c1')).three _ _ (by simp) rfl rfl (one_bool _) (by unfold maxLen; omega) (by omega) ?_)
 intro g2 c2' w2 hO2 hsz2
 have k3 := hO2.two.cell 3
 have z3 := hO2.two.froz 3
 have z5 := hO2.two.froz 5
 have q5 := hO2.two.cell 5
 have H2 : Hid (Own w0 w2 _) := hO2
 clear hO2 H1 q3 k2
 simp at q5 k3
 go_wp2
 go_ret
 refine ⟨ret_int (by omega),Own.ex_iff.2 ⟨(.slice (some ⟨g1,0,none⟩) (S.last.length + 1) c1',.slice (some ⟨g2,0,none⟩) (S.last.length + 1) c2',v3),?_⟩⟩
 have k := ((H2.out.two.setC 3 (.slice (some ⟨g2,0,none⟩) (S.last.length + 1) c2')).setC 5 (.int .i64 ((S.live : Int) + 1))).in23
 have e1 : irow .u32 S.more.last = irow .u32 S.last ++ [.int .u32 ((S.first : Int) * 1024 + (S.last.length : Int))] := by simp [irow,St.more]
 have e2 : brow S.more.used = brow S.used ++ [.bool true] := by simp [brow,St.more]
 have e3 : S.more.last.length = S.last.length + 1 := by simp [St.more]
 have e4 : S.more.used.length = S.last.length + 1 := by simp [St.more,hul]
 have e5 : (S.more.live : Int) = (S.live : Int) + 1 := by simp [St.more]
 rw [e1,e2,e3,e4,e5]
 exact k
end Go.Proofs.YtogmdoiecpihdaaGreatDoor
