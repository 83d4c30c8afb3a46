/- The document's With: components with one more, or with another one of its kind. -/
import Derived.Test.YtogmdoiecpihdaaGreatDoorQs13
import Derived.Test.YtogmdoiecpihdaaGreatDoorQs21
import Derived.Test.YtogmdoiecpihdaaGreatDoorQs17
import Derived.Test.YtogmdoiecpihdaaGreatDoorQs07
namespace Go.Proofs.YtogmdoiecpihdaaGreatDoor
open Go.RowKit Go.Maps
set_option linter.unusedVariables false
set_option maxHeartbeats 4000000
set_option maxRecDepth 100000
def insc (C:List Cp) (c:Cp):List Cp:=C.takeWhile (fun q=>decide (q.k < c.k))++c::(C.dropWhile (fun q=>decide (q.k < c.k))).filter (fun q=>decide (q.k≠c.k))
def wstepU (c:Cp) (st:List Cp × Bool) (q:Cp):List Cp × Bool :=
 let s1:=if st.2=false∧c.k≤q.k then (st.1++[c],true) else st
 if q.k≠c.k then (s1.1++[q],s1.2) else s1
def wfold (c:Cp) (C:List Cp):List Cp × Bool:=C.foldl (wstepU c) ([],false)
theorem wfold_snoc (c:Cp) (C:List Cp) (q:Cp):wfold c (C++[q])=wstepU c (wfold c C) q:=by simp [wfold]
theorem fold_done (c:Cp) (C out:List Cp):C.foldl (wstepU c) (out,true)=(out++C.filter (fun q=>decide (q.k≠c.k)),true):=by
 induction C generalizing out with
 | nil=>simp
 | cons q t ih =>
  rw [List.foldl_cons]
  by_cases h:q.k=c.k
  ·have e:wstepU c (out,true) q=(out,true):=by simp [wstepU,h]
   rw [e,ih];simp [h]
  ·have e:wstepU c (out,true) q=(out++[q],true):=by simp [wstepU,h]
   rw [e,ih];simp [h]
theorem fold_not (c:Cp) (C out:List Cp):C.foldl (wstepU c) (out,false)=if C.any (fun q=>decide (c.k≤q.k)) then (out++insc C c,true) else (out++C,false):=by
 induction C generalizing out with
 | nil=>simp
 | cons q t ih =>
  rw [List.foldl_cons]
  by_cases h:c.k≤q.k
  ·have hn:¬ q.k < c.k:=by omega
   by_cases h2:q.k=c.k
   ·have e:wstepU c (out,false) q=(out++[c],true):=by simp [wstepU,h2]
    rw [e,fold_done]
    simp [insc,h2]
   ·have e:wstepU c (out,false) q=(out++[c]++[q],true):=by simp [wstepU,h,h2]
    rw [e,fold_done]
    simp [insc,h,h2,hn]
  ·have hn:q.k < c.k:=by omega
   have e:wstepU c (out,false) q=(out++[q],false):=by simp [wstepU,h];omega
   rw [e,ih]
   simp only [List.any_cons,decide_eq_false h,Bool.false_or]
   split
   ·simp [insc,hn]
   ·simp
theorem dw_nil {α:Type} {p:α→Bool} {C:List α} (h:∀ q∈C,p q=true):C.dropWhile p=[]:=by
 induction C with
 | nil=>rfl
 | cons q t ih=>rw [List.dropWhile_cons,h q List.mem_cons_self];exact ih (fun x hx=>h x (List.mem_cons_of_mem _ hx))
theorem wfold_end (c:Cp) (C:List Cp):(if (wfold c C).2 then (wfold c C).1 else (wfold c C).1++[c])=insc C c:=by
 unfold wfold
 rw [fold_not]
 by_cases h:C.any (fun q=>decide (c.k≤q.k))=true
 ·rw [if_pos h];simp
 ·rw [if_neg h]
  have hall:∀ q∈C,decide (q.k < c.k)=true:=by
   intro q hq
   rw [Bool.not_eq_true,List.any_eq_false] at h
   have:=h q hq
   simp at this ⊢;omega
  simp only [List.nil_append]
  unfold insc
  have hd:C.dropWhile (fun q=>decide (q.k < c.k))=[]:=dw_nil hall
  have ht:=List.takeWhile_append_dropWhile (p:=fun q:Cp=>decide (q.k < c.k)) (l:=C)
  rw [hd,List.append_nil] at ht
  rw [hd,ht]
  simp
theorem insc_set {C:List Cp} (h:C.Pairwise (fun x y=>x.k < y.k)) (c:Cp) (hk:hasK C c.k=true):insc C c=setc C c:=by
 induction C with
 | nil=>simp [hasK] at hk
 | cons q t ih =>
  obtain ⟨a1,a2⟩:=List.pairwise_cons.1 h
  by_cases h2:q.k=c.k
  ·have e1:insc (q::t) c=c::t:=by
    unfold insc
    rw [List.takeWhile_cons,List.dropWhile_cons,decide_eq_false (by omega)]
    simp only [Bool.false_eq_true,if_false,List.nil_append,List.filter_cons,h2]
    simp only [ne_eq,not_true_eq_false,decide_false,Bool.false_eq_true,if_false]
    rw [List.filter_eq_self.2]
    intro x hx
    have:=a1 x hx
    simp;omega
   have e2:setc (q::t) c=c::t:=by
    unfold setc
    rw [List.map_cons,if_pos h2]
    congr 1
    conv=>rhs;rw [← List.map_id t]
    apply List.map_congr_left
    intro x hx
    have:=a1 x hx
    rw [if_neg (by omega)];rfl
   rw [e1,e2]
  ·rw [hasK_cons,decide_eq_false h2,Bool.false_or] at hk
   obtain ⟨x,hx,hxk⟩:=(hasK_iff _ _).1 hk
   have hlt:q.k < c.k:=by have:=a1 x hx;omega
   have e1:insc (q::t) c=q::insc t c:=by
    unfold insc
    rw [List.takeWhile_cons,List.dropWhile_cons,decide_eq_true hlt]
    simp
   rw [e1,ih a2 hk]
   unfold setc
   rw [List.map_cons,if_neg h2]
theorem ccat_snoc (C:List Cp) (q:Cp):ccat (C++[q])=ccat C++[.int .u8 (q.k:Int),.int .i32 q.a,.int .i32 q.b,.int .i32 q.c]:=by
 unfold ccat;rw [cat_append];rfl
theorem rwith_any (w0 w:World) (l:List Thing) (h:Own w0 w l) (ao:Option Addr) (len cap:Nat) (C:List Cp) (hCl:C.length=len) (hCs:∀ w',Own w0 w' l→Cs w' ao C) (hCk:∀ q∈C,q.k < 256) (hlen:len≤100000) (c:Cp) (hck:c.k < 256) :
  Calls Tryz.prog 213 #[.slice ao len cap,c.ag] w fun e w'=>∃ ao' cap',e=.returned (.slice ao' (insc C c).length cap')∧Own w0 w' (Row 46 4 (.slice ao' (insc C c).length cap') (insc C c).length (ccat (insc C c))::l):=by
 obtain ⟨i0,hi,hz0,hz1,hz2⟩:=info_parts Tryz.infoComp
 have HCS:Hid (C.length=len∧(∀ w',Own w0 w' l→Cs w' ao C)∧∀ q∈C,q.k < 256):=⟨hCl,hCs,hCk⟩
 obtain ⟨ck,ca,cb,cc⟩:=c
 show Calls _ _ #[_,.agg #[.int .u8 (ck:Int),.int .i32 ca,.int .i32 cb,.int .i32 cc]] _ _
 have H:Hid (Own w0 (w.alloc (.cells #[.int .u8 (ck:Int),.int .i32 ca,.int .i32 cb,.int .i32 cc] 46)) (Cells w.heap.size #[.int .u8 (ck:Int),.int .i32 ca,.int .i32 cb,.int .i32 cc] 46::l)):=by
  exact h.allocC _ _
 have HEND:Hid ((if (wfold ⟨ck,ca,cb,cc⟩ C).2 then (wfold ⟨ck,ca,cb,cc⟩ C).1 else (wfold ⟨ck,ca,cb,cc⟩ C).1++[⟨ck,ca,cb,cc⟩])=insc C ⟨ck,ca,cb,cc⟩):=wfold_end _ _
 simp only at hck
 clear h hCl hCs hCk
 go_enter Tryz.func213,Tryz.ntmps213
 go_wp2
 go_loopw [5,6,11] (fun v5 v6 v11 wr=>∃ j:Nat,j≤len∧v11=.int .i64 j∧∃ (S:List Cp) (d:Bool) (a1:Option Addr) (c1 n:Nat),wfold ⟨ck,ca,cb,cc⟩ (C.take j)=(S,d)∧n=S.length∧n≤2*j∧v6=.bool d∧v5=.slice a1 n c1∧Own w0 wr (Row 46 4 (.slice a1 n c1) n (ccat S)::Cells w.heap.size #[.int .u8 (ck:Int),.int .i32 ca,.int .i32 cb,.int .i32 cc] 46::l)) (fun _ _ v11 _=>len - (intOf v11).toNat)
 case atStart=>exact ⟨0,Nat.zero_le _,rfl,[],false,none,0,0,rfl,rfl,Nat.le_refl _,rfl,rfl,H.out.nilRow _ _⟩
 case round =>
  obtain ⟨j,hj,rfl,S,d,a1,c1,n,hS,hn,hnj,rfl,rfl,hO⟩:=hrel
  have HO:Hid (Own w0 wr (Row 46 4 (.slice a1 n c1) n (ccat S)::Cells w.heap.size #[.int .u8 (ck:Int),.int .i32 ca,.int .i32 cb,.int .i32 cc] 46::l)):=hO
  have HS:Hid (wfold ⟨ck,ca,cb,cc⟩ (C.take j)=(S,d)∧n=S.length):=⟨hS,hn⟩
  clear H hS hn
  by_cases hlt:j < len
  ·obtain ⟨q,hq⟩:∃ q,C[j]? = some q:=⟨_,List.getElem?_eq_getElem (by rw [HCS.out.1];exact hlt)⟩
   obtain ⟨gg,o0,hao,_,y0,y1,y2,y3⟩:=(HCS.out.2.1 wr hO.tail.tail).at j q hq
   subst hao
   have hq8:=HCS.out.2.2 q (List.mem_of_getElem? hq)
   have HST:Hid (wfold ⟨ck,ca,cb,cc⟩ (C.take (j+1))=wstepU ⟨ck,ca,cb,cc⟩ (S,d) q):=by show _=_;rw [take_snoc C j q hq,wfold_snoc,HS.out.1]
   have hlt':(j:Int) < (len:Int):=by omega
   clear hq
   obtain ⟨qk,qa,qb,qc⟩:=q
   simp only at y0 y1 y2 y3 hq8
   have hA:Own w0 (wr.alloc (.cells #[.int .u8 (qk:Int),.int .i32 qa,.int .i32 qb,.int .i32 qc] 46)) (Cells wr.heap.size #[.int .u8 (qk:Int),.int .i32 qa,.int .i32 qb,.int .i32 qc] 46::Row 46 4 (.slice a1 n c1) n (ccat S)::Cells w.heap.size #[.int .u8 (ck:Int),.int .i32 ca,.int .i32 cb,.int .i32 cc] 46::l):=hO.allocC _ _
   have HA:Hid (Own w0 (wr.alloc (.cells #[.int .u8 (qk:Int),.int .i32 qa,.int .i32 qb,.int .i32 qc] 46)) (Cells wr.heap.size #[.int .u8 (qk:Int),.int .i32 qa,.int .i32 qb,.int .i32 qc] 46::Row 46 4 (.slice a1 n c1) n (ccat S)::Cells w.heap.size #[.int .u8 (ck:Int),.int .i32 ca,.int .i32 cb,.int .i32 cc] 46::l)):=hA
   have u0:=hO.two.cell 0
   have u1:=hO.two.cell 1
   have u2:=hO.two.cell 2
   have u3:=hO.two.cell 3
   have t0:=hA.cell 0
   have t1:=hA.cell 1
   have t2:=hA.cell 2
   have t3:=hA.cell 3
   simp at u0 u1 u2 u3 t0 t1 t2 t3
   have hBD:w.heap.size < wr.heap.size:=hO.two.lt
   clear hA hO HO
   cases d with
   | false =>
    by_cases hle:ck≤qk
    ·have hle':(ck:Int)≤(qk:Int):=by omega
     by_cases heq:qk=ck
     ·have HST2:Hid (wfold ⟨ck,ca,cb,cc⟩ (C.take (j+1))=(S++[⟨ck,ca,cb,cc⟩],true)):=by show _=_;rw [HST.out];simp [wstepU,heq]
      subst heq
      have hne:((qk:Int) != (qk:Int))=false:=by simp
      go_wp2_with (at_builtin;refine append1_own rfl _ _ 39 rfl 46 i0 _ 4 16 Tryz.underlying39 hi hz0 hz1 hz2 rfl (by decide) _ _ _ rfl HA.out.two _ #[.int .u8 (qk:Int),.int .i32 ca,.int .i32 cb,.int .i32 cc] (by simp) rfl rfl (by intro u hu;simp at hu;rcases hu with rfl | rfl | rfl | rfl <;> rfl) (by unfold maxLen;omega) (by omega) ?_)
      intro g4 c4 w4 hO4 hsz
      have v0:=hO4.two.cell 0
      have v1:=hO4.three.cell 0
      simp at v0 v1
      have H4:Hid (Own w0 w4 (Row 46 4 (.slice (some ⟨g4,0,none⟩) (n+1) c4) (n+1) (ccat (S++[⟨qk,ca,cb,cc⟩]))::Cells w.heap.size #[.int .u8 (qk:Int),.int .i32 ca,.int .i32 cb,.int .i32 cc] 46::l)):=by show Own _ _ _;rw [ccat_snoc];exact hO4.two.tail
      clear hO4 hsz u0 u1 u2 u3 t0 t1 t2 t3 y0 y1 y2 y3
      go_wp2
      go_roundw
      case rel=>exact ⟨j+1,by omega,by go_num,_,true,_,_,n+1,HST2.out,by rw [List.length_append,← HS.out.2];rfl,by omega,rfl,rfl,H4.out⟩
      case measure=>simp [intOf];omega
     ·have hne:((qk:Int) != (ck:Int))=true:=by simp;omega
      have HST2:Hid (wfold ⟨ck,ca,cb,cc⟩ (C.take (j+1))=(S++[⟨ck,ca,cb,cc⟩]++[⟨qk,qa,qb,qc⟩],true)):=by show _=_;rw [HST.out];simp [wstepU,hle,heq]
      go_wp2_with (at_builtin;refine append1_own rfl _ _ 39 rfl 46 i0 _ 4 16 Tryz.underlying39 hi hz0 hz1 hz2 rfl (by decide) _ _ _ rfl HA.out.two _ #[.int .u8 (ck:Int),.int .i32 ca,.int .i32 cb,.int .i32 cc] (by simp) rfl rfl (by intro u hu;simp at hu;rcases hu with rfl | rfl | rfl | rfl <;> rfl) (by unfold maxLen;omega) (by omega) ?_)
      intro g4 c4 w4 hO4 hsz
      have v0:=hO4.two.cell 0
      have v1:=hO4.three.cell 0
      have x1:=hO4.two.cell 1
      have x2:=hO4.two.cell 2
      have x3:=hO4.two.cell 3
      simp at v0 v1 x1 x2 x3
      have H4:Hid (Own w0 w4 (Row 46 4 (.slice (some ⟨g4,0,none⟩) (n+1) c4) (n+1) (ccat (S++[⟨ck,ca,cb,cc⟩]))::Cells w.heap.size #[.int .u8 (ck:Int),.int .i32 ca,.int .i32 cb,.int .i32 cc] 46::l)):=by show Own _ _ _;rw [ccat_snoc];exact hO4.two.tail
      clear hO4 hsz u0 u1 u2 u3 t0 t1 t2 t3 y0 y1 y2 y3
      go_wp2_with (at_builtin;refine append1_own rfl _ _ 39 rfl 46 i0 _ 4 16 Tryz.underlying39 hi hz0 hz1 hz2 rfl (by decide) _ _ _ rfl H4.out _ #[.int .u8 (qk:Int),.int .i32 qa,.int .i32 qb,.int .i32 qc] (by simp) rfl rfl (by intro u hu;simp at hu;rcases hu with rfl | rfl | rfl | rfl <;> rfl) (by unfold maxLen;omega) (by omega) ?_)
      intro g5 c5 w5 hO5 hsz
      have H5:Hid (Own w0 w5 (Row 46 4 (.slice (some ⟨g5,0,none⟩) (n+1+1) c5) (n+1+1) (ccat (S++[⟨ck,ca,cb,cc⟩]++[⟨qk,qa,qb,qc⟩]))::Cells w.heap.size #[.int .u8 (ck:Int),.int .i32 ca,.int .i32 cb,.int .i32 cc] 46::l)):=by show Own _ _ _;rw [ccat_snoc];exact hO5
      clear hO5 hsz v0 v1 x1 x2 x3 H4
      go_wp2
      go_roundw
      case rel=>exact ⟨j+1,by omega,by go_num,_,true,_,_,n+1+1,HST2.out,by rw [List.length_append,List.length_append,← HS.out.2];rfl,by omega,rfl,rfl,H5.out⟩
      case measure=>simp [intOf];omega
    ·have hle':¬ (ck:Int)≤(qk:Int):=by omega
     have hne:((qk:Int) != (ck:Int))=true:=by simp;omega
     have HST2:Hid (wfold ⟨ck,ca,cb,cc⟩ (C.take (j+1))=(S++[⟨qk,qa,qb,qc⟩],false)):=by show _=_;rw [HST.out];simp [wstepU,hle];omega
     go_wp2_with (at_builtin;refine append1_own rfl _ _ 39 rfl 46 i0 _ 4 16 Tryz.underlying39 hi hz0 hz1 hz2 rfl (by decide) _ _ _ rfl HA.out.two _ #[.int .u8 (qk:Int),.int .i32 qa,.int .i32 qb,.int .i32 qc] (by simp) rfl rfl (by intro u hu;simp at hu;rcases hu with rfl | rfl | rfl | rfl <;> rfl) (by unfold maxLen;omega) (by omega) ?_)
     intro g4 c4 w4 hO4 hsz
     have H4:Hid (Own w0 w4 (Row 46 4 (.slice (some ⟨g4,0,none⟩) (n+1) c4) (n+1) (ccat (S++[⟨qk,qa,qb,qc⟩]))::Cells w.heap.size #[.int .u8 (ck:Int),.int .i32 ca,.int .i32 cb,.int .i32 cc] 46::l)):=by show Own _ _ _;rw [ccat_snoc];exact hO4.two.tail
     clear hO4 hsz u0 u1 u2 u3 t0 t1 t2 t3 y0 y1 y2 y3
     go_wp2
     go_roundw
     case rel=>exact ⟨j+1,by omega,by go_num,_,false,_,_,n+1,HST2.out,by rw [List.length_append,← HS.out.2];rfl,by omega,rfl,rfl,H4.out⟩
     case measure=>simp [intOf];omega
   | true =>
    by_cases heq:qk=ck
    ·have HST2:Hid (wfold ⟨ck,ca,cb,cc⟩ (C.take (j+1))=(S,true)):=by show _=_;rw [HST.out];simp [wstepU,heq]
     subst heq
     have hne:((qk:Int) != (qk:Int))=false:=by simp
     have H4:Hid (Own w0 (wr.alloc (.cells #[.int .u8 (qk:Int),.int .i32 qa,.int .i32 qb,.int .i32 qc] 46)) (Row 46 4 (.slice a1 n c1) n (ccat S)::Cells w.heap.size #[.int .u8 (qk:Int),.int .i32 ca,.int .i32 cb,.int .i32 cc] 46::l)):=HA.out.tail
     go_wp2
     go_roundw
     case rel=>exact ⟨j+1,by omega,by go_num,_,true,_,_,n,HST2.out,HS.out.2,by omega,rfl,rfl,H4.out⟩
     case measure=>simp [intOf];omega
    ·have hne:((qk:Int) != (ck:Int))=true:=by simp;omega
     have HST2:Hid (wfold ⟨ck,ca,cb,cc⟩ (C.take (j+1))=(S++[⟨qk,qa,qb,qc⟩],true)):=by show _=_;rw [HST.out];simp [wstepU,heq]
     go_wp2_with (at_builtin;refine append1_own rfl _ _ 39 rfl 46 i0 _ 4 16 Tryz.underlying39 hi hz0 hz1 hz2 rfl (by decide) _ _ _ rfl HA.out.two _ #[.int .u8 (qk:Int),.int .i32 qa,.int .i32 qb,.int .i32 qc] (by simp) rfl rfl (by intro u hu;simp at hu;rcases hu with rfl | rfl | rfl | rfl <;> rfl) (by unfold maxLen;omega) (by omega) ?_)
     intro g4 c4 w4 hO4 hsz
     have H4:Hid (Own w0 w4 (Row 46 4 (.slice (some ⟨g4,0,none⟩) (n+1) c4) (n+1) (ccat (S++[⟨qk,qa,qb,qc⟩]))::Cells w.heap.size #[.int .u8 (ck:Int),.int .i32 ca,.int .i32 cb,.int .i32 cc] 46::l)):=by show Own _ _ _;rw [ccat_snoc];exact hO4.two.tail
     clear hO4 hsz u0 u1 u2 u3 t0 t1 t2 t3 y0 y1 y2 y3
     go_wp2
     go_roundw
     case rel=>exact ⟨j+1,by omega,by go_num,_,true,_,_,n+1,HST2.out,by rw [List.length_append,← HS.out.2];rfl,by omega,rfl,rfl,H4.out⟩
     case measure=>simp [intOf];omega
  ·have hlt':¬ (j:Int) < (len:Int):=by omega
   have hW:wfold ⟨ck,ca,cb,cc⟩ C=(S,d):=by rw [← HS.out.1,List.take_of_length_le (by rw [HCS.out.1];omega)]
   have u0:=hO.two.cell 0
   have u1:=hO.two.cell 1
   have u2:=hO.two.cell 2
   have u3:=hO.two.cell 3
   simp at u0 u1 u2 u3
   cases d with
   | true =>
    have HE2:Hid (S=insc C ⟨ck,ca,cb,cc⟩):=by have:=HEND.out;rw [hW] at this;exact this
    clear hO hW
    go_wp2
    go_ret
    rw [← HE2.out,← HS.out.2]
    exact ⟨_,_,rfl,HO.out.two.tail⟩
   | false =>
    have HE2:Hid (S++[⟨ck,ca,cb,cc⟩]=insc C ⟨ck,ca,cb,cc⟩):=by have:=HEND.out;rw [hW] at this;exact this
    clear hO hW
    go_wp2_with (at_builtin;refine append1_own rfl _ _ 39 rfl 46 i0 _ 4 16 Tryz.underlying39 hi hz0 hz1 hz2 rfl (by decide) _ _ _ rfl HO.out _ #[.int .u8 (ck:Int),.int .i32 ca,.int .i32 cb,.int .i32 cc] (by simp) rfl rfl (by intro u hu;simp at hu;rcases hu with rfl | rfl | rfl | rfl <;> rfl) (by unfold maxLen;omega) (by omega) ?_)
    intro g4 c4 w4 hO4 hsz
    have H4:Hid (Own w0 w4 (Row 46 4 (.slice (some ⟨g4,0,none⟩) (n+1) c4) (n+1) (ccat (S++[⟨ck,ca,cb,cc⟩]))::l)):=by show Own _ _ _;rw [ccat_snoc];exact hO4.two.tail
    clear hO4 hsz
    go_wp2
    go_ret
    rw [← HE2.out,List.length_append,← HS.out.2]
    exact ⟨_,_,rfl,H4.out⟩
theorem outk_snoc (C:List Cp) (q:Cp) (k:Nat):outk (C++[q]) k=outk C k++(if q.k=k then [] else [q]):=by
 unfold outk
 rw [List.filter_append,List.filter_cons]
 by_cases h:q.k=k <;> simp [h]
theorem rwithout_any (w0 w:World) (l:List Thing) (h:Own w0 w l) (ao:Option Addr) (len cap:Nat) (C:List Cp) (hCl:C.length=len) (hCs:∀ w',Own w0 w' l→Cs w' ao C) (hCk:∀ q∈C,q.k < 256) (hlen:len≤100000) (k:Nat) (hk:k < 256) :
  Calls Tryz.prog 214 #[.slice ao len cap,.int .u8 (k:Int)] w fun e w'=>∃ ao' cap',e=.returned (.slice ao' (outk C k).length cap')∧Own w0 w' (Row 46 4 (.slice ao' (outk C k).length cap') (outk C k).length (ccat (outk C k))::l):=by
 obtain ⟨i0,hi,hz0,hz1,hz2⟩:=info_parts Tryz.infoComp
 have HCS:Hid (C.length=len∧(∀ w',Own w0 w' l→Cs w' ao C)∧∀ q∈C,q.k < 256):=⟨hCl,hCs,hCk⟩
 have H:Hid (Own w0 w l):=h
 clear h hCl hCs hCk
 go_enter Tryz.func214,Tryz.ntmps214
 go_wp2
 go_loopw [5,10] (fun v5 v10 wr=>∃ j:Nat,j≤len∧v10=.int .i64 j∧∃ (S:List Cp) (a1:Option Addr) (c1 n:Nat),outk (C.take j) k=S∧n=S.length∧n≤j∧v5=.slice a1 n c1∧Own w0 wr (Row 46 4 (.slice a1 n c1) n (ccat S)::l)) (fun _ v10 _=>len - (intOf v10).toNat)
 case atStart=>exact ⟨0,Nat.zero_le _,rfl,[],none,0,0,rfl,rfl,Nat.le_refl _,rfl,H.out.nilRow _ _⟩
 case round =>
  obtain ⟨j,hj,rfl,S,a1,c1,n,hS,hn,hnj,rfl,hO⟩:=hrel
  have HO:Hid (Own w0 wr (Row 46 4 (.slice a1 n c1) n (ccat S)::l)):=hO
  have HS:Hid (outk (C.take j) k=S∧n=S.length):=⟨hS,hn⟩
  clear H hS hn
  by_cases hlt:j < len
  ·obtain ⟨q,hq⟩:∃ q,C[j]? = some q:=⟨_,List.getElem?_eq_getElem (by rw [HCS.out.1];exact hlt)⟩
   obtain ⟨gg,o0,hao,_,y0,y1,y2,y3⟩:=(HCS.out.2.1 wr hO.tail).at j q hq
   subst hao
   have hq8:=HCS.out.2.2 q (List.mem_of_getElem? hq)
   have HST:Hid (outk (C.take (j+1)) k=S++(if q.k=k then [] else [q])):=by show _=_;rw [take_snoc C j q hq,outk_snoc,HS.out.1]
   have hlt':(j:Int) < (len:Int):=by omega
   clear hq
   obtain ⟨qk,qa,qb,qc⟩:=q
   simp only at y0 y1 y2 y3 hq8 HST
   have hA:Own w0 (wr.alloc (.cells #[.int .u8 (qk:Int),.int .i32 qa,.int .i32 qb,.int .i32 qc] 46)) (Cells wr.heap.size #[.int .u8 (qk:Int),.int .i32 qa,.int .i32 qb,.int .i32 qc] 46::Row 46 4 (.slice a1 n c1) n (ccat S)::l):=hO.allocC _ _
   have HA:Hid (Own w0 (wr.alloc (.cells #[.int .u8 (qk:Int),.int .i32 qa,.int .i32 qb,.int .i32 qc] 46)) (Cells wr.heap.size #[.int .u8 (qk:Int),.int .i32 qa,.int .i32 qb,.int .i32 qc] 46::Row 46 4 (.slice a1 n c1) n (ccat S)::l)):=hA
   have t0:=hA.cell 0
   have t1:=hA.cell 1
   have t2:=hA.cell 2
   have t3:=hA.cell 3
   simp at t0 t1 t2 t3
   clear hA hO HO
   by_cases heq:qk=k
   ·rw [if_pos heq] at HST
    have hne:((qk:Int) != (k:Int))=false:=by simp [heq]
    clear heq
    go_wp2
    go_roundw
    case rel=>exact ⟨j+1,by omega,by go_num,S,_,_,n,by rw [HST.out];simp,HS.out.2,by omega,rfl,HA.out.tail⟩
    case measure=>simp [intOf];omega
   ·rw [if_neg heq] at HST
    have hne:((qk:Int) != (k:Int))=true:=by rw [bne_iff_ne];omega
    clear heq
    go_wp2_with (at_builtin;refine append1_own rfl _ _ 39 rfl 46 i0 _ 4 16 Tryz.underlying39 hi hz0 hz1 hz2 rfl (by decide) _ _ _ rfl HA.out.two _ #[.int .u8 (qk:Int),.int .i32 qa,.int .i32 qb,.int .i32 qc] (by simp) rfl rfl (by intro u hu;simp at hu;rcases hu with rfl | rfl | rfl | rfl <;> rfl) (by unfold maxLen;omega) (by omega) ?_)
    intro g4 c4 w4 hO4 hsz
    have H4:Hid (Own w0 w4 (Row 46 4 (.slice (some ⟨g4,0,none⟩) (n+1) c4) (n+1) (ccat (S++[⟨qk,qa,qb,qc⟩]))::l)):=by show Own _ _ _;rw [ccat_snoc];exact hO4.two.tail
    clear hO4 hsz t0 t1 t2 t3 y0 y1 y2 y3
    go_wp2
    go_roundw
    case rel=>exact ⟨j+1,by omega,by go_num,S++[⟨qk,qa,qb,qc⟩],_,_,n+1,HST.out,by rw [List.length_append,← HS.out.2];rfl,by omega,rfl,H4.out⟩
    case measure=>simp [intOf];omega
  ·have hjn:j=len:=by omega
   subst hjn
   have hlt':¬ (j:Int) < (j:Int):=by omega
   have HE:Hid (outk C k=S∧n=S.length):=by
    refine ⟨?_,HS.out.2⟩
    have:=HS.out.1
    rw [List.take_of_length_le (by rw [HCS.out.1];exact Nat.le_refl _)] at this
    exact this
   clear hO
   go_wp2
   go_ret
   refine ⟨a1,c1,?_,?_⟩
   ·rw [HE.out.1,← HE.out.2];rfl
   ·rw [HE.out.1,← HE.out.2];exact HO.out
def Fact (p:Prop):Thing:=⟨fun _ A=>p∧∀ k,¬ A k,fun h a=>(h.2 _ a).elim,fun h _ _=>h⟩
theorem Own.fact {w0 w:World} {p:Prop} {l:List Thing}:Own w0 w (Fact p::l) ↔ p∧Own w0 w l:=by
 constructor
 ·intro h
  refine ⟨?_,h.tail⟩
  obtain ⟨A,⟨B,C,hB,_⟩,_⟩:=h
  exact hB.1
 ·rintro ⟨hp,h⟩
  exact h.new (Fact p) (fun _=>False) ⟨hp,fun _ h=>h⟩ (Fr.refl _ _) (fun _ h=>h.elim)
abbrev REnt:=Nat × List Cp × Option Addr × Nat
def REnt.v (e:REnt):Value:=.slice e.2.2.1 e.2.1.length e.2.2.2
def REnt.e (e:REnt):Ent:=(e.1,e.2.1)
def rcells (e:REnt):List Value:=[.int .u32 (e.1:Int),e.v]
theorem rcells_len (e:REnt):(rcells e).length=2:=rfl
def rrow (e:REnt):Thing:=Row 46 4 e.v e.2.1.length (ccat e.2.1)
def RT (v:Value) (L:List Ent):Thing:=Ex (fun E:List REnt=>Fact (E.map REnt.e=L)::Row 76 2 v E.length (cat rcells E)::E.map rrow)
def RTab (b o:Nat) (cur:Array Value) (m:Nat) (L:List Ent):Thing :=
 Ex (fun v:Value=>[Fact (cur[o]? = some (.int .u8 (m:Int))∧o+1 < cur.size),Cells b (cur.setIfInBounds (o+1) v) 186,RT v L])
section
variable {w0 w:World} {l:List Thing} {b o m:Nat} {cur:Array Value} {L:List Ent}
theorem RT.open {v:Value} (h:Own w0 w (RT v L::l)):∃ E,E.map REnt.e=L∧Own w0 w (Row 76 2 v E.length (cat rcells E)::(E.map rrow++l)):=by
 obtain ⟨E,h⟩:=Own.ex_iff.1 h
 have h':Own w0 w (Fact (E.map REnt.e=L)::Row 76 2 v E.length (cat rcells E)::(E.map rrow++l)):=h
 exact ⟨E,(Own.fact.1 h').1,(Own.fact.1 h').2⟩
theorem RT.shut {v:Value} {E:List REnt} (hE:E.map REnt.e=L) (h:Own w0 w (Row 76 2 v E.length (cat rcells E)::(E.map rrow++l))):Own w0 w (RT v L::l) :=
 Own.ex_iff.2 ⟨E,Own.fact.2 ⟨hE,h⟩⟩
theorem RTab.open (h:Own w0 w (RTab b o cur m L::l)):∃ v E,E.map REnt.e=L∧Own w0 w (Cells b (cur.setIfInBounds (o+1) v) 186::Row 76 2 v E.length (cat rcells E)::(E.map rrow++l)):=by
 obtain ⟨v,h⟩:=Own.ex_iff.1 h
 have h':Own w0 w (Fact (cur[o]? = some (.int .u8 (m:Int))∧o+1 < cur.size)::Cells b (cur.setIfInBounds (o+1) v) 186::RT v L::l):=h
 obtain ⟨E,hE,h2⟩:=RT.open (Own.fact.1 h').2.two
 refine ⟨v,E,hE,h2.perm ?_⟩
 exact (List.perm_middle (l₁:=Row 76 2 v E.length (cat rcells E)::E.map rrow)).trans (List.Perm.refl _)
theorem RTab.facts (h:Own w0 w (RTab b o cur m L::l)):cur[o]? = some (.int .u8 (m:Int))∧o+1 < cur.size:=by
 obtain ⟨v,h⟩:=Own.ex_iff.1 h
 have h':Own w0 w (Fact (cur[o]? = some (.int .u8 (m:Int))∧o+1 < cur.size)::Cells b (cur.setIfInBounds (o+1) v) 186::RT v L::l):=h
 exact (Own.fact.1 h').1
theorem RTab.shut {v:Value} {E:List REnt} (hE:E.map REnt.e=L) (hc:cur[o]? = some (.int .u8 (m:Int))∧o+1 < cur.size) (h:Own w0 w (Cells b (cur.setIfInBounds (o+1) v) 186::Row 76 2 v E.length (cat rcells E)::(E.map rrow++l))):Own w0 w (RTab b o cur m L::l):=by
 refine Own.ex_iff.2 ⟨v,Own.fact.2 ⟨hc,?_⟩⟩
 have h2:Own w0 w (RT v L::Cells b (cur.setIfInBounds (o+1) v) 186::l):=by
  refine RT.shut hE (h.perm ?_)
  exact (List.perm_middle (l₁:=Row 76 2 v E.length (cat rcells E)::E.map rrow)).symm
 exact h2.two
theorem tcur_at {cur:Array Value} {o:Nat} (ho:o+1 < cur.size) (v:Value):(cur.setIfInBounds (o+1) v)[o+1]? = some v:=by simp [ho]
theorem tcur_m {cur:Array Value} {o:Nat} (v:Value):(cur.setIfInBounds (o+1) v)[o]? = cur[o]?:=by rw [Array.getElem?_setIfInBounds,if_neg (by omega)]
theorem map_pick {α:Type} (f:α→Thing) (E:List α) (i:Nat) (e:α) (he:E[i]? = some e):(E.map f).Perm (f e::(E.eraseIdx i).map f):=by
 induction E generalizing i with
 | nil=>simp at he
 | cons a E ih =>
  cases i with
  | zero=>simp at he;subst he;exact List.Perm.refl _
  | succ i =>
   have:=ih i (by simpa using he)
   exact (this.cons (f a)).trans (List.Perm.swap _ _ _)
theorem Own.pick {P Q:Thing} {E:List REnt} (i:Nat) (e:REnt) (he:E[i]? = some e) (h:Own w0 w (P::Q::(E.map rrow++l))):Own w0 w (rrow e::P::Q::((E.eraseIdx i).map rrow++l)):=by
 refine h.perm ?_
 have:=(((map_pick rrow E i e he).append_right l).cons Q).cons P
 exact this.trans (List.perm_middle (l₁:=[P,Q]))
theorem Own.unpick {P Q:Thing} {E E':List REnt} (i:Nat) (e:REnt) (he:E'[i]? = some e) (hee:E'.eraseIdx i=E.eraseIdx i) (h:Own w0 w (rrow e::P::Q::((E.eraseIdx i).map rrow++l))):Own w0 w (P::Q::(E'.map rrow++l)):=by
 rw [← hee] at h
 refine h.perm ?_
 have:=(((map_pick rrow E' i e he).append_right l).cons Q).cons P
 exact (this.trans (List.perm_middle (l₁:=[P,Q]))).symm
theorem ecell {g n cap:Nat} {E:List REnt} (h:Own w0 w (Row 76 2 (.slice (some ⟨g,0,none⟩) n cap) E.length (cat rcells E)::l)) (i:Nat) (e:REnt) (he:E[i]? = some e) :
  w.cell? ⟨g,i*2,none⟩=some (.int .u32 (e.1:Int))∧w.cell? ⟨g,i*2+1,none⟩=some (.slice e.2.2.1 e.2.1.length e.2.2.2):=by
 have hn:=(row_cap h.row).1
 subst hn
 have hi:=(List.getElem?_eq_some_iff.1 he).1
 refine ⟨?_,?_⟩
 ·rw [h.row.cellAt _ (by omega)]
  exact (cat_at rcells 2 rcells_len E i 0 e he (by decide)).trans rfl
 ·rw [h.row.cellAt _ (by omega)]
  exact (cat_at rcells 2 rcells_len E i 1 e he (by decide)).trans rfl
end
section
variable (w0 w:World) (l:List Thing) (b o:Nat) (cur:Array Value) (m:Nat) (L:List Ent)
def pl1 (p:Option Nat):Int:=match p with
 | none=>-1
 | some r=>r
theorem rtrow (h:Own w0 w (RTab b o cur m L::l)) (hA:Apart L) (hL:L.length≤1000000) (id:Nat) :
  Calls Tryz.prog 164 #[.pointer (some ⟨b,o,none⟩),.int .u32 (id:Int)] w fun e w'=>e=.returned (.int .i64 (pl1 (plc L id)))∧Fr Nobody w w':=by
 have HCU:Hid (cur[o]? = some (.int .u8 (m:Int))∧o+1 < cur.size):=RTab.facts h
 obtain ⟨v,E,hE,h⟩:=RTab.open h
 obtain ⟨ao,cap,rfl⟩:=row_any h.two.row
 have hlen:E.length=L.length:=by rw [← hE,List.length_map]
 have q1:=h.cell (o+1)
 rw [tcur_at HCU.out.2] at q1
 have H:Hid (Own w0 w (Cells b (cur.setIfInBounds (o+1) (.slice ao E.length cap)) 186::Row 76 2 (.slice ao E.length cap) E.length (cat rcells E)::(E.map rrow++l))):=h
 have HE:Hid (E.map REnt.e=L∧Apart L):=⟨hE,hA⟩
 generalize hn:E.length=n at *
 have HN:Hid (E.length=n∧L.length=n):=⟨hn,hlen.symm⟩
 rw [← hlen] at hL
 clear h hE hA hlen hn
 go_enter Tryz.func164,Tryz.ntmps164
 go_wp2
 go_loopw [14] (fun cv wr=>∃ j:Nat,j≤n∧cv=.int .i64 j∧Fr Nobody w wr∧∀ i e,i < j→L[i]? = some e→e.1≠id) (fun cv _=>n - (intOf cv).toNat)
 case atStart=>exact ⟨0,Nat.zero_le _,rfl,Fr.refl _ _,fun i e hi=>by omega⟩
 case round =>
  obtain ⟨j,hj,rfl,hf,hno⟩:=hrel
  have HF:Hid (Fr Nobody w wr):=hf
  have HNO:Hid (∀ i e,i < j→L[i]? = some e→e.1≠id):=hno
  clear hno
  by_cases hlt:j < n
  ·have hlt':(j:Int) < (n:Int):=by omega
   obtain ⟨e,he⟩:∃ e,E[j]? = some e:=⟨_,List.getElem?_eq_getElem (by rw [HN.out.1];exact hlt)⟩
   obtain ⟨g,cap',hv,_⟩:=row_shape H.out.two.row (by omega)
   have hg:=(Value.slice.inj hv).1
   subst hg
   have hh:=(H.out.quiet hf).two
   rw [← HN.out.1] at hh
   obtain ⟨c0,c1⟩:=ecell hh j e he
   have heL:L[j]? = some e.e:=by rw [← HE.out.1,List.getElem?_map,he];rfl
   by_cases hid:e.1=id
   ·have HV:Hid (plc L id=some j):=(plc_some HE.out.2 id j).2 ⟨e.e,heL,hid⟩
    rw [hid] at c0
    have hii:((id:Int) == (id:Int))=true:=by simp
    clear he hv hh heL hid hf
    go_wp2
    go_ret
    rw [HV.out]
    exact ⟨rfl,HF.out.alloc _⟩
   ·have hii:((e.1:Int) == (id:Int))=false:=by rw [beq_eq_false_iff_ne];omega
    have HN2:Hid (∀ i e,i < j+1→L[i]? = some e→e.1≠id):=by
     intro i d hi hd
     by_cases hij:i=j
     ·subst hij;rw [heL] at hd;cases hd;exact hid
     ·exact HNO.out i d (by omega) hd
    clear he hv hh heL hid hf
    go_wp2
    go_roundw
    case rel=>exact ⟨j+1,by omega,by go_num,HF.out.alloc _,HN2.out⟩
    case measure=>simp [intOf];omega
  ·have hlt':¬ (j:Int) < (n:Int):=by omega
   have HV:Hid (plc L id=none):=by
    show _=_
    rw [plc_none]
    intro e he
    obtain ⟨i,hi⟩:=List.getElem?_of_mem he
    exact HNO.out i e (by have:=(List.getElem?_eq_some_iff.1 hi).1;rw [HN.out.2] at this;omega) hi
   clear hf
   go_wp2
   go_ret
   rw [HV.out]
   exact ⟨rfl,HF.out⟩
end
end Go.Proofs.YtogmdoiecpihdaaGreatDoor
namespace Go.Proofs.YtogmdoiecpihdaaGreatDoor
open Go.RowKit
set_option linter.unusedVariables false
set_option maxHeartbeats 4000000
theorem rslot_any (id:Nat) (w:World) (h:id < 4294967296):Calls Tryz.prog 117 #[.int .u32 (id:Int)] w fun e w'=>e=.returned (.int .i64 ((id % 1024:Nat):Int))∧w'=w:=by
 go_enter Tryz.func117,Tryz.ntmps117
 go_wp2
 go_ret
 exact ⟨ret_int (by omega),rfl⟩
theorem rgen_any (id:Nat) (w:World) (h:id < 4294967296):Calls Tryz.prog 246 #[.int .u32 (id:Int)] w fun e w'=>e=.returned (.int .i64 ((id / 1024:Nat):Int))∧w'=w:=by
 go_enter Tryz.func246,Tryz.ntmps246
 go_wp2
 go_ret
 exact ⟨ret_int (by omega),rfl⟩
set_option maxRecDepth 100000 in
theorem rmake_yes (s g:Nat) (w:World) (h1:s < 1024) (h2:1≤g) (h3:(g:Int)≤4194303):Calls Tryz.prog 162 #[.int .i64 (s:Int),.int .i64 (g:Int)] w fun e w'=>e=.returned (.tuple #[.int .u32 ((g*1024+s:Nat):Int),.int .i64 0])∧w'=w:=by
 go_enter Tryz.func162,Tryz.ntmps162
 go_wp2
 go_ret2
 exact ⟨rfl,rfl⟩
end Go.Proofs.YtogmdoiecpihdaaGreatDoor
