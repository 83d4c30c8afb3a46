/- Orders to set, to add and to remove; Do of any order. -/
import Derived.Test.YtogmdoiecpihdaaGreatDoorQs20
import Derived.Test.YtogmdoiecpihdaaGreatDoorQs21
import Derived.Test.YtogmdoiecpihdaaGreatDoorQs17
import Derived.Test.YtogmdoiecpihdaaGreatDoorQs15
import Derived.Test.YtogmdoiecpihdaaGreatDoorQs18
import Derived.Test.YtogmdoiecpihdaaGreatDoorQs12
namespace Go.Proofs.YtogmdoiecpihdaaGreatDoor
open Go.RowKit
set_option linter.unusedVariables false
set_option maxHeartbeats 4000000
set_option maxRecDepth 100000
theorem Sto.remove_ok {σ:Sto} (h:σ.Ok) (id k:Nat):(σ.remove id k).2.Ok:=by
 unfold Sto.remove
 split
 ·exact h
 ·rename_i h1
  have hl:σ.S.isLive id=true:=by simpa using h1
  split
  ·exact h
  ·obtain ⟨r,C,hr,he,hC,hm,h6⟩:=h.ent hl
   rw [Sto.cps_of hr he]
   exact Sto.turn_ok h hl (outk_ok hC k)
theorem tell_set (w0 w:World) (l:List Thing) (b:Nat) (σ:Sto) (K:Nat) (ht:Tab w0) (h:Own w0 w (Store b σ K::l)) (hσ:σ.Ok) (id k:Nat) (hid:id < 4294967296) (q:Cp) (hq:q.k < 256) (ao:Option Addr) (cap:Nat) (hCs:∀ w',Own w0 w' l→Cs w' ao [q]) (hK:K+1 < 1000000) :
  Calls Tryz.prog 149 #[.pointer (some ⟨b,0,none⟩),.agg #[.int .u8 3,.int .u32 (id:Int),.int .u8 (k:Int),.slice ao 1 cap]] w fun e w'=>e=.returned (.tuple #[.int .u32 (id:Int),.int .i64 (σ.set id q).1])∧Own w0 w' (Store b (σ.set id q).2 K::l):=by
 have hA:=(h.allocC #[.int .u8 3,.int .u32 (id:Int),.int .u8 (k:Int),.slice ao 1 cap] 41).two
 obtain ⟨g,o,rfl,_,c0,c1,c2,c3⟩:=(hCs _ hA.tail.tail).at 0 q rfl
 have HCE:Hid (∀ w',Own w0 w' l→At4 w' g o q):=by
  intro w' h'
  obtain ⟨g',o',he,_,hat⟩:=(hCs _ h').at 0 q rfl
  cases he
  simpa using hat
 have HS:Hid (Calls _ _ _ _ _):=setC0 w0 _ _ b σ K ht hA.drew hσ id hid q hq (by omega)
 have HB:Hid (w.heap.size=w.heap.size):=rfl
 have b1:=hA.two.cell 1
 have b3:=hA.two.cell 3
 simp at b1 b3
 simp only [Nat.zero_mul,Nat.add_zero] at c0 c1 c2 c3
 obtain ⟨qk,qa,qb,qc⟩:=q
 unfold Cp.ag at HS
 simp only at c0 c1 c2 c3 HS
 generalize σ.set id ⟨qk,qa,qb,qc⟩=r at *
 clear h hσ hA hCs
 go_enter Tryz.func149,Tryz.ntmps149
 go_wp2_with fail
 go_region_held3 (fun w'=>w'.cell? ⟨w.heap.size,1,none⟩=some (.int .u32 (id:Int))∧w'.cell? ⟨w.heap.size,3,none⟩=some (.slice (some ⟨g,o,none⟩) 1 cap)∧w'.cell? ⟨g,o,none⟩=some (.int .u8 (qk:Int))∧w'.cell? ⟨g,o+1,none⟩=some (.int .i32 qa)∧w'.cell? ⟨g,o+2,none⟩=some (.int .i32 qb)∧w'.cell? ⟨g,o+3,none⟩=some (.int .i32 qc)) (go_keep)
  (first
   | (go_at_call 99;refine HS.out.mono ?_;rintro e w1 ⟨rfl,hO⟩
      have t1:=hO.two.cell 1
      have t3:=hO.two.cell 3
      simp at t1 t3
      obtain ⟨s0,s1,s2,s3⟩:=HCE.out _ hO.tail.tail
      have H1:Hid (Own w0 w1 _):=hO
      clear hO))
 all_goals
  go_wp2
  go_ret2
  exact ⟨rfl,H1.out.two.tail⟩
theorem tell_add (w0 w:World) (l:List Thing) (b:Nat) (σ:Sto) (K:Nat) (ht:Tab w0) (h:Own w0 w (Store b σ K::l)) (hσ:σ.Ok) (id k:Nat) (hid:id < 4294967296) (q:Cp) (hq:q.k < 256) (ao:Option Addr) (cap:Nat) (hCs:∀ w',Own w0 w' l→Cs w' ao [q]) (hK:K+1 < 1000000) :
  Calls Tryz.prog 149 #[.pointer (some ⟨b,0,none⟩),.agg #[.int .u8 4,.int .u32 (id:Int),.int .u8 (k:Int),.slice ao 1 cap]] w fun e w'=>e=.returned (.tuple #[.int .u32 (id:Int),.int .i64 (σ.add id q).1])∧Own w0 w' (Store b (σ.add id q).2 (K+2)::l):=by
 have hA:=(h.allocC #[.int .u8 4,.int .u32 (id:Int),.int .u8 (k:Int),.slice ao 1 cap] 41).two
 obtain ⟨g,o,rfl,_,c0,c1,c2,c3⟩:=(hCs _ hA.tail.tail).at 0 q rfl
 have HCE:Hid (∀ w',Own w0 w' l→At4 w' g o q):=by
  intro w' h'
  obtain ⟨g',o',he,_,hat⟩:=(hCs _ h').at 0 q rfl
  cases he
  simpa using hat
 have HS:Hid (Calls _ _ _ _ _):=addC w0 _ _ b σ K ht hA.drew hσ id hid q hq hK
 have HB:Hid (w.heap.size=w.heap.size):=rfl
 have b1:=hA.two.cell 1
 have b3:=hA.two.cell 3
 simp at b1 b3
 simp only [Nat.zero_mul,Nat.add_zero] at c0 c1 c2 c3
 obtain ⟨qk,qa,qb,qc⟩:=q
 unfold Cp.ag at HS
 simp only at c0 c1 c2 c3 HS
 generalize σ.add id ⟨qk,qa,qb,qc⟩=r at *
 clear h hσ hA hCs
 go_enter Tryz.func149,Tryz.ntmps149
 go_wp2_with fail
 go_region_held3 (fun w'=>w'.cell? ⟨w.heap.size,1,none⟩=some (.int .u32 (id:Int))∧w'.cell? ⟨w.heap.size,3,none⟩=some (.slice (some ⟨g,o,none⟩) 1 cap)∧w'.cell? ⟨g,o,none⟩=some (.int .u8 (qk:Int))∧w'.cell? ⟨g,o+1,none⟩=some (.int .i32 qa)∧w'.cell? ⟨g,o+2,none⟩=some (.int .i32 qb)∧w'.cell? ⟨g,o+3,none⟩=some (.int .i32 qc)) (go_keep)
  (first
   | (go_at_call 191;refine HS.out.mono ?_;rintro e w1 ⟨rfl,hO⟩
      have t1:=hO.two.cell 1
      have t3:=hO.two.cell 3
      simp at t1 t3
      obtain ⟨s0,s1,s2,s3⟩:=HCE.out _ hO.tail.tail
      have H1:Hid (Own w0 w1 _):=hO
      clear hO))
 all_goals
  go_wp2
  go_ret2
  exact ⟨rfl,H1.out.two.tail⟩
theorem tell_remove (w0 w:World) (l:List Thing) (b:Nat) (σ:Sto) (K:Nat) (ht:Tab w0) (h:Own w0 w (Store b σ K::l)) (hσ:σ.Ok) (id k:Nat) (hid:id < 4294967296) (hk:k < 256) (v:Value) (hv:v.oneCell'=true) (hK:K+1 < 1000000) (ao:Option Addr) (len cap:Nat) :
  Calls Tryz.prog 149 #[.pointer (some ⟨b,0,none⟩),.agg #[.int .u8 5,.int .u32 (id:Int),.int .u8 (k:Int),.slice ao len cap]] w fun e w'=>e=.returned (.tuple #[.int .u32 (id:Int),.int .i64 (σ.remove id k).1])∧Own w0 w' (Store b (σ.remove id k).2 (K+2)::l):=by
 have hA:=(h.allocC #[.int .u8 5,.int .u32 (id:Int),.int .u8 (k:Int),.slice ao len cap] 41).two
 have HS:Hid (Calls _ _ _ _ _):=removeC w0 _ _ b σ K ht hA.drew hσ id hid k hk hK
 have b1:=hA.two.cell 1
 have b2:=hA.two.cell 2
 simp at b1 b2
 generalize σ.remove id k=r at *
 clear h hσ hA
 go_enter Tryz.func149,Tryz.ntmps149
 go_wp2_with fail
 go_region_held3 (fun w'=>w'.cell? ⟨w.heap.size,1,none⟩=some (.int .u32 (id:Int))∧w'.cell? ⟨w.heap.size,2,none⟩=some (.int .u8 (k:Int))) (go_keep)
  (first
   | (go_at_call 192;refine HS.out.mono ?_;rintro e w1 ⟨rfl,hO⟩
      have t1:=hO.two.cell 1
      have t2:=hO.two.cell 2
      simp at t1 t2
      have H1:Hid (Own w0 w1 _):=hO
      clear hO))
 all_goals
  go_wp2
  go_ret2
  exact ⟨rfl,H1.out.two.tail⟩
def OrdE.c (o:OrdE):Cp:=o.C.headD ⟨0,0,0,0⟩
def stq (s:Sto × Nat) (o:OrdE):(Int × Nat) × (Sto × Nat) :=
 if o.ck≠0 then (((o.ck:Int),0),(s.1,s.2+2))
 else if o.d=1 then (res (s.1.spawn o.C).2.1 (s.1.spawn o.C).1,((s.1.spawn o.C).2.2,s.2+2))
 else if o.d=2 then (res (s.1.despawn o.id).1 o.id,((s.1.despawn o.id).2,s.2+2))
 else if o.d=3 then (res (s.1.set o.id o.c).1 o.id,((s.1.set o.id o.c).2,s.2+2))
 else if o.d=4 then (res (s.1.add o.id o.c).1 o.id,((s.1.add o.id o.c).2,s.2+2))
 else (res (s.1.remove o.id o.k).1 o.id,((s.1.remove o.id o.k).2,s.2+2))
theorem stq_ok (s:Sto × Nat) (h:s.1.Ok) (o:OrdE):(stq s o).2.1.Ok∧(stq s o).2.2=s.2+2:=by
 unfold stq
 split
 ·exact ⟨h,rfl⟩
 ·split
  ·exact ⟨Sto.spawn_ok h _,rfl⟩
  ·split
   ·exact ⟨Sto.despawn_ok h _,rfl⟩
   ·split
    ·exact ⟨Sto.set_ok h _ _,rfl⟩
    ·split
     ·exact ⟨Sto.add_ok h _ _,rfl⟩
     ·exact ⟨Sto.remove_ok h _ _,rfl⟩
theorem do_any (w0 w:World) (l:List Thing) (b:Nat) (s:Sto × Nat) (ht:Tab w0) (h:Own w0 w (Store b s.1 s.2::l)) (hσ:s.1.Ok) (hK:s.2+1 < 1000000) (o:OrdE) (hi:o.In) (hCs:∀ w',Own w0 w' l→Cs w' o.ao o.C) :
  Calls Tryz.prog 94 #[.pointer (some ⟨b,0,none⟩),o.ag] w fun e w'=>e=.returned (rag (stq s o).1)∧Own w0 w' (Store b (stq s o).2.1 (stq s o).2.2::l):=by
 obtain ⟨σ,K⟩:=s
 simp only at h hσ hK
 by_cases hb:o.ck=0
 ·have key:∀ (id:Nat) (er:Int) (σ':Sto),(∀ w' l',Own w0 w' (Store b σ K::l')→(∀ w'',Own w0 w'' l'→Cs w'' o.ao o.C)→Calls Tryz.prog 149 #[.pointer (some ⟨b,0,none⟩),o.ag] w' fun e w''=>e=.returned (.tuple #[.int .u32 (id:Int),.int .i64 er])∧Own w0 w'' (Store b σ' (K+2)::l'))→stq (σ,K) o=(res er id,(σ',K+2))→Calls Tryz.prog 94 #[.pointer (some ⟨b,0,none⟩),o.ag] w fun e w'=>e=.returned (rag (stq (σ,K) o).1)∧Own w0 w' (Store b (stq (σ,K) o).2.1 (stq (σ,K) o).2.2::l):=by
   intro id er σ' HT he
   rw [he]
   exact do_of w0 w _ (Store b σ' (K+2)) l h ht _ o hi hCs hb id er HT
  obtain ⟨d,id,k,C,ao,cap⟩:=o
  have hw:=ock_ways hb
  simp only at hw
  rcases hw with rfl | rfl | rfl | rfl | rfl
  ·refine key _ _ (σ.spawn C).2.2 (fun w' l' h' hC=>?_) (by unfold stq;rw [if_neg (by simp [hb]),if_pos rfl])
   refine (tell_spawn w0 w' l' b σ K ht h' hσ _ hi rfl hC (by omega)).mono ?_
   rintro e w'' ⟨he,h2⟩
   exact ⟨he,h2.stoK (by omega)⟩
  ·refine key _ _ (σ.despawn id).2 (fun w' l' h' hC=>?_) (by unfold stq;rw [if_neg (by simp [hb]),if_neg (by simp),if_pos rfl])
   refine (tell_despawn w0 w' l' b σ K h' hσ _ hi rfl (by omega)).mono ?_
   rintro e w'' ⟨he,h2⟩
   exact ⟨he,h2.stoK (by omega)⟩
  ·obtain ⟨q,rfl⟩:∃ q,C=[q]:=List.length_eq_one_iff.1 (ock_one (.inl rfl) hb)
   refine key _ _ (σ.set id q).2 (fun w' l' h' hC=>?_) (by unfold stq;rw [if_neg (by simp [hb]),if_neg (by simp),if_neg (by simp),if_pos rfl];rfl)
   refine (tell_set w0 w' l' b σ K ht h' hσ id k hi.id q (hi.C q (by simp)) ao cap hC hK).mono ?_
   rintro e w'' ⟨he,h2⟩
   exact ⟨he,h2.stoK (by omega)⟩
  ·obtain ⟨q,rfl⟩:∃ q,C=[q]:=List.length_eq_one_iff.1 (ock_one (.inr rfl) hb)
   refine key _ _ (σ.add id q).2 (fun w' l' h' hC=>?_) (by unfold stq;rw [if_neg (by simp [hb]),if_neg (by simp),if_neg (by simp),if_neg (by simp),if_pos rfl];rfl)
   exact tell_add w0 w' l' b σ K ht h' hσ id k hi.id q (hi.C q (by simp)) ao cap hC hK
  ·refine key _ _ (σ.remove id k).2 (fun w' l' h' hC=>?_) (by unfold stq;rw [if_neg (by simp [hb]),if_neg (by simp),if_neg (by simp),if_neg (by simp),if_neg (by simp)])
   exact tell_remove w0 w' l' b σ K ht h' hσ id k hi.id hi.k (.bool false) rfl hK ao C.length cap
 ·have e:stq (σ,K) o=(((o.ck:Int),0),(σ,K+2)):=by unfold stq;rw [if_pos hb]
  rw [e]
  refine (do_bad w0 w _ h ht _ o hi (fun w' h'=>hCs w' h'.tail) hb).mono ?_
  rintro e w' ⟨he,h2⟩
  exact ⟨he,h2.stoK (Nat.le_add_right K 2)⟩
theorem stq_is (s:Sto × Nat) (x y:OrdE) (h:x.is=y.is):stq s x=stq s y:=by
 obtain ⟨d,id,k,C,a,c⟩:=x
 obtain ⟨d',id',k',C',a',c'⟩:=y
 simp only [OrdE.is,Prod.mk.injEq] at h
 obtain ⟨rfl,rfl,rfl,rfl⟩:=h
 rfl
theorem runs_is (A:List OrdE):∀ (B:List OrdE) (s:Sto × Nat),A.map OrdE.is=B.map OrdE.is→runs stq s A=runs stq s B:=by
 induction A with
 | nil =>
  intro B s h
  cases B with
  | nil=>rfl
  | cons y B=>simp at h
 | cons x A ih =>
  intro B s h
  cases B with
  | nil=>simp at h
  | cons y B =>
   simp only [List.map_cons,List.cons.injEq] at h
   unfold runs
   rw [stq_is s x y h.1,ih B _ h.2]
end Go.Proofs.YtogmdoiecpihdaaGreatDoor
namespace Go.Proofs.YtogmdoiecpihdaaGreatDoor
open Go.ChangeShapes Go.WideShapes Go.ChangeAt Go.RowKit Go.Deep
set_option linter.unusedVariables false
set_option maxHeartbeats 4000000
set_option maxRecDepth 100000
def IsOrds (w:World) (ao:Option Addr) (len cap:Nat) (Q:List OrdE):Prop:=Q.length=len∧len≤cap∧cap≤maxLen∧RowsAt (OrdT w) 4 w ao Q
theorem IsOrds.ords {w:World} {ao:Option Addr} {len cap:Nat} {Q:List OrdE} (h:IsOrds w ao len cap Q):Ords w ao Q∧∀ o∈Q,o.d < 256∧o.id < 4294967296∧o.k < 256∧IsComps w o.ao o.C.length o.cap o.C:=by
 obtain ⟨hl,_,_,hR⟩:=h
 have key:∀ o∈Q,o.d < 256∧o.id < 4294967296∧o.k < 256∧IsComps w o.ao o.C.length o.cap o.C:=by
  intro o ho
  obtain ⟨j,hj⟩:=List.getElem?_of_mem ho
  rcases hR with h | ⟨g,of,ha,hc⟩
  ·subst h;simp at hj
  ·obtain ⟨cs,⟨_,h1,h2,h3,h4⟩,_⟩:=hc j o hj
   exact ⟨h1,h2,h3,h4⟩
 refine ⟨⟨?_,fun o ho=>(key o ho).2.2.2.cs.1⟩,key⟩
 rcases hR with h | ⟨g,of,ha,hc⟩
 ·exact .inl h
 ·refine .inr ⟨g,of,ha,fun j o hj=>?_⟩
  obtain ⟨cs,⟨rfl,_⟩,_,h3⟩:=hc j o hj
  exact ⟨h3 0 (by decide),h3 1 (by decide),h3 2 (by decide),h3 3 (by decide)⟩
theorem ord_len (x:OrdE):x.cs.length=4:=rfl
theorem Own.ords {w0 w:World} {l:List Thing} {ao:Option Addr} {n cap:Nat} {L:List OrdE} (h:Own w0 w (Row 41 4 (.slice ao n cap) n (cat OrdE.cs L)::l)) (hn:L.length=n) (hc:∀ x∈L,Cs w x.ao x.C):Ords w ao L:=by
 refine ⟨?_,hc⟩
 have r:=h.row
 rcases Nat.eq_zero_or_pos n with h0 | h0
 ·exact .inl (List.eq_nil_of_length_eq_zero (by omega))
 ·obtain ⟨g,c,hv,_⟩:=row_shape r h0
  have ha:=(Value.slice.inj hv).1
  subst ha
  refine .inr ⟨g,0,rfl,fun j x hx=>?_⟩
  have hj:=(List.getElem?_eq_some_iff.1 hx).1
  have e:=fun i (hi:i < 4)=>cat_at OrdE.cs 4 ord_len L j i x hx hi
  have k:=fun i (hi:i < 4)=>r.cellAt (j*4+i) (by omega)
  refine ⟨?_,?_,?_,?_⟩
  ·have:=k 0 (by decide);rw [e 0 (by decide)] at this;simpa [OrdE.cs] using this
  ·have:=k 1 (by decide);rw [e 1 (by decide)] at this;simpa [Nat.zero_add,OrdE.cs] using this
  ·have:=k 2 (by decide);rw [e 2 (by decide)] at this;simpa [Nat.zero_add,OrdE.cs] using this
  ·have:=k 3 (by decide);rw [e 3 (by decide)] at this;simpa [Nat.zero_add,OrdE.cs] using this
theorem orow_pick (M:List OrdE) (j:Nat) (y:OrdE) (hy:M[j]? = some y):(M.map orow).Perm (orow y::(M.eraseIdx j).map orow):=by
 obtain ⟨hj,he⟩:=List.getElem?_eq_some_iff.1 hy
 have hd:M.drop j=y::M.drop (j+1):=by rw [List.drop_eq_getElem_cons hj,he]
 have e1:M.map orow=(M.take j).map orow++orow y::(M.drop (j+1)).map orow:=by
  have:=congrArg (List.map orow) (List.take_append_drop j M)
  rw [hd,List.map_append,List.map_cons] at this
  exact this.symm
 rw [e1,List.eraseIdx_eq_take_drop_succ,List.map_append]
 exact List.perm_middle
end Go.Proofs.YtogmdoiecpihdaaGreatDoor
namespace Go.Proofs.YtogmdoiecpihdaaGreatDoor
open Go.RowKit Go.Maps
set_option linter.unusedVariables false
set_option maxHeartbeats 4000000
set_option maxRecDepth 100000
def Sto.gv (σ:Sto) (id k:Nat):Cp:=if hasK (σ.cps id) k then mkc k (fv (σ.cps id) k) else ⟨0,0,0,0⟩
theorem sgetC (w0 w:World) (l:List Thing) (b:Nat) (σ:Sto) (K:Nat) (h:Own w0 w (Store b σ K::l)) (hσ:σ.Ok) (id:Nat) (hid:id < 4294967296) (hl:σ.S.isLive id=true) (k:Nat) (hk:k < 256) :
  Calls Tryz.prog 97 #[.pointer (some ⟨b,0,none⟩),.int .u32 (id:Int),.int .u8 (k:Int)] w fun e w'=>e=.returned (.tuple #[(σ.gv id k).ag,.int .i64 (if hasK (σ.cps id) k then 0 else 10)])∧Own w0 w' (Store b σ K::l):=by
 obtain ⟨bs,v,p,h⟩:=h.stoX
 obtain ⟨h6,hn,_⟩:=hσ.home hl
 obtain ⟨r,C,hr,he,_⟩:=hσ.ent hl
 have hA:=(h.allocC #[.int .u8 0,.int .i32 0,.int .i32 0,.int .i32 0] 46).two
 have HH:Hid (Calls _ _ _ _ _):=home_ok w0 _ _ b bs v p σ K hA hσ.s id hid hl hn h6
 obtain ⟨bt,hp⟩:=stoP h h6 he
 rw [hp,pp_some] at HH
 have HG:Hid (∀ w' l',Own w0 w' (StoX b σ K (bs,v,p)::l')→Calls Tryz.prog 153 #[.pointer (some ⟨bt,0,none⟩),.int .u32 (id:Int),.int .u8 (k:Int)] w' fun e w''=>e=.returned (.tuple #[(σ.gv id k).ag,.int .i64 (if hasK (σ.cps id) k then 0 else 10)])∧Own w0 w'' (StoX b σ K (bs,v,p)::l')):=fun w' l' h'=>homeGet w0 w' l' b bs v p σ K hσ id hid hl bt hp h' k hk
 generalize σ.gv id k=G at *
 generalize (if hasK (σ.cps id) k then (0:Int) else 10)=er at *
 clear h hA hσ hl he hr hp hn hid
 obtain ⟨gk,ga,gb,gc⟩:=G
 simp only [Cp.ag] at HG ⊢
 go_enter Tryz.func97,Tryz.ntmps97
 go_wp2_with fail
 refine HH.out.mono ?_
 rintro e w1 ⟨rfl,hO⟩
 have H1:Hid (Own w0 w1 _):=hO
 clear hO HH
 go_wp2_with fail
 refine (HG.out _ _ H1.out).mono ?_
 rintro e w2 ⟨rfl,hO⟩
 have hB:=hO.two
 have z0:=hB.cell 0
 have z1:=hB.cell 1
 have z2:=hB.cell 2
 have z3:=hB.cell 3
 simp at z0 z1 z2 z3
 have y0:=hB.froz 0
 have y1:=hB.froz 1
 have y2:=hB.froz 2
 have y3:=hB.froz 3
 have HF:Hid (Own w0 _ _):=(((hB.setC 0 (.int .u8 (gk:Int))).setC 1 (.int .i32 ga)).setC 2 (.int .i32 gb)).setC 3 (.int .i32 gc)
 clear hO hB HG H1
 go_wp2
 (try simp only [Exit.inBlock,Exit.then])
 refine bodyPost_ret (v:=.tuple #[.agg #[.int .u8 (gk:Int),.int .i32 ga,.int .i32 gb,.int .i32 gc],.int .i64 er]) ?_ rfl ⟨rfl,HF.out.tail.xSto⟩
 rw [results_cell_tmp rfl]
 have r0:=HF.out.cell 0
 have r1:=HF.out.cell 1
 have r2:=HF.out.cell 2
 have r3:=HF.out.cell 3
 simp at r0 r1 r2 r3
 go_simp
def gl1 (at_ by_:Int):Int × Int:=(max (-524288) (min (at_+by_) 524287),if max (-524288) (min (at_+by_) 524287)=at_+by_ then by_ else min (-by_) 32767)
theorem keep_in (w:World) (x:Int) (h1:-2147483648≤x) (h2:x≤2147483647):Calls Tryz.prog 236 #[.int .i64 x] w fun e w'=>e=.returned (.int .i32 x)∧w'=w:=by
 have e1:max x (-2147483648)=x:=by omega
 have e2:min x 2147483647=x:=by omega
 go_enter Tryz.func236,Tryz.ntmps236
 go_wp2
 go_ret
 exact ⟨rfl,rfl⟩
theorem add_in (w:World) (a b:Int) (h1:-2147483648≤a+b) (h2:a+b≤2147483647) (ha:-2147483648≤a∧a≤2147483647) (hb:-2147483648≤b∧b≤2147483647):Calls Tryz.prog 195 #[.int .i32 a,.int .i32 b] w fun e w'=>e=.returned (.int .i32 (a+b))∧w'=w:=by
 have HK:Hid (Calls _ _ _ _ _):=keep_in w (a+b) h1 h2
 obtain ⟨ha1,ha2⟩:=ha
 obtain ⟨hb1,hb2⟩:=hb
 go_enter Tryz.func195,Tryz.ntmps195
 go_wp2_with fail
 refine HK.out.mono ?_
 rintro e w1 ⟨rfl,rfl⟩
 go_wp2
 go_ret
 exact ⟨rfl,rfl⟩
theorem clamp_in (w:World) (x:Int):Calls Tryz.prog 196 #[.int .i32 x,.int .i32 (-524288),.int .i32 524287] w fun e w'=>e=.returned (.int .i32 (max (-524288) (min x 524287)))∧w'=w:=by
 by_cases c1:x < -524288
 ·have e:max (-524288) (min x 524287) = -524288:=by omega
  rw [e]
  go_enter Tryz.func196,Tryz.ntmps196
  go_wp2
  go_ret
  exact ⟨rfl,rfl⟩
 ·by_cases c2:524287 < x
  ·have e:max (-524288) (min x 524287)=524287:=by omega
   rw [e]
   go_enter Tryz.func196,Tryz.ntmps196
   go_wp2
   go_ret
   exact ⟨rfl,rfl⟩
  ·have e:max (-524288) (min x 524287)=x:=by omega
   rw [e]
   clear e
   go_enter Tryz.func196,Tryz.ntmps196
   go_wp2
   go_ret
   exact ⟨rfl,rfl⟩
theorem glide_in (w:World) (a b:Int) (ha:-524288≤a∧a≤524287) (hb:-32768≤b∧b≤32767):Calls Tryz.prog 151 #[.int .i32 a,.int .i32 b] w fun e w'=>e=.returned (.tuple #[.int .i32 (gl1 a b).1,.int .i32 (gl1 a b).2])∧w'=w:=by
 have HA:Hid (Calls _ _ _ _ _):=add_in w a b (by omega) (by omega) (by omega) (by omega)
 have HC:Hid (Calls _ _ _ _ _):=clamp_in w (a+b)
 obtain ⟨hb1,hb2⟩:=hb
 unfold gl1
 simp only
 generalize hk:max (-524288) (min (a+b) 524287)=kp at *
 by_cases hc:kp=a+b
 ·rw [if_pos hc]
  have hne:(kp != a+b)=false:=by simp [hc]
  clear hc hk
  generalize a+b=to at *
  go_enter Tryz.func151,Tryz.ntmps151
  go_wp2_with fail
  refine HA.out.mono ?_
  rintro e w1 ⟨rfl,rfl⟩
  go_wp2_with fail
  refine HC.out.mono ?_
  rintro e w2 ⟨rfl,rfl⟩
  go_wp2
  go_ret2
  exact ⟨rfl,rfl⟩
 ·rw [if_neg hc]
  have hne:(kp != a+b)=true:=by simpa using hc
  clear hc hk
  generalize a+b=to at *
  generalize hmn:min (-b) 32767=mn at *
  go_enter Tryz.func151,Tryz.ntmps151
  go_wp2_with fail
  refine HA.out.mono ?_
  rintro e w1 ⟨rfl,rfl⟩
  go_wp2_with fail
  refine HC.out.mono ?_
  rintro e w2 ⟨rfl,rfl⟩
  go_wp2
  go_ret2
  exact ⟨rfl,rfl⟩
theorem chk_pv {k:Nat} {a b c:Int} (hk:k=0∨k=1) (h:(⟨k,a,b,c⟩:Cp).chk=0):lo k 0≤a∧a≤hi k 0∧lo k 1≤b∧b≤hi k 1∧c=0:=by
 unfold Cp.chk chk at h
 simp only at h
 rcases hk with rfl | rfl
 all_goals
  rw [if_neg (by decide)] at h
  split at h
  ·cases h
  ·rename_i hs
   split at h
   ·cases h
   ·rename_i ho
    simp [stray,cnt,kinds,f3,List.range,List.range.loop] at hs
    simp [outside,cnt,kinds,f3,List.range,List.range.loop,lo,hi,fld] at ho
    simp [lo,hi,fld,kinds]
    omega
end Go.Proofs.YtogmdoiecpihdaaGreatDoor
namespace Go.Proofs.YtogmdoiecpihdaaGreatDoor
open Go.RowKit Go.Maps Go.Shelf
set_option linter.unusedVariables false
set_option maxHeartbeats 4000000
set_option maxRecDepth 100000
attribute [local go_sem] Oper.semAt_some
theorem append1_in {F:Fence} {m:Nat} {P:Program} {w0 w:World} {l:List Thing} {ops:Array Oper} {rest:List Oper} {o:Oper} {a:Act} {Q:Exit→Act→World→Prop} (hgd:o.guard=none) (s x:Operand) (t:TypeId)
  (ho:o.op=.call { callee:=.builtin .append,args:=#[s,x],argTypes:=#[t,t] })
  (e:TypeId) (i:TypeInfo) (z:Value) (size bytes:Nat) (ht:P.underlying t=some (.slice e)) (hi:P.info? e=some i) (hz:i.zero=some z)
  (hsize:i.size=size) (hby:i.bytes=bytes) (hzs:z.cells.size=size) (hsz:0 < size)
  (v:Value) (n:Nat) (xs:List Value) (hs:a.eval s=v) (hown:Own w0 w (Row e size v n xs::l))
  (k:Nat) (cs:Array Value) (hk:k=w.heap.size) (hx:a.eval x=.slice (some ⟨k,0,none⟩) 1 1) (hl:cs.size=size) (h1:∀ u∈cs.toList,u.oneCell'=true)
  (h63:n+1≤maxLen) (hbytes:(n+1)*bytes≤140737488355328)
  (h:∀ g cap w',Own w0 w' (Row e size (.slice (some ⟨g,0,none⟩) (n+1) cap) (n+1) (xs++cs.toList)::l)→wpListIn F m P ops Q rest (a.put o.dst (.slice (some ⟨g,0,none⟩) (n+1) cap)) w'):wpListIn F m P ops Q (o::rest) a (w.alloc (.cells cs e)):=by
 refine wpListIn_plain hgd fun K hK'=>?_
 obtain ⟨g,cap,w',hrun,hO⟩:=run1_own (P:=P) t o.type e i z size bytes ht hi hz hsize hby hzs hsz v n xs hown cs hl h1 h63 hbytes
 subst hk
 unfold Oper.wpIn
 refine ⟨?_,?_⟩
 ·simp [Oper.about,ho,resolve,Target.leads,Sem.run_pure]
 ·rw [Oper.semAt_plain F _ _ (by rw [ho];intro c hc';cases hc')]
  simp [execOp,ho,resolve,invoke,builtin,hs,hx,hrun,Result.andThen]
  exact hK' _ _ (h g cap w' hO)
theorem Own.fiv {w0 w:World} {P Q R S T:Thing} {l:List Thing} (h:Own w0 w (P::Q::R::S::T::l)):Own w0 w (T::P::Q::R::S::l):=h.perm (List.perm_middle (l₁:=[P,Q,R,S]) (a:=T) (l₂:=l))
theorem Own.bfiv {w0 w:World} {P Q R S T:Thing} {l:List Thing} (h:Own w0 w (T::P::Q::R::S::l)):Own w0 w (P::Q::R::S::T::l):=h.perm (List.perm_middle (l₁:=[P,Q,R,S]) (a:=T) (l₂:=l)).symm
def Never:Thing:=⟨fun _ _=>False,fun h _=>h.elim,fun h _ _=>h⟩
theorem Own.never {w0 w:World} {l:List Thing} (h:Own w0 w (Never::l)):False:=by
 obtain ⟨_,⟨_,_,h,_⟩,_⟩:=h
 exact h
def Coll (B:Nat) (L:List Nat):Thing:=Ex (fun v:Value=>[Cells B #[v] 55,Row 38 1 v L.length (irow .u32 L)])
theorem Coll.open {w0 w:World} {B:Nat} {L:List Nat} {l:List Thing} (h:Own w0 w (Coll B L::l)):∃ ao cap,Own w0 w (Cells B #[.slice ao L.length cap] 55::Row 38 1 (.slice ao L.length cap) L.length (irow .u32 L)::l):=by
 obtain ⟨v,h⟩:=Own.ex_iff.1 h
 have h':Own w0 w (Cells B #[v] 55::Row 38 1 v L.length (irow .u32 L)::l):=h
 obtain ⟨ao,cap,rfl⟩:=row_any h'.two.row
 exact ⟨ao,cap,h'⟩
theorem Coll.shut {w0 w:World} {B:Nat} {L:List Nat} {v:Value} {l:List Thing} (h:Own w0 w (Cells B #[v] 55::Row 38 1 v L.length (irow .u32 L)::l)):Own w0 w (Coll B L::l):=Own.ex_iff.2 ⟨v,h⟩
theorem Sto.find_len {σ:Sto} (hσ:σ.S.Ok) (a n:Nat):(σ.find a n).length≤1024:=Nat.le_trans (List.length_filter_le _ _) (list_len2 hσ)
theorem with_g (w0 w:World) (l:List Thing) (p:Option Addr) (SG:Thing) (Xs:List Nat) (h:Own w0 w (SG::l)) (a n:Nat) (hI:IterC w0 p a n SG Xs) (hfl:Xs.length≤1024) :
  Calls Tryz.prog 95 #[.pointer p,.int .u8 (a:Int),.int .u8 (n:Int)] w fun e w'=>∃ ao cap,e=.returned (.slice ao Xs.length cap)∧Own w0 w' (Row 38 1 (.slice ao Xs.length cap) Xs.length (irow .u32 Xs)::SG::l):=by
 obtain ⟨i0,hi,hz0,hz1,hz2⟩:=info_parts Tryz.infoID2
 have hA:Own w0 (w.alloc (.cells #[.slice none 0 0] 55)) (Coll w.heap.size []::SG::l):=by
  have k:=(h.nilRow 38 1).allocC #[.slice none 0 0] 55
  exact Coll.shut k
 have HF:Hid (Calls _ _ _ _ _):=fitting_ok w0 _ _ hA.two p a n
 have HSQ:Hid (IterC w0 p a n SG Xs):=hI
 clear h hA hI
 refine (callsIn_wide (n:=4)).1 ?_
 refine callsIn_of_wp_marks Tryz.func95 rfl trivial ?_ rfl
 simp only [Tryz.ntmps95,List.size_toArray,List.length_cons,List.length_nil,Nat.reduceAdd,Nat.reduceSub,Array.replicate_succ,Array.replicate_zero,List.push_toArray,List.append_toArray,List.nil_append,List.cons_append]
 gi_wp2_with fail
 refine ⟨trivial,(callsIn_wide.2 HF.out).mono ?_⟩
 rintro e w1 ⟨rfl,hO1,_⟩
 simp only [World.size_alloc] at hO1 ⊢
 have H1:Hid (Own w0 w1 _):=hO1
 clear hO1 HF
 gi_wp2_with fail
 refine range_things (n:=4) rfl (enters_of Tryz.func193 (by kernel_rfl) rfl) (fun pre=>boxes (w.heap.size+1) p a n (SG::Coll w.heap.size pre::l)) (fun _=>[Never]) .skip (HSQ.out _ (fun pre=>Coll w.heap.size pre::l) (fun _=>[Never])) (fun _=>rfl) H1.out
  (fun x=>{ tmps:=#[.pointer p,.int .u8 (a:Int),.int .u8 (n:Int),undef,undef,undef,.slice none 0 0,.pointer (some ⟨w.heap.size,0,none⟩),.int .u32 (x:Int),.pointer p,.int .u8 (a:Int),.int .u8 (n:Int),.func (.func 193) #[] #[.pointer (some ⟨w.heap.size+1,0,none⟩),.pointer (some ⟨w.heap.size+1+1,0,none⟩),.pointer (some ⟨w.heap.size+1+2,0,none⟩)],.int .u32 (x:Int),undef,undef,undef,undef,undef],defers:=[] }) ?assign ?body ?done ?stop
 case assign =>
  intro l' x W K hK
  gi_wp2
  exact hK
 case body =>
  intro l' pre x W R hG hO
  have hpl:pre.length+1≤1024:=by have:=hG.length_le;simp at this;omega
  obtain ⟨ao,cap,hO⟩:=Coll.open (Own.fiv hO)
  have q0:=hO.cell 0
  simp at q0
  have HO:Hid (Own w0 W _):=hO
  have hB0:=hO.lt
  generalize hpn:pre.length=pn at *
  have HPN:Hid (pre.length=pn):=hpn
  clear hO hG hpn
  gi_wp2_with (gi_at_builtin;refine append1_in rfl _ _ 55 rfl 38 i0 (.int .u32 0) 1 4 Tryz.underlying55 hi hz0 hz1 hz2 rfl (by decide) _ pn _ rfl HO.out.two _ _ (by simp) rfl rfl (one_int _ _) (by unfold maxLen;omega) (by omega) ?_)
  intro g' cap' w2 hO2
  have q1:=hO2.two.cell 0
  have y1:=hO2.two.froz 0
  simp at q1
  have H2:Hid (Own w0 _ _):=hO2.two.setC 0 (.slice (some ⟨g',0,none⟩) (pn+1) cap')
  clear hO2 HO q0
  gi_wp2
  have h3:Own w0 _ (Coll w.heap.size (pre++[x])::_):=Coll.shut (v:=.slice (some ⟨g',0,none⟩) (pn+1) cap') (by rw [List.length_append,HPN.out];simpa [irow] using H2.out)
  exact h3.bfiv
 case done =>
  intro D xs W hS hO
  subst hS
  have hO2:Own w0 W (Coll w.heap.size xs::Objt D (.deferred (some []))::boxes (w.heap.size+1) p a n (SG::l)):=hO.perm (List.perm_middle (l₁:=[Objt D (.deferred (some [])),Cells (w.heap.size+1) #[.pointer p] 95,Cells (w.heap.size+1+1) #[.int .u8 (a:Int)] 5,Cells (w.heap.size+1+2) #[.int .u8 (n:Int)] 5,SG]) (l₂:=l))
  obtain ⟨ao,cap,hO3⟩:=Coll.open hO2
  have q0:=hO3.cell 0
  simp at q0
  have hK:=hO3.three.objt
  have H4:Hid (Own w0 (W.putObj D (.deferred none)) _):=hO3.three.putO (.deferred none)
  clear hO hO2 hO3
  gi_wp2
  refine ⟨by simp,.inl ⟨_,_,rfl,run_takeDeferred hK,?_⟩⟩
  exact ⟨_,results_tmp rfl _ _ _,ao,cap,rfl,H4.out.tail.tail.two.tail.two.tail.two.tail⟩
 case stop =>
  intro D pre W hS hO
  exact (hO.tail.never).elim
end Go.Proofs.YtogmdoiecpihdaaGreatDoor
