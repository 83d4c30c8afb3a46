/- Whose place was reached. -/
import Derived.Test.YtogmdoiecpihdaaGreatDoorQs03
namespace Go.Proofs.YtogmdoiecpihdaaGreatDoor
open Go.RowKit Go.Maps
set_option linter.unusedVariables false
set_option maxHeartbeats 4000000
set_option maxRecDepth 100000
structure SgE where
 k:Int
 a:Int
 b:Int
 c:Int
 t:Nat
def SgE.v (s:SgE):Value:=.agg #[.int .u8 s.k,.int .i32 s.a,.int .i32 s.b,.int .i32 s.c,.int .u32 (s.t:Int)]
def sgp (S:Nat→Nat→Option SgE) (i k:Nat):Option Value:=(S i k).map SgE.v
def ReachOf (S:Nat→Nat→Option SgE) (T:Nat) (left:Nat→Nat→Bool) (L:List PlE):Prop :=
 (L.map PlE.id).Nodup∧(∀ q∈L,q.id < 4294967296∧q.on=true∧∃ s,S q.id 0=some s∧s.t=T∧q.x=s.a∧q.y=s.b)∧∀ i,i < 4294967296→(i∈L.map PlE.id ↔ left i 0=false∧∃ s,S i 0=some s∧s.t=T)
theorem Own.five {w0 w:World} {P Q R S T:Thing} {l:List Thing} (h:Own w0 w (P::Q::R::S::T::l)):Own w0 w (T::P::Q::R::S::l):=h.perm (List.perm_middle (l₁:=[P,Q,R,S]) (a:=T) (l₂:=l))
theorem ReachOf.skip {S:Nat→Nat→Option SgE} {T:Nat} {left:Nat→Nat→Bool} {L:List PlE} (h:ReachOf S T left L) {i k:Nat} (hk:k≠0∨∀ s,S i 0=some s→s.t≠T):ReachOf S T (strk left i k) L:=by
 obtain ⟨h1,h2,h3⟩:=h
 refine ⟨h1,h2,fun x hx=>?_⟩
 rw [h3 x hx]
 unfold strk
 simp only [Bool.and_eq_false_iff,Bool.not_eq_false',decide_eq_true_iff]
 constructor
 ·rintro ⟨a,b⟩
  exact ⟨.inl a,b⟩
 ·rintro ⟨a | a,b⟩
  ·exact ⟨a,b⟩
  ·obtain ⟨rfl,hk0⟩:=a
   rcases hk with hk | hk
   ·exact absurd hk0.symm hk
   ·obtain ⟨s,h4,h5⟩:=b
    exact absurd h5 (hk s h4)
theorem ReachOf.more {S:Nat→Nat→Option SgE} {T:Nat} {left:Nat→Nat→Bool} {L:List PlE} (h:ReachOf S T left L) {i:Nat} {s:SgE} (hi:i < 4294967296) (hl:left i 0=true) (hs:S i 0=some s) (ht:s.t=T):ReachOf S T (strk left i 0) (L++[⟨i,true,s.a,s.b⟩]):=by
 obtain ⟨h1,h2,h3⟩:=h
 have hni:i ∉ L.map PlE.id:=fun hm=>by have:=((h3 i hi).1 hm).1;rw [hl] at this;cases this
 refine ⟨?_,?_,fun x hx=>?_⟩
 ·rw [List.map_append,List.nodup_append]
  exact ⟨h1,by simp,fun a ha b hb e=>by simp at hb;subst hb;exact hni (e ▸ ha)⟩
 ·intro q hq
  rcases List.mem_append.1 hq with hq | hq
  ·exact h2 q hq
  ·rw [List.mem_singleton.1 hq];exact ⟨hi,rfl,s,hs,ht,rfl,rfl⟩
 ·rw [List.map_append,List.mem_append,h3 x hx]
  unfold strk
  simp only [List.map_cons,List.map_nil,List.mem_singleton,Bool.and_eq_false_iff,Bool.not_eq_false',decide_eq_true_iff]
  constructor
  ·rintro (⟨a,b⟩ | rfl)
   ·exact ⟨.inl a,b⟩
   ·exact ⟨.inr (by simp),s,hs,ht⟩
  ·rintro ⟨a | ⟨rfl,_⟩,b⟩
   ·exact .inl ⟨a,b⟩
   ·exact .inr rfl
theorem reached_ok (w0 w:World) (l:List Thing) (b:Nat) (wc:Array Value) (mn n T:Nat) (S:Nat→Nat→Option SgE) (hwc:wc[0]? = some (.int .u32 (T:Int))) (hn:n≤1000000)
  (h:Own w0 w (SMap mn n (sgp S)::Cells b wc 102::l)) :
  Calls Tryz.prog 104 #[.pointer (some ⟨b,0,none⟩),.map (some mn)] w fun e w'=>∃ ao cap L,e=.returned (.slice ao L.length cap)∧L.length≤n∧ReachOf S T (fun _ _=>false) L∧Own w0 w' (Row 92 4 (.slice ao L.length cap) L.length (cat PlE.cs L)::SMap mn n (sgp S)::Cells b wc 102::l):=by
 obtain ⟨i0,hi,hz0,hz1,hz2⟩:=info_parts Tryz.infoPl
 obtain ⟨w1,cnt,hcn,hrun,hO1⟩:=h.smRange
 have H1:Hid (Own w0 w1 _):=hO1.nilRow 92 4
 have HWC:Hid (∀ w' l',Own w0 w' (Cells b wc 102::l')→w'.cell? ⟨b,0,none⟩=some (.int .u32 (T:Int))):=fun w' l' h'=>by rw [h'.cell 0];exact hwc
 clear h hO1 hwc
 obtain ⟨r,hr⟩:∃ r,r=w.heap.size:=⟨_,rfl⟩
 rw [← hr] at hrun H1
 clear hr
 go_enter Tryz.func104,Tryz.ntmps104
 go_wp2
 clear hrun
 go_loopw [5] (fun v5 wr=>∃ (L:List PlE) (left:Nat→Nat→Bool) (cn:Nat) (a1:Option Addr) (c1:Nat),v5=.slice a1 L.length c1∧L.length+cn≤n∧ReachOf S T left L∧Own w0 wr (Row 92 4 (.slice a1 L.length c1) L.length (cat PlE.cs L)::SIter mn r n (sgp S) left cn::Cells b wc 102::l)) (fun _ wr=>wr.rangeLeft mn r)
 case atStart =>
  refine ⟨[],_,cnt,none,0,rfl,by simpa using hcn,⟨by simp,fun q hq=>by simp at hq,fun i hi=>?_⟩,H1.out⟩
  simp only [List.map_nil,List.not_mem_nil,false_iff]
  rintro ⟨a,s,hs,_⟩
  simp [sgp,hs] at a
 case round =>
  obtain ⟨L,left,cn,a1,c1,rfl,hLn,hLf,hO⟩:=hrel
  have HLf:Hid (ReachOf S T left L):=hLf
  have HM0:Hid (World.rangeLeft wr mn r=cn):=hO.two.siCnt
  clear H1 hLf
  generalize hll:L.length=ll at *
  have HLL:Hid (L.length=ll):=hll
  clear hll
  rcases hO.two.smNext 0 with ⟨h0,hall,hnx⟩ | ⟨i,k,v,w2,cn',hi',hk',hlf,hpv,hnx,hent,hlt,hO2⟩
  ·have HO:Hid (Own w0 wr _):=hO.two.siMap.two
   have HE:Hid (ReachOf S T (fun _ _=>false) L):=by
    obtain ⟨h1,h2,h3⟩:=HLf.out
    refine ⟨h1,h2,fun i hi=>?_⟩
    rw [h3 i hi]
    simp [hall i 0 hi (by decide)]
   clear hO
   go_wp2
   go_ret
   exact ⟨a1,c1,L,by rw [HLL.out];rfl,by rw [HLL.out];omega,HE.out,by rw [HLL.out];exact HO.out⟩
  ·obtain ⟨s,hs,hsv⟩:∃ s,S i k=some s∧s.v=v:=by
    unfold sgp at hpv
    exact Option.map_eq_some_iff.1 hpv
   subst hsv
   simp only [spv,SgE.v] at hnx hent
   have hO3:=hO2.allocC #[.int .u32 (i:Int),.int .u8 (k:Int)] 166
   have hO4:=(hO3.allocC #[.int .u8 s.k,.int .i32 s.a,.int .i32 s.b,.int .i32 s.c,.int .u32 (s.t:Int)] 163).drew
   have y4:=hO4.cell 4
   have y1:=hO4.cell 1
   have y2:=hO4.cell 2
   have x0:=hO4.two.cell 0
   have x1:=hO4.two.cell 1
   have t0:=HWC.out _ _ hO4.five
   simp at y4 y1 y2 x0 x1 t0
   by_cases hk0:k=0
   ·have hk00:((k:Int) == 0)=true:=by rw [beq_iff_eq];omega
    by_cases hT:s.t=T
    ·have hTT:((s.t:Int) == (T:Int))=true:=by rw [beq_iff_eq];omega
     have HS:Hid (ReachOf S T (strk left i k) (L++[⟨i,true,s.a,s.b⟩])):=by
      subst hk0
      exact HLf.out.more hi' hlf hs hT
     have H4:Hid (Own w0 _ _):=hO4.four
     clear hO2 hO3 hO4 hlf hpv hk0 hT hs
     go_wp2_with fail
     go_region_held3 (fun w':World=>w'.cell? ⟨w2.heap.size,1,none⟩=some (.int .u8 (k:Int))∧w'.cell? ⟨w2.heap.size+1,4,none⟩=some (.int .u32 (s.t:Int))∧w'.cell? ⟨b,0,none⟩=some (.int .u32 (T:Int))) (go_keep) (fail)
     all_goals
      generalize ((w2.alloc (.cells #[.int .u32 (i:Int),.int .u8 (k:Int)] 166)).alloc (.cells #[.int .u8 s.k,.int .i32 s.a,.int .i32 s.b,.int .i32 s.c,.int .u32 (s.t:Int)] 163)).drew=W at H4 ⊢
      have hW:=H4.out
      have y1:=hW.two.cell 1
      have y2:=hW.two.cell 2
      have x0:=hW.three.cell 0
      simp at y1 y2 x0
      clear hW
      go_wp2_with (at_builtin;refine append1_own rfl _ _ 86 rfl 92 i0 (.agg #[.int .u32 0,.bool false,.int .i32 0,.int .i32 0]) 4 16 Tryz.underlying86 hi hz0 hz1 hz2 rfl (by decide) _ _ _ rfl H4.out _ _ (by simp) rfl rfl (fun u hu=>by simp at hu;rcases hu with rfl | rfl | rfl | rfl <;> rfl) (by unfold maxLen;omega) (by omega) ?_)
      intro g6 c6 w6 hO6 hsz6
      have H6:Hid (Own w0 w6 (Row 92 4 (.slice (some ⟨g6,0,none⟩) (ll+1) c6) (ll+1) (cat PlE.cs (L++[⟨i,true,s.a,s.b⟩]))::SIter mn r n (sgp S) (strk left i k) cn'::Cells b wc 102::l)):=by
       show Own _ _ _
       rw [cat_append]
       exact hO6.two.tail.two.tail
      have HL6:Hid ((L++[(⟨i,true,s.a,s.b⟩:PlE)]).length=ll+1):=by show _=_;rw [List.length_append,HLL.out];rfl
      clear hO6 hsz6 H4
      go_wp2
      go_roundw
      case rel=>exact ⟨L++[⟨i,true,s.a,s.b⟩],_,cn',_,_,by rw [HL6.out],by rw [HL6.out];omega,HS.out,by rw [HL6.out];exact H6.out⟩
      case measure=>rw [HM0.out,H6.out.two.siCnt];exact hlt
    ·have hTT:((s.t:Int) == (T:Int))=false:=by rw [beq_eq_false_iff_ne];omega
     have HS:Hid (ReachOf S T (strk left i k) L):=HLf.out.skip (.inr (by intro s1 h1;subst hk0;rw [hs] at h1;cases h1;exact hT))
     have H4:Hid (Own w0 _ _):=hO4.tail.tail.two
     clear hO2 hO3 hO4 hlf hpv hk0 hT hs
     go_wp2_with fail
     go_region_held3 (fun w':World=>w'.cell? ⟨w2.heap.size,1,none⟩=some (.int .u8 (k:Int))∧w'.cell? ⟨w2.heap.size+1,4,none⟩=some (.int .u32 (s.t:Int))∧w'.cell? ⟨b,0,none⟩=some (.int .u32 (T:Int))) (go_keep) (fail)
     all_goals
      go_wp2
      go_roundw
      case rel=>exact ⟨L,_,cn',a1,c1,by rw [HLL.out],by rw [HLL.out];omega,HS.out,by rw [HLL.out];exact H4.out⟩
      case measure=>rw [HM0.out,H4.out.two.siCnt];exact hlt
   ·have hk00:((k:Int) == 0)=false:=by rw [beq_eq_false_iff_ne];omega
    have HS:Hid (ReachOf S T (strk left i k) L):=HLf.out.skip (.inl hk0)
    have hO5:=hO3.allocC #[.int .u8 s.k,.int .i32 s.a,.int .i32 s.b,.int .i32 s.c,.int .u32 (s.t:Int)] 163
    simp only [World.size_alloc] at hO5
    clear hO2 hO3 hO4 hlf hpv hO y4 y1 y2 x0 x1 t0
    have H5:Hid (Own w0 _ _):=hO5
    clear hO5
    go_wp2_with fail
    generalize (w2.alloc (.cells #[.int .u32 (i:Int),.int .u8 (k:Int)] 166)).alloc (.cells #[.int .u8 s.k,.int .i32 s.a,.int .i32 s.b,.int .i32 s.c,.int .u32 (s.t:Int)] 163)=W0 at H5 ⊢
    have k1:W0.cell? ⟨w2.heap.size,1,none⟩=some (.int .u8 (k:Int)):=H5.out.two.cell 1
    have k4:W0.cell? ⟨w2.heap.size+1,4,none⟩=some (.int .u32 (s.t:Int)):=H5.out.cell 4
    have kt:W0.cell? ⟨b,0,none⟩=some (.int .u32 (T:Int)):=HWC.out _ _ H5.out.five
    refine wp_region_held_drew (S:=(fun w':World=>w'.cell? ⟨w2.heap.size,1,none⟩=some (.int .u8 (k:Int))∧w'.cell? ⟨w2.heap.size+1,4,none⟩=some (.int .u32 (s.t:Int))∧w'.cell? ⟨b,0,none⟩=some (.int .u32 (T:Int)))) (by kernel_rfl) ⟨k1,k4,kt⟩ (fun hHeld=>?_)
    refine wpAnyH_take (i := 0) (oi := { dst := some 15,op := Op.fieldAddr 166 (Operand.tmp 6) 1,type := 0,pos := "world.go:115",after := #[],guard := none }) (v := ?_) rfl (by kernel_rfl) (by kernel_rfl) (by kernel_rfl) (fun _ _ _ h => h) (Or.inl ⟨by rfl,?_⟩) (by assumption) ?_
    rotate_left
    ·(intro wx hSw;(try dsimp only at hSw);go_simp;(try with_reducible rfl))
    (try simp only [Act.put,List.setIfInBounds_toArray,List.set_cons_zero,List.set_cons_succ])
    refine wpAnyH_take (i := 1) (oi := { dst := some 16,op := Op.load 5 (Operand.tmp 15),type := 5,pos := "world.go:115",after := #[{ on := 0,ground := Ground.data }],guard := none }) (v := ?_) rfl (by kernel_rfl) (by kernel_rfl) (by kernel_rfl) (fun _ _ _ h => h) (Or.inl ⟨by rfl,?_⟩) (by assumption) ?_
    rotate_left
    ·(intro wx hSw;(try dsimp only at hSw);go_simp;(try with_reducible rfl))
    (try simp only [Act.put,List.setIfInBounds_toArray,List.set_cons_zero,List.set_cons_succ])
    refine wpAnyH_take (i := 2) (oi := { dst := some 17,op := Op.binOp BinOp.eql 5 (Operand.tmp 16) (Operand.const (Value.int IntKind.u8 0)) 5,type := 4,pos := "world.go:115",after := #[{ on := 1,ground := Ground.data }],guard := none }) (v := ?_) rfl (by kernel_rfl) (by kernel_rfl) (by kernel_rfl) (fun _ _ _ h => h) (Or.inl ⟨by rfl,?_⟩) (by assumption) ?_
    rotate_left
    ·(intro wx hSw;(try dsimp only at hSw);go_simp;(try with_reducible rfl))
    (try simp only [Act.put,List.setIfInBounds_toArray,List.set_cons_zero,List.set_cons_succ])
    refine wpAnyH_take (i := 3) (oi := { dst := some 18,op := Op.move (Operand.tmp 17),type := 4,pos := "world.go:115",after := #[{ on := 2,ground := Ground.data }],guard := none }) (v := ?_) rfl (by kernel_rfl) (by kernel_rfl) (by kernel_rfl) (fun _ _ _ h => h) (Or.inl ⟨by rfl,?_⟩) (by assumption) ?_
    rotate_left
    ·(intro wx hSw;(try dsimp only at hSw);go_simp;(try with_reducible rfl))
    (try simp only [Act.put,List.setIfInBounds_toArray,List.set_cons_zero,List.set_cons_succ])
    refine wpAnyH_take (i := 4) (oi := { dst := some 19,op := Op.fieldAddr 163 (Operand.tmp 7) 1,type := 0,pos := "world.go:115",after := #[{ on := 3,ground := Ground.guard }],guard := some (3,true) }) (v := undef) rfl (by kernel_rfl) (by kernel_rfl) (by kernel_rfl) (fun _ _ _ h => h) (Or.inr ⟨by rfl,rfl⟩) (by assumption) ?_
    (try simp only [Act.put,List.setIfInBounds_toArray,List.set_cons_zero,List.set_cons_succ])
    refine wpAnyH_take (i := 5) (oi := { dst := some 20,op := Op.load 22 (Operand.tmp 19),type := 22,pos := "world.go:115",after := #[{ on := 4,ground := Ground.data },{ on := 3,ground := Ground.guard }],guard := some (3,true) }) (v := undef) rfl (by kernel_rfl) (by kernel_rfl) (by kernel_rfl) (fun _ _ _ h => h) (Or.inr ⟨by rfl,rfl⟩) (by assumption) ?_
    (try simp only [Act.put,List.setIfInBounds_toArray,List.set_cons_zero,List.set_cons_succ])
    refine wpAnyH_take (i := 6) (oi := { dst := some 21,op := Op.move (Operand.tmp 0),type := 25,pos := "world.go:115",after := #[{ on := 3,ground := Ground.guard }],guard := some (3,true) }) (v := undef) rfl (by kernel_rfl) (by kernel_rfl) (by kernel_rfl) (fun _ _ _ h => h) (Or.inr ⟨by rfl,rfl⟩) (by assumption) ?_
    (try simp only [Act.put,List.setIfInBounds_toArray,List.set_cons_zero,List.set_cons_succ])
    refine wpAnyH_take (i := 7) (oi := { dst := some 22,op := Op.nilCheck (Operand.tmp 21),type := 0,pos := "world.go:115",after := #[{ on := 6,ground := Ground.data },{ on := 3,ground := Ground.guard }],guard := some (3,true) }) (v := undef) rfl (by kernel_rfl) (by kernel_rfl) (by kernel_rfl) (fun _ _ _ h => h) (Or.inr ⟨by rfl,rfl⟩) (by assumption) ?_
    (try simp only [Act.put,List.setIfInBounds_toArray,List.set_cons_zero,List.set_cons_succ])
    refine wpAnyH_take (i := 8) (oi := { dst := some 23,op := Op.fieldAddr 102 (Operand.tmp 22) 0,type := 0,pos := "world.go:115",after := #[{ on := 7,ground := Ground.data },{ on := 3,ground := Ground.guard }],guard := some (3,true) }) (v := undef) rfl (by kernel_rfl) (by kernel_rfl) (by kernel_rfl) (fun _ _ _ h => h) (Or.inr ⟨by rfl,rfl⟩) (by assumption) ?_
    (try simp only [Act.put,List.setIfInBounds_toArray,List.set_cons_zero,List.set_cons_succ])
    refine wpAnyH_take (i := 9) (oi := { dst := some 24,op := Op.load 22 (Operand.tmp 23),type := 22,pos := "world.go:115",after := #[{ on := 8,ground := Ground.data },{ on := 3,ground := Ground.guard }],guard := some (3,true) }) (v := undef) rfl (by kernel_rfl) (by kernel_rfl) (by kernel_rfl) (fun _ _ _ h => h) (Or.inr ⟨by rfl,rfl⟩) (by assumption) ?_
    (try simp only [Act.put,List.setIfInBounds_toArray,List.set_cons_zero,List.set_cons_succ])
    refine wpAnyH_take (i := 10) (oi := { dst := some 25,op := Op.binOp BinOp.eql 22 (Operand.tmp 20) (Operand.tmp 24) 22,type := 4,pos := "world.go:115",after := #[{ on := 5,ground := Ground.data },{ on := 9,ground := Ground.data },{ on := 3,ground := Ground.guard }],guard := some (3,true) }) (v := undef) rfl (by kernel_rfl) (by kernel_rfl) (by kernel_rfl) (fun _ _ _ h => h) (Or.inr ⟨by rfl,rfl⟩) (by assumption) ?_
    (try simp only [Act.put,List.setIfInBounds_toArray,List.set_cons_zero,List.set_cons_succ])
    refine wpAnyH_take (i := 11) (oi := { dst := some 26,op := Op.pick (Operand.tmp 18) (Operand.tmp 25) (Operand.const (Value.bool false)),type := 4,pos := "world.go:115",after := #[{ on := 3,ground := Ground.data },{ on := 10,ground := Ground.data }],guard := none }) (v := ?_) rfl (by kernel_rfl) (by kernel_rfl) (by kernel_rfl) (fun _ _ _ h => h) (Or.inl ⟨by rfl,?_⟩) (by assumption) ?_
    rotate_left
    ·(intro wx hSw;(try dsimp only at hSw);go_simp;(try with_reducible rfl))
    (try simp only [Act.put,List.setIfInBounds_toArray,List.set_cons_zero,List.set_cons_succ])
    refine wpAnyH_done (by kernel_rfl) ?_ _
    have H4:Hid (Own w0 W0.drew _):=H5.out.drew.tail.tail.two
    clear H5 hHeld k1 k4 kt
    go_wp2
    go_roundw
    case rel=>exact ⟨L,_,cn',a1,c1,by rw [HLL.out],by rw [HLL.out];omega,HS.out,by rw [HLL.out];exact H4.out⟩
    case measure=>rw [HM0.out,H4.out.two.siCnt];exact hlt
theorem left_nil (w0 w:World) (l:List Thing) (b:Nat) (wc:Array Value) (mn:Nat) (hwc:wc[3]? = some (.map none)) (h:Own w0 w (Cells b wc 102::l)) :
  Calls Tryz.prog 103 #[.pointer (some ⟨b,0,none⟩),.map (some mn)] w fun e w'=>e=.returned (.slice none 0 0)∧Own w0 w' (Cells b wc 102::l):=by
 have c3:=h.cell 3
 rw [hwc] at c3
 have hrun:=run_range_nilMap (P:=Tryz.prog) w 100 166 163 Tryz.underlying100
 have H1:Hid (Own w0 w _):=h
 clear h hwc
 go_enter Tryz.func103,Tryz.ntmps103
 go_wp2
 clear hrun c3
 go_loopw [5] (fun v5 wr=>v5=.slice none 0 0∧wr=w.alloc (.mapIter none 0 #[] 0)) (fun _ _=>0)
 case atStart=>exact ⟨rfl,rfl⟩
 case round =>
  obtain ⟨rfl,rfl⟩:=hrel
  have hnx:=run_next_nilMap (P:=Tryz.prog) w 0 0 0 #[]
  go_wp2
  go_ret
  exact ⟨rfl,H1.out.alloc _⟩
end Go.Proofs.YtogmdoiecpihdaaGreatDoor
