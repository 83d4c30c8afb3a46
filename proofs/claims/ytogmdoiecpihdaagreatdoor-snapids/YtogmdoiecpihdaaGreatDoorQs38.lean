/- The document's Do of an order, on the document's store. -/
import Derived.Test.YtogmdoiecpihdaaGreatDoorQs35
import Derived.Test.YtogmdoiecpihdaaGreatDoorQs22
import Derived.Deep.RegionHeld3
import Derived.Test.YtogmdoiecpihdaaGreatDoorQs10
import Derived.Test.YtogmdoiecpihdaaGreatDoorQs15
namespace Go.Proofs.YtogmdoiecpihdaaGreatDoor
open Go.RowKit Go.Maps
set_option linter.unusedVariables false
set_option maxHeartbeats 2000000
set_option maxRecDepth 100000
theorem rag_res (e:Int) (id:Nat):rag (res e id)=if e=0 then .agg #[.int .i64 0,.int .u32 (id:Int)] else .agg #[.int .i64 e,.int .u32 0]:=by
 unfold rag res
 split <;> rfl
section
variable (w0 w:World) (l:List Thing) (b:Nat) (σ:Sto) (K:Nat)
theorem rdo_spawn (h:Own w0 w (RSto b σ K::l)) (hσ:σ.Ok) (hK:K+1 < 1000000) (o:OrdE) (hi:o.In) (hCs:∀ w',Own w0 w' l→Cs w' o.ao o.C) (hb:o.ck=0) (hd:o.d=1) :
  Calls Tryz.prog 111 #[.pointer (some ⟨b,0,none⟩),o.ag] w fun e w'=>e=.returned (rag (res (σ.spawn o.C).2.1 (σ.spawn o.C).1))∧Own w0 w' (RSto b (σ.spawn o.C).2.2 (K+2)::l):=by
 have hA:=(h.allocC #[.int .u8 (o.d:Int),.int .u32 (o.id:Int),.int .u8 (o.k:Int),.slice o.ao o.C.length o.cap] 41).allocC #[.int .i64 0,.int .u32 0] 89
 have e1:(w.alloc (.cells #[.int .u8 (o.d:Int),.int .u32 (o.id:Int),.int .u8 (o.k:Int),.slice o.ao o.C.length o.cap] 41)).heap.size=w.heap.size+1:=by simp
 rw [e1] at hA
 have HC:Hid (Calls Tryz.prog 44 #[o.ag] _ fun e w'=>e=.returned (.int .i64 ((o.ck:Nat):Int))∧Fr Nobody _ w'):=rocheck _ o.d o.id o.k hi.k o.ao o.C.length o.cap o.C rfl (hCs _ hA.tail.tail.tail) hi.C hi.len
 rw [hb] at HC
 have HA:Hid (Own w0 _ _):=hA
 have HX:Hid (∀ w',Own w0 w' (Cells (w.heap.size+1) #[.int .i64 0,.int .u32 0] 89::Cells w.heap.size #[.int .u8 (o.d:Int),.int .u32 (o.id:Int),.int .u8 (o.k:Int),.slice o.ao o.C.length o.cap] 41::RSto b σ K::l)→Calls Tryz.prog 115 #[.pointer (some ⟨b,0,none⟩),.slice o.ao o.C.length o.cap] w' fun e w''=>e=.returned (.tuple #[.int .u32 ((σ.spawn o.C).1:Int),.int .i64 (σ.spawn o.C).2.1])∧Own w0 w'' (Cells (w.heap.size+1) #[.int .i64 0,.int .u32 0] 89::Cells w.heap.size #[.int .u8 (o.d:Int),.int .u32 (o.id:Int),.int .u8 (o.k:Int),.slice o.ao o.C.length o.cap] 41::RSto b (σ.spawn o.C).2.2 (K+2)::l)):=by
  intro w' h'
  refine (rspawnC w0 w' _ b σ K h'.three hσ o.ao o.C.length o.cap o.C rfl (fun w'' h''=>hCs _ h''.tail.tail) hi.C hi.len (by omega)).mono ?_
  rintro e w'' ⟨rfl,h2⟩
  exact ⟨rfl,(h2.rstoK (by omega)).back3⟩
 unfold OrdE.ag at HC ⊢
 obtain ⟨d,oid,k,C,ao,cap⟩:=o
 simp only at HC HA HX hd ⊢
 subst hd
 rw [rag_res]
 generalize (σ.spawn C).2.1=er at *
 generalize (σ.spawn C).1=rid at *
 generalize (σ.spawn C).2.2=σ2 at *
 clear h hA hb e1 hCs hi hσ
 by_cases hx:er=0
 ·subst hx
  rw [if_pos rfl]
  go_enter Tryz.func111,Tryz.ntmps111
  go_wp2_with fail
  refine HC.out.mono ?_
  rintro e w1 ⟨rfl,hf⟩
  have hB:=HA.out.quiet hf
  have HB:Hid (Own w0 _ _):=hB
  have q0:=hB.two.cell 0
  have q1:=hB.two.cell 1
  have q2:=hB.two.cell 2
  have q3:=hB.two.cell 3
  simp at q0 q1 q2 q3
  clear hB hf HC HA
  go_wp2_with fail
  refine (HX.out _ HB.out).mono ?_
  rintro e w2 ⟨rfl,hB2⟩
  clear HX
  have z0:=hB2.cell 0
  have z1:=hB2.cell 1
  simp at z0 z1
  have y0:=hB2.froz 0
  have y1:=hB2.froz 1
  have HF:Hid (Own w0 _ _):=(hB2.setC 0 (.int .i64 0)).setC 1 (.int .u32 (rid:Int))
  clear hB2 q0 q1 q2 q3 HB
  go_wp2
  (try simp only [Exit.inBlock,Exit.then])
  refine bodyPost_ret (v:=.agg #[.int .i64 0,.int .u32 (rid:Int)]) ?_ rfl ⟨rfl,HF.out.tail.tail⟩
  have r0:=HF.out.cell 0
  have r1:=HF.out.cell 1
  simp at r0 r1
  simp only [results]
  go_simp
 ·rw [if_neg hx]
  have hx1:(er != (0:Int))=true:=by simpa using hx
  have hx2:(er == (0:Int))=false:=by simpa using hx
  go_enter Tryz.func111,Tryz.ntmps111
  go_wp2_with fail
  refine HC.out.mono ?_
  rintro e w1 ⟨rfl,hf⟩
  have hB:=HA.out.quiet hf
  have HB:Hid (Own w0 _ _):=hB
  have q0:=hB.two.cell 0
  have q1:=hB.two.cell 1
  have q2:=hB.two.cell 2
  have q3:=hB.two.cell 3
  simp at q0 q1 q2 q3
  clear hB hf HC HA
  go_wp2_with fail
  refine (HX.out _ HB.out).mono ?_
  rintro e w2 ⟨rfl,hB2⟩
  clear HX
  have z0:=hB2.cell 0
  have z1:=hB2.cell 1
  simp at z0 z1
  have y0:=hB2.froz 0
  have y1:=hB2.froz 1
  have HF:Hid (Own w0 _ _):=(hB2.setC 0 (.int .i64 er)).setC 1 (.int .u32 0)
  clear hB2 q0 q1 q2 q3 HB
  go_wp2
  (try simp only [Exit.inBlock,Exit.then])
  refine bodyPost_ret (v:=.agg #[.int .i64 er,.int .u32 0]) ?_ rfl ⟨rfl,HF.out.tail.tail⟩
  have r0:=HF.out.cell 0
  have r1:=HF.out.cell 1
  simp at r0 r1
  simp only [results]
  go_simp
theorem rdo_despawn (h:Own w0 w (RSto b σ K::l)) (hσ:σ.Ok) (hK:K+1 < 1000000) (o:OrdE) (hi:o.In) (hCs:∀ w',Own w0 w' l→Cs w' o.ao o.C) (hb:o.ck=0) (hd:o.d=2) :
  Calls Tryz.prog 111 #[.pointer (some ⟨b,0,none⟩),o.ag] w fun e w'=>e=.returned (rag (res (σ.despawn o.id).1 o.id))∧Own w0 w' (RSto b (σ.despawn o.id).2 (K+2)::l):=by
 have hA:=(h.allocC #[.int .u8 (o.d:Int),.int .u32 (o.id:Int),.int .u8 (o.k:Int),.slice o.ao o.C.length o.cap] 41).allocC #[.int .i64 0,.int .u32 0] 89
 have e1:(w.alloc (.cells #[.int .u8 (o.d:Int),.int .u32 (o.id:Int),.int .u8 (o.k:Int),.slice o.ao o.C.length o.cap] 41)).heap.size=w.heap.size+1:=by simp
 rw [e1] at hA
 have HC:Hid (Calls Tryz.prog 44 #[o.ag] _ fun e w'=>e=.returned (.int .i64 ((o.ck:Nat):Int))∧Fr Nobody _ w'):=rocheck _ o.d o.id o.k hi.k o.ao o.C.length o.cap o.C rfl (hCs _ hA.tail.tail.tail) hi.C hi.len
 rw [hb] at HC
 have HA:Hid (Own w0 _ _):=hA
 have HX:Hid (∀ w',Own w0 w' (Cells (w.heap.size+1) #[.int .i64 0,.int .u32 0] 89::Cells w.heap.size #[.int .u8 (o.d:Int),.int .u32 (o.id:Int),.int .u8 (o.k:Int),.slice o.ao o.C.length o.cap] 41::RSto b σ K::l)→Calls Tryz.prog 114 #[.pointer (some ⟨b,0,none⟩),.int .u32 (o.id:Int)] w' fun e w''=>e=.returned (.int .i64 (σ.despawn o.id).1)∧Own w0 w'' (Cells (w.heap.size+1) #[.int .i64 0,.int .u32 0] 89::Cells w.heap.size #[.int .u8 (o.d:Int),.int .u32 (o.id:Int),.int .u8 (o.k:Int),.slice o.ao o.C.length o.cap] 41::RSto b (σ.despawn o.id).2 (K+2)::l)):=by
  intro w' h'
  refine (rdespawnC w0 w' _ b σ K h'.three hσ o.id hi.id (by omega)).mono ?_
  rintro e w'' ⟨rfl,h2⟩
  exact ⟨rfl,(h2.rstoK (by omega)).back3⟩
 unfold OrdE.ag at HC ⊢
 obtain ⟨d,oid,k,C,ao,cap⟩:=o
 simp only at HC HA HX hd ⊢
 subst hd
 rw [rag_res]
 obtain ⟨rid,hrid⟩:∃ r,r=oid:=⟨_,rfl⟩
 subst hrid
 generalize (σ.despawn rid).1=er at *
 generalize (σ.despawn rid).2=σ2 at *
 clear h hA hb e1 hCs hi hσ
 by_cases hx:er=0
 ·subst hx
  rw [if_pos rfl]
  go_enter Tryz.func111,Tryz.ntmps111
  go_wp2_with fail
  refine HC.out.mono ?_
  rintro e w1 ⟨rfl,hf⟩
  have hB:=HA.out.quiet hf
  have HB:Hid (Own w0 _ _):=hB
  have q0:=hB.two.cell 0
  have q1:=hB.two.cell 1
  have q2:=hB.two.cell 2
  have q3:=hB.two.cell 3
  simp at q0 q1 q2 q3
  clear hB hf HC HA
  go_wp2_with fail
  refine (HX.out _ HB.out).mono ?_
  rintro e w2 ⟨rfl,hB2⟩
  clear HX
  have z0:=hB2.cell 0
  have z1:=hB2.cell 1
  simp at z0 z1
  have y0:=hB2.froz 0
  have y1:=hB2.froz 1
  have HF:Hid (Own w0 _ _):=(hB2.setC 0 (.int .i64 0)).setC 1 (.int .u32 (rid:Int))
  clear hB2 q0 q1 q2 q3 HB
  go_wp2
  (try simp only [Exit.inBlock,Exit.then])
  refine bodyPost_ret (v:=.agg #[.int .i64 0,.int .u32 (rid:Int)]) ?_ rfl ⟨rfl,HF.out.tail.tail⟩
  have r0:=HF.out.cell 0
  have r1:=HF.out.cell 1
  simp at r0 r1
  simp only [results]
  go_simp
 ·rw [if_neg hx]
  have hx1:(er != (0:Int))=true:=by simpa using hx
  have hx2:(er == (0:Int))=false:=by simpa using hx
  go_enter Tryz.func111,Tryz.ntmps111
  go_wp2_with fail
  refine HC.out.mono ?_
  rintro e w1 ⟨rfl,hf⟩
  have hB:=HA.out.quiet hf
  have HB:Hid (Own w0 _ _):=hB
  have q0:=hB.two.cell 0
  have q1:=hB.two.cell 1
  have q2:=hB.two.cell 2
  have q3:=hB.two.cell 3
  simp at q0 q1 q2 q3
  clear hB hf HC HA
  go_wp2_with fail
  refine (HX.out _ HB.out).mono ?_
  rintro e w2 ⟨rfl,hB2⟩
  clear HX
  have z0:=hB2.cell 0
  have z1:=hB2.cell 1
  simp at z0 z1
  have y0:=hB2.froz 0
  have y1:=hB2.froz 1
  have HF:Hid (Own w0 _ _):=(hB2.setC 0 (.int .i64 er)).setC 1 (.int .u32 0)
  clear hB2 q0 q1 q2 q3 HB
  go_wp2
  (try simp only [Exit.inBlock,Exit.then])
  refine bodyPost_ret (v:=.agg #[.int .i64 er,.int .u32 0]) ?_ rfl ⟨rfl,HF.out.tail.tail⟩
  have r0:=HF.out.cell 0
  have r1:=HF.out.cell 1
  simp at r0 r1
  simp only [results]
  go_simp
theorem rdo_remove (h:Own w0 w (RSto b σ K::l)) (hσ:σ.Ok) (hK:K+1 < 1000000) (o:OrdE) (hi:o.In) (hCs:∀ w',Own w0 w' l→Cs w' o.ao o.C) (hb:o.ck=0) (hd:o.d=5) :
  Calls Tryz.prog 111 #[.pointer (some ⟨b,0,none⟩),o.ag] w fun e w'=>e=.returned (rag (res (σ.remove o.id o.k).1 o.id))∧Own w0 w' (RSto b (σ.remove o.id o.k).2 (K+2)::l):=by
 have hA:=(h.allocC #[.int .u8 (o.d:Int),.int .u32 (o.id:Int),.int .u8 (o.k:Int),.slice o.ao o.C.length o.cap] 41).allocC #[.int .i64 0,.int .u32 0] 89
 have e1:(w.alloc (.cells #[.int .u8 (o.d:Int),.int .u32 (o.id:Int),.int .u8 (o.k:Int),.slice o.ao o.C.length o.cap] 41)).heap.size=w.heap.size+1:=by simp
 rw [e1] at hA
 have HC:Hid (Calls Tryz.prog 44 #[o.ag] _ fun e w'=>e=.returned (.int .i64 ((o.ck:Nat):Int))∧Fr Nobody _ w'):=rocheck _ o.d o.id o.k hi.k o.ao o.C.length o.cap o.C rfl (hCs _ hA.tail.tail.tail) hi.C hi.len
 rw [hb] at HC
 have HA:Hid (Own w0 _ _):=hA
 have HX:Hid (∀ w',Own w0 w' (Cells (w.heap.size+1) #[.int .i64 0,.int .u32 0] 89::Cells w.heap.size #[.int .u8 (o.d:Int),.int .u32 (o.id:Int),.int .u8 (o.k:Int),.slice o.ao o.C.length o.cap] 41::RSto b σ K::l)→Calls Tryz.prog 166 #[.pointer (some ⟨b,0,none⟩),.int .u32 (o.id:Int),.int .u8 (o.k:Int)] w' fun e w''=>e=.returned (.int .i64 (σ.remove o.id o.k).1)∧Own w0 w'' (Cells (w.heap.size+1) #[.int .i64 0,.int .u32 0] 89::Cells w.heap.size #[.int .u8 (o.d:Int),.int .u32 (o.id:Int),.int .u8 (o.k:Int),.slice o.ao o.C.length o.cap] 41::RSto b (σ.remove o.id o.k).2 (K+2)::l)):=by
  intro w' h'
  refine (rremoveS w0 w' _ b σ K h'.three hσ o.id hi.id o.k hi.k (by omega)).mono ?_
  rintro e w'' ⟨rfl,h2⟩
  exact ⟨rfl,(h2.rstoK (by omega)).back3⟩
 unfold OrdE.ag at HC ⊢
 obtain ⟨d,oid,k,C,ao,cap⟩:=o
 simp only at HC HA HX hd ⊢
 subst hd
 rw [rag_res]
 obtain ⟨rid,hrid⟩:∃ r,r=oid:=⟨_,rfl⟩
 subst hrid
 generalize (σ.remove rid k).1=er at *
 generalize (σ.remove rid k).2=σ2 at *
 clear h hA hb e1 hCs hi hσ
 by_cases hx:er=0
 ·subst hx
  rw [if_pos rfl]
  go_enter Tryz.func111,Tryz.ntmps111
  go_wp2_with fail
  refine HC.out.mono ?_
  rintro e w1 ⟨rfl,hf⟩
  have hB:=HA.out.quiet hf
  have HB:Hid (Own w0 _ _):=hB
  have q0:=hB.two.cell 0
  have q1:=hB.two.cell 1
  have q2:=hB.two.cell 2
  have q3:=hB.two.cell 3
  simp at q0 q1 q2 q3
  clear hB hf HC HA
  go_wp2_with fail
  refine (HX.out _ HB.out).mono ?_
  rintro e w2 ⟨rfl,hB2⟩
  clear HX
  have z0:=hB2.cell 0
  have z1:=hB2.cell 1
  simp at z0 z1
  have y0:=hB2.froz 0
  have y1:=hB2.froz 1
  have HF:Hid (Own w0 _ _):=(hB2.setC 0 (.int .i64 0)).setC 1 (.int .u32 (rid:Int))
  clear hB2 q0 q1 q2 q3 HB
  go_wp2
  (try simp only [Exit.inBlock,Exit.then])
  refine bodyPost_ret (v:=.agg #[.int .i64 0,.int .u32 (rid:Int)]) ?_ rfl ⟨rfl,HF.out.tail.tail⟩
  have r0:=HF.out.cell 0
  have r1:=HF.out.cell 1
  simp at r0 r1
  simp only [results]
  go_simp
 ·rw [if_neg hx]
  have hx1:(er != (0:Int))=true:=by simpa using hx
  have hx2:(er == (0:Int))=false:=by simpa using hx
  go_enter Tryz.func111,Tryz.ntmps111
  go_wp2_with fail
  refine HC.out.mono ?_
  rintro e w1 ⟨rfl,hf⟩
  have hB:=HA.out.quiet hf
  have HB:Hid (Own w0 _ _):=hB
  have q0:=hB.two.cell 0
  have q1:=hB.two.cell 1
  have q2:=hB.two.cell 2
  have q3:=hB.two.cell 3
  simp at q0 q1 q2 q3
  clear hB hf HC HA
  go_wp2_with fail
  refine (HX.out _ HB.out).mono ?_
  rintro e w2 ⟨rfl,hB2⟩
  clear HX
  have z0:=hB2.cell 0
  have z1:=hB2.cell 1
  simp at z0 z1
  have y0:=hB2.froz 0
  have y1:=hB2.froz 1
  have HF:Hid (Own w0 _ _):=(hB2.setC 0 (.int .i64 er)).setC 1 (.int .u32 0)
  clear hB2 q0 q1 q2 q3 HB
  go_wp2
  (try simp only [Exit.inBlock,Exit.then])
  refine bodyPost_ret (v:=.agg #[.int .i64 er,.int .u32 0]) ?_ rfl ⟨rfl,HF.out.tail.tail⟩
  have r0:=HF.out.cell 0
  have r1:=HF.out.cell 1
  simp at r0 r1
  simp only [results]
  go_simp
theorem rdo_set (h:Own w0 w (RSto b σ K::l)) (hσ:σ.Ok) (hK:K+1 < 1000000) (o:OrdE) (hi:o.In) (hCs:∀ w',Own w0 w' l→Cs w' o.ao o.C) (hb:o.ck=0) (hd:o.d=3) (q:Cp) (hq:o.C=[q]) :
  Calls Tryz.prog 111 #[.pointer (some ⟨b,0,none⟩),o.ag] w fun e w'=>e=.returned (rag (res (σ.set o.id q).1 o.id))∧Own w0 w' (RSto b (σ.set o.id q).2 (K+2)::l):=by
 have hA:=(h.allocC #[.int .u8 (o.d:Int),.int .u32 (o.id:Int),.int .u8 (o.k:Int),.slice o.ao o.C.length o.cap] 41).allocC #[.int .i64 0,.int .u32 0] 89
 have e1:(w.alloc (.cells #[.int .u8 (o.d:Int),.int .u32 (o.id:Int),.int .u8 (o.k:Int),.slice o.ao o.C.length o.cap] 41)).heap.size=w.heap.size+1:=by simp
 rw [e1] at hA
 have HC:Hid (Calls Tryz.prog 44 #[o.ag] _ fun e w'=>e=.returned (.int .i64 ((o.ck:Nat):Int))∧Fr Nobody _ w'):=rocheck _ o.d o.id o.k hi.k o.ao o.C.length o.cap o.C rfl (hCs _ hA.tail.tail.tail) hi.C hi.len
 rw [hb] at HC
 have HA:Hid (Own w0 _ _):=hA
 have HX:Hid (∀ w',Own w0 w' (Cells (w.heap.size+1) #[.int .i64 0,.int .u32 0] 89::Cells w.heap.size #[.int .u8 (o.d:Int),.int .u32 (o.id:Int),.int .u8 (o.k:Int),.slice o.ao o.C.length o.cap] 41::RSto b σ K::l)→Calls Tryz.prog 113 #[.pointer (some ⟨b,0,none⟩),.int .u32 (o.id:Int),q.ag] w' fun e w''=>e=.returned (.int .i64 (σ.set o.id q).1)∧Own w0 w'' (Cells (w.heap.size+1) #[.int .i64 0,.int .u32 0] 89::Cells w.heap.size #[.int .u8 (o.d:Int),.int .u32 (o.id:Int),.int .u8 (o.k:Int),.slice o.ao o.C.length o.cap] 41::RSto b (σ.set o.id q).2 (K+2)::l)):=by
  intro w' h'
  refine (rsetS w0 w' _ b σ K h'.three hσ o.id hi.id q (hi.C q (by rw [hq];simp)) (by omega)).mono ?_
  rintro e w'' ⟨rfl,h2⟩
  exact ⟨rfl,(h2.rstoK (by omega)).back3⟩
 obtain ⟨g,oo,hao,_,_⟩:=(hCs _ hA.tail.tail.tail).at 0 q (by rw [hq];rfl)
 have HCE:Hid (∀ w',Own w0 w' l→At4 w' g oo q):=by
  intro w' h'
  obtain ⟨g',o',he,_,hat⟩:=(hCs _ h').at 0 q (by rw [hq];rfl)
  rw [hao] at he
  cases he
  simpa using hat
 unfold OrdE.ag at HC ⊢
 obtain ⟨d,oid,k,C,ao,cap⟩:=o
 simp only at HC HA HX hd hq hao ⊢
 subst hd
 subst hq
 subst hao
 obtain ⟨qk,qa,qb,qc⟩:=q
 unfold Cp.ag at HX
 simp only at HX
 rw [rag_res]
 obtain ⟨rid,hrid⟩:∃ r,r=oid:=⟨_,rfl⟩
 subst hrid
 generalize (σ.set rid ⟨qk,qa,qb,qc⟩).1=er at *
 generalize (σ.set rid ⟨qk,qa,qb,qc⟩).2=σ2 at *
 obtain ⟨oid,hoid⟩:∃ r,r=rid:=⟨_,rfl⟩
 subst hoid
 clear h hA hb e1 hCs hi hσ
 by_cases hx:er=0
 ·subst hx
  rw [if_pos rfl]
  go_enter Tryz.func111,Tryz.ntmps111
  go_wp2_with fail
  refine HC.out.mono ?_
  rintro e w1 ⟨rfl,hf⟩
  have hB:=(HA.out.quiet hf).drew
  have HB:Hid (Own w0 _ _):=hB
  have q0:=hB.two.cell 0
  have q1:=hB.two.cell 1
  have q2:=hB.two.cell 2
  have q3:=hB.two.cell 3
  simp at q0 q1 q2 q3
  obtain ⟨c0,c1,c2,c3⟩:=HCE.out _ hB.tail.tail.tail
  simp only at c0 c1 c2 c3
  clear hB hf HC HA
  go_wp2_with fail
  go_region_held3 (fun w'=>w'.cell? ⟨w.heap.size,1,none⟩=some (.int .u32 (oid:Int))∧w'.cell? ⟨w.heap.size,3,none⟩=some (.slice (some ⟨g,oo,none⟩) 1 cap)∧w'.cell? ⟨g,oo,none⟩=some (.int .u8 (qk:Int))∧w'.cell? ⟨g,oo+1,none⟩=some (.int .i32 qa)∧w'.cell? ⟨g,oo+2,none⟩=some (.int .i32 qb)∧w'.cell? ⟨g,oo+3,none⟩=some (.int .i32 qc)) (go_keep)
   (first
    | (go_at_call 113;refine (HX.out _ HB.out).mono ?_;rintro e w2 ⟨rfl,hB2⟩
       have t1:=hB2.two.cell 1
       have t3:=hB2.two.cell 3
       simp at t1 t3
       obtain ⟨s0,s1,s2,s3⟩:=HCE.out _ hB2.tail.tail.tail
       simp only at s0 s1 s2 s3
       have H2:Hid (Own w0 w2 _):=hB2
       clear hB2))
  all_goals
   have hB2:=H2.out
   clear HX H2
   have z0:=hB2.cell 0
   have z1:=hB2.cell 1
   simp at z0 z1
   have y0:=hB2.froz 0
   have y1:=hB2.froz 1
   have HF:Hid (Own w0 _ _):=(hB2.setC 0 (.int .i64 0)).setC 1 (.int .u32 (oid:Int))
   clear hB2 q0 q1 q2 q3 HB
   go_wp2
   (try simp only [Exit.inBlock,Exit.then])
   refine bodyPost_ret (v:=.agg #[.int .i64 0,.int .u32 (oid:Int)]) ?_ rfl ⟨rfl,HF.out.tail.tail⟩
   have r0:=HF.out.cell 0
   have r1:=HF.out.cell 1
   simp at r0 r1
   simp only [results]
   go_simp
 ·rw [if_neg hx]
  have hx1:(er != (0:Int))=true:=by simpa using hx
  have hx2:(er == (0:Int))=false:=by simpa using hx
  go_enter Tryz.func111,Tryz.ntmps111
  go_wp2_with fail
  refine HC.out.mono ?_
  rintro e w1 ⟨rfl,hf⟩
  have hB:=(HA.out.quiet hf).drew
  have HB:Hid (Own w0 _ _):=hB
  have q0:=hB.two.cell 0
  have q1:=hB.two.cell 1
  have q2:=hB.two.cell 2
  have q3:=hB.two.cell 3
  simp at q0 q1 q2 q3
  obtain ⟨c0,c1,c2,c3⟩:=HCE.out _ hB.tail.tail.tail
  simp only at c0 c1 c2 c3
  clear hB hf HC HA
  go_wp2_with fail
  go_region_held3 (fun w'=>w'.cell? ⟨w.heap.size,1,none⟩=some (.int .u32 (oid:Int))∧w'.cell? ⟨w.heap.size,3,none⟩=some (.slice (some ⟨g,oo,none⟩) 1 cap)∧w'.cell? ⟨g,oo,none⟩=some (.int .u8 (qk:Int))∧w'.cell? ⟨g,oo+1,none⟩=some (.int .i32 qa)∧w'.cell? ⟨g,oo+2,none⟩=some (.int .i32 qb)∧w'.cell? ⟨g,oo+3,none⟩=some (.int .i32 qc)) (go_keep)
   (first
    | (go_at_call 113;refine (HX.out _ HB.out).mono ?_;rintro e w2 ⟨rfl,hB2⟩
       have t1:=hB2.two.cell 1
       have t3:=hB2.two.cell 3
       simp at t1 t3
       obtain ⟨s0,s1,s2,s3⟩:=HCE.out _ hB2.tail.tail.tail
       simp only at s0 s1 s2 s3
       have H2:Hid (Own w0 w2 _):=hB2
       clear hB2))
  all_goals
   have hB2:=H2.out
   clear HX H2
   have z0:=hB2.cell 0
   have z1:=hB2.cell 1
   simp at z0 z1
   have y0:=hB2.froz 0
   have y1:=hB2.froz 1
   have HF:Hid (Own w0 _ _):=(hB2.setC 0 (.int .i64 er)).setC 1 (.int .u32 0)
   clear hB2 q0 q1 q2 q3 HB
   go_wp2
   (try simp only [Exit.inBlock,Exit.then])
   refine bodyPost_ret (v:=.agg #[.int .i64 er,.int .u32 0]) ?_ rfl ⟨rfl,HF.out.tail.tail⟩
   have r0:=HF.out.cell 0
   have r1:=HF.out.cell 1
   simp at r0 r1
   simp only [results]
   go_simp
theorem rdo_add (h:Own w0 w (RSto b σ K::l)) (hσ:σ.Ok) (hK:K+1 < 1000000) (o:OrdE) (hi:o.In) (hCs:∀ w',Own w0 w' l→Cs w' o.ao o.C) (hb:o.ck=0) (hd:o.d=4) (q:Cp) (hq:o.C=[q]) :
  Calls Tryz.prog 111 #[.pointer (some ⟨b,0,none⟩),o.ag] w fun e w'=>e=.returned (rag (res (σ.add o.id q).1 o.id))∧Own w0 w' (RSto b (σ.add o.id q).2 (K+2)::l):=by
 have hA:=(h.allocC #[.int .u8 (o.d:Int),.int .u32 (o.id:Int),.int .u8 (o.k:Int),.slice o.ao o.C.length o.cap] 41).allocC #[.int .i64 0,.int .u32 0] 89
 have e1:(w.alloc (.cells #[.int .u8 (o.d:Int),.int .u32 (o.id:Int),.int .u8 (o.k:Int),.slice o.ao o.C.length o.cap] 41)).heap.size=w.heap.size+1:=by simp
 rw [e1] at hA
 have HC:Hid (Calls Tryz.prog 44 #[o.ag] _ fun e w'=>e=.returned (.int .i64 ((o.ck:Nat):Int))∧Fr Nobody _ w'):=rocheck _ o.d o.id o.k hi.k o.ao o.C.length o.cap o.C rfl (hCs _ hA.tail.tail.tail) hi.C hi.len
 rw [hb] at HC
 have HA:Hid (Own w0 _ _):=hA
 have HX:Hid (∀ w',Own w0 w' (Cells (w.heap.size+1) #[.int .i64 0,.int .u32 0] 89::Cells w.heap.size #[.int .u8 (o.d:Int),.int .u32 (o.id:Int),.int .u8 (o.k:Int),.slice o.ao o.C.length o.cap] 41::RSto b σ K::l)→Calls Tryz.prog 165 #[.pointer (some ⟨b,0,none⟩),.int .u32 (o.id:Int),q.ag] w' fun e w''=>e=.returned (.int .i64 (σ.add o.id q).1)∧Own w0 w'' (Cells (w.heap.size+1) #[.int .i64 0,.int .u32 0] 89::Cells w.heap.size #[.int .u8 (o.d:Int),.int .u32 (o.id:Int),.int .u8 (o.k:Int),.slice o.ao o.C.length o.cap] 41::RSto b (σ.add o.id q).2 (K+2)::l)):=by
  intro w' h'
  refine (raddS w0 w' _ b σ K h'.three hσ o.id hi.id q (hi.C q (by rw [hq];simp)) (by omega)).mono ?_
  rintro e w'' ⟨rfl,h2⟩
  exact ⟨rfl,(h2.rstoK (by omega)).back3⟩
 obtain ⟨g,oo,hao,_,_⟩:=(hCs _ hA.tail.tail.tail).at 0 q (by rw [hq];rfl)
 have HCE:Hid (∀ w',Own w0 w' l→At4 w' g oo q):=by
  intro w' h'
  obtain ⟨g',o',he,_,hat⟩:=(hCs _ h').at 0 q (by rw [hq];rfl)
  rw [hao] at he
  cases he
  simpa using hat
 unfold OrdE.ag at HC ⊢
 obtain ⟨d,oid,k,C,ao,cap⟩:=o
 simp only at HC HA HX hd hq hao ⊢
 subst hd
 subst hq
 subst hao
 obtain ⟨qk,qa,qb,qc⟩:=q
 unfold Cp.ag at HX
 simp only at HX
 rw [rag_res]
 obtain ⟨rid,hrid⟩:∃ r,r=oid:=⟨_,rfl⟩
 subst hrid
 generalize (σ.add rid ⟨qk,qa,qb,qc⟩).1=er at *
 generalize (σ.add rid ⟨qk,qa,qb,qc⟩).2=σ2 at *
 obtain ⟨oid,hoid⟩:∃ r,r=rid:=⟨_,rfl⟩
 subst hoid
 clear h hA hb e1 hCs hi hσ
 by_cases hx:er=0
 ·subst hx
  rw [if_pos rfl]
  go_enter Tryz.func111,Tryz.ntmps111
  go_wp2_with fail
  refine HC.out.mono ?_
  rintro e w1 ⟨rfl,hf⟩
  have hB:=(HA.out.quiet hf).drew
  have HB:Hid (Own w0 _ _):=hB
  have q0:=hB.two.cell 0
  have q1:=hB.two.cell 1
  have q2:=hB.two.cell 2
  have q3:=hB.two.cell 3
  simp at q0 q1 q2 q3
  obtain ⟨c0,c1,c2,c3⟩:=HCE.out _ hB.tail.tail.tail
  simp only at c0 c1 c2 c3
  clear hB hf HC HA
  go_wp2_with fail
  go_region_held3 (fun w'=>w'.cell? ⟨w.heap.size,1,none⟩=some (.int .u32 (oid:Int))∧w'.cell? ⟨w.heap.size,3,none⟩=some (.slice (some ⟨g,oo,none⟩) 1 cap)∧w'.cell? ⟨g,oo,none⟩=some (.int .u8 (qk:Int))∧w'.cell? ⟨g,oo+1,none⟩=some (.int .i32 qa)∧w'.cell? ⟨g,oo+2,none⟩=some (.int .i32 qb)∧w'.cell? ⟨g,oo+3,none⟩=some (.int .i32 qc)) (go_keep)
   (first
    | (go_at_call 165;refine (HX.out _ HB.out).mono ?_;rintro e w2 ⟨rfl,hB2⟩
       have t1:=hB2.two.cell 1
       have t3:=hB2.two.cell 3
       simp at t1 t3
       obtain ⟨s0,s1,s2,s3⟩:=HCE.out _ hB2.tail.tail.tail
       simp only at s0 s1 s2 s3
       have H2:Hid (Own w0 w2 _):=hB2
       clear hB2))
  all_goals
   have hB2:=H2.out
   clear HX H2
   have z0:=hB2.cell 0
   have z1:=hB2.cell 1
   simp at z0 z1
   have y0:=hB2.froz 0
   have y1:=hB2.froz 1
   have HF:Hid (Own w0 _ _):=(hB2.setC 0 (.int .i64 0)).setC 1 (.int .u32 (oid:Int))
   clear hB2 q0 q1 q2 q3 HB
   go_wp2
   (try simp only [Exit.inBlock,Exit.then])
   refine bodyPost_ret (v:=.agg #[.int .i64 0,.int .u32 (oid:Int)]) ?_ rfl ⟨rfl,HF.out.tail.tail⟩
   have r0:=HF.out.cell 0
   have r1:=HF.out.cell 1
   simp at r0 r1
   simp only [results]
   go_simp
 ·rw [if_neg hx]
  have hx1:(er != (0:Int))=true:=by simpa using hx
  have hx2:(er == (0:Int))=false:=by simpa using hx
  go_enter Tryz.func111,Tryz.ntmps111
  go_wp2_with fail
  refine HC.out.mono ?_
  rintro e w1 ⟨rfl,hf⟩
  have hB:=(HA.out.quiet hf).drew
  have HB:Hid (Own w0 _ _):=hB
  have q0:=hB.two.cell 0
  have q1:=hB.two.cell 1
  have q2:=hB.two.cell 2
  have q3:=hB.two.cell 3
  simp at q0 q1 q2 q3
  obtain ⟨c0,c1,c2,c3⟩:=HCE.out _ hB.tail.tail.tail
  simp only at c0 c1 c2 c3
  clear hB hf HC HA
  go_wp2_with fail
  go_region_held3 (fun w'=>w'.cell? ⟨w.heap.size,1,none⟩=some (.int .u32 (oid:Int))∧w'.cell? ⟨w.heap.size,3,none⟩=some (.slice (some ⟨g,oo,none⟩) 1 cap)∧w'.cell? ⟨g,oo,none⟩=some (.int .u8 (qk:Int))∧w'.cell? ⟨g,oo+1,none⟩=some (.int .i32 qa)∧w'.cell? ⟨g,oo+2,none⟩=some (.int .i32 qb)∧w'.cell? ⟨g,oo+3,none⟩=some (.int .i32 qc)) (go_keep)
   (first
    | (go_at_call 165;refine (HX.out _ HB.out).mono ?_;rintro e w2 ⟨rfl,hB2⟩
       have t1:=hB2.two.cell 1
       have t3:=hB2.two.cell 3
       simp at t1 t3
       obtain ⟨s0,s1,s2,s3⟩:=HCE.out _ hB2.tail.tail.tail
       simp only at s0 s1 s2 s3
       have H2:Hid (Own w0 w2 _):=hB2
       clear hB2))
  all_goals
   have hB2:=H2.out
   clear HX H2
   have z0:=hB2.cell 0
   have z1:=hB2.cell 1
   simp at z0 z1
   have y0:=hB2.froz 0
   have y1:=hB2.froz 1
   have HF:Hid (Own w0 _ _):=(hB2.setC 0 (.int .i64 er)).setC 1 (.int .u32 0)
   clear hB2 q0 q1 q2 q3 HB
   go_wp2
   (try simp only [Exit.inBlock,Exit.then])
   refine bodyPost_ret (v:=.agg #[.int .i64 er,.int .u32 0]) ?_ rfl ⟨rfl,HF.out.tail.tail⟩
   have r0:=HF.out.cell 0
   have r1:=HF.out.cell 1
   simp at r0 r1
   simp only [results]
   go_simp
theorem rdo_any (s:Sto × Nat) (h:Own w0 w (RSto b s.1 s.2::l)) (hσ:s.1.Ok) (hK:s.2+1 < 1000000) (o:OrdE) (hi:o.In) (hCs:∀ w',Own w0 w' l→Cs w' o.ao o.C) (HB:o.ck≠0→Calls Tryz.prog 111 #[.pointer (some ⟨b,0,none⟩),o.ag] w fun e w'=>e=.returned (rag ((o.ck:Int),0))∧Own w0 w' (RSto b s.1 s.2::l)) :
  Calls Tryz.prog 111 #[.pointer (some ⟨b,0,none⟩),o.ag] w fun e w'=>e=.returned (rag (stq s o).1)∧Own w0 w' (RSto b (stq s o).2.1 (stq s o).2.2::l):=by
 obtain ⟨σ,K⟩:=s
 simp only at h hσ hK HB
 by_cases hb:o.ck=0
 ·have hw:=ock_ways hb
  rcases hw with hd | hd | hd | hd | hd
  ·have e:stq (σ,K) o=(res (σ.spawn o.C).2.1 (σ.spawn o.C).1,((σ.spawn o.C).2.2,K+2)):=by unfold stq;rw [if_neg (by simp [hb]),if_pos hd]
   rw [e]
   exact rdo_spawn w0 w l b σ K h hσ hK o hi hCs hb hd
  ·have e:stq (σ,K) o=(res (σ.despawn o.id).1 o.id,((σ.despawn o.id).2,K+2)):=by unfold stq;rw [if_neg (by simp [hb]),if_neg (by omega),if_pos hd]
   rw [e]
   exact rdo_despawn w0 w l b σ K h hσ hK o hi hCs hb hd
  ·obtain ⟨q,hq⟩:∃ q,o.C=[q]:=List.length_eq_one_iff.1 (ock_one (.inl hd) hb)
   have hc:o.c=q:=by unfold OrdE.c;rw [hq];rfl
   have e:stq (σ,K) o=(res (σ.set o.id q).1 o.id,((σ.set o.id q).2,K+2)):=by unfold stq;rw [if_neg (by simp [hb]),if_neg (by omega),if_neg (by omega),if_pos hd,hc]
   rw [e]
   exact rdo_set w0 w l b σ K h hσ hK o hi hCs hb hd q hq
  ·obtain ⟨q,hq⟩:∃ q,o.C=[q]:=List.length_eq_one_iff.1 (ock_one (.inr hd) hb)
   have hc:o.c=q:=by unfold OrdE.c;rw [hq];rfl
   have e:stq (σ,K) o=(res (σ.add o.id q).1 o.id,((σ.add o.id q).2,K+2)):=by unfold stq;rw [if_neg (by simp [hb]),if_neg (by omega),if_neg (by omega),if_neg (by omega),if_pos hd,hc]
   rw [e]
   exact rdo_add w0 w l b σ K h hσ hK o hi hCs hb hd q hq
  ·have e:stq (σ,K) o=(res (σ.remove o.id o.k).1 o.id,((σ.remove o.id o.k).2,K+2)):=by unfold stq;rw [if_neg (by simp [hb]),if_neg (by omega),if_neg (by omega),if_neg (by omega),if_neg (by omega)]
   rw [e]
   exact rdo_remove w0 w l b σ K h hσ hK o hi hCs hb hd
 ·have e:stq (σ,K) o=(((o.ck:Int),0),(σ,K+2)):=by unfold stq;rw [if_pos hb]
  rw [e]
  refine (HB hb).mono ?_
  rintro e w' ⟨he,h2⟩
  exact ⟨he,h2.rstoK (Nat.le_add_right K 2)⟩
theorem rdo_bad (P:Thing) (p:Option Addr) (h:Own w0 w (P::l)) (o:OrdE) (hi:o.In) (hCs:∀ w',Own w0 w' (P::l)→Cs w' o.ao o.C) (hb:o.ck≠0) :
  Calls Tryz.prog 111 #[.pointer p,o.ag] w fun e w'=>e=.returned (rag ((o.ck:Int),0))∧Own w0 w' (P::l):=by
 have hA:=(h.allocC #[.int .u8 (o.d:Int),.int .u32 (o.id:Int),.int .u8 (o.k:Int),.slice o.ao o.C.length o.cap] 41).allocC #[.int .i64 0,.int .u32 0] 89
 have e1:(w.alloc (.cells #[.int .u8 (o.d:Int),.int .u32 (o.id:Int),.int .u8 (o.k:Int),.slice o.ao o.C.length o.cap] 41)).heap.size=w.heap.size+1:=by simp
 rw [e1] at hA
 have HC:Hid (Calls Tryz.prog 44 #[o.ag] _ fun e w'=>e=.returned (.int .i64 ((o.ck:Nat):Int))∧Fr Nobody _ w'):=rocheck _ o.d o.id o.k hi.k o.ao o.C.length o.cap o.C rfl (hCs _ hA.tail.tail) hi.C hi.len
 have HA:Hid (Own w0 _ _):=hA
 unfold OrdE.ag at HC ⊢
 generalize o.ck=er at *
 obtain ⟨d,oid,k,C,ao,cap⟩:=o
 simp only at HC HA ⊢
 have hx1:((er:Int) != (0:Int))=true:=by simpa using hb
 have hx2:((er:Int) == (0:Int))=false:=by simpa using hb
 clear h hA e1 hCs hi hb
 have e2:rag ((er:Int),0)=.agg #[.int .i64 (er:Int),.int .u32 0]:=rfl
 rw [e2]
 clear e2
 go_enter Tryz.func111,Tryz.ntmps111
 go_wp2_with fail
 refine HC.out.mono ?_
 rintro e w1 ⟨rfl,hf⟩
 have hB:=HA.out.quiet hf
 have HB:Hid (Own w0 _ _):=hB
 have q0:=hB.two.cell 0
 have q1:=hB.two.cell 1
 have q2:=hB.two.cell 2
 have q3:=hB.two.cell 3
 simp at q0 q1 q2 q3
 clear hf HC HA
 have hB2:=hB
 clear hB
 have z0:=hB2.cell 0
 have z1:=hB2.cell 1
 simp at z0 z1
 have y0:=hB2.froz 0
 have y1:=hB2.froz 1
 have HF:Hid (Own w0 _ _):=(hB2.setC 0 (.int .i64 (er:Int))).setC 1 (.int .u32 0)
 clear hB2 HB
 go_wp2
 (try simp only [Exit.inBlock,Exit.then])
 refine bodyPost_ret (v:=.agg #[.int .i64 (er:Int),.int .u32 0]) ?_ rfl ⟨rfl,HF.out.tail.tail⟩
 have r0:=HF.out.cell 0
 have r1:=HF.out.cell 1
 simp at r0 r1
 simp only [results]
 go_simp
end
end Go.Proofs.YtogmdoiecpihdaaGreatDoor
namespace Go.Proofs.YtogmdoiecpihdaaGreatDoor
open Go.RowKit
set_option linter.unusedVariables false
set_option maxHeartbeats 2000000
set_option maxRecDepth 100000
theorem Ords.rest {w:World} {g o:Nat} {L:List OrdE} (h:Ords w (some ⟨g,o,none⟩) L) (k:Nat):Ords w (some ⟨g,o+k*4,none⟩) (L.drop k):=by
 refine ⟨?_,fun x hx=>h.2 x (List.mem_of_mem_drop hx)⟩
 rcases h.1 with h | ⟨g',o',ha,hc⟩
 ·subst h;exact .inl (by simp)
 ·cases ha
  refine .inr ⟨g,o+k*4,rfl,fun j x hx=>?_⟩
  rw [List.getElem?_drop] at hx
  have:=hc (k+j) x hx
  rw [show o+(k+j)*4=o+k*4+j*4 by omega] at this
  exact this
end Go.Proofs.YtogmdoiecpihdaaGreatDoor
