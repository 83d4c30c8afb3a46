/- How a component is to be seen: since it was so, or since now. -/
import Derived.Test.YtogmdoiecpihdaaGreatDoorQs04
import Derived.Laws.StructEq
import Derived.OpenShut
namespace Go.Proofs.YtogmdoiecpihdaaGreatDoor
open Go.RowKit Go.Maps
set_option linter.unusedVariables false
set_option maxHeartbeats 4000000
set_option maxRecDepth 100000
theorem eq_a3w (d:Nat) (a b c a' b' c':Int) (w:World):(Op.equalIn (d+1+1) 44 (.agg #[.int .i32 a,.int .i32 b,.int .i32 c]) (.agg #[.int .i32 a',.int .i32 b',.int .i32 c'])).run Tryz.prog w=.ok ((a == a') && (b == b') && (c == c')) w:=by
 have hi:∃ i,Tryz.prog.info? 21=some i:=by
  have:(Tryz.prog.info? 21).isSome=true:=by kernel_rfl
  exact Option.isSome_iff_exists.1 this
 obtain ⟨i,hi⟩:=hi
 have c1:Tryz.prog.cellsOf 21=1:=by kernel_rfl
 have hz:(Tryz.prog.info? 21).map (·.size)=some 1:=by kernel_rfl
 have hu:=Tryz.underlying21
 rw [run_equalIn_array w (d+1) _ _ Tryz.underlying44 hi]
 simp only [Op.eqItems,show List.range 3=[0,1,2] from rfl,c1]
 cases ha:(a == a') <;> cases hb:(b == b') <;> cases hc:(c == c') <;> go_simp
def sgt (o:Option SgE) (T:Nat) (ck ca cb cc:Int):SgE:=match o with
 | some s=>if (((s.k == ck) && ((s.a == ca) && (s.b == cb) && (s.c == cc)))=true) then s else ⟨ck,ca,cb,cc,T⟩
 | none=>⟨ck,ca,cb,cc,T⟩
theorem sight_ok (w0 w:World) (l:List Thing) (b:Nat) (wc:Array Value) (ms n T:Nat) (S:Nat→Nat→Option SgE) (hwc:wc[0]? = some (.int .u32 (T:Int))) (hwm:wc[3]? = some (.map (some ms))) (i k:Nat) (hi:i < 4294967296) (hk:k < 256) (ck:Nat) (ca cb cc:Int)
  (h:Own w0 w (SMap ms n (sgp S)::Cells b wc 102::l)) :
  Calls Tryz.prog 101 #[.pointer (some ⟨b,0,none⟩),spv i k,.agg #[.int .u8 (ck:Int),.int .i32 ca,.int .i32 cb,.int .i32 cc]] w fun e w'=>e=.returned (sgt (S i k) T ck ca cb cc).v∧Own w0 w' (SMap ms n (sgp S)::Cells b wc 102::l):=by
 have hA:=((h.allocC #[.int .u32 (i:Int),.int .u8 (k:Int)] 166).allocC #[.int .u8 (ck:Int),.int .i32 ca,.int .i32 cb,.int .i32 cc] 46).allocC #[.int .u8 0,.int .i32 0,.int .i32 0,.int .i32 0,.int .u32 0] 163
 simp only [World.size_alloc] at hA
 have eqa:=eq_a3w 9997
 have hbl:=h.two.lt
 have hnb1:b≠w.heap.size+1+1:=by omega
 have hnb2:w.heap.size+1+1≠b:=fun q=>hnb1 q.symm
 clear hbl
 have HLK:Hid (∀ w' l',Own w0 w' (SMap ms n (sgp S)::l')→(Instr.lookup 100 (.map (some ms)) (.agg #[.int .u32 (i:Int),.int .u8 (k:Int)]) true).run Tryz.prog w'=.ok (lkS (sgp S i k)) w'):=fun w' l' h'=>Own.smLook h' i k hi hk
 have HC3:Hid (∀ w' l',Own w0 w' (Cells b wc 102::l')→w'.cell? ⟨b,3,none⟩=some (.map (some ms))∧w'.cell? ⟨b,0,none⟩=some (.int .u32 (T:Int))):=fun w' l' h'=>⟨by rw [h'.cell 3];exact hwm,by rw [h'.cell 0];exact hwc⟩
 have HA:Hid (Own w0 _ _):=hA
 clear h hA hwc hwm
 cases hS:S i k with
 | none =>
  have hp:sgp S i k=none:=by unfold sgp;rw [hS];rfl
  rw [hp] at HLK
  simp only [lkS,zSight] at HLK
  unfold spv
  go_enter Tryz.func101,Tryz.ntmps101
  go_wp2_with fail
  generalize ((w.alloc (.cells #[.int .u32 (i:Int),.int .u8 (k:Int)] 166)).alloc (.cells #[.int .u8 (ck:Int),.int .i32 ca,.int .i32 cb,.int .i32 cc] 46)).alloc (.cells #[.int .u8 0,.int .i32 0,.int .i32 0,.int .i32 0,.int .u32 0] 163)=W at HA ⊢
  have hD:=HA.out.drew
  have HS0:Hid ((fun w':World=>w'.cell? ⟨b,3,none⟩=some (.map (some ms))∧w'.cell? ⟨w.heap.size,0,none⟩=some (.int .u32 (i:Int))∧w'.cell? ⟨w.heap.size,1,none⟩=some (.int .u8 (k:Int))∧(Instr.lookup 100 (.map (some ms)) (.agg #[.int .u32 (i:Int),.int .u8 (k:Int)]) true).run Tryz.prog w'=.ok (.tuple #[.agg #[.int .u8 0,.int .i32 0,.int .i32 0,.int .i32 0,.int .u32 0],.bool false]) w') W.drew):=⟨(HC3.out _ _ hD.five).1,hD.three.cell 0,hD.three.cell 1,HLK.out _ _ hD.four⟩
  have hB:=(HA.out.allocC #[.int .u8 0,.int .i32 0,.int .i32 0,.int .i32 0,.int .u32 0] 163).drew
  have HS1:Hid ((fun w':World=>w'.cell? ⟨b,3,none⟩=some (.map (some ms))∧w'.cell? ⟨w.heap.size,0,none⟩=some (.int .u32 (i:Int))∧w'.cell? ⟨w.heap.size,1,none⟩=some (.int .u8 (k:Int))∧(Instr.lookup 100 (.map (some ms)) (.agg #[.int .u32 (i:Int),.int .u8 (k:Int)]) true).run Tryz.prog w'=.ok (.tuple #[.agg #[.int .u8 0,.int .i32 0,.int .i32 0,.int .i32 0,.int .u32 0],.bool false]) w') _):=⟨(HC3.out _ _ hB.tail.five).1,hB.four.cell 0,hB.four.cell 1,HLK.out _ _ hB.five⟩
  have HS2:Hid ((fun w':World=>w'.cell? ⟨b,3,none⟩=some (.map (some ms))∧w'.cell? ⟨w.heap.size,0,none⟩=some (.int .u32 (i:Int))∧w'.cell? ⟨w.heap.size,1,none⟩=some (.int .u8 (k:Int))∧(Instr.lookup 100 (.map (some ms)) (.agg #[.int .u32 (i:Int),.int .u8 (k:Int)]) true).run Tryz.prog w'=.ok (.tuple #[.agg #[.int .u8 0,.int .i32 0,.int .i32 0,.int .i32 0,.int .u32 0],.bool false]) w') _):=HS1.out
  have HCC:Hid (Own w0 _ _):=hB
  clear hB hD
  refine wp_region_held_drew (S:=(fun w':World=>w'.cell? ⟨b,3,none⟩=some (.map (some ms))∧w'.cell? ⟨w.heap.size,0,none⟩=some (.int .u32 (i:Int))∧w'.cell? ⟨w.heap.size,1,none⟩=some (.int .u8 (k:Int))∧(Instr.lookup 100 (.map (some ms)) (.agg #[.int .u32 (i:Int),.int .u8 (k:Int)]) true).run Tryz.prog w'=.ok (.tuple #[.agg #[.int .u8 0,.int .i32 0,.int .i32 0,.int .i32 0,.int .u32 0],.bool false]) w')) (by kernel_rfl) HS0.out (fun hHeld=>?_)
  refine wpAnyH_take (i := 0) (oi := { dst := some 10,op := Op.move (Operand.tmp 0),type := 25,pos := "world.go:94",after := #[],guard := none }) (v := ?_) rfl (by kernel_rfl) (by kernel_rfl) (by kernel_rfl) (fun _ _ _ h => h) (Or.inl ⟨by rfl,?_⟩) (by assumption) ?_
  rotate_left
  ·(intro wx hSw;(try dsimp only at hSw);go_simp;(try with_reducible rfl))
  (try simp only [Act.put,List.setIfInBounds_toArray,List.set_cons_zero,List.set_cons_succ])
  refine wpAnyH_take (i := 1) (oi := { dst := some 11,op := Op.nilCheck (Operand.tmp 10),type := 0,pos := "world.go:94",after := #[{ on := 0,ground := Ground.data }],guard := none }) (v := ?_) rfl (by kernel_rfl) (by kernel_rfl) (by kernel_rfl) (fun _ _ _ h => h) (Or.inl ⟨by rfl,?_⟩) (by assumption) ?_
  rotate_left
  ·(intro wx hSw;(try dsimp only at hSw);go_simp;(try with_reducible rfl))
  (try simp only [Act.put,List.setIfInBounds_toArray,List.set_cons_zero,List.set_cons_succ])
  refine wpAnyH_take (i := 2) (oi := { dst := some 12,op := Op.fieldAddr 102 (Operand.tmp 11) 3,type := 0,pos := "world.go:94",after := #[{ on := 1,ground := Ground.data }],guard := none }) (v := ?_) rfl (by kernel_rfl) (by kernel_rfl) (by kernel_rfl) (fun _ _ _ h => h) (Or.inl ⟨by rfl,?_⟩) (by assumption) ?_
  rotate_left
  ·(intro wx hSw;(try dsimp only at hSw);go_simp;(try with_reducible rfl))
  (try simp only [Act.put,List.setIfInBounds_toArray,List.set_cons_zero,List.set_cons_succ])
  refine wpAnyH_take (i := 3) (oi := { dst := some 13,op := Op.load 100 (Operand.tmp 12),type := 100,pos := "world.go:94",after := #[{ on := 2,ground := Ground.data }],guard := none }) (v := ?_) rfl (by kernel_rfl) (by kernel_rfl) (by kernel_rfl) (fun _ _ _ h => h) (Or.inl ⟨by rfl,?_⟩) (by assumption) ?_
  rotate_left
  ·(intro wx hSw;(try dsimp only at hSw);go_simp;(try with_reducible rfl))
  (try simp only [Act.put,List.setIfInBounds_toArray,List.set_cons_zero,List.set_cons_succ])
  refine wpAnyH_take (i := 4) (oi := { dst := some 14,op := Op.load 166 (Operand.tmp 4),type := 166,pos := "world.go:94",after := #[],guard := none }) (v := ?_) rfl (by kernel_rfl) (by kernel_rfl) (by kernel_rfl) (fun _ _ _ h => h) (Or.inl ⟨by rfl,?_⟩) (by assumption) ?_
  rotate_left
  ·(intro wx hSw;(try dsimp only at hSw);go_simp;(try with_reducible rfl))
  (try simp only [Act.put,List.setIfInBounds_toArray,List.set_cons_zero,List.set_cons_succ])
  refine wpAnyH_take (i := 5) (oi := { dst := some 15,op := Op.lookup 100 (Operand.tmp 13) (Operand.tmp 14) true,type := 164,pos := "world.go:94",after := #[{ on := 3,ground := Ground.data },{ on := 4,ground := Ground.data }],guard := none }) (v := ?_) rfl (by kernel_rfl) (by kernel_rfl) (by kernel_rfl) (fun _ _ _ h => h) (Or.inl ⟨by rfl,?_⟩) (by assumption) ?_
  rotate_left
  ·(intro wx hSw;(try dsimp only at hSw);go_simp;(try with_reducible rfl))
  (try simp only [Act.put,List.setIfInBounds_toArray,List.set_cons_zero,List.set_cons_succ])
  refine wpAnyH_take (i := 6) (oi := { dst := some 9,op := Op.move (Operand.tmp 15),type := 164,pos := "world.go:94",after := #[{ on := 5,ground := Ground.data }],guard := none }) (v := ?_) rfl (by kernel_rfl) (by kernel_rfl) (by kernel_rfl) (fun _ _ _ h => h) (Or.inl ⟨by rfl,?_⟩) (by assumption) ?_
  rotate_left
  ·(intro wx hSw;(try dsimp only at hSw);go_simp;(try with_reducible rfl))
  (try simp only [Act.put,List.setIfInBounds_toArray,List.set_cons_zero,List.set_cons_succ])
  refine wpAnyH_take (i := 7) (oi := { dst := some 16,op := Op.extract (Operand.tmp 9) 0,type := 163,pos := "world.go:94",after := #[{ on := 6,ground := Ground.data }],guard := none }) (v := ?_) rfl (by kernel_rfl) (by kernel_rfl) (by kernel_rfl) (fun _ _ _ h => h) (Or.inl ⟨by rfl,?_⟩) (by assumption) ?_
  rotate_left
  ·(intro wx hSw;(try dsimp only at hSw);go_simp;(try with_reducible rfl))
  (try simp only [Act.put,List.setIfInBounds_toArray,List.set_cons_zero,List.set_cons_succ])
  refine wpAnyH_take (i := 8) (oi := { dst := some 17,op := Op.extract (Operand.tmp 9) 1,type := 4,pos := "world.go:94",after := #[{ on := 6,ground := Ground.data },{ on := 10,ground := Ground.gcOnly Departure.lateStores }],guard := none }) (v := ?_) rfl (by kernel_rfl) (by kernel_rfl) (by kernel_rfl) (fun _ _ _ h => h) (Or.inl ⟨by rfl,?_⟩) (by assumption) ?_
  rotate_left
  ·(intro wx hSw;(try dsimp only at hSw);go_simp;(try with_reducible rfl))
  (try simp only [Act.put,List.setIfInBounds_toArray,List.set_cons_zero,List.set_cons_succ])
  refine wpAnyH_ready (rs:=[9]) (by kernel_rfl) (by simp) ?_
  refine AllReadyH.cons (o := { dst := some 7,op := Op.alloc 163,type := 0,pos := "world.go:94",after := #[],guard := none }) rfl (fun K hK => ?_) AllReadyH.nil
  go_simp
  refine hK.out _ _ HS1.out (fun hHeld2=>?_)
  clear hHeld hK K
  have hHeld:=hHeld2
  clear hHeld2
  (try simp only [Act.put,List.setIfInBounds_toArray,List.set_cons_zero,List.set_cons_succ])
  refine wpAnyH_ready (rs:=[10]) (by kernel_rfl) (by simp) ?_
  refine AllReadyH.cons (o := { dst := none,op := Op.store 163 (Operand.tmp 7) (Operand.tmp 16),type := 0,pos := "world.go:94",after := #[{ on := 9,ground := Ground.data },{ on := 7,ground := Ground.data },{ on := 0,ground := Ground.phase },{ on := 1,ground := Ground.phase },{ on := 2,ground := Ground.phase },{ on := 3,ground := Ground.phase },{ on := 4,ground := Ground.phase },{ on := 5,ground := Ground.phase },{ on := 6,ground := Ground.phase },{ on := 7,ground := Ground.phase },{ on := 8,ground := Ground.textOnly Departure.lateStores },{ on := 9,ground := Ground.phase }],guard := none }) rfl (fun K hK => ?_) AllReadyH.nil
  go_simp
  refine hK.out _ _ HS2.out (fun hHeld2=>?_)
  clear hHeld hK K
  have hHeld:=hHeld2
  clear hHeld2
  (try simp only [Act.put,List.setIfInBounds_toArray,List.set_cons_zero,List.set_cons_succ])
  refine wpAnyH_take (i := 11) (oi := { dst := some 8,op := Op.assign (Operand.tmp 17),type := 4,pos := "world.go:94",after := #[{ on := 8,ground := Ground.data },{ on := 10,ground := Ground.chain },{ on := 0,ground := Ground.phase },{ on := 1,ground := Ground.phase },{ on := 2,ground := Ground.phase },{ on := 3,ground := Ground.phase },{ on := 4,ground := Ground.phase },{ on := 5,ground := Ground.phase },{ on := 6,ground := Ground.phase },{ on := 7,ground := Ground.phase },{ on := 8,ground := Ground.phase },{ on := 9,ground := Ground.phase },{ on := 10,ground := Ground.phase }],guard := none }) (v := ?_) rfl (by kernel_rfl) (by kernel_rfl) (by kernel_rfl) (fun _ _ _ h => h) (Or.inl ⟨by rfl,?_⟩) (by assumption) ?_
  rotate_left
  ·(intro wx hSw;(try dsimp only at hSw);go_simp;(try with_reducible rfl))
  (try simp only [Act.put,List.setIfInBounds_toArray,List.set_cons_zero,List.set_cons_succ])
  refine wpAnyH_done (by kernel_rfl) ?_ _
  have hB:=HCC.out
  have t0:=(HC3.out _ _ hB.tail.five).2
  clear hHeld HS0 HS1 HS2
  generalize (W.alloc (.cells #[.int .u8 0,.int .i32 0,.int .i32 0,.int .i32 0,.int .u32 0] 163)).drew=W2 at hB HCC t0 ⊢
  have u0:=hB.three.cell 0
  have u1:=hB.three.cell 1
  have u2:=hB.three.cell 2
  have u3:=hB.three.cell 3
  simp at u0 u1 u2 u3
  have z0:=hB.two.cell 0
  have z1:=hB.two.cell 1
  have z2:=hB.two.cell 2
  have z3:=hB.two.cell 3
  have z4:=hB.two.cell 4
  simp at z0 z1 z2 z3 z4
  have y0:=hB.two.froz 0
  have y1:=hB.two.froz 1
  have y2:=hB.two.froz 2
  have y3:=hB.two.froz 3
  have y4:=hB.two.froz 4
  have HF:Hid (Own w0 _ _):=(((((hB.two.setC 0 (.int .u8 (ck:Int))).setC 1 (.int .i32 ca)).setC 2 (.int .i32 cb)).setC 3 (.int .i32 cc)).setC 4 (.int .u32 (T:Int))).drew
  clear hB
  go_wp2_with fail
  go_region_held3 (fun w':World=>w'.cell? ⟨w.heap.size+1,0,none⟩=some (.int .u8 (ck:Int))∧w'.cell? ⟨w.heap.size+1,1,none⟩=some (.int .i32 ca)∧w'.cell? ⟨w.heap.size+1,2,none⟩=some (.int .i32 cb)∧w'.cell? ⟨w.heap.size+1,3,none⟩=some (.int .i32 cc)∧w'.cell? ⟨b,0,none⟩=some (.int .u32 (T:Int))) (go_keep) (fail)
  all_goals
   go_wp2
   (try simp only [Exit.inBlock,Exit.then])
   refine bodyPost_ret (v:=.agg #[.int .u8 (ck:Int),.int .i32 ca,.int .i32 cb,.int .i32 cc,.int .u32 (T:Int)]) ?_ rfl ⟨rfl,HF.out.tail.tail.tail.tail⟩
   have r0:=HF.out.cell 0
   have r1:=HF.out.cell 1
   have r2:=HF.out.cell 2
   have r3:=HF.out.cell 3
   have r4:=HF.out.cell 4
   simp at r0 r1 r2 r3 r4
   simp only [results]
   go_simp
 | some s =>
  obtain ⟨sk,sa,sb,sc,st⟩:=s
  have hp:sgp S i k=some (.agg #[.int .u8 sk,.int .i32 sa,.int .i32 sb,.int .i32 sc,.int .u32 (st:Int)]):=by unfold sgp;rw [hS];rfl
  rw [hp] at HLK
  simp only [lkS] at HLK
  unfold spv
  go_enter Tryz.func101,Tryz.ntmps101
  go_wp2_with fail
  generalize ((w.alloc (.cells #[.int .u32 (i:Int),.int .u8 (k:Int)] 166)).alloc (.cells #[.int .u8 (ck:Int),.int .i32 ca,.int .i32 cb,.int .i32 cc] 46)).alloc (.cells #[.int .u8 0,.int .i32 0,.int .i32 0,.int .i32 0,.int .u32 0] 163)=W at HA ⊢
  have hD:=HA.out.drew
  have HS0:Hid ((fun w':World=>w'.cell? ⟨b,3,none⟩=some (.map (some ms))∧w'.cell? ⟨w.heap.size,0,none⟩=some (.int .u32 (i:Int))∧w'.cell? ⟨w.heap.size,1,none⟩=some (.int .u8 (k:Int))∧(Instr.lookup 100 (.map (some ms)) (.agg #[.int .u32 (i:Int),.int .u8 (k:Int)]) true).run Tryz.prog w'=.ok (.tuple #[.agg #[.int .u8 sk,.int .i32 sa,.int .i32 sb,.int .i32 sc,.int .u32 (st:Int)],.bool true]) w') W.drew):=⟨(HC3.out _ _ hD.five).1,hD.three.cell 0,hD.three.cell 1,HLK.out _ _ hD.four⟩
  have hB0:=(HA.out.allocC #[.int .u8 0,.int .i32 0,.int .i32 0,.int .i32 0,.int .u32 0] 163).drew
  have HS1:Hid ((fun w':World=>w'.cell? ⟨b,3,none⟩=some (.map (some ms))∧w'.cell? ⟨w.heap.size,0,none⟩=some (.int .u32 (i:Int))∧w'.cell? ⟨w.heap.size,1,none⟩=some (.int .u8 (k:Int))∧(Instr.lookup 100 (.map (some ms)) (.agg #[.int .u32 (i:Int),.int .u8 (k:Int)]) true).run Tryz.prog w'=.ok (.tuple #[.agg #[.int .u8 sk,.int .i32 sa,.int .i32 sb,.int .i32 sc,.int .u32 (st:Int)],.bool true]) w') _):=⟨(HC3.out _ _ hB0.tail.five).1,hB0.four.cell 0,hB0.four.cell 1,HLK.out _ _ hB0.five⟩
  have hB:=(HA.out.allocC #[.int .u8 sk,.int .i32 sa,.int .i32 sb,.int .i32 sc,.int .u32 (st:Int)] 163).drew
  have HS2:Hid ((fun w':World=>w'.cell? ⟨b,3,none⟩=some (.map (some ms))∧w'.cell? ⟨w.heap.size,0,none⟩=some (.int .u32 (i:Int))∧w'.cell? ⟨w.heap.size,1,none⟩=some (.int .u8 (k:Int))∧(Instr.lookup 100 (.map (some ms)) (.agg #[.int .u32 (i:Int),.int .u8 (k:Int)]) true).run Tryz.prog w'=.ok (.tuple #[.agg #[.int .u8 sk,.int .i32 sa,.int .i32 sb,.int .i32 sc,.int .u32 (st:Int)],.bool true]) w') _):=⟨(HC3.out _ _ hB.tail.five).1,hB.four.cell 0,hB.four.cell 1,HLK.out _ _ hB.five⟩
  have HCC:Hid (Own w0 _ _):=hB
  clear hB hB0 hD
  refine wp_region_held_drew (S:=(fun w':World=>w'.cell? ⟨b,3,none⟩=some (.map (some ms))∧w'.cell? ⟨w.heap.size,0,none⟩=some (.int .u32 (i:Int))∧w'.cell? ⟨w.heap.size,1,none⟩=some (.int .u8 (k:Int))∧(Instr.lookup 100 (.map (some ms)) (.agg #[.int .u32 (i:Int),.int .u8 (k:Int)]) true).run Tryz.prog w'=.ok (.tuple #[.agg #[.int .u8 sk,.int .i32 sa,.int .i32 sb,.int .i32 sc,.int .u32 (st:Int)],.bool true]) w')) (by kernel_rfl) HS0.out (fun hHeld=>?_)
  refine wpAnyH_take (i := 0) (oi := { dst := some 10,op := Op.move (Operand.tmp 0),type := 25,pos := "world.go:94",after := #[],guard := none }) (v := ?_) rfl (by kernel_rfl) (by kernel_rfl) (by kernel_rfl) (fun _ _ _ h => h) (Or.inl ⟨by rfl,?_⟩) (by assumption) ?_
  rotate_left
  ·(intro wx hSw;(try dsimp only at hSw);go_simp;(try with_reducible rfl))
  (try simp only [Act.put,List.setIfInBounds_toArray,List.set_cons_zero,List.set_cons_succ])
  refine wpAnyH_take (i := 1) (oi := { dst := some 11,op := Op.nilCheck (Operand.tmp 10),type := 0,pos := "world.go:94",after := #[{ on := 0,ground := Ground.data }],guard := none }) (v := ?_) rfl (by kernel_rfl) (by kernel_rfl) (by kernel_rfl) (fun _ _ _ h => h) (Or.inl ⟨by rfl,?_⟩) (by assumption) ?_
  rotate_left
  ·(intro wx hSw;(try dsimp only at hSw);go_simp;(try with_reducible rfl))
  (try simp only [Act.put,List.setIfInBounds_toArray,List.set_cons_zero,List.set_cons_succ])
  refine wpAnyH_take (i := 2) (oi := { dst := some 12,op := Op.fieldAddr 102 (Operand.tmp 11) 3,type := 0,pos := "world.go:94",after := #[{ on := 1,ground := Ground.data }],guard := none }) (v := ?_) rfl (by kernel_rfl) (by kernel_rfl) (by kernel_rfl) (fun _ _ _ h => h) (Or.inl ⟨by rfl,?_⟩) (by assumption) ?_
  rotate_left
  ·(intro wx hSw;(try dsimp only at hSw);go_simp;(try with_reducible rfl))
  (try simp only [Act.put,List.setIfInBounds_toArray,List.set_cons_zero,List.set_cons_succ])
  refine wpAnyH_take (i := 3) (oi := { dst := some 13,op := Op.load 100 (Operand.tmp 12),type := 100,pos := "world.go:94",after := #[{ on := 2,ground := Ground.data }],guard := none }) (v := ?_) rfl (by kernel_rfl) (by kernel_rfl) (by kernel_rfl) (fun _ _ _ h => h) (Or.inl ⟨by rfl,?_⟩) (by assumption) ?_
  rotate_left
  ·(intro wx hSw;(try dsimp only at hSw);go_simp;(try with_reducible rfl))
  (try simp only [Act.put,List.setIfInBounds_toArray,List.set_cons_zero,List.set_cons_succ])
  refine wpAnyH_take (i := 4) (oi := { dst := some 14,op := Op.load 166 (Operand.tmp 4),type := 166,pos := "world.go:94",after := #[],guard := none }) (v := ?_) rfl (by kernel_rfl) (by kernel_rfl) (by kernel_rfl) (fun _ _ _ h => h) (Or.inl ⟨by rfl,?_⟩) (by assumption) ?_
  rotate_left
  ·(intro wx hSw;(try dsimp only at hSw);go_simp;(try with_reducible rfl))
  (try simp only [Act.put,List.setIfInBounds_toArray,List.set_cons_zero,List.set_cons_succ])
  refine wpAnyH_take (i := 5) (oi := { dst := some 15,op := Op.lookup 100 (Operand.tmp 13) (Operand.tmp 14) true,type := 164,pos := "world.go:94",after := #[{ on := 3,ground := Ground.data },{ on := 4,ground := Ground.data }],guard := none }) (v := ?_) rfl (by kernel_rfl) (by kernel_rfl) (by kernel_rfl) (fun _ _ _ h => h) (Or.inl ⟨by rfl,?_⟩) (by assumption) ?_
  rotate_left
  ·(intro wx hSw;(try dsimp only at hSw);go_simp;(try with_reducible rfl))
  (try simp only [Act.put,List.setIfInBounds_toArray,List.set_cons_zero,List.set_cons_succ])
  refine wpAnyH_take (i := 6) (oi := { dst := some 9,op := Op.move (Operand.tmp 15),type := 164,pos := "world.go:94",after := #[{ on := 5,ground := Ground.data }],guard := none }) (v := ?_) rfl (by kernel_rfl) (by kernel_rfl) (by kernel_rfl) (fun _ _ _ h => h) (Or.inl ⟨by rfl,?_⟩) (by assumption) ?_
  rotate_left
  ·(intro wx hSw;(try dsimp only at hSw);go_simp;(try with_reducible rfl))
  (try simp only [Act.put,List.setIfInBounds_toArray,List.set_cons_zero,List.set_cons_succ])
  refine wpAnyH_take (i := 7) (oi := { dst := some 16,op := Op.extract (Operand.tmp 9) 0,type := 163,pos := "world.go:94",after := #[{ on := 6,ground := Ground.data }],guard := none }) (v := ?_) rfl (by kernel_rfl) (by kernel_rfl) (by kernel_rfl) (fun _ _ _ h => h) (Or.inl ⟨by rfl,?_⟩) (by assumption) ?_
  rotate_left
  ·(intro wx hSw;(try dsimp only at hSw);go_simp;(try with_reducible rfl))
  (try simp only [Act.put,List.setIfInBounds_toArray,List.set_cons_zero,List.set_cons_succ])
  refine wpAnyH_take (i := 8) (oi := { dst := some 17,op := Op.extract (Operand.tmp 9) 1,type := 4,pos := "world.go:94",after := #[{ on := 6,ground := Ground.data },{ on := 10,ground := Ground.gcOnly Departure.lateStores }],guard := none }) (v := ?_) rfl (by kernel_rfl) (by kernel_rfl) (by kernel_rfl) (fun _ _ _ h => h) (Or.inl ⟨by rfl,?_⟩) (by assumption) ?_
  rotate_left
  ·(intro wx hSw;(try dsimp only at hSw);go_simp;(try with_reducible rfl))
  (try simp only [Act.put,List.setIfInBounds_toArray,List.set_cons_zero,List.set_cons_succ])
  refine wpAnyH_ready (rs:=[9]) (by kernel_rfl) (by simp) ?_
  refine AllReadyH.cons (o := { dst := some 7,op := Op.alloc 163,type := 0,pos := "world.go:94",after := #[],guard := none }) rfl (fun K hK => ?_) AllReadyH.nil
  go_simp
  refine hK.out _ _ HS1.out (fun hHeld2=>?_)
  clear hHeld hK K
  have hHeld:=hHeld2
  clear hHeld2
  (try simp only [Act.put,List.setIfInBounds_toArray,List.set_cons_zero,List.set_cons_succ])
  refine wpAnyH_ready (rs:=[10]) (by kernel_rfl) (by simp) ?_
  refine AllReadyH.cons (o := { dst := none,op := Op.store 163 (Operand.tmp 7) (Operand.tmp 16),type := 0,pos := "world.go:94",after := #[{ on := 9,ground := Ground.data },{ on := 7,ground := Ground.data },{ on := 0,ground := Ground.phase },{ on := 1,ground := Ground.phase },{ on := 2,ground := Ground.phase },{ on := 3,ground := Ground.phase },{ on := 4,ground := Ground.phase },{ on := 5,ground := Ground.phase },{ on := 6,ground := Ground.phase },{ on := 7,ground := Ground.phase },{ on := 8,ground := Ground.textOnly Departure.lateStores },{ on := 9,ground := Ground.phase }],guard := none }) rfl (fun K hK => ?_) AllReadyH.nil
  go_simp
  refine hK.out _ _ HS2.out (fun hHeld2=>?_)
  clear hHeld hK K
  have hHeld:=hHeld2
  clear hHeld2
  (try simp only [Act.put,List.setIfInBounds_toArray,List.set_cons_zero,List.set_cons_succ])
  refine wpAnyH_take (i := 11) (oi := { dst := some 8,op := Op.assign (Operand.tmp 17),type := 4,pos := "world.go:94",after := #[{ on := 8,ground := Ground.data },{ on := 10,ground := Ground.chain },{ on := 0,ground := Ground.phase },{ on := 1,ground := Ground.phase },{ on := 2,ground := Ground.phase },{ on := 3,ground := Ground.phase },{ on := 4,ground := Ground.phase },{ on := 5,ground := Ground.phase },{ on := 6,ground := Ground.phase },{ on := 7,ground := Ground.phase },{ on := 8,ground := Ground.phase },{ on := 9,ground := Ground.phase },{ on := 10,ground := Ground.phase }],guard := none }) (v := ?_) rfl (by kernel_rfl) (by kernel_rfl) (by kernel_rfl) (fun _ _ _ h => h) (Or.inl ⟨by rfl,?_⟩) (by assumption) ?_
  rotate_left
  ·(intro wx hSw;(try dsimp only at hSw);go_simp;(try with_reducible rfl))
  (try simp only [Act.put,List.setIfInBounds_toArray,List.set_cons_zero,List.set_cons_succ])
  refine wpAnyH_done (by kernel_rfl) ?_ _
  have hB:=HCC.out
  have t0:=(HC3.out _ _ hB.tail.five).2
  clear hHeld HS0 HS1 HS2
  generalize (W.alloc (.cells #[.int .u8 sk,.int .i32 sa,.int .i32 sb,.int .i32 sc,.int .u32 (st:Int)] 163)).drew=W2 at hB HCC t0 ⊢
  generalize W.heap.size=BY at *
  have v0:=hB.cell 0
  have v1:=hB.cell 1
  have v2:=hB.cell 2
  have v3:=hB.cell 3
  have v4:=hB.cell 4
  have u0:=hB.three.cell 0
  have u1:=hB.three.cell 1
  have u2:=hB.three.cell 2
  have u3:=hB.three.cell 3
  have z0:=hB.two.cell 0
  have z1:=hB.two.cell 1
  have z2:=hB.two.cell 2
  have z3:=hB.two.cell 3
  have z4:=hB.two.cell 4
  simp at v0 v1 v2 v3 v4 u0 u1 u2 u3 z0 z1 z2 z3 z4
  have y0:=hB.two.froz 0
  have y1:=hB.two.froz 1
  have y2:=hB.two.froz 2
  have y3:=hB.two.froz 3
  have y4:=hB.two.froz 4
  by_cases hEq:sk=(ck:Int)∧sa=ca∧sb=cb∧sc=cc
  ·obtain ⟨rfl,rfl,rfl,rfl⟩:=hEq
   have g0:((ck:Int) == (ck:Int))=true:=by simp
   have g1:(sa == sa)=true:=by simp
   have g2:(sb == sb)=true:=by simp
   have g3:(sc == sc)=true:=by simp
   have hsg:sgt (some ⟨(ck:Int),sa,sb,sc,st⟩) T ck sa sb sc=⟨(ck:Int),sa,sb,sc,st⟩:=by simp [sgt]
   have HF:Hid (Own w0 _ _):=((((hB.two.setC 0 (.int .u8 (ck:Int))).setC 1 (.int .i32 sa)).setC 2 (.int .i32 sb)).setC 3 (.int .i32 sc)).setC 4 (.int .u32 (st:Int))
   have HSG:Hid (sgt (some ⟨(ck:Int),sa,sb,sc,st⟩) T ck sa sb sc=⟨(ck:Int),sa,sb,sc,st⟩):=hsg
   clear hB hsg
   go_wp2
   (try simp only [Exit.inBlock,Exit.then])
   refine bodyPost_ret (v:=.agg #[.int .u8 (ck:Int),.int .i32 sa,.int .i32 sb,.int .i32 sc,.int .u32 (st:Int)]) ?_ rfl ⟨by rw [HSG.out];rfl,HF.out.tail.tail.tail.tail⟩
   have r0:=HF.out.cell 0
   have r1:=HF.out.cell 1
   have r2:=HF.out.cell 2
   have r3:=HF.out.cell 3
   have r4:=HF.out.cell 4
   simp at r0 r1 r2 r3 r4
   simp only [results]
   go_simp
  ·have hE:((sk == (ck:Int)) && ((sa == ca) && ((sb == cb) && (sc == cc))))=false:=by
    rw [Bool.eq_false_iff]
    intro hh
    simp at hh
    exact hEq hh
   have hE2:((sk == (ck:Int)) && (((sa == ca) && (sb == cb)) && (sc == cc)))=false:=by
    rw [Bool.eq_false_iff]
    intro hh
    simp at hh
    exact hEq ⟨hh.1,hh.2.1.1,hh.2.1.2,hh.2.2⟩
   have HSG:Hid (sgt (some ⟨sk,sa,sb,sc,st⟩) T ck ca cb cc=⟨(ck:Int),ca,cb,cc,T⟩):=by
    show _=_
    unfold sgt
    simp only
    rw [if_neg]
    intro hh
    simp at hh
    exact hEq ⟨hh.1,hh.2.1.1,hh.2.1.2,hh.2.2⟩
   have HF:Hid (Own w0 _ _):=(((((hB.two.setC 0 (.int .u8 (ck:Int))).setC 1 (.int .i32 ca)).setC 2 (.int .i32 cb)).setC 3 (.int .i32 cc)).setC 4 (.int .u32 (T:Int))).drew
   have HEQ:Hid (¬(sk=(ck:Int)∧sa=ca∧sb=cb∧sc=cc)):=hEq
   clear hB hEq hE hE2
   go_wp2_with fail
   all_goals (try (exfalso;rename_i h1 h2;simp at h2;exact HEQ.out ⟨h1,h2⟩))
   all_goals
    go_region_held3 (fun w':World=>w'.cell? ⟨w.heap.size+1,0,none⟩=some (.int .u8 (ck:Int))∧w'.cell? ⟨w.heap.size+1,1,none⟩=some (.int .i32 ca)∧w'.cell? ⟨w.heap.size+1,2,none⟩=some (.int .i32 cb)∧w'.cell? ⟨w.heap.size+1,3,none⟩=some (.int .i32 cc)∧w'.cell? ⟨b,0,none⟩=some (.int .u32 (T:Int))) (go_keep) (fail)
    all_goals
     go_wp2
     (try simp only [Exit.inBlock,Exit.then])
     refine bodyPost_ret (v:=.agg #[.int .u8 (ck:Int),.int .i32 ca,.int .i32 cb,.int .i32 cc,.int .u32 (T:Int)]) ?_ rfl ⟨by rw [HSG.out];rfl,HF.out.tail.tail.tail.tail⟩
     have r0:=HF.out.cell 0
     have r1:=HF.out.cell 1
     have r2:=HF.out.cell 2
     have r3:=HF.out.cell 3
     have r4:=HF.out.cell 4
     simp at r0 r1 r2 r3 r4
     simp only [results]
     go_simp
end Go.Proofs.YtogmdoiecpihdaaGreatDoor
