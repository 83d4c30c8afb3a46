/- How a component is to be seen where nothing was seen yet. -/
import Derived.Test.YtogmdoiecpihdaaGreatDoorQs05
import Derived.Test.YtogmdoiecpihdaaGreatDoorQs01
import Derived.BigRegion
import Derived.BigQuiet
import Derived.Deep.QuietTactic
namespace Go.Proofs.YtogmdoiecpihdaaGreatDoor
open Go.RowKit Go.Maps
set_option linter.unusedVariables false
set_option maxHeartbeats 4000000
set_option maxRecDepth 100000
theorem sight_nil (w0 w:World) (l:List Thing) (b:Nat) (wc:Array Value) (T:Nat) (hwc:wc[0]? = some (.int .u32 (T:Int))) (hwm:wc[3]? = some (.map none)) (i k:Nat) (hi:i < 4294967296) (hk:k < 256) (ck:Nat) (ca cb cc:Int)
  (h:Own w0 w (Cells b wc 102::l)) :
  Calls Tryz.prog 101 #[.pointer (some ⟨b,0,none⟩),spv i k,.agg #[.int .u8 (ck:Int),.int .i32 ca,.int .i32 cb,.int .i32 cc]] w fun e w'=>e=.returned (sgt none T ck ca cb cc).v∧Own w0 w' (Cells b wc 102::l):=by
 have hA:=((h.allocC #[.int .u32 (i:Int),.int .u8 (k:Int)] 166).allocC #[.int .u8 (ck:Int),.int .i32 ca,.int .i32 cb,.int .i32 cc] 46).allocC #[.int .u8 0,.int .i32 0,.int .i32 0,.int .i32 0,.int .u32 0] 163
 simp only [World.size_alloc] at hA
 have eqa:=eq_a3w 9997
 have hbl:=h.lt
 have hnb1:b≠w.heap.size+1+1:=by omega
 have hnb2:w.heap.size+1+1≠b:=fun q=>hnb1 q.symm
 clear hbl
 have HLK:Hid (∀ w':World,(Instr.lookup 100 (.map none) (.agg #[.int .u32 (i:Int),.int .u8 (k:Int)]) true).run Tryz.prog w'=.ok (.tuple #[.agg #[.int .u8 0,.int .i32 0,.int .i32 0,.int .i32 0,.int .u32 0],.bool false]) w'):=fun w'=>Maps.look_nil true keySpot Tryz.underlying100 (zeroSight w') (spk i k hi hk)
 have HC3:Hid (∀ w' l',Own w0 w' (Cells b wc 102::l')→w'.cell? ⟨b,3,none⟩=some (.map none)∧w'.cell? ⟨b,0,none⟩=some (.int .u32 (T:Int))):=fun w' l' h'=>⟨by rw [h'.cell 3];exact hwm,by rw [h'.cell 0];exact hwc⟩
 have HA:Hid (Own w0 _ _):=hA
 clear h hA hwc hwm
 unfold spv
 go_enter Tryz.func101,Tryz.ntmps101
 go_wp2_with fail
 generalize ((w.alloc (.cells #[.int .u32 (i:Int),.int .u8 (k:Int)] 166)).alloc (.cells #[.int .u8 (ck:Int),.int .i32 ca,.int .i32 cb,.int .i32 cc] 46)).alloc (.cells #[.int .u8 0,.int .i32 0,.int .i32 0,.int .i32 0,.int .u32 0] 163)=W at HA ⊢
 have hD:=HA.out.drew
 have HS0:Hid ((fun w':World=>w'.cell? ⟨b,3,none⟩=some (.map none)∧w'.cell? ⟨w.heap.size,0,none⟩=some (.int .u32 (i:Int))∧w'.cell? ⟨w.heap.size,1,none⟩=some (.int .u8 (k:Int))∧(Instr.lookup 100 (.map none) (.agg #[.int .u32 (i:Int),.int .u8 (k:Int)]) true).run Tryz.prog w'=.ok (.tuple #[.agg #[.int .u8 0,.int .i32 0,.int .i32 0,.int .i32 0,.int .u32 0],.bool false]) w') W.drew):=⟨(HC3.out _ _ hD.four).1,hD.three.cell 0,hD.three.cell 1,HLK.out _⟩
 have hB:=(HA.out.allocC #[.int .u8 0,.int .i32 0,.int .i32 0,.int .i32 0,.int .u32 0] 163).drew
 have HS1:Hid ((fun w':World=>w'.cell? ⟨b,3,none⟩=some (.map none)∧w'.cell? ⟨w.heap.size,0,none⟩=some (.int .u32 (i:Int))∧w'.cell? ⟨w.heap.size,1,none⟩=some (.int .u8 (k:Int))∧(Instr.lookup 100 (.map none) (.agg #[.int .u32 (i:Int),.int .u8 (k:Int)]) true).run Tryz.prog w'=.ok (.tuple #[.agg #[.int .u8 0,.int .i32 0,.int .i32 0,.int .i32 0,.int .u32 0],.bool false]) w') _):=⟨(HC3.out _ _ hB.tail.four).1,hB.four.cell 0,hB.four.cell 1,HLK.out _⟩
 have HS2:Hid ((fun w':World=>w'.cell? ⟨b,3,none⟩=some (.map none)∧w'.cell? ⟨w.heap.size,0,none⟩=some (.int .u32 (i:Int))∧w'.cell? ⟨w.heap.size,1,none⟩=some (.int .u8 (k:Int))∧(Instr.lookup 100 (.map none) (.agg #[.int .u32 (i:Int),.int .u8 (k:Int)]) true).run Tryz.prog w'=.ok (.tuple #[.agg #[.int .u8 0,.int .i32 0,.int .i32 0,.int .i32 0,.int .u32 0],.bool false]) w') _):=HS1.out
 have HCC:Hid (Own w0 _ _):=hB
 clear hB hD
 refine wp_region_held_drew (S:=(fun w':World=>w'.cell? ⟨b,3,none⟩=some (.map none)∧w'.cell? ⟨w.heap.size,0,none⟩=some (.int .u32 (i:Int))∧w'.cell? ⟨w.heap.size,1,none⟩=some (.int .u8 (k:Int))∧(Instr.lookup 100 (.map none) (.agg #[.int .u32 (i:Int),.int .u8 (k:Int)]) true).run Tryz.prog w'=.ok (.tuple #[.agg #[.int .u8 0,.int .i32 0,.int .i32 0,.int .i32 0,.int .u32 0],.bool false]) w')) (by kernel_rfl) HS0.out (fun hHeld=>?_)
 refine wpAnyH_take (i := 0) (oi := { dst := some 10,op := Op.move (Operand.tmp 0),type := 25,pos := "world.go:94",after := #[],guard := none }) (v := ?_) rfl (by kernel_rfl) (by kernel_rfl) (by kernel_rfl) (fun _ _ _ h => h) (Or.inl ⟨by rfl,?_⟩) (by assumption) ?_
 rotate_left
 ·(intro wx hSw;(try dsimp only at hSw);go_simp;(try with_reducible rfl))
 (try simp only [Act.put,List.setIfInBounds_toArray,List.set_cons_zero,List.set_cons_succ])
 refine wpAnyH_take (i := 1) (oi := { dst := some 11,op := Op.nilCheck (Operand.tmp 10),type := 0,pos := "world.go:94",after := #[{ on := 0,ground := Ground.data }],guard := none }) (v := ?_) rfl (by kernel_rfl) (by kernel_rfl) (by kernel_rfl) (fun _ _ _ h => h) (Or.inl ⟨by rfl,?_⟩) (by assumption) ?_
 rotate_left
 ·(intro wx hSw;(try dsimp only at hSw);go_simp;(try with_reducible rfl))
 (try simp only [Act.put,List.setIfInBounds_toArray,List.set_cons_zero,List.set_cons_succ])
 refine wpAnyH_take (i := 2) (oi := { dst := some 12,op := Op.fieldAddr 102 (Operand.tmp 11) 3,type := 0,pos := "world.go:94",after := #[{ on := 1,ground := Ground.data }],guard := none }) (v := ?_) rfl (by kernel_rfl) (by kernel_rfl) (by kernel_rfl) (fun _ _ _ h => h) (Or.inl ⟨by rfl,?_⟩) (by assumption) ?_
 rotate_left
 ·(intro wx hSw;(try dsimp only at hSw);go_simp;(try with_reducible rfl))
 (try simp only [Act.put,List.setIfInBounds_toArray,List.set_cons_zero,List.set_cons_succ])
 refine wpAnyH_take (i := 3) (oi := { dst := some 13,op := Op.load 100 (Operand.tmp 12),type := 100,pos := "world.go:94",after := #[{ on := 2,ground := Ground.data }],guard := none }) (v := ?_) rfl (by kernel_rfl) (by kernel_rfl) (by kernel_rfl) (fun _ _ _ h => h) (Or.inl ⟨by rfl,?_⟩) (by assumption) ?_
 rotate_left
 ·(intro wx hSw;(try dsimp only at hSw);go_simp;(try with_reducible rfl))
 (try simp only [Act.put,List.setIfInBounds_toArray,List.set_cons_zero,List.set_cons_succ])
 refine wpAnyH_take (i := 4) (oi := { dst := some 14,op := Op.load 166 (Operand.tmp 4),type := 166,pos := "world.go:94",after := #[],guard := none }) (v := ?_) rfl (by kernel_rfl) (by kernel_rfl) (by kernel_rfl) (fun _ _ _ h => h) (Or.inl ⟨by rfl,?_⟩) (by assumption) ?_
 rotate_left
 ·(intro wx hSw;(try dsimp only at hSw);go_simp;(try with_reducible rfl))
 (try simp only [Act.put,List.setIfInBounds_toArray,List.set_cons_zero,List.set_cons_succ])
 refine wpAnyH_take (i := 5) (oi := { dst := some 15,op := Op.lookup 100 (Operand.tmp 13) (Operand.tmp 14) true,type := 164,pos := "world.go:94",after := #[{ on := 3,ground := Ground.data },{ on := 4,ground := Ground.data }],guard := none }) (v := ?_) rfl (by kernel_rfl) (by kernel_rfl) (by kernel_rfl) (fun _ _ _ h => h) (Or.inl ⟨by rfl,?_⟩) (by assumption) ?_
 rotate_left
 ·(intro wx hSw;(try dsimp only at hSw);go_simp;(try with_reducible rfl))
 (try simp only [Act.put,List.setIfInBounds_toArray,List.set_cons_zero,List.set_cons_succ])
 refine wpAnyH_take (i := 6) (oi := { dst := some 9,op := Op.move (Operand.tmp 15),type := 164,pos := "world.go:94",after := #[{ on := 5,ground := Ground.data }],guard := none }) (v := ?_) rfl (by kernel_rfl) (by kernel_rfl) (by kernel_rfl) (fun _ _ _ h => h) (Or.inl ⟨by rfl,?_⟩) (by assumption) ?_
 rotate_left
 ·(intro wx hSw;(try dsimp only at hSw);go_simp;(try with_reducible rfl))
 (try simp only [Act.put,List.setIfInBounds_toArray,List.set_cons_zero,List.set_cons_succ])
 refine wpAnyH_take (i := 7) (oi := { dst := some 16,op := Op.extract (Operand.tmp 9) 0,type := 163,pos := "world.go:94",after := #[{ on := 6,ground := Ground.data }],guard := none }) (v := ?_) rfl (by kernel_rfl) (by kernel_rfl) (by kernel_rfl) (fun _ _ _ h => h) (Or.inl ⟨by rfl,?_⟩) (by assumption) ?_
 rotate_left
 ·(intro wx hSw;(try dsimp only at hSw);go_simp;(try with_reducible rfl))
 (try simp only [Act.put,List.setIfInBounds_toArray,List.set_cons_zero,List.set_cons_succ])
 refine wpAnyH_take (i := 8) (oi := { dst := some 17,op := Op.extract (Operand.tmp 9) 1,type := 4,pos := "world.go:94",after := #[{ on := 6,ground := Ground.data },{ on := 10,ground := Ground.gcOnly Departure.lateStores }],guard := none }) (v := ?_) rfl (by kernel_rfl) (by kernel_rfl) (by kernel_rfl) (fun _ _ _ h => h) (Or.inl ⟨by rfl,?_⟩) (by assumption) ?_
 rotate_left
 ·(intro wx hSw;(try dsimp only at hSw);go_simp;(try with_reducible rfl))
 (try simp only [Act.put,List.setIfInBounds_toArray,List.set_cons_zero,List.set_cons_succ])
 refine wpAnyH_ready (rs:=[9]) (by kernel_rfl) (by simp) ?_
 refine AllReadyH.cons (o := { dst := some 7,op := Op.alloc 163,type := 0,pos := "world.go:94",after := #[],guard := none }) rfl (fun K hK => ?_) AllReadyH.nil
 go_simp
 refine hK.out _ _ HS1.out (fun hHeld2=>?_)
 clear hHeld hK K
 have hHeld:=hHeld2
 clear hHeld2
 (try simp only [Act.put,List.setIfInBounds_toArray,List.set_cons_zero,List.set_cons_succ])
 refine wpAnyH_ready (rs:=[10]) (by kernel_rfl) (by simp) ?_
 refine AllReadyH.cons (o := { dst := none,op := Op.store 163 (Operand.tmp 7) (Operand.tmp 16),type := 0,pos := "world.go:94",after := #[{ on := 9,ground := Ground.data },{ on := 7,ground := Ground.data },{ on := 0,ground := Ground.phase },{ on := 1,ground := Ground.phase },{ on := 2,ground := Ground.phase },{ on := 3,ground := Ground.phase },{ on := 4,ground := Ground.phase },{ on := 5,ground := Ground.phase },{ on := 6,ground := Ground.phase },{ on := 7,ground := Ground.phase },{ on := 8,ground := Ground.textOnly Departure.lateStores },{ on := 9,ground := Ground.phase }],guard := none }) rfl (fun K hK => ?_) AllReadyH.nil
 go_simp
 refine hK.out _ _ HS2.out (fun hHeld2=>?_)
 clear hHeld hK K
 have hHeld:=hHeld2
 clear hHeld2
 (try simp only [Act.put,List.setIfInBounds_toArray,List.set_cons_zero,List.set_cons_succ])
 refine wpAnyH_take (i := 11) (oi := { dst := some 8,op := Op.assign (Operand.tmp 17),type := 4,pos := "world.go:94",after := #[{ on := 8,ground := Ground.data },{ on := 10,ground := Ground.chain },{ on := 0,ground := Ground.phase },{ on := 1,ground := Ground.phase },{ on := 2,ground := Ground.phase },{ on := 3,ground := Ground.phase },{ on := 4,ground := Ground.phase },{ on := 5,ground := Ground.phase },{ on := 6,ground := Ground.phase },{ on := 7,ground := Ground.phase },{ on := 8,ground := Ground.phase },{ on := 9,ground := Ground.phase },{ on := 10,ground := Ground.phase }],guard := none }) (v := ?_) rfl (by kernel_rfl) (by kernel_rfl) (by kernel_rfl) (fun _ _ _ h => h) (Or.inl ⟨by rfl,?_⟩) (by assumption) ?_
 rotate_left
 ·(intro wx hSw;(try dsimp only at hSw);go_simp;(try with_reducible rfl))
 (try simp only [Act.put,List.setIfInBounds_toArray,List.set_cons_zero,List.set_cons_succ])
 refine wpAnyH_done (by kernel_rfl) ?_ _
 have hB:=HCC.out
 have t0:=(HC3.out _ _ hB.tail.four).2
 clear hHeld HS0 HS1 HS2
 generalize (W.alloc (.cells #[.int .u8 0,.int .i32 0,.int .i32 0,.int .i32 0,.int .u32 0] 163)).drew=W2 at hB HCC t0 ⊢
 have u0:=hB.three.cell 0
 have u1:=hB.three.cell 1
 have u2:=hB.three.cell 2
 have u3:=hB.three.cell 3
 simp at u0 u1 u2 u3
 have z0:=hB.two.cell 0
 have z1:=hB.two.cell 1
 have z2:=hB.two.cell 2
 have z3:=hB.two.cell 3
 have z4:=hB.two.cell 4
 simp at z0 z1 z2 z3 z4
 have y0:=hB.two.froz 0
 have y1:=hB.two.froz 1
 have y2:=hB.two.froz 2
 have y3:=hB.two.froz 3
 have y4:=hB.two.froz 4
 have HF:Hid (Own w0 _ _):=(((((hB.two.setC 0 (.int .u8 (ck:Int))).setC 1 (.int .i32 ca)).setC 2 (.int .i32 cb)).setC 3 (.int .i32 cc)).setC 4 (.int .u32 (T:Int))).drew
 clear hB
 go_wp2_with fail
 go_region_held3 (fun w':World=>w'.cell? ⟨w.heap.size+1,0,none⟩=some (.int .u8 (ck:Int))∧w'.cell? ⟨w.heap.size+1,1,none⟩=some (.int .i32 ca)∧w'.cell? ⟨w.heap.size+1,2,none⟩=some (.int .i32 cb)∧w'.cell? ⟨w.heap.size+1,3,none⟩=some (.int .i32 cc)∧w'.cell? ⟨b,0,none⟩=some (.int .u32 (T:Int))) (go_keep) (fail)
 all_goals
  go_wp2
  (try simp only [Exit.inBlock,Exit.then])
  refine bodyPost_ret (v:=.agg #[.int .u8 (ck:Int),.int .i32 ca,.int .i32 cb,.int .i32 cc,.int .u32 (T:Int)]) ?_ rfl ⟨rfl,HF.out.tail.tail.tail.tail⟩
  have r0:=HF.out.cell 0
  have r1:=HF.out.cell 1
  have r2:=HF.out.cell 2
  have r3:=HF.out.cell 3
  have r4:=HF.out.cell 4
  simp at r0 r1 r2 r3 r4
  simp only [results]
  go_simp
structure St where
 n:Nat
 first:Nat
 last:List Nat
 used:List Bool
 freed:List Nat
 live:Nat
structure St.Ok (S:St):Prop where
 n1:1≤S.n
 n2:S.n≤1024
 f1:1≤S.first
 f2:S.first≤4194303
 ul:S.used.length=S.last.length
 le:S.last.length≤S.n
 id:∀ i x,S.last[i]? = some x→x % 1024=i∧1≤x / 1024∧x < 4294967296
 nodup:S.freed.Nodup
 fr:∀ f∈S.freed,S.used[f]? = some false∧∃ x,S.last[f]? = some x∧x / 1024 < 4194303
 cnt:S.freed.length+S.live≤S.last.length
 live:S.live=S.used.count true
def St.new (n first:Nat):St:=⟨n,first,[],[],[],0⟩
theorem St.new_ok (n first:Nat) (h1:1≤n) (h2:n≤1024) (h3:1≤first) (h4:first≤4194303):(St.new n first).Ok :=
 ⟨h1,h2,h3,h4,rfl,by simp [St.new],by simp [St.new],by simp [St.new],by simp [St.new],by simp [St.new],by simp [St.new]⟩
def St.again (S:St) (f:Nat):St:={ S with last:=S.last.set f (S.last.getD f 0+1024),used:=S.used.set f true,freed:=S.freed.dropLast,live:=S.live+1 }
def St.more (S:St):St:={ S with last:=S.last++[S.first*1024+S.last.length],used:=S.used++[true],live:=S.live+1 }
def St.less (S:St) (id:Nat):St:={ S with used:=S.used.set (id % 1024) false,live:=S.live - 1,freed:=if id / 1024 < 4194303 then S.freed++[id % 1024] else S.freed }
def St.isLive (S:St) (id:Nat):Bool:=S.used.getD (id % 1024) false && S.last.getD (id % 1024) 0 == id
def St.take (S:St):Nat × Int × St :=
 match S.freed.getLast? with
 | some f=>(S.last.getD f 0+1024,0,S.again f)
 | none=>if S.last.length < S.n then (S.first*1024+S.last.length,0,S.more) else (0,8,S)
def St.free (S:St) (id:Nat):Int × St:=if S.isLive id then (0,S.less id) else (7,S)
def pick:List Nat→List Bool→List Nat
 | x::l,u::m=>if u then x::pick l m else pick l m
 | _,_=>[]
def St.list (S:St):List Nat:=pick S.last S.used
def St.room (S:St):Nat:=S.freed.length+S.n - S.last.length
theorem length_pick (l:List Nat) (m:List Bool) (h:m.length=l.length):(pick l m).length=m.count true:=by
 induction l generalizing m with
 | nil=>cases m with
  | nil=>rfl
  | cons u m=>simp at h
 | cons x l ih=>cases m with
  | nil=>simp at h
  | cons u m =>
   have:=ih m (by simpa using h)
   cases u <;> simp [pick,this]
theorem pick_snoc (l:List Nat) (m:List Bool) (h:m.length=l.length) (x:Nat) (u:Bool):pick (l++[x]) (m++[u])=pick l m++if u then [x] else []:=by
 induction l generalizing m with
 | nil=>cases m with
  | nil=>cases u <;> rfl
  | cons u m=>simp at h
 | cons y l ih=>cases m with
  | nil=>simp at h
  | cons v m =>
   have:=ih m (by simpa using h)
   cases v <;> simp [pick,this]
theorem count_set_true (l:List Bool) (i:Nat) (h:l[i]? = some false):(l.set i true).count true=l.count true+1:=by
 obtain ⟨hi,e⟩:=List.getElem?_eq_some_iff.1 h
 rw [List.count_set hi,e];simp
theorem count_set_false (l:List Bool) (i:Nat) (h:l[i]? = some true):(l.set i false).count true+1=l.count true:=by
 obtain ⟨hi,e⟩:=List.getElem?_eq_some_iff.1 h
 have:0 < l.count true:=List.count_pos_iff.2 (List.mem_of_getElem? h)
 rw [List.count_set hi,e];simp;omega
theorem St.Ok.getD {S:St} (h:S.Ok) {f x:Nat} (hx:S.last[f]? = some x):S.last.getD f 0=x:=by rw [List.getD_eq_getElem?_getD,hx];rfl
theorem St.Ok.lt {S:St} (h:S.Ok) {f:Nat} (hf:f∈S.freed):f < S.last.length:=by
 obtain ⟨h1,_⟩:=h.fr f hf
 rw [← h.ul];exact (List.getElem?_eq_some_iff.1 h1).1
theorem dropLast_of (l:List Nat) (f:Nat) (h:l.getLast? = some f):l=l.dropLast++[f]:=by
 rw [List.getLast?_eq_some_iff] at h
 obtain ⟨ys,rfl⟩:=h
 simp
theorem St.again_ok {S:St} (h:S.Ok) {f:Nat} (hf:S.freed.getLast? = some f):(S.again f).Ok:=by
 have e:=dropLast_of _ _ hf
 have hm:f∈S.freed:=by rw [e];simp
 obtain ⟨hu,x,hx,hg⟩:=h.fr f hm
 have hid:=h.id f x hx
 have hgd:=h.getD hx
 have hn:=h.nodup
 rw [e,List.nodup_append] at hn
 have hlen:S.freed.length=S.freed.dropLast.length+1:=by
  have:=congrArg List.length e
  rw [List.length_append,List.length_singleton] at this;exact this
 have hlt:=h.lt hm
 refine ⟨h.n1,h.n2,h.f1,h.f2,by simp [St.again,h.ul],by simp [St.again,h.le],?_,hn.1,?_,?_,?_⟩
 ·intro i y hy
  simp only [St.again] at hy
  rw [List.getElem?_set,hgd] at hy
  split at hy
  ·cases hy;omega
  ·exact h.id i y hy
 ·intro k hk
  have hkf:k∈S.freed:=by rw [e];exact List.mem_append_left _ hk
  have hne:f≠k:=fun q=>hn.2.2 k hk f (by simp) q.symm
  obtain ⟨a,y,b,c⟩:=h.fr k hkf
  exact ⟨by simp only [St.again];rw [List.getElem?_set_ne hne];exact a,y,by simp only [St.again];rw [List.getElem?_set_ne hne];exact b,c⟩
 ·have:=h.cnt
  simp only [St.again,List.length_set]
  omega
 ·simp only [St.again]
  rw [count_set_true _ _ hu,h.live]
theorem St.more_ok {S:St} (h:S.Ok) (hf:S.freed=[]) (hl:S.last.length < S.n):S.more.Ok:=by
 have h2:=h.n2
 have h3:=h.f1
 have h4:=h.f2
 refine ⟨h.n1,h.n2,h.f1,h.f2,by simp [St.more,h.ul],by simp [St.more];omega,?_,by simp [St.more,hf],by simp [St.more,hf],?_,?_⟩
 ·intro i y hy
  simp only [St.more] at hy
  by_cases c:i < S.last.length
  ·rw [List.getElem?_append_left c] at hy;exact h.id i y hy
  ·rw [List.getElem?_append_right (by omega)] at hy
   have:i - S.last.length=0:=by
    rcases Nat.eq_zero_or_pos (i - S.last.length) with z | z
    ·exact z
    ·rw [List.getElem?_eq_none (by simp;omega)] at hy;cases hy
   rw [this] at hy
   cases hy
   omega
 ·have:=h.cnt
  simp [St.more,hf] at this ⊢
  omega
 ·simp [St.more,h.live]
theorem St.isLive_iff {S:St} (h:S.Ok) (id:Nat):S.isLive id=true ↔ S.used[id % 1024]? = some true∧S.last[id % 1024]? = some id:=by
 unfold St.isLive
 rw [List.getD_eq_getElem?_getD,List.getD_eq_getElem?_getD]
 constructor
 ·intro hh
  simp only [Bool.and_eq_true,beq_iff_eq] at hh
  obtain ⟨a,b⟩:=hh
  cases hu:S.used[id % 1024]? with
  | none=>rw [hu] at a;cases a
  | some u =>
   rw [hu] at a
   have hlt:id % 1024 < S.last.length:=by rw [← h.ul];exact (List.getElem?_eq_some_iff.1 hu).1
   rw [List.getElem?_eq_getElem hlt] at b ⊢
   simp at a b
   exact ⟨by rw [a],by rw [b]⟩
 ·rintro ⟨a,b⟩
  rw [a,b];simp
theorem St.less_ok {S:St} (h:S.Ok) {id:Nat} (hl:S.isLive id=true):(S.less id).Ok:=by
 obtain ⟨hu,hx⟩:=(S.isLive_iff h id).1 hl
 have hid:=h.id _ _ hx
 have hc:=count_set_false _ _ hu
 have hlv:=h.live
 have hcnt:=h.cnt
 have hnf:id % 1024 ∉ S.freed:=by
  intro hm
  have:=(h.fr _ hm).1
  rw [hu] at this;cases this
 have hlt:id % 1024 < S.used.length:=(List.getElem?_eq_some_iff.1 hu).1
 refine ⟨h.n1,h.n2,h.f1,h.f2,by simp [St.less,h.ul],h.le,h.id,?_,?_,?_,?_⟩
 ·simp only [St.less]
  split
  ·rw [List.nodup_append]
   refine ⟨h.nodup,by simp,?_⟩
   intro a ha b hb
   simp at hb
   rintro rfl
   rw [hb] at ha
   exact hnf ha
  ·exact h.nodup
 ·intro k hk
  have hold:k∈S.freed→(S.less id).used[k]? = some false∧∃ x,(S.less id).last[k]? = some x∧x / 1024 < 4194303:=by
   intro hk
   have hne:id % 1024≠k:=fun q=>hnf (q ▸ hk)
   obtain ⟨a,y,b,c⟩:=h.fr k hk
   exact ⟨by simp only [St.less];rw [List.getElem?_set_ne hne];exact a,y,b,c⟩
  simp only [St.less] at hk
  split at hk
  ·rename_i hg
   rcases List.mem_append.1 hk with hk | hk
   ·exact hold hk
   ·simp at hk
    subst hk
    exact ⟨by simp only [St.less];rw [List.getElem?_set_self hlt],id,hx,hg⟩
  ·exact hold hk
 ·simp only [St.less]
  split
  ·rw [List.length_append,List.length_singleton];omega
  ·omega
 ·simp only [St.less];omega
theorem St.take_ok {S:St} (h:S.Ok):S.take.2.2.Ok:=by
 unfold St.take
 split
 ·rename_i f hf;exact St.again_ok h hf
 ·rename_i hf
  have hf':S.freed=[]:=List.getLast?_eq_none_iff.1 hf
  split
  ·rename_i hl;exact St.more_ok h hf' hl
  ·exact h
theorem St.free_ok {S:St} (h:S.Ok) (id:Nat):(S.free id).2.Ok:=by
 unfold St.free
 split
 ·rename_i hl;exact St.less_ok h hl
 ·exact h
theorem St.take_n (S:St):S.take.2.2.n=S.n∧S.take.2.2.first=S.first:=by
 unfold St.take
 split
 ·exact ⟨rfl,rfl⟩
 ·split <;> exact ⟨rfl,rfl⟩
theorem St.list_length {S:St} (h:S.Ok):S.list.length=S.live:=by rw [St.list,length_pick _ _ h.ul,h.live]
end Go.Proofs.YtogmdoiecpihdaaGreatDoor
namespace Go.Proofs.YtogmdoiecpihdaaGreatDoor
open Go.RowKit
set_option linter.unusedVariables false
set_option maxHeartbeats 4000000
theorem Tryz.infoID:(Tryz.prog.info? 38).map (fun i=>(i.zero,i.size,i.bytes))=some (some (.int .u32 0),1,4):=by kernel_rfl
theorem Tryz.infoInt:(Tryz.prog.info? 3).map (fun i=>(i.zero,i.size,i.bytes))=some (some (.int .i64 0),1,8):=by kernel_rfl
theorem Tryz.infoBool:(Tryz.prog.info? 4).map (fun i=>(i.zero,i.size,i.bytes))=some (some (.bool false),1,1):=by kernel_rfl
def Slots (b:Nat) (S:St):Thing:=Ex (fun v:Value × Value × Value =>
 [Cells b #[.int .i64 (S.n:Int),.int .i64 (S.first:Int),v.1,v.2.1,v.2.2,.int .i64 (S.live:Int)] 236,
  Row 38 1 v.1 S.last.length (irow .u32 S.last),Row 4 1 v.2.1 S.used.length (brow S.used),Row 3 1 v.2.2 S.freed.length (irow .i64 S.freed)])
theorem slot_any (id:Nat) (w:World) (h:id < 4294967296):Calls Tryz.prog 126 #[.int .u32 (id:Int)] w fun e w'=>e=.returned (.int .i64 ((id % 1024:Nat):Int))∧w'=w:=by
 go_enter Tryz.func126,Tryz.ntmps126
 go_wp2
 go_ret
 exact ⟨ret_int (by omega),rfl⟩
theorem gen_any (id:Nat) (w:World) (h:id < 4294967296):Calls Tryz.prog 127 #[.int .u32 (id:Int)] w fun e w'=>e=.returned (.int .i64 ((id / 1024:Nat):Int))∧w'=w:=by
 go_enter Tryz.func127,Tryz.ntmps127
 go_wp2
 go_ret
 exact ⟨ret_int (by omega),rfl⟩
theorem isGen_yes (g:Int) (w:World) (h1:1≤g) (h2:g≤4194303):Calls Tryz.prog 143 #[.int .i64 g] w fun e w'=>e=.returned (.bool true)∧w'=w:=by
 go_enter Tryz.func143,Tryz.ntmps143
 go_wp2
 go_ret
 exact ⟨rfl,rfl⟩
theorem isGen_no (g:Int) (w:World) (h:g < 1∨4194303 < g):Calls Tryz.prog 143 #[.int .i64 g] w fun e w'=>e=.returned (.bool false)∧w'=w:=by
 rcases h with h | h
 ·go_enter Tryz.func143,Tryz.ntmps143
  go_wp2
  go_ret
  exact ⟨rfl,rfl⟩
 ·have h1:1≤g:=by omega
  have hd:decide (g≤4194303)=false:=by simp;omega
  go_enter Tryz.func143,Tryz.ntmps143
  go_wp2
  go_ret
  exact ⟨rfl,rfl⟩
theorem number_any (s g:Nat) (w:World) (h1:s < 1024) (h2:g≤4194303):Calls Tryz.prog 176 #[.int .i64 (s:Int),.int .i64 (g:Int)] w fun e w'=>e=.returned (.int .u32 ((g*1024+s:Nat):Int))∧w'=w:=by
 go_enter Tryz.func176,Tryz.ntmps176
 go_wp2
 go_ret
 exact ⟨ret_int (by omega),rfl⟩
set_option maxRecDepth 100000 in
theorem make_yes (s g:Nat) (w:World) (h1:s < 1024) (h2:1≤g) (h3:g≤4194303):Calls Tryz.prog 125 #[.int .i64 (s:Int),.int .i64 (g:Int)] w fun e w'=>e=.returned (.tuple #[.int .u32 ((g*1024+s:Nat):Int),.int .i64 0])∧w'=w:=by
 go_enter Tryz.func125,Tryz.ntmps125
 go_wp2_with (first | (go_at_call 143;refine (isGen_yes _ _ (by omega) (by omega)).mono ?_;rintro e w' ⟨rfl,rfl⟩) | (go_at_call 176;refine (number_any _ _ _ h1 h3).mono ?_;rintro e w' ⟨rfl,rfl⟩))
 go_ret2
 exact ⟨rfl,rfl⟩
theorem make_no (s g:Int) (w:World) (h:s < 0∨1024≤s∨g < 1∨4194303 < g):Calls Tryz.prog 125 #[.int .i64 s,.int .i64 g] w fun e w'=>e=.returned (.tuple #[.int .u32 0,.int .i64 1])∧w'=w:=by
 by_cases c1:s < 0
 ·go_enter Tryz.func125,Tryz.ntmps125
  go_wp2
  go_ret2
  exact ⟨rfl,rfl⟩
 ·by_cases c2:1024≤s
  ·go_enter Tryz.func125,Tryz.ntmps125
   go_wp2
   go_ret2
   exact ⟨rfl,rfl⟩
  ·go_enter Tryz.func125,Tryz.ntmps125
   go_wp2_with (first | (go_at_call 143;refine (isGen_no _ _ (by omega)).mono ?_;rintro e w' ⟨rfl,rfl⟩))
   go_ret2
   exact ⟨rfl,rfl⟩
theorem new_ok (w0 w:World) (l:List Thing) (n f:Nat) (h:Own w0 w l) (h1:1≤n) (h2:n≤1024) (h3:1≤f) (h4:f≤4194303) :
  Calls Tryz.prog 88 #[.int .i64 (n:Int),.int .i64 (f:Int)] w fun e w'=>∃ b,e=.returned (.tuple #[.pointer (some ⟨b,0,none⟩),.int .i64 0])∧w.heap.size≤b∧Own w0 w' (Slots b (St.new n f)::l):=by
 go_enter Tryz.func88,Tryz.ntmps88
 go_wp2_with (first | (go_at_call 143;refine (isGen_yes _ _ (by omega) (by omega)).mono ?_;rintro e w' ⟨rfl,rfl⟩))
 go_ret2
 refine ⟨_,rfl,Nat.le_refl _,Own.ex_iff.2 ⟨(.slice none 0 0,.slice none 0 0,.slice none 0 0),?_⟩⟩
 have k:=((((h.allocC #[.int .i64 (n:Int),.int .i64 (f:Int),.slice none 0 0,.slice none 0 0,.slice none 0 0,.int .i64 0] 236).nilRow 3 1).nilRow 4 1).nilRow 38 1)
 exact k.four
set_option maxRecDepth 100000 in
theorem again0 (w:World) (b g1 g2 g3 n1 n2 k c1 c2 c3 f x:Nat) (lv:Int) (hx:x+1024 < 4294967296) (hf1:f < n1) (hf2:f < n2) (hl0:0≤lv) (hl1:lv≤1024) (hk:k≤1024) (hkc:k≤c3)
  (q2:w.cell? ⟨b,2,none⟩=some (.slice (some ⟨g1,0,none⟩) n1 c1)) (q3:w.cell? ⟨b,3,none⟩=some (.slice (some ⟨g2,0,none⟩) n2 c2)) (q4:w.cell? ⟨b,4,none⟩=some (.slice (some ⟨g3,0,none⟩) (k+1) c3)) (q5:w.cell? ⟨b,5,none⟩=some (.int .i64 lv))
  (z4:w.frozen? ⟨b,4,none⟩=false) (z5:w.frozen? ⟨b,5,none⟩=false) (p3:w.cell? ⟨g3,k,none⟩=some (.int .i64 (f:Int))) (p1:w.cell? ⟨g1,f,none⟩=some (.int .u32 (x:Int))) (y1:w.frozen? ⟨g1,f,none⟩=false) (y2:w.frozen? ⟨g2,f,none⟩=false)
  (e1:g1≠b) (e2:g2≠b) (e3:g3≠b) (e12:g1≠g2) (p2:∃ u,w.cell? ⟨g2,f,none⟩=some u) :
  Calls Tryz.prog 239 #[.pointer (some ⟨b,0,none⟩)] w fun e w'=>e=.returned (.int .u32 ((x+1024:Nat):Int)) ∧
   w'=(((w.setCell ⟨b,4,none⟩ (.slice (some ⟨g3,0,none⟩) k c3)).setCell ⟨g1,f,none⟩ (.int .u32 ((x+1024:Nat):Int))).setCell ⟨g2,f,none⟩ (.bool true)).setCell ⟨b,5,none⟩ (.int .i64 (lv+1)):=by
 obtain ⟨u2,p2⟩:=p2
 have hx':((x+1024:Nat):Int)=(x:Int)+1024:=by omega
 go_enter Tryz.func239,Tryz.ntmps239
 go_wp2
 go_ret
 exact ⟨ret_int (by omega),by rw [hx']⟩
set_option maxRecDepth 100000 in
theorem takeNew_ok (w0 w:World) (l:List Thing) (b:Nat) (S:St) (h:Own w0 w (Slots b S::l)) (hS:S.Ok) (hl:S.last.length < S.n) :
  Calls Tryz.prog 240 #[.pointer (some ⟨b,0,none⟩)] w fun e w'=>e=.returned (.int .u32 ((S.first*1024+S.last.length:Nat):Int))∧Own w0 w' (Slots b S.more::l):=by
 obtain ⟨⟨v1,v2,v3⟩,h⟩:=Own.ex_iff.1 h
 obtain ⟨i0,hi,hz0,hz1,hz2⟩:=info_parts Tryz.infoID
 obtain ⟨i1,hi1,hz10,hz11,hz12⟩:=info_parts Tryz.infoBool
 have hn:=hS.n2
 have hf:=hS.f2
 have hlv:S.live≤1024:=by have:=hS.cnt;have:=hS.le;omega
 have hul:=hS.ul
 have q1:=h.cell 1
 have q2:=h.cell 2
 obtain ⟨a1,c1,rfl⟩:∃ a c,v1=.slice a S.last.length c:=by
  rcases h.two.row.2 with ⟨rfl,e⟩ | ⟨g,cap,cur,rfl,_⟩
  ·exact ⟨_,_,by rw [e]⟩
  ·exact ⟨_,_,rfl⟩
 have H:Hid (Own w0 w _):=h
 have HS:Hid S.Ok:=hS
 clear h hS
 simp at q1 q2
 go_enter Tryz.func240,Tryz.ntmps240
 go_wp2
 go_quiet ((go_at_call 176;exact Calls.quiet_of_same (number_any S.last.length S.first _ (by omega) (by omega))))
 go_wp2_with (at_builtin;refine append1_own rfl _ _ 55 rfl 38 i0 (.int .u32 0) 1 4 Tryz.underlying55 hi hz0 hz1 hz2 rfl (by decide) _ _ _ rfl (H.out.drewN _).two _ _ (by simp) rfl rfl (one_int _ _) (by unfold maxLen;omega) (by omega) ?_)
 intro g1 c1' w1 hO hsz
 have q3:=hO.two.cell 3
 have k2:=hO.two.cell 2
 have z2:=hO.two.froz 2
 have H1:Hid (Own w0 w1 _):=hO
 clear hO H q1 q2
 simp at q3 k2
 go_wp2_with (at_builtin;refine append1_own rfl _ _ 233 rfl 4 i1 (.bool false) 1 1 Tryz.underlying233 hi1 hz10 hz11 hz12 rfl (by decide) _ _ _ rfl (H1.out.two.setC 2 (.slice (some ⟨g1,0,none⟩) (S.last.length+1) c1')).three _ _ (by simp) rfl rfl (one_bool _) (by unfold maxLen;omega) (by omega) ?_)
 intro g2 c2' w2 hO2 hsz2
 have k3:=hO2.two.cell 3
 have z3:=hO2.two.froz 3
 have z5:=hO2.two.froz 5
 have q5:=hO2.two.cell 5
 have H2:Hid (Own w0 w2 _):=hO2
 clear hO2 H1 q3 k2
 simp at q5 k3
 go_wp2
 go_ret
 refine ⟨ret_int (by omega),Own.ex_iff.2 ⟨(.slice (some ⟨g1,0,none⟩) (S.last.length+1) c1',.slice (some ⟨g2,0,none⟩) (S.last.length+1) c2',v3),?_⟩⟩
 have k:=((H2.out.two.setC 3 (.slice (some ⟨g2,0,none⟩) (S.last.length+1) c2')).setC 5 (.int .i64 ((S.live:Int)+1))).in23
 have e1:irow .u32 S.more.last=irow .u32 S.last++[.int .u32 ((S.first:Int)*1024+(S.last.length:Int))]:=by simp [irow,St.more]
 have e2:brow S.more.used=brow S.used++[.bool true]:=by simp [brow,St.more]
 have e3:S.more.last.length=S.last.length+1:=by simp [St.more]
 have e4:S.more.used.length=S.last.length+1:=by simp [St.more,hul]
 have e5:(S.more.live:Int)=(S.live:Int)+1:=by simp [St.more]
 rw [e1,e2,e3,e4,e5]
 exact k
end Go.Proofs.YtogmdoiecpihdaaGreatDoor
