/- How a component is to be seen where nothing was seen yet. -/
import Derived.Test.YtogmdoiecpihdaaGreatDoorQw26
import Derived.Test.YtogmdoiecpihdaaGreatDoorQw15
import Derived.Laws.ResultCell
import Derived.Test.YtogmdoiecpihdaaGreatDoorQw17
import Derived.Test.YtogmdoiecpihdaaGreatDoorQw25
namespace Go.Proofs.YtogmdoiecpihdaaGreatDoor
open Go.RowKit Go.Maps
set_option linter.unusedVariables false
set_option maxHeartbeats 8000000
set_option maxRecDepth 100000
theorem sight_nil (w0 w : World) (l : List Thing) (b : Nat) (wc : Array Value) (T : Nat) (hwc : wc[0]? = some (.int .u32 (T : Int))) (hwm : wc[3]? = some (.map none)) (i k : Nat) (hi : i < 4294967296) (hk : k < 256) (ck : Nat) (ca cb cc : Int)
  (h : Own w0 w (Cells b wc 102 :: l)) :
  Calls Tryz.prog 101 #[.pointer (some ⟨b,0,none⟩),spv i k,.agg #[.int .u8 (ck : Int),.int .i32 ca,.int .i32 cb,.int .i32 cc]] w fun e w' => e = .returned (sgt none T ck ca cb cc).v ∧ Own w0 w' (Cells b wc 102 :: l) := by
 have hA := ((h.allocC #[.int .u32 (i : Int),.int .u8 (k : Int)] 166).allocC #[.int .u8 (ck : Int),.int .i32 ca,.int .i32 cb,.int .i32 cc] 46).allocC #[.int .u8 0,.int .i32 0,.int .i32 0,.int .i32 0,.int .u32 0] 163
 simp only [World.size_alloc] at hA
 have eqa := eq_a3w 9997
 have hbl := h.lt
 have hnb1 : b ≠ w.heap.size + 1 + 1 := by omega
 have hnb2 : w.heap.size + 1 + 1 ≠ b := fun q => hnb1 q.symm
 clear hbl
 have HLK : Hid (∀ w' : World,(Instr.lookup 100 (.map none) (.agg #[.int .u32 (i : Int),.int .u8 (k : Int)]) true).run Tryz.prog w' = .ok (.tuple #[.agg #[.int .u8 0,.int .i32 0,.int .i32 0,.int .i32 0,.int .u32 0],.bool false]) w') := fun w' => Maps.look_nil true keySpot Tryz.underlying100 (zeroSight w') (spk i k hi hk)
 have HC3 : Hid (∀ w' l',Own w0 w' (Cells b wc 102 :: l') → w'.cell? ⟨b,3,none⟩ = some (.map none) ∧ w'.cell? ⟨b,0,none⟩ = some (.int .u32 (T : Int))) := fun w' l' h' => ⟨by rw [h'.cell 3]; exact hwm,by rw [h'.cell 0]; exact hwc⟩
 have HA : Hid (Own w0 _ _) := hA
 clear h hA hwc hwm
 unfold spv
 go_enter Tryz.func101,Tryz.ntmps101
 go_wp2_with fail
 generalize ((w.alloc (.cells #[.int .u32 (i : Int),.int .u8 (k : Int)] 166)).alloc (.cells #[.int .u8 (ck : Int),.int .i32 ca,.int .i32 cb,.int .i32 cc] 46)).alloc (.cells #[.int .u8 0,.int .i32 0,.int .i32 0,.int .i32 0,.int .u32 0] 163) = W at HA ⊢
 have hD := HA.out.drew
 have HS0 : Hid ((fun w' : World => w'.cell? ⟨b,3,none⟩ = some (.map none) ∧ w'.cell? ⟨w.heap.size,0,none⟩ = some (.int .u32 (i : Int)) ∧ w'.cell? ⟨w.heap.size,1,none⟩ = some (.int .u8 (k : Int)) ∧ (Instr.lookup 100 (.map none) (.agg #[.int .u32 (i : Int),.int .u8 (k : Int)]) true).run Tryz.prog w' = .ok (.tuple #[.agg #[.int .u8 0,.int .i32 0,.int .i32 0,.int .i32 0,.int .u32 0],.bool false]) w') W.drew) := ⟨(HC3.out _ _ hD.four).1,hD.three.cell 0,hD.three.cell 1,HLK.out _⟩
 have hB := (HA.out.allocC #[.int .u8 0,.int .i32 0,.int .i32 0,.int .i32 0,.int .u32 0] 163).drew
 have HS1 : Hid ((fun w' : World => w'.cell? ⟨b,3,none⟩ = some (.map none) ∧ w'.cell? ⟨w.heap.size,0,none⟩ = some (.int .u32 (i : Int)) ∧ w'.cell? ⟨w.heap.size,1,none⟩ = some (.int .u8 (k : Int)) ∧ (Instr.lookup 100 (.map none) (.agg #[.int .u32 (i : Int),.int .u8 (k : Int)]) true).run Tryz.prog w' = .ok (.tuple #[.agg #[.int .u8 0,.int .i32 0,.int .i32 0,.int .i32 0,.int .u32 0],.bool false]) w') _) := ⟨(HC3.out _ _ hB.tail.four).1,hB.four.cell 0,hB.four.cell 1,HLK.out _⟩
 have HS2 : Hid ((fun w' : World => w'.cell? ⟨b,3,none⟩ = some (.map none) ∧ w'.cell? ⟨w.heap.size,0,none⟩ = some (.int .u32 (i : Int)) ∧ w'.cell? ⟨w.heap.size,1,none⟩ = some (.int .u8 (k : Int)) ∧ (Instr.lookup 100 (.map none) (.agg #[.int .u32 (i : Int),.int .u8 (k : Int)]) true).run Tryz.prog w' = .ok (.tuple #[.agg #[.int .u8 0,.int .i32 0,.int .i32 0,.int .i32 0,.int .u32 0],.bool false]) w') _) := HS1.out
 have HCC : Hid (Own w0 _ _) := hB
 clear hB hD
 refine wp_region_held_drew (S := (fun w' : World => w'.cell? ⟨b,3,none⟩ = some (.map none) ∧ w'.cell? ⟨w.heap.size,0,none⟩ = some (.int .u32 (i : Int)) ∧ w'.cell? ⟨w.heap.size,1,none⟩ = some (.int .u8 (k : Int)) ∧ (Instr.lookup 100 (.map none) (.agg #[.int .u32 (i : Int),.int .u8 (k : Int)]) true).run Tryz.prog w' = .ok (.tuple #[.agg #[.int .u8 0,.int .i32 0,.int .i32 0,.int .i32 0,.int .u32 0],.bool false]) w')) (by kernel_rfl) HS0.out (fun hHeld => ?_)
 refine wpAnyH_take (i := 0) (oi := { dst := some 10,op := Op.move (Operand.tmp 0),type := 25,pos := "world.go:94",after := #[],guard := none }) (v := ?_) rfl (by kernel_rfl) (by kernel_rfl) (by kernel_rfl) (fun _ _ _ h => h) (Or.inl ⟨by rfl,?_⟩) (by assumption) ?_
 rotate_left
 ·(intro wx hSw; (try dsimp only at hSw); go_simp; (try with_reducible rfl))
 (try simp only [Act.put,List.setIfInBounds_toArray,List.set_cons_zero,List.set_cons_succ])
 refine wpAnyH_take (i := 1) (oi := { dst := some 11,op := Op.nilCheck (Operand.tmp 10),type := 0,pos := "world.go:94",after := #[{ on := 0,ground := Ground.data }],guard := none }) (v := ?_) rfl (by kernel_rfl) (by kernel_rfl) (by kernel_rfl) (fun _ _ _ h => h) (Or.inl ⟨by rfl,?_⟩) (by assumption) ?_
 rotate_left
 ·(intro wx hSw; (try dsimp only at hSw); go_simp; (try with_reducible rfl))
 (try simp only [Act.put,List.setIfInBounds_toArray,List.set_cons_zero,List.set_cons_succ])
 refine wpAnyH_take (i := 2) (oi := { dst := some 12,op := Op.fieldAddr 102 (Operand.tmp 11) 3,type := 0,pos := "world.go:94",after := #[{ on := 1,ground := Ground.data }],guard := none }) (v := ?_) rfl (by kernel_rfl) (by kernel_rfl) (by kernel_rfl) (fun _ _ _ h => h) (Or.inl ⟨by rfl,?_⟩) (by assumption) ?_
 rotate_left
 ·(intro wx hSw; (try dsimp only at hSw); go_simp; (try with_reducible rfl))
 (try simp only [Act.put,List.setIfInBounds_toArray,List.set_cons_zero,List.set_cons_succ])
 refine wpAnyH_take (i := 3) (oi := { dst := some 13,op := Op.load 100 (Operand.tmp 12),type := 100,pos := "world.go:94",after := #[{ on := 2,ground := Ground.data }],guard := none }) (v := ?_) rfl (by kernel_rfl) (by kernel_rfl) (by kernel_rfl) (fun _ _ _ h => h) (Or.inl ⟨by rfl,?_⟩) (by assumption) ?_
 rotate_left
 ·(intro wx hSw; (try dsimp only at hSw); go_simp; (try with_reducible rfl))
 (try simp only [Act.put,List.setIfInBounds_toArray,List.set_cons_zero,List.set_cons_succ])
 refine wpAnyH_take (i := 4) (oi := { dst := some 14,op := Op.load 166 (Operand.tmp 4),type := 166,pos := "world.go:94",after := #[],guard := none }) (v := ?_) rfl (by kernel_rfl) (by kernel_rfl) (by kernel_rfl) (fun _ _ _ h => h) (Or.inl ⟨by rfl,?_⟩) (by assumption) ?_
 rotate_left
 ·(intro wx hSw; (try dsimp only at hSw); go_simp; (try with_reducible rfl))
 (try simp only [Act.put,List.setIfInBounds_toArray,List.set_cons_zero,List.set_cons_succ])
 refine wpAnyH_take (i := 5) (oi := { dst := some 15,op := Op.lookup 100 (Operand.tmp 13) (Operand.tmp 14) true,type := 164,pos := "world.go:94",after := #[{ on := 3,ground := Ground.data },{ on := 4,ground := Ground.data }],guard := none }) (v := ?_) rfl (by kernel_rfl) (by kernel_rfl) (by kernel_rfl) (fun _ _ _ h => h) (Or.inl ⟨by rfl,?_⟩) (by assumption) ?_
 rotate_left
 ·(intro wx hSw; (try dsimp only at hSw); go_simp; (try with_reducible rfl))
 (try simp only [Act.put,List.setIfInBounds_toArray,List.set_cons_zero,List.set_cons_succ])
 refine wpAnyH_take (i := 6) (oi := { dst := some 9,op := Op.move (Operand.tmp 15),type := 164,pos := "world.go:94",after := #[{ on := 5,ground := Ground.data }],guard := none }) (v := ?_) rfl (by kernel_rfl) (by kernel_rfl) (by kernel_rfl) (fun _ _ _ h => h) (Or.inl ⟨by rfl,?_⟩) (by assumption) ?_
 rotate_left
 ·(intro wx hSw; (try dsimp only at hSw); go_simp; (try with_reducible rfl))
 (try simp only [Act.put,List.setIfInBounds_toArray,List.set_cons_zero,List.set_cons_succ])
 refine wpAnyH_take (i := 7) (oi := { dst := some 16,op := Op.extract (Operand.tmp 9) 0,type := 163,pos := "world.go:94",after := #[{ on := 6,ground := Ground.data }],guard := none }) (v := ?_) rfl (by kernel_rfl) (by kernel_rfl) (by kernel_rfl) (fun _ _ _ h => h) (Or.inl ⟨by rfl,?_⟩) (by assumption) ?_
 rotate_left
 ·(intro wx hSw; (try dsimp only at hSw); go_simp; (try with_reducible rfl))
 (try simp only [Act.put,List.setIfInBounds_toArray,List.set_cons_zero,List.set_cons_succ])
 refine wpAnyH_take (i := 8) (oi := { dst := some 17,op := Op.extract (Operand.tmp 9) 1,type := 4,pos := "world.go:94",after := #[{ on := 6,ground := Ground.data },{ on := 10,ground := Ground.gcOnly Departure.lateStores }],guard := none }) (v := ?_) rfl (by kernel_rfl) (by kernel_rfl) (by kernel_rfl) (fun _ _ _ h => h) (Or.inl ⟨by rfl,?_⟩) (by assumption) ?_
 rotate_left
 ·(intro wx hSw; (try dsimp only at hSw); go_simp; (try with_reducible rfl))
 (try simp only [Act.put,List.setIfInBounds_toArray,List.set_cons_zero,List.set_cons_succ])
 refine wpAnyH_ready (rs := [9]) (by kernel_rfl) (by simp) ?_
 refine AllReadyH.cons (o := { dst := some 7,op := Op.alloc 163,type := 0,pos := "world.go:94",after := #[],guard := none }) rfl (fun K hK => ?_) AllReadyH.nil
 go_simp
 refine hK.out _ _ HS1.out (fun hHeld2 => ?_)
 clear hHeld hK K
 have hHeld := hHeld2
 clear hHeld2
 (try simp only [Act.put,List.setIfInBounds_toArray,List.set_cons_zero,List.set_cons_succ])
 refine wpAnyH_ready (rs := [10]) (by kernel_rfl) (by simp) ?_
 refine AllReadyH.cons (o := { dst := none,op := Op.store 163 (Operand.tmp 7) (Operand.tmp 16),type := 0,pos := "world.go:94",after := #[{ on := 9,ground := Ground.data },{ on := 7,ground := Ground.data },{ on := 0,ground := Ground.phase },{ on := 1,ground := Ground.phase },{ on := 2,ground := Ground.phase },{ on := 3,ground := Ground.phase },{ on := 4,ground := Ground.phase },{ on := 5,ground := Ground.phase },{ on := 6,ground := Ground.phase },{ on := 7,ground := Ground.phase },{ on := 8,ground := Ground.textOnly Departure.lateStores },{ on := 9,ground := Ground.phase }],guard := none }) rfl (fun K hK => ?_) AllReadyH.nil
 go_simp
 refine hK.out _ _ HS2.out (fun hHeld2 => ?_)
 clear hHeld hK K
 have hHeld := hHeld2
 clear hHeld2
 (try simp only [Act.put,List.setIfInBounds_toArray,List.set_cons_zero,List.set_cons_succ])
 refine wpAnyH_take (i := 11) (oi := { dst := some 8,op := Op.assign (Operand.tmp 17),type := 4,pos := "world.go:94",after := #[{ on := 8,ground := Ground.data },{ on := 10,ground := Ground.chain },{ on := 0,ground := Ground.phase },{ on := 1,ground := Ground.phase },{ on := 2,ground := Ground.phase },{ on := 3,ground := Ground.phase },{ on := 4,ground := Ground.phase },{ on := 5,ground := Ground.phase },{ on := 6,ground := Ground.phase },{ on := 7,ground := Ground.phase },{ on := 8,ground := Ground.phase },{ on := 9,ground := Ground.phase },{ on := 10,ground := Ground.phase }],guard := none }) (v := ?_) rfl (by kernel_rfl) (by kernel_rfl) (by kernel_rfl) (fun _ _ _ h => h) (Or.inl ⟨by rfl,?_⟩) (by assumption) ?_
 rotate_left
 ·(intro wx hSw; (try dsimp only at hSw); go_simp; (try with_reducible rfl))
 (try simp only [Act.put,List.setIfInBounds_toArray,List.set_cons_zero,List.set_cons_succ])
 refine wpAnyH_done (by kernel_rfl) ?_ _
 have hB := HCC.out
 have t0 := (HC3.out _ _ hB.tail.four).2
 clear hHeld HS0 HS1 HS2
 generalize (W.alloc (.cells #[.int .u8 0,.int .i32 0,.int .i32 0,.int .i32 0,.int .u32 0] 163)).drew = W2 at hB HCC t0 ⊢
 have u0 := hB.three.cell 0
 have u1 := hB.three.cell 1
 have u2 := hB.three.cell 2
 have u3 := hB.three.cell 3
 simp at u0 u1 u2 u3
 have z0 := hB.two.cell 0
 have z1 := hB.two.cell 1
 have z2 := hB.two.cell 2
 have z3 := hB.two.cell 3
 have z4 := hB.two.cell 4
 simp at z0 z1 z2 z3 z4
 have y0 := hB.two.froz 0
 have y1 := hB.two.froz 1
 have y2 := hB.two.froz 2
 have y3 := hB.two.froz 3
 have y4 := hB.two.froz 4
 have HF : Hid (Own w0 _ _) := (((((hB.two.setC 0 (.int .u8 (ck : Int))).setC 1 (.int .i32 ca)).setC 2 (.int .i32 cb)).setC 3 (.int .i32 cc)).setC 4 (.int .u32 (T : Int))).drew
 clear hB
 go_wp2_with fail
 go_region_held3 (fun w' : World => w'.cell? ⟨w.heap.size + 1,0,none⟩ = some (.int .u8 (ck : Int)) ∧ w'.cell? ⟨w.heap.size + 1,1,none⟩ = some (.int .i32 ca) ∧ w'.cell? ⟨w.heap.size + 1,2,none⟩ = some (.int .i32 cb) ∧ w'.cell? ⟨w.heap.size + 1,3,none⟩ = some (.int .i32 cc) ∧ w'.cell? ⟨b,0,none⟩ = some (.int .u32 (T : Int))) (go_keep) (fail)
 all_goals
  go_wp2
  (try simp only [Exit.inBlock,Exit.then])
  refine bodyPost_ret (v := .agg #[.int .u8 (ck : Int),.int .i32 ca,.int .i32 cb,.int .i32 cc,.int .u32 (T : Int)]) ?_ rfl ⟨rfl,HF.out.tail.tail.tail.tail⟩
  have r0 := HF.out.cell 0
  have r1 := HF.out.cell 1
  have r2 := HF.out.cell 2
  have r3 := HF.out.cell 3
  have r4 := HF.out.cell 4
  simp at r0 r1 r2 r3 r4
  simp only [results]
  go_simp
theorem sused (w0 w : World) (l : List Thing) (b bs : Nat) (v : Value) (p : Nat → Option Nat) (σ : Sto) (K : Nat) (h : Own w0 w (StoX b σ K (bs,v,p) :: l)) :
  Calls Tryz.prog 121 #[.pointer (some ⟨b,0,none⟩)] w fun e w' => e = .returned (.pointer (some ⟨bs,0,none⟩)) ∧ w' = w := by
 obtain ⟨q0,_,_⟩ := stoCells h
 clear h
 go_enter Tryz.func121,Tryz.ntmps121
 go_wp2
 go_ret
 exact ⟨rfl,rfl⟩
theorem sused_nil (w : World) : Calls Tryz.prog 121 #[.pointer none] w fun e w' => e = .returned (.pointer none) ∧ w' = w := by
 go_enter Tryz.func121,Tryz.ntmps121
 go_wp2
 go_ret
 exact ⟨rfl,rfl⟩
theorem slive (w0 w : World) (l : List Thing) (b : Nat) (σ : Sto) (K : Nat) (h : Own w0 w (Store b σ K :: l)) (hσ : σ.S.Ok) (id : Nat) (hid : id < 4294967296) :
  Calls Tryz.prog 120 #[.pointer (some ⟨b,0,none⟩),.int .u32 (id : Int)] w fun e w' => e = .returned (.bool (σ.S.isLive id)) ∧ Own w0 w' (Store b σ K :: l) := by
 have H : Hid (Own w0 w (Store b σ K :: l)) := h
 obtain ⟨bs,v,p,h⟩ := h.stoX
 have HU : Hid (Calls _ _ _ _ _) := sused w0 w l b bs v p σ K h
 have HL : Hid (Calls _ _ _ _ _) := live_ok w0 w _ bs σ.S id h.stoO.two hσ hid
 clear h
 go_enter Tryz.func120,Tryz.ntmps120
 go_wp2_with (first | (go_at_call 121; refine HU.out.mono ?_; rintro e w' ⟨rfl,rfl⟩) | (go_at_call 175; refine HL.out.mono ?_; rintro e w' ⟨rfl,rfl⟩))
 go_ret
 exact ⟨rfl,H.out⟩
theorem slist (w0 w : World) (l : List Thing) (b : Nat) (σ : Sto) (K : Nat) (h : Own w0 w (Store b σ K :: l)) (hσ : σ.S.Ok) :
  Calls Tryz.prog 67 #[.pointer (some ⟨b,0,none⟩)] w fun e w' => ∃ v,e = .returned v ∧ Own w0 w' (Row 38 1 v σ.S.list.length (irow .u32 σ.S.list) :: Store b σ K :: l) := by
 obtain ⟨bs,v,p,h⟩ := h.stoX
 have HU : Hid (Calls _ _ _ _ _) := sused w0 w l b bs v p σ K h
 have HL : Hid (Calls _ _ _ _ _) := list_ok w0 w _ bs σ.S h.stoO.two hσ
 clear h
 go_enter Tryz.func67,Tryz.ntmps67
 go_wp2_with (go_at_call 121; refine HU.out.mono ?_; rintro e w' ⟨rfl,rfl⟩)
 refine HL.out.mono ?_
 rintro e w' ⟨vv,rfl,hO⟩
 have H1 : Hid (Own w0 w' (Row 38 1 vv σ.S.list.length (irow .u32 σ.S.list) :: Store b σ K :: l)) := by
  have k := Own.sink (l := [Cells b (scells bs v p) 176,Slots bs σ.S,Row 5 1 v σ.mks.length (irow .u8 σ.mks),Tabs p σ.T K]) (m := l) hO.in23
  exact (Own.stoS k).xSto.two
 clear hO
 go_wp2
 go_ret
 exact ⟨_,rfl,H1.out⟩
end Go.Proofs.YtogmdoiecpihdaaGreatDoor
namespace Go.Proofs.YtogmdoiecpihdaaGreatDoor
open Go.RowKit
set_option linter.unusedVariables false
set_option maxHeartbeats 8000000
set_option maxRecDepth 100000
theorem pick_memW (l : List Nat) (m : List Bool) (y : Nat) (h : y ∈ pick l m) : ∃ i : Nat,l[i]? = some y ∧ m[i]? = some true := by
 induction l generalizing m with
 | nil => cases m <;> simp [pick] at h
 | cons x l ih => cases m with
  | nil => simp [pick] at h
  | cons u m =>
   cases u
   ·obtain ⟨i,a,b⟩ := ih m (by simpa [pick] using h)
    exact ⟨i + 1,by simpa using a,by simpa using b⟩
   ·rw [pick,if_pos rfl] at h
    rcases List.mem_cons.1 h with rfl | h
    ·exact ⟨0,rfl,rfl⟩
    ·obtain ⟨i,a,b⟩ := ih m h
     exact ⟨i + 1,by simpa using a,by simpa using b⟩
theorem St.list_w {S : St} (hS : S.Ok) {y : Nat} (h : y ∈ S.list) : S.isLive y = true ∧ y < 4294967296 := by
 obtain ⟨i,a,b⟩ := pick_memW _ _ _ h
 have := hS.id i y a
 rw [St.isLive_iff hS,this.1]
 exact ⟨⟨b,a⟩,this.2.2⟩
theorem wstored (w0 w : World) (l : List Thing) (b bs : Nat) (wc : Array Value) (h : Own w0 w (Cells b wc 102 :: l)) (hwc : wc[1]? = some (.pointer (some ⟨bs,0,none⟩))) :
  Calls Tryz.prog 66 #[.pointer (some ⟨b,0,none⟩)] w fun e w' => e = .returned (.pointer (some ⟨bs,0,none⟩)) ∧ w' = w := by
 have q1 := h.cell 1
 rw [hwc] at q1
 clear h hwc
 go_enter Tryz.func66,Tryz.ntmps66
 go_wp2
 go_ret
 exact ⟨rfl,rfl⟩
theorem went (w0 w : World) (l : List Thing) (b bs : Nat) (wc : Array Value) (σ : Sto) (K : Nat) (h : Own w0 w (Store bs σ K :: Cells b wc 102 :: l)) (hwc : wc[1]? = some (.pointer (some ⟨bs,0,none⟩))) (hσ : σ.Ok) (id : Nat) (hid : id < 4294967296) (hl : σ.S.isLive id = true) (hK : K ≤ 1000000) :
  Calls Tryz.prog 63 #[.pointer (some ⟨b,0,none⟩),.int .u32 (id : Int)] w fun e w' => ∃ ao cap,e = .returned (.tuple #[.agg #[.int .u32 (id : Int),.slice ao (σ.cps id).length cap],.int .i64 0]) ∧ Own w0 w' (Row 46 4 (.slice ao (σ.cps id).length cap) (σ.cps id).length (ccat (σ.cps id)) :: Store bs σ K :: Cells b wc 102 :: l) := by
 obtain ⟨r,C,hr,he,_⟩ := hσ.ent hl
 rw [Sto.cps_of hr he]
 have hA := h.allocC #[.int .u32 0,.slice none 0 0] 76
 have HS : Hid (Calls _ _ _ _ _) := wstored w0 _ _ b bs wc hA.three hwc
 have HE : Hid (Calls _ _ _ _ _) := sent w0 _ _ bs σ K hA.two hσ id hid hl r C he hK
 clear h hwc hσ hl he hr hid hK
 generalize hcl : C.length = cl at *
 clear hA hcl
 go_enter Tryz.func63,Tryz.ntmps63
 go_wp2_with fail
 refine HS.out.mono ?_
 rintro e w1 ⟨rfl,rfl⟩
 go_wp2_with fail
 refine HE.out.mono ?_
 rintro e w2 ⟨ao,cap,rfl,hO⟩
 have hB := hO.three
 generalize w.heap.size = B at *
 have z0 := hB.cell 0
 have z1 := hB.cell 1
 simp at z0 z1
 have y0 := hB.froz 0
 have y1 := hB.froz 1
 have HF : Hid (Own w0 _ _) := (hB.setC 0 (.int .u32 (id : Int))).setC 1 (.slice ao cl cap)
 clear hO hB HS HE
 go_wp2
 (try simp only [Exit.inBlock,Exit.then])
 refine bodyPost_ret (v := .tuple #[.agg #[.int .u32 (id : Int),.slice ao cl cap],.int .i64 0]) ?_ rfl ⟨ao,cap,rfl,?_⟩
 ·rw [results_cell_tmp rfl]
  have r0 := HF.out.cell 0
  have r1 := HF.out.cell 1
  simp at r0 r1
  go_simp
 ·exact HF.out.tail
structure EnE where
 id : Nat
 ao : Option Addr
 cap : Nat
 C : List Cp
def EnE.cs (x : EnE) : List Value := [.int .u32 (x.id : Int),.slice x.ao x.C.length x.cap]
def erow (x : EnE) : Thing := Row 46 4 (.slice x.ao x.C.length x.cap) x.C.length (ccat x.C)
theorem info3w {P : Program} {t : TypeId} {z : Option Value} {s b : Nat} (h : (P.info? t).map (fun i => (i.zero,i.size,i.bytes)) = some (z,s,b)) : ∃ i,P.info? t = some i ∧ i.zero = z ∧ i.size = s ∧ i.bytes = b := by
 cases hi : P.info? t with
 | none => rw [hi] at h; simp at h
 | some i => rw [hi] at h; simp at h; exact ⟨i,rfl,h.1,h.2.1,h.2.2⟩
theorem perm_w {A B C D E : Thing} {M l : List Thing} : (A :: B :: C :: D :: E :: (M ++ l)).Perm (A :: E :: C :: D :: ((M ++ [B]) ++ l)) := by
 refine List.Perm.cons A ?_
 have h1 : (E :: C :: D :: ((M ++ [B]) ++ l)).Perm (B :: E :: C :: D :: (M ++ l)) := by
  have := List.perm_middle (l₁ := E :: C :: D :: M) (a := B) (l₂ := l)
  simpa using this
 have h2 : (C :: D :: E :: (M ++ l)).Perm (E :: C :: D :: (M ++ l)) := List.perm_middle (l₁ := [C,D]) (a := E) (l₂ := M ++ l)
 exact (List.Perm.cons B h2).trans h1.symm
theorem list_lenW {S : St} (hS : S.Ok) : S.list.length ≤ 1024 := by
 rw [St.list_length hS,hS.live]
 have h1 := List.count_le_length (a := true) (l := S.used)
 have h2 := hS.ul
 have h3 := hS.le
 have h4 := hS.n2
 omega
theorem wlist (w0 w : World) (l : List Thing) (b bs : Nat) (wc : Array Value) (σ : Sto) (K : Nat) (h : Own w0 w (Store bs σ K :: Cells b wc 102 :: l)) (hwc : wc[1]? = some (.pointer (some ⟨bs,0,none⟩))) (hσ : σ.Ok) (hK : K ≤ 1000000) :
  Calls Tryz.prog 29 #[.pointer (some ⟨b,0,none⟩)] w fun e w' => ∃ (ao : Option Addr) (cap : Nat) (L : List EnE),e = .returned (.slice ao L.length cap) ∧ L.map (fun x => (x.id,x.C)) = σ.S.list.map (fun id => (id,σ.cps id)) ∧ Own w0 w' (Row 76 2 (.slice ao L.length cap) L.length (cat EnE.cs L) :: Store bs σ K :: Cells b wc 102 :: (L.map erow ++ l)) := by
 obtain ⟨i0,hi,hz0,hz1,hz2⟩ := info3w Tryz.infoEnt
 have HS : Hid (Calls _ _ _ _ _) := wstored w0 _ _ b bs wc h.two hwc
 have HL : Hid (Calls _ _ _ _ _) := slist w0 w _ bs σ K h hσ.s
 have HEN : Hid (∀ W l id,id < 4294967296 → σ.S.isLive id = true → Own w0 W (Store bs σ K :: Cells b wc 102 :: l) → Calls Tryz.prog 63 #[.pointer (some ⟨b,0,none⟩),.int .u32 (id : Int)] W fun e w' => ∃ x : EnE,x.id = id ∧ x.C = σ.cps id ∧ e = .returned (.tuple #[.agg #[.int .u32 (id : Int),.slice x.ao x.C.length x.cap],.int .i64 0]) ∧ Own w0 w' (erow x :: Store bs σ K :: Cells b wc 102 :: l)) := fun W l id hid hl h2 => by
  refine (went w0 W l b bs wc σ K h2 hwc hσ id hid hl hK).mono ?_
  rintro e w' ⟨ao,cap,rfl,h3⟩
  exact ⟨⟨id,ao,cap,σ.cps id⟩,rfl,rfl,rfl,h3⟩
 have HLV : Hid (∀ y ∈ σ.S.list,σ.S.isLive y = true ∧ y < 4294967296) := fun y hy => St.list_w hσ.s hy
 have hlen := list_lenW hσ.s
 obtain ⟨ids,hids⟩ : ∃ ids,ids = σ.S.list := ⟨_,rfl⟩
 rw [← hids] at HL HLV hlen
 rw [← hids]
 obtain ⟨n,hn⟩ : ∃ n,n = ids.length := ⟨_,rfl⟩
 rw [← hn] at HL hlen
 have HN : Hid (n = ids.length) := hn
 clear h hwc hσ hK hn hids
 go_enter Tryz.func29,Tryz.ntmps29
 go_wp2_with fail
 refine HS.out.mono ?_
 rintro e w1 ⟨rfl,rfl⟩
 go_wp2_with fail
 refine HL.out.mono ?_
 rintro e w2 ⟨v,rfl,h2⟩
 obtain ⟨a2,c2,rfl⟩ := row_any h2.row
 have H2 : Hid (Own w0 w2 (Row 38 1 (.slice a2 n c2) n (irow .u32 ids) :: Store bs σ K :: Cells b wc 102 :: l)) := h2
 clear h2 HS HL
 go_wp2
 go_loopw [3,12] (fun vo vi wr => ∃ (j : Nat) (L : List EnE) (m : Nat) (ao : Option Addr) (cap : Nat),j ≤ n ∧ vi = .int .i64 (j : Int) ∧ vo = .slice ao m cap ∧ m = L.length ∧ m = j ∧ L.map (fun x => (x.id,x.C)) = (ids.take j).map (fun id => (id,σ.cps id)) ∧ Own w0 wr (Row 76 2 (.slice ao m cap) m (cat EnE.cs L) :: Row 38 1 (.slice a2 n c2) n (irow .u32 ids) :: Store bs σ K :: Cells b wc 102 :: (L.map erow ++ l))) (fun _ vi _ => n - (intOf vi).toNat)
 case atStart => exact ⟨0,[],0,none,0,Nat.zero_le _,rfl,rfl,rfl,rfl,rfl,H2.out.nilRow _ _⟩
 case round =>
  obtain ⟨j,L,m,ao,cap,hj,rfl,rfl,hm,hmj,hL,hO⟩ := hrel
  have HM : Hid (m = L.length) := hm
  have HLL : Hid (L.map (fun x => (x.id,x.C)) = (ids.take j).map (fun id => (id,σ.cps id))) := hL
  have hm1 : m ≤ 1024 := by omega
  clear H2 hm hL
  by_cases hlt : j < n
  ·have hlt' : (j : Int) < (n : Int) := by omega
   obtain ⟨id,hid⟩ : ∃ id,ids[j]? = some id := ⟨_,List.getElem?_eq_getElem (by rw [← HN.out]; exact hlt)⟩
   obtain ⟨hlv,hid32⟩ := HLV.out id (List.mem_of_getElem? hid)
   have c0 : ∃ g,a2 = some ⟨g,0,none⟩ ∧ wr.cell? ⟨g,j,none⟩ = some (.int .u32 (id : Int)) := by
    obtain ⟨g,cp,hv,_⟩ := row_shape hO.two.row (by omega)
    have hva := (Value.slice.inj hv).1
    subst hva
    refine ⟨g,rfl,?_⟩
    rw [hO.two.row.cellAt _ (by omega),getElem?_irow,hid]
    rfl
   obtain ⟨g,hg,c0⟩ := c0
   have HE : Hid (Calls _ _ _ _ _) := HEN.out wr _ id hid32 hlv hO.four.four
   have HLN : Hid (∀ x : EnE,x.id = id → x.C = σ.cps id → (L ++ [x]).map (fun x => (x.id,x.C)) = (ids.take (j + 1)).map (fun id => (id,σ.cps id))) := fun x h1 h2 => by
    rw [List.map_append,HLL.out,List.take_add_one,hid,List.map_append]
    simp [h1,h2]
   subst hg hmj
   clear hO hid hlv hid32 HLL
   go_wp2_with fail
   refine HE.out.mono ?_
   rintro e w3 ⟨x,hx1,hx2,rfl,h3⟩
   have HX : Hid (x.id = id ∧ x.C = σ.cps id) := ⟨hx1,hx2⟩
   have hA := h3.allocC #[.int .u32 (id : Int),.slice x.ao x.C.length x.cap] 76
   have hB : Own w0 (w3.alloc (.cells #[.int .u32 (id : Int),.slice x.ao x.C.length x.cap] 76)) (Row 76 2 (.slice ao m cap) m (cat EnE.cs L) :: erow x :: Store bs σ K :: Cells b wc 102 :: Row 38 1 (.slice (some ⟨g,0,none⟩) n c2) n (irow .u32 ids) :: (L.map erow ++ l)) := hA.tail.four
   have HB : Hid (Own w0 _ _) := hB
   clear hA hB h3 HE c0 hx1 hx2
   generalize hcl : x.C.length = cl at *
   have HCL : Hid (x.C.length = cl) := hcl
   clear hcl
   go_wp2_with (at_builtin; refine append1_own rfl _ _ 62 rfl 76 i0 (.agg #[.int .u32 0,.slice none 0 0]) 2 32 Tryz.underlying62 hi hz0 hz1 hz2 rfl (by decide) _ _ _ rfl HB.out _ #[.int .u32 (id : Int),.slice x.ao cl x.cap] (by simp) rfl rfl (by intro u hu; simp at hu; rcases hu with rfl | rfl <;> rfl) (by unfold maxLen; omega) (by omega) ?_)
   intro g2 cap2 w4 hO4 hsz
   have H4 : Hid (Own w0 w4 (Row 76 2 (.slice (some ⟨g2,0,none⟩) (m + 1) cap2) (m + 1) (cat EnE.cs (L ++ [x])) :: Row 38 1 (.slice (some ⟨g,0,none⟩) n c2) n (irow .u32 ids) :: Store bs σ K :: Cells b wc 102 :: ((L ++ [x]).map erow ++ l))) := by
    have e1 : cat EnE.cs (L ++ [x]) = cat EnE.cs L ++ [.int .u32 (id : Int),.slice x.ao cl x.cap] := by
     rw [cat_append]
     congr 1
     simp [cat,EnE.cs,HX.out.1,HCL.out]
    have e2 : (L ++ [x]).map erow = L.map erow ++ [erow x] := by simp
    show Own _ _ _
    rw [e1,e2]
    exact hO4.perm perm_w
   clear hO4 hsz HB
   go_wp2
   go_roundw
   case rel => exact ⟨m + 1,L ++ [x],m + 1,some ⟨g2,0,none⟩,cap2,by omega,by go_num,rfl,by rw [List.length_append,← HM.out]; rfl,rfl,HLN.out x HX.out.1 HX.out.2,H4.out⟩
   case measure => simp [intOf]; omega
  ·have hlt' : ¬ (j : Int) < (n : Int) := by omega
   have hjn : m = n := by omega
   subst hmj
   have HF : Hid (Own w0 wr (Row 76 2 (.slice ao m cap) m (cat EnE.cs L) :: Store bs σ K :: Cells b wc 102 :: (L.map erow ++ l))) := hO.two.tail
   have HLE : Hid (L.map (fun x => (x.id,x.C)) = ids.map (fun id => (id,σ.cps id))) := by
    have := HLL.out
    rw [hjn,HN.out,List.take_length] at this
    exact this
   clear hO hjn
   go_wp2
   go_ret
   refine ⟨ao,cap,L,by rw [← HM.out]; rfl,HLE.out,?_⟩
   rw [← HM.out]
   exact HF.out
def FctW (p : Prop) : Thing where
 is := fun _ A => p ∧ ∀ k,¬ A k
 lt := by rintro w A k ⟨_,h⟩ a; exact (h k a).elim
 keep := by rintro w w' A B h _ _; exact h
theorem Own.fctIn {w0 w : World} {p : Prop} {l : List Thing} (h : Own w0 w (FctW p :: l)) : p := by
 obtain ⟨A,⟨B,C,hB,_⟩,_⟩ := h
 exact hB.1
theorem Own.fct {w0 w : World} {p : Prop} {l : List Thing} (hp : p) (h : Own w0 w l) : Own w0 w (FctW p :: l) :=
 h.new (FctW p) (fun _ => False) ⟨hp,fun _ h => h⟩ (Fr.refl _ _) (fun _ h => h.elim)
def SMapO (mp : Option Nat) (n : Nat) (S : Nat → Nat → Option SgE) : Thing := match mp with
 | some ms => SMap ms n (sgp S)
 | none => FctW (∀ i k,S i k = none)
theorem sight_o (w0 w : World) (l : List Thing) (b : Nat) (wc : Array Value) (mp : Option Nat) (n T : Nat) (S : Nat → Nat → Option SgE) (hwc : wc[0]? = some (.int .u32 (T : Int))) (hwm : wc[3]? = some (.map mp)) (i k : Nat) (hi : i < 4294967296) (hk : k < 256) (ck : Nat) (ca cb cc : Int)
  (h : Own w0 w (SMapO mp n S :: Cells b wc 102 :: l)) :
  Calls Tryz.prog 101 #[.pointer (some ⟨b,0,none⟩),spv i k,.agg #[.int .u8 (ck : Int),.int .i32 ca,.int .i32 cb,.int .i32 cc]] w fun e w' => e = .returned (sgt (S i k) T ck ca cb cc).v ∧ Own w0 w' (SMapO mp n S :: Cells b wc 102 :: l) := by
 cases mp with
 | some ms => exact sight_ok w0 w l b wc ms n T S hwc hwm i k hi hk ck ca cb cc h
 | none =>
  have hS := h.fctIn
  refine (sight_nil w0 w l b wc T hwc hwm i k hi hk ck ca cb cc h.tail).mono ?_
  rintro e w' ⟨rfl,h2⟩
  exact ⟨by rw [hS i k],Own.fct hS h2⟩
theorem left_o (w0 w : World) (l : List Thing) (b : Nat) (wc : Array Value) (mp : Option Nat) (n mn n' : Nat) (S : Nat → Nat → Option SgE) (S' : Nat → Nat → Option SgE) (hwc : wc[3]? = some (.map mp)) (hn : n ≤ 1000000)
  (h : Own w0 w (SMapO mp n S :: SMap mn n' (sgp S') :: Cells b wc 102 :: l)) :
  Calls Tryz.prog 103 #[.pointer (some ⟨b,0,none⟩),.map (some mn)] w fun e w' => ∃ ao cap L,e = .returned (.slice ao L.length cap) ∧ L.length ≤ n ∧ LeftOf (sgp S) (sgp S') (fun _ _ => false) L ∧ Own w0 w' (Row 92 4 (.slice ao L.length cap) L.length (cat PlE.cs L) :: SMapO mp n S :: SMap mn n' (sgp S') :: Cells b wc 102 :: l) := by
 cases mp with
 | some ms => exact left_ok w0 w l b wc ms n mn n' (sgp S) (sgp S') hwc hn (fun i k v hv => by
   unfold sgp at hv
   obtain ⟨s,_,rfl⟩ := Option.map_eq_some_iff.1 hv
   exact ⟨_,_,_,_,_,rfl⟩) h
 | none =>
  have hS := h.fctIn
  refine (left_nil w0 w _ b wc mn hwc h.three).mono ?_
  rintro e w' ⟨rfl,h2⟩
  refine ⟨none,0,[],rfl,Nat.zero_le _,⟨by simp,(fun q hq => (by cases hq)),fun i hi => ?_⟩,(h2.back3).nilRow _ _⟩
  unfold sgp
  rw [hS i 0]
  simp
def EntsT (ao : Option Addr) (cap : Nat) (L : List EnE) : Thing := Ex (fun _ : Unit => Row 76 2 (.slice ao L.length cap) L.length (cat EnE.cs L) :: L.map erow)
theorem Own.ents {w0 w : World} {l : List Thing} {ao : Option Addr} {cap : Nat} {L : List EnE} (h : Own w0 w ((Row 76 2 (.slice ao L.length cap) L.length (cat EnE.cs L) :: L.map erow) ++ l)) : Own w0 w (EntsT ao cap L :: l) := Own.ex_iff.2 ⟨(),h⟩
theorem Own.entAt {w0 w : World} {l : List Thing} {ao : Option Addr} {cap : Nat} {L : List EnE} (h : Own w0 w (EntsT ao cap L :: l)) {j : Nat} {x : EnE} (hx : L[j]? = some x) :
  (∃ g,ao = some ⟨g,0,none⟩ ∧ w.cell? ⟨g,j * 2,none⟩ = some (.int .u32 (x.id : Int)) ∧ w.cell? ⟨g,j * 2 + 1,none⟩ = some (.slice x.ao x.C.length x.cap)) ∧ Cs w x.ao x.C := by
 obtain ⟨_,h1⟩ := Own.ex_iff.1 h
 have hj := (List.getElem?_eq_some_iff.1 hx).1
 constructor
 ·obtain ⟨g,cp,hv,_⟩ := row_shape h1.row (by omega)
  have hva := (Value.slice.inj hv).1
  subst hva
  have hr := h1.row
  refine ⟨g,rfl,?_,?_⟩
  ·rw [hr.cellAt _ (by omega)]
   exact cat_at EnE.cs 2 (fun _ => rfl) L j 0 x hx (by decide)
  ·rw [hr.cellAt _ (by omega)]
   exact cat_at EnE.cs 2 (fun _ => rfl) L j 1 x hx (by decide)
 ·obtain ⟨L1,L2,rfl⟩ := List.append_of_mem (List.mem_of_getElem? hx)
  have h2 : Own w0 w (erow x :: (L1.map erow ++ (L2.map erow ++ l))) := by
   have h3 : Own w0 w ((L1 ++ x :: L2).map erow ++ l) := h1.tail
   refine h3.perm ?_
   have e : (L1 ++ x :: L2).map erow ++ l = L1.map erow ++ (erow x :: (L2.map erow ++ l)) := by simp
   rw [e]
   exact List.perm_middle
  exact Own.cs (h2.view (by decide)) rfl
theorem perm_ents {A B C : Thing} {M l : List Thing} : (A :: B :: C :: (M ++ l)).Perm ((A :: M) ++ (B :: C :: l)) := by
 refine List.Perm.cons A ?_
 have := List.perm_append_comm_assoc [B,C] M l
 simpa using this
def stpW (S : Nat → Nat → Option SgE) (T : Nat) (p : Nat → Nat → Option SgE) (x : Nat × Cp) : Nat → Nat → Option SgE := fun i k => if i = x.1 ∧ k = x.2.k then some (sgt (S x.1 x.2.k) T x.2.k x.2.a x.2.b x.2.c) else p i k
def mapOf (S : Nat → Nat → Option SgE) (T : Nat) (A : List (Nat × Cp)) : Nat → Nat → Option SgE := A.foldl (stpW S T) (fun _ _ => none)
theorem mapOf_snoc (S : Nat → Nat → Option SgE) (T : Nat) (A : List (Nat × Cp)) (x : Nat × Cp) : mapOf S T (A ++ [x]) = stpW S T (mapOf S T A) x := by
 unfold mapOf; rw [List.foldl_append]; rfl
def allW (L : List EnE) : List (Nat × Cp) := L.flatMap (fun e => e.C.map (fun c => (e.id,c)))
theorem allW_snoc (L : List EnE) (x : EnE) : allW (L ++ [x]) = allW L ++ x.C.map (fun c => (x.id,c)) := by simp [allW]
theorem Own.smStp {w0 w : World} {l : List Thing} {b n : Nat} {S p : Nat → Nat → Option SgE} {T : Nat} (h : Own w0 w (SMap b n (sgp p) :: l)) (x : Nat × Cp) (hi : x.1 < 4294967296) (hk : x.2.k < 256) (hn : n < maxLen) :
  ∃ w',(Instr.mapUpdate 100 (.map (some b)) (.agg #[.int .u32 (x.1 : Int),.int .u8 (x.2.k : Int)]) (sgt (S x.1 x.2.k) T x.2.k x.2.a x.2.b x.2.c).v).run Tryz.prog w = .ok () w' ∧ Own w0 w' (SMap b (n + 1) (sgp (stpW S T p x)) :: l) := by
 obtain ⟨w',hr,hO⟩ := h.smPut x.1 x.2.k (sgt (S x.1 x.2.k) T x.2.k x.2.a x.2.b x.2.c).v hi hk hn
 refine ⟨w',hr,?_⟩
 have e : (fun i k => if i = x.1 ∧ k = x.2.k then some (sgt (S x.1 x.2.k) T x.2.k x.2.a x.2.b x.2.c).v else sgp p i k) = sgp (stpW S T p x) := by
  funext i k
  unfold sgp stpW
  split <;> simp
 rw [← e]
 exact hO
end Go.Proofs.YtogmdoiecpihdaaGreatDoor
