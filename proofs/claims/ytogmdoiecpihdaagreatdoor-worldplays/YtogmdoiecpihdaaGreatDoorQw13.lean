/- Package table: Remove; tables that are nil. -/
import Derived.Test.YtogmdoiecpihdaaGreatDoorQw09
import Derived.Test.YtogmdoiecpihdaaGreatDoorQw12
namespace Go.Proofs.YtogmdoiecpihdaaGreatDoor
open Go.RowKit Go.Maps
set_option linter.unusedVariables false
set_option maxHeartbeats 4000000
set_option maxRecDepth 100000
theorem delete_run {P : Program} {w w' : World} {ops : Array Oper} {rest : List Oper} {o : Oper} {a : Act} {Q : Exit → Act → World → Prop} (hgd : o.guard = none) (s x : Operand) (t t' : TypeId)
  (ho : o.op = .call { callee := .builtin .delete,args := #[s,x],argTypes := #[t,t'] }) (vs vx : Value) (hs : a.eval s = vs) (hx : a.eval x = vx)
  (hrun : (Builtin.delete_ #[t,t'] o.type #[vs,vx]).run P w = .ok (.tuple #[]) w') (h : wpList P ops Q rest (a.put o.dst (.tuple #[])) w') : wpList P ops Q (o :: rest) a w := by
 refine wpList_plain hgd fun K hK' => ?_
 unfold Oper.wp
 simp [execOp,ho,resolve,invoke,builtin,hs,hx,hrun,Result.andThen]
 exact hK' _ _ h
def hcol (m : Nat) (L : List Ent) (C : List Cp) (r j : Nat) : Nat → List Fs := fun k => if hasK (C.take j) k then outr (clm m L k) r else clm m L k
theorem hcol_zero (m : Nat) (L : List Ent) (C : List Cp) (r : Nat) : hcol m L C r 0 = clm m L := by funext k; simp [hcol,hasK]
theorem hcol_at {m : Nat} {L : List Ent} {C : List Cp} (h : lst (-1) C = 0) (r : Nat) {j : Nat} {q : Cp} (hq : C[j]? = some q) : hcol m L C r j q.k = clm m L q.k ∧ hcol m L C r (j + 1) = upd (hcol m L C r j) q.k (outr (clm m L q.k) r) := by
 have hno : hasK (C.take j) q.k = false := by
  apply hasK_false
  intro x hx hc
  obtain ⟨i,hi⟩ := List.getElem?_of_mem hx
  rw [List.getElem?_take] at hi
  split at hi
  ·rename_i hij
   have hp := (lst_ok h).1
   rw [List.pairwise_iff_getElem] at hp
   obtain ⟨h1,h2⟩ := List.getElem?_eq_some_iff.1 hi
   obtain ⟨h3,h4⟩ := List.getElem?_eq_some_iff.1 hq
   have := hp i j h1 h3 hij
   rw [h2,h4] at this
   omega
  ·cases hi
 refine ⟨by unfold hcol; rw [hno]; rfl,?_⟩
 funext k
 by_cases c : k = q.k
 ·subst c
  rw [upd_same]
  unfold hcol
  rw [hasK_take_succ hq,hno]
  simp
 ·rw [upd_other _ _ _ c]
  unfold hcol
  rw [hasK_take_succ hq,decide_eq_false (fun e => c e.symm),Bool.or_false]
theorem hcol_end {m : Nat} {L : List Ent} {C : List Cp} (hm : msk C = m) (r : Nat) (hr : r < L.length) (k : Nat) (hk : k < 6) : hcol m L C r C.length k = clm m (outr L r) k := by
 rw [clm_outr m L r k hr]
 unfold hcol
 rw [List.take_length,← bt_msk C k hk,hm]
theorem Own.rcs {w0 w : World} {l : List Thing} {ao : Option Addr} {cap n : Nat} {L : List Cp} (h : Own w0 w (Row 46 4 (.slice ao n cap) n (ccat L) :: l)) (hn : L.length = n) : Cs w ao L := Own.cs (h.view (by decide)) hn
section
variable (w0 w : World) (l : List Thing) (b m : Nat) (L : List Ent) (c : Nat)
theorem tremC (h : Own w0 w (Table b m L c :: l)) (hT : TOk m L) (id : Nat) (hid : id < 4294967296) (r : Nat) (e : Ent) (hp : plc L id = some r) (he : L[r]? = some e) (hL : L.length ≤ 1000000) (hc : c ≤ 1000000) :
  Calls Tryz.prog 199 #[.pointer (some ⟨b,0,none⟩),.int .u32 (id : Int)] w fun out w' => ∃ ao cap,out = .returned (.tuple #[.slice ao e.2.length cap,.int .i64 0]) ∧ Own w0 w' (Row 46 4 (.slice ao e.2.length cap) e.2.length (ccat e.2) :: Table b m (outr L r) (c + 1) :: l) := by
 have hm := hT.m64
 have hrl := (List.getElem?_eq_some_iff.1 he).1
 have heo := hT.ok e (List.mem_of_getElem? he)
 have HR : Hid (Calls _ _ _ _ _) := trow w0 w _ b m _ _ _ c h id hid
 rw [hp] at HR
 simp only [lk] at HR
 have HC : Hid (Calls _ _ _ _ _) := tcomps w0 w l b m L c h hT r e he
 obtain ⟨n,hn⟩ : ∃ n,L.length = n + 1 := ⟨L.length - 1,by omega⟩
 obtain ⟨last,hlast⟩ : ∃ x,L[n]? = some x := ⟨_,List.getElem?_eq_getElem (by omega)⟩
 have hli := hT.id last (List.mem_of_getElem? hlast)
 have HPT : Hid (∀ w' l',Own w0 w' (Table b m L c :: l') → ∃ mb w'' gi ci,w'.cell? ⟨b,8,none⟩ = some (.map (some mb)) ∧ w'.cell? ⟨b,1,none⟩ = some (.slice (some ⟨gi,0,none⟩) (n + 1) ci) ∧ w'.cell? ⟨gi,n,none⟩ = some (.int .u32 (last.1 : Int)) ∧ (Instr.mapUpdate 309 (.map (some mb)) (.int .u32 (last.1 : Int)) (.int .i64 (r : Int))).run Tryz.prog w' = .ok () w'' ∧ w''.cell? ⟨b,8,none⟩ = some (.map (some mb)) ∧ ∃ w3,(Builtin.delete_ #[309,38] 0 #[.map (some mb),.int .u32 (id : Int)]).run Tryz.prog w'' = .ok (.tuple #[]) w3 ∧ Own w0 w3 (TabG b m (ids L) (clm m L) (plc (outr L r)) (c + 1) :: l')) := by
  intro w' l' h'
  obtain ⟨vi,v,mb,h'⟩ := TabG.open _ _ _ _ _ _ _ _ _ h'
  rw [length_ids,hn] at h'
  obtain ⟨gi,ci,rfl,_⟩ := row_shape h'.two.row (by omega)
  have q := h'.cell 8
  have q1 := h'.cell 1
  simp [tcells] at q q1
  have c1 := h'.two.row.cellAt n (by omega)
  rw [getElem?_irow,ids,List.getElem?_map,hlast] at c1
  obtain ⟨w'',r1,r2⟩ := h'.three.mapPut last.1 r hli (by omega) (by unfold maxLen; omega)
  have q2 := r2.two.cell 8
  simp [tcells] at q2
  obtain ⟨w3,s1,s2⟩ := r2.mapDrop id hid 0
  refine ⟨mb,w'',gi,ci,q,q1,c1,r1,q2,w3,s1,?_⟩
  have s3 := s2.mapIs (q := plc (outr L r)) (c + 1) (Nat.le_refl _) (fun x _ => by
   rw [plc_outr hT.ap hp (last := last) (by rw [hn]; exact hlast)])
  refine TabG.shut _ _ _ _ _ _ _ _ _ (.slice (some ⟨gi,0,none⟩) (n + 1) ci) v mb ?_
  rw [length_ids,hn]
  exact s3.back3
 have HLN : Hid (∀ w' l',Own w0 w' (Table b m L c :: l') → Calls Tryz.prog 200 #[.pointer (some ⟨b,0,none⟩)] w' fun e w'' => e = .returned (.int .i64 ((n : Int) + 1)) ∧ w'' = w') := fun w' l' h' => by
  have := tlen w0 w' l' b m _ _ _ c h'
  rw [length_ids,hn] at this
  exact this
 have HDI : Hid (∀ w' l',Own w0 w' (TabG b m (ids L) (clm m L) (plc (outr L r)) (c + 1) :: l') → Calls Tryz.prog 237 #[.pointer (some ⟨b,1,none⟩),.int .i64 (r : Int)] w' fun e' w'' => e' = .returned (.tuple #[]) ∧ Own w0 w'' (TabG b m (ids (outr L r)) (hcol m L e.2 r 0) (plc (outr L r)) (c + 1) :: l')) := by
  intro w' l' h'
  refine (tdropI w0 w' l' b m _ _ _ (c + 1) h' r n (by rw [length_ids,hn]) (by omega) (by omega)).mono ?_
  rintro e' w'' ⟨h1,h2⟩
  refine ⟨h1,?_⟩
  rw [hcol_zero,ids,map_outr _ _ _ hrl]
  exact h2
 have HEND : Hid (∀ w' l',Own w0 w' (TabG b m (ids (outr L r)) (hcol m L e.2 r e.2.length) (plc (outr L r)) (c + 1) :: l') → Own w0 w' (Table b m (outr L r) (c + 1) :: l')) := fun w' l' h' => TabG.is h' rfl (fun k hk => hcol_end heo.2 r hrl k hk) (fun _ _ => rfl) (Nat.le_refl _)
 have HLEN : Hid (∀ k,hasK e.2 k = true → (clm m L k).length = n + 1) := by
  intro k hk
  obtain ⟨x,hx,rfl⟩ := (hasK_iff _ _).1 hk
  have h6 := chk_k ((lst_ok heo.1).2 x hx).2
  rw [length_clm,← heo.2,bt_msk _ _ h6,hk,if_pos rfl,hn]
 have HLST : Hid (lst (-1) e.2 = 0) := heo.1
 have hrn : r < n + 1 := by omega
 have hw1 : IntKind.i64.wrap (n : Int) = (n : Int) := by rw [IntKind.wrap_i64]; omega
 have hw2 : IntKind.i64.wrap ((n : Int) + 1 - 1) = (n : Int) := by rw [IntKind.wrap_i64]; omega
 have hw3 : ¬ (n : Int) < 0 := by omega
 have hw4 : (n : Int) < (n : Int) + 1 := by omega
 have hn6 : n ≤ 1000000 := by omega
 have h6 : e.2.length ≤ 6 := by
  rw [← comps_of heo.1 heo.2,List.length_map]
  exact Nat.le_trans (List.length_filter_le _ _) (by simp)
 clear h hp he heo hlast hT hn hrl hL
 generalize e.2 = C at *
 generalize last.1 = li at *
 generalize hlen : C.length = len at *
 have HCL : Hid (C.length = len) := hlen
 clear hlen
 go_enter Tryz.func199,Tryz.ntmps199
 go_wp2_with fail
 refine HR.out.mono ?_
 rintro out w1 ⟨rfl,rfl⟩
 clear HR
 go_wp2_with fail
 refine HC.out.mono ?_
 rintro out w2 ⟨ao,cap,rfl,hO⟩
 have H2 : Hid (Own w0 w2 (Table b m L c :: Row 46 4 (.slice ao len cap) len (ccat C) :: l)) := hO.two
 obtain ⟨mb,w3,gi,ci,q8,q1,qn,hup,q83,w4,hdel,hO4⟩ := HPT.out _ _ hO.two.drew
 have HL2 : Hid (Calls _ _ _ _ _) := HLN.out _ _ hO.two.drew
 have HD : Hid _ := hdel
 have H4 : Hid (Own w0 w4 (TabG b m (ids L) (clm m L) (plc (outr L r)) (c + 1) :: Row 46 4 (.slice ao len cap) len (ccat C) :: l)) := hO4
 clear hO HC HPT HLN hdel hO4
 go_wp2_with fail
 go_region_with (
  go_at_call 200
  refine HL2.out.mono ?_
  rintro e w5 ⟨rfl,rfl⟩)
 all_goals
  clear q8 q1 qn hup HL2 H2
  go_wp2_with (at_delete; refine delete_run rfl _ _ _ _ rfl _ _ rfl rfl HD.out ?_)
  clear HD q83
  go_wp2_with fail
  refine (HDI.out _ _ H4.out).mono ?_
  rintro e w6 ⟨rfl,hO6⟩
  have H6 : Hid (Own w0 w6 (TabG b m (ids (outr L r)) (hcol m L C r 0) (plc (outr L r)) (c + 1) :: Row 46 4 (.slice ao len cap) len (ccat C) :: l)) := hO6
  clear hO6 H4 HDI
  go_wp2
  go_loopw [53] (fun cv wr => ∃ j : Nat,j ≤ len ∧ cv = .int .i64 j ∧ Own w0 wr (TabG b m (ids (outr L r)) (hcol m L C r j) (plc (outr L r)) (c + 1) :: Row 46 4 (.slice ao len cap) len (ccat C) :: l)) (fun cv _ => len - (intOf cv).toNat)
  case atStart => exact ⟨0,Nat.zero_le _,rfl,H6.out⟩
  case round =>
   obtain ⟨j,hj,rfl,hO⟩ := hrel
   have HO : Hid (Own w0 wr (TabG b m (ids (outr L r)) (hcol m L C r j) (plc (outr L r)) (c + 1) :: Row 46 4 (.slice ao len cap) len (ccat C) :: l)) := hO
   clear H6
   by_cases hlt : j < len
   ·obtain ⟨q,hq⟩ : ∃ q,C[j]? = some q := ⟨_,List.getElem?_eq_getElem (by rw [HCL.out]; exact hlt)⟩
    obtain ⟨gg,o0,hao,_,c0,c1,c2,c3⟩ := (Own.rcs hO.two HCL.out).at j q hq
    subst hao
    have hq6 : q.k < 6 := chk_k ((lst_ok HLST.out).2 q (List.mem_of_getElem? hq)).2
    obtain ⟨g1,g2⟩ := hcol_at (m := m) (L := L) HLST.out r hq
    have HPU : Hid (∀ w' l',Own w0 w' (TabG b m (ids (outr L r)) (hcol m L C r j) (plc (outr L r)) (c + 1) :: l') → Calls Tryz.prog 238 #[.pointer (some ⟨b,2 + q.k,none⟩),.int .i64 (r : Int)] w' fun e w'' => e = .returned (.tuple #[]) ∧ Own w0 w'' (TabG b m (ids (outr L r)) (hcol m L C r (j + 1)) (plc (outr L r)) (c + 1) :: l')) := by
     intro w' l' h'
     have := tdrop w0 w' l' b m _ _ _ (c + 1) h' q.k hq6 r n (by rw [g1]; exact HLEN.out _ ((hasK_iff _ _).2 ⟨q,List.mem_of_getElem? hq,rfl⟩)) hrn hn6
     rw [g1,← g2] at this
     exact this
    have HA : Hid (Own w0 (wr.alloc (.cells #[.int .u8 (q.k : Int),.int .i32 q.a,.int .i32 q.b,.int .i32 q.c] 46)) _) := hO.alloc _
    have hlt' : (j : Int) < (len : Int) := by omega
    have hq6' : (q.k : Int) < 6 := by omega
    clear hq g1 g2 hO
    obtain ⟨qk,qa,qb,qc⟩ := q
    simp only at c0 c1 c2 c3 hq6 hq6' HPU HA
    go_wp2_with fail
    go_region_with (
     go_at_call 238
     refine (HPU.out _ _ HA.out.drew).mono ?_
     rintro e w8 ⟨rfl,hO8⟩
     have H8 : Hid (Own w0 w8 _) := hO8
     clear hO8)
    all_goals
     go_wp2
     go_roundw
     case rel => exact ⟨j + 1,by omega,by go_num,H8.out⟩
     case measure => simp [intOf]; omega
   ·have hlt' : ¬ (j : Int) < (len : Int) := by omega
    have hjl : j = len := by omega
    subst hjl
    clear hO
    go_wp2
    go_ret2
    exact ⟨_,_,rfl,(HEND.out _ _ HO.out).two⟩
end
end Go.Proofs.YtogmdoiecpihdaaGreatDoor
namespace Go.Proofs.YtogmdoiecpihdaaGreatDoor
open Go.RowKit
set_option linter.unusedVariables false
set_option maxHeartbeats 4000000
set_option maxRecDepth 100000
theorem insert_any (w0 w : World) (l : List Thing) (L : List Cp) (c : Cp) (ao : Option Addr) (n cap B i : Nat) (hn : L.length = n) (hi : i ≤ n) (hn6 : n ≤ 1000) (h : Own w0 w (Row 46 4 (.slice ao n cap) n (ccat L) :: Cells B c.ar 46 :: l)) :
  Calls Tryz.prog 251 #[.slice ao n cap,.int .i64 (i : Int),.slice (some ⟨B,0,none⟩) 1 1] w fun e w' => ∃ ao' cap',e = .returned (.slice ao' (n + 1) cap') ∧ Own w0 w' (Row 46 4 (.slice ao' (n + 1) cap') (n + 1) (ccat (L.take i ++ c :: L.drop i)) :: Cells B c.ar 46 :: l) := by
 by_cases hin : i = n
 ·subst hin
  have e : L.take i ++ c :: L.drop i = L ++ [c] := by rw [List.take_of_length_le (by omega),List.drop_of_length_le (by omega)]
  rw [e]
  exact insert_end w0 w l L c ao i cap B hn hn6 h
 ·obtain ⟨g,cap',hv,_⟩ := row_shape h.row (by omega)
  have hao := (Value.slice.inj hv).1
  subst hao
  by_cases hr : n + 1 ≤ cap
  ·refine (insert_fit w0 w l L c g n cap B i hn (by omega) hn6 hr h).mono ?_
   rintro e w' ⟨rfl,hO⟩
   exact ⟨_,_,rfl,hO⟩
  ·exact insert_grow w0 w l L c g n cap B i hn (by omega) hn6 (by omega) h
def insw (L : List Cp) (c : Cp) : List Cp := L.takeWhile (fun q => decide (q.k < c.k)) ++ c :: L.dropWhile (fun q => decide (q.k < c.k))
theorem insw_at (L : List Cp) (c : Cp) (j : Nat) (h1 : ∀ q ∈ L.take j,q.k < c.k) (h2 : ∀ q,L[j]? = some q → c.k ≤ q.k) : L.take j ++ c :: L.drop j = insw L c := by
 induction L generalizing j with
 | nil => simp [insw]
 | cons a L ih =>
  cases j with
  | zero =>
   have := h2 a rfl
   have hn : ¬ a.k < c.k := by omega
   simp [insw,hn]
  | succ j =>
   have ha : a.k < c.k := h1 a (by simp)
   have := ih j (fun q hq => h1 q (by simp [hq])) (fun q hq => h2 q (by simpa using hq))
   simp only [insw] at this ⊢
   simp [ha,this]
theorem with_ok (w0 w : World) (l : List Thing) (L : List Cp) (c : Cp) (ao : Option Addr) (n cap : Nat) (hn : L.length = n) (hn6 : n ≤ 1000) (h : Own w0 w (Row 46 4 (.slice ao n cap) n (ccat L) :: l)) :
  Calls Tryz.prog 234 #[.slice ao n cap,c.ag] w fun e w' => ∃ ao' cap',e = .returned (.slice ao' (n + 1) cap') ∧ Own w0 w' (Row 46 4 (.slice ao' (n + 1) cap') (n + 1) (ccat (insw L c)) :: l) := by
 obtain ⟨ck,ca,cb,cc⟩ := c
 have hA := (h.allocC #[.int .u8 (ck : Int),.int .i32 ca,.int .i32 cb,.int .i32 cc] 46).two
 have HA : Hid (Own w0 _ _) := hA
 have HN : Hid (L.length = n) := hn
 have HIN : Hid (∀ w' B i,i ≤ n → Own w0 w' (Row 46 4 (.slice ao n cap) n (ccat L) :: Cells B #[.int .u8 (ck : Int),.int .i32 ca,.int .i32 cb,.int .i32 cc] 46 :: Cells w.heap.size #[.int .u8 (ck : Int),.int .i32 ca,.int .i32 cb,.int .i32 cc] 46 :: l) → Calls Tryz.prog 251 #[.slice ao n cap,.int .i64 (i : Int),.slice (some ⟨B,0,none⟩) 1 1] w' fun e w'' => ∃ ao' cap',e = .returned (.slice ao' (n + 1) cap') ∧ Own w0 w'' (Row 46 4 (.slice ao' (n + 1) cap') (n + 1) (ccat (L.take i ++ ⟨ck,ca,cb,cc⟩ :: L.drop i)) :: l)) := by
  intro w' B i hi h'
  refine (insert_any w0 w' _ L ⟨ck,ca,cb,cc⟩ ao n cap B i hn hi hn6 h').mono ?_
  rintro e w'' ⟨a,c',rfl,hO⟩
  exact ⟨a,c',rfl,hO.two.tail.two.tail⟩
 show Calls _ _ #[_,.agg #[.int .u8 (ck : Int),.int .i32 ca,.int .i32 cb,.int .i32 cc]] _ _
 clear h hA hn
 go_enter Tryz.func234,Tryz.ntmps234
 go_wp2
 go_loopw [5] (fun at0 wr => ∃ j : Nat,j ≤ n ∧ at0 = .int .i64 j ∧ (∀ q ∈ L.take j,q.k < ck) ∧ Own w0 wr (Row 46 4 (.slice ao n cap) n (ccat L) :: Cells w.heap.size #[.int .u8 (ck : Int),.int .i32 ca,.int .i32 cb,.int .i32 cc] 46 :: l)) (fun at0 _ => n - (intOf at0).toNat)
 case atStart => exact ⟨0,Nat.zero_le _,rfl,by simp,HA.out⟩
 case round =>
  obtain ⟨j,hj,rfl,hT,hO⟩ := hrel
  have HO : Hid (Own w0 wr _) := hO
  have HTK : Hid (∀ q ∈ L.take j,q.k < ck) := hT
  have k0 := hO.two.cell 0
  simp at k0
  clear HA
  by_cases hlt : j < n
  ·obtain ⟨q,hq⟩ : ∃ q,L[j]? = some q := ⟨_,List.getElem?_eq_getElem (by rw [HN.out]; exact hlt)⟩
   obtain ⟨g,o,hao,_,c0,_,_,_⟩ := (Own.rcs hO HN.out).at j q hq
   have HQ : Hid (L[j]? = some q) := hq
   have hlt' : (j : Int) < (n : Int) := by omega
   subst hao
   obtain ⟨qk,qa,qb,qc⟩ := q
   simp only at c0
   clear hO hT hq
   by_cases hk : qk < ck
   ·have hk' : (qk : Int) < (ck : Int) := by omega
    have HT2 : Hid (∀ q ∈ L.take (j + 1),q.k < ck) := by
     intro x hx
     rw [List.take_add_one,HQ.out] at hx
     rcases List.mem_append.1 hx with hx | hx
     ·exact HTK.out x hx
     ·simp at hx; subst hx; exact hk
    go_wp2
    go_quiet (fail)
    go_wp2
    go_roundw
    case rel => exact ⟨j + 1,by omega,by go_num,HT2.out,HO.out.drewN _⟩
    case measure => simp [intOf]; omega
   ·have hk' : ¬ (qk : Int) < (ck : Int) := by omega
    have HE : Hid (L.take j ++ ⟨ck,ca,cb,cc⟩ :: L.drop j = insw L ⟨ck,ca,cb,cc⟩) := insw_at L _ j HTK.out (fun x hx => by rw [HQ.out] at hx; cases hx; exact Nat.le_of_not_lt hk)
    have k1 := HO.out.two.cell 1
    have k2 := HO.out.two.cell 2
    have k3 := HO.out.two.cell 3
    simp at k1 k2 k3
    go_wp2
    go_quiet (fail)
    go_wp2_with fail
    refine (HIN.out _ _ j (by omega) ((HO.out.drewN _).allocC _ _).two).mono ?_
    rintro e w2 ⟨a2,c2,rfl,hO2⟩
    have H2 : Hid (Own w0 w2 (Row 46 4 (.slice a2 (n + 1) c2) (n + 1) (ccat (insw L ⟨ck,ca,cb,cc⟩)) :: l)) := by
     show Own _ _ _
     rw [← HE.out]; exact hO2
    clear hO2 HO
    go_wp2
    go_ret
    exact ⟨_,_,rfl,H2.out⟩
  ·have hlt' : ¬ (j : Int) < (n : Int) := by omega
   clear hO hT
   have HE : Hid (L.take j ++ ⟨ck,ca,cb,cc⟩ :: L.drop j = insw L ⟨ck,ca,cb,cc⟩) := insw_at L _ j HTK.out (fun x hx => by have := (List.getElem?_eq_some_iff.1 hx).1; rw [HN.out] at this; omega)
   have k1 := HO.out.two.cell 1
   have k2 := HO.out.two.cell 2
   have k3 := HO.out.two.cell 3
   simp at k1 k2 k3
   go_wp2
   go_quiet (fail)
   go_wp2_with fail
   refine (HIN.out _ _ j (by omega) ((HO.out.drewN _).allocC _ _).two).mono ?_
   rintro e w2 ⟨a2,c2,rfl,hO2⟩
   have H2 : Hid (Own w0 w2 (Row 46 4 (.slice a2 (n + 1) c2) (n + 1) (ccat (insw L ⟨ck,ca,cb,cc⟩)) :: l)) := by
    show Own _ _ _
    rw [← HE.out]; exact hO2
   clear hO2 HO
   go_wp2
   go_ret
   exact ⟨_,_,rfl,H2.out⟩
end Go.Proofs.YtogmdoiecpihdaaGreatDoor
namespace Go.Proofs.YtogmdoiecpihdaaGreatDoor
open Go.RowKit Go.Maps
set_option linter.unusedVariables false
set_option maxHeartbeats 4000000
set_option maxRecDepth 100000
def tadd (m : Nat) (L : List Ent) (id : Nat) (C : List Cp) : Nat × List Ent :=
 if lst (-1) C ≠ 0 then (lst (-1) C,L) else if msk C ≠ m then (4,L) else if (plc L id).isSome then (9,L) else (0,L ++ [(id,C)])
def gcol (m : Nat) (L : List Ent) (C : List Cp) (j : Nat) : Nat → List Fs := fun k => if hasK (C.take j) k then clm m L k ++ [fv C k] else clm m L k
theorem gcol_zero (m : Nat) (L : List Ent) (C : List Cp) : gcol m L C 0 = clm m L := by funext k; simp [gcol,hasK]
theorem gcol_at {m : Nat} {L : List Ent} {C : List Cp} (h : lst (-1) C = 0) {j : Nat} {q : Cp} (hq : C[j]? = some q) : gcol m L C j q.k = clm m L q.k ∧ gcol m L C (j + 1) = upd (gcol m L C j) q.k (clm m L q.k ++ [q.f]) := by
 have hno : hasK (C.take j) q.k = false := by
  apply hasK_false
  intro x hx hc
  obtain ⟨i,hi⟩ := List.getElem?_of_mem hx
  rw [List.getElem?_take] at hi
  split at hi
  ·rename_i hij
   have hp := (lst_ok h).1
   rw [List.pairwise_iff_getElem] at hp
   obtain ⟨h1,h2⟩ := List.getElem?_eq_some_iff.1 hi
   obtain ⟨h3,h4⟩ := List.getElem?_eq_some_iff.1 hq
   have := hp i j h1 h3 hij
   rw [h2,h4] at this
   omega
  ·cases hi
 refine ⟨by unfold gcol; rw [hno]; rfl,?_⟩
 funext k
 by_cases c : k = q.k
 ·subst c
  rw [upd_same]
  unfold gcol
  rw [hasK_take_succ hq,hno]
  simp [fv_of h (List.mem_of_getElem? hq)]
 ·rw [upd_other _ _ _ c]
  unfold gcol
  rw [hasK_take_succ hq,decide_eq_false (fun e => c e.symm),Bool.or_false]
theorem gcol_end {m : Nat} {L : List Ent} {C : List Cp} (hm : msk C = m) (hm6 : m < 64) (id : Nat) (k : Nat) (hk : k < 6) : gcol m L C C.length k = clm m (L ++ [(id,C)]) k := by
 rw [clm_snoc]
 unfold gcol
 rw [List.take_length,← bt_msk C k hk,hm]
theorem taddC (w0 w : World) (l : List Thing) (b m : Nat) (L : List Ent) (c : Nat) (ht : Tab w0) (h : Own w0 w (Table b m L c :: l)) (hT : TOk m L) (id : Nat) (hid : id < 4294967296) (ao : Option Addr) (len cap : Nat) (C : List Cp) (hCl : C.length = len) (hCs : ∀ w',Own w0 w' l → Cs w' ao C) (hCk : ∀ q ∈ C,q.k < 256) (hlen : len ≤ 1000000) (hL : L.length ≤ 1000000) (hc : c ≤ 1000000) :
  Calls Tryz.prog 242 #[.pointer (some ⟨b,0,none⟩),.int .u32 (id : Int),.slice ao len cap] w fun e w' => e = .returned (.int .i64 ((tadd m L id C).1 : Int)) ∧ Own w0 w' (Table b m (tadd m L id C).2 (c + 1) :: l) := by
 have hm := hT.m64
 have H : Hid (Own w0 w (Table b m L c :: l)) := h
 have HT : Hid (Tab w0 ∧ TOk m L) := ⟨ht,hT⟩
 have HCS : Hid (C.length = len ∧ (∀ w',Own w0 w' l → Cs w' ao C) ∧ ∀ q ∈ C,q.k < 256) := ⟨hCl,hCs,hCk⟩
 have HLS : Hid (Calls _ _ _ _ _) := list_any w (ht.quiet h.fr) ao len cap C hCl (hCs w h.tail) hCk hlen
 have HUP : Hid (∀ w',Own w0 w' (Table b m L c :: l) → Own w0 w' (Table b m L (c + 1) :: l)) := fun w' h' => TabG.is h' rfl (fun _ _ => rfl) (fun _ _ => rfl) (Nat.le_succ _)
 clear h ht hT hCl hCs hCk
 obtain ⟨x,hx⟩ : ∃ x,lst (-1) C = x := ⟨_,rfl⟩
 rw [hx] at HLS
 by_cases hx0 : x = 0
 ·subst hx0
  have HLST : Hid (lst (-1) C = 0) := hx
  have HR : Hid (∀ w',Own w0 w' (Table b m L c :: l) → Calls Tryz.prog 173 #[.pointer (some ⟨b,0,none⟩),.int .u32 (id : Int)] w' fun e w'' => e = .returned (lk (plc L id)) ∧ w'' = w') := fun w' h' => trow w0 w' _ b m _ _ _ c h' id hid
  have HMK : Hid (∀ w',Own w0 w' (Table b m L c :: l) → Calls Tryz.prog 194 #[.slice ao len cap] w' fun e w'' => e = .returned (.int .u8 ((msk C : Nat) : Int)) ∧ Fr Nobody w' w'') := fun w' h' => mask_any w' ao len cap C HCS.out.1 (HCS.out.2.1 w' h'.tail) HCS.out.2.2 hlen
  have HMC : Hid (∀ w',Own w0 w' (Table b m L c :: l) → w'.cell? ⟨b,0,none⟩ = some (.int .u8 (m : Int))) := by
   intro w' h'
   obtain ⟨vi,v,mb,h'⟩ := TabG.open _ _ _ _ _ _ _ _ _ h'
   have q := h'.cell 0
   simpa [tcells] using q
  have hm64 := msk_lt C
  by_cases hmk : msk C = m
  ·cases hp : plc L id with
   | some r =>
    have HV : Hid (tadd m L id C = (9,L)) := by show _ = _; unfold tadd; rw [if_neg (by simp [hx]),if_neg (by simp [hmk]),if_pos (by rw [hp]; rfl)]
    rw [hp] at HR
    simp only [lk] at HR
    rw [hmk] at HMK hm64
    clear hp hx hmk
    go_enter Tryz.func242,Tryz.ntmps242
    go_wp2_with fail
    refine HLS.out.mono ?_
    rintro e w1 ⟨rfl,hf⟩
    have H1 : Hid (Own w0 w1 (Table b m L c :: l)) := H.out.quiet hf
    clear hf HLS H
    go_wp2_with fail
    refine (HR.out _ H1.out).mono ?_
    rintro e w2 ⟨rfl,rfl⟩
    clear HR
    have q0 := HMC.out _ H1.out
    go_wp2_with fail
    go_region_with (
     go_at_call 194
     refine (HMK.out _ H1.out.drew).mono ?_
     rintro e w3 ⟨rfl,hf3⟩
     have H3 : Hid (Own w0 w3 (Table b m L c :: l)) := H1.out.drew.quiet hf3
     have q3 := HMC.out _ H3.out
     clear hf3)
    all_goals
     go_wp2
     go_ret
     rw [HV.out]
     exact ⟨rfl,HUP.out _ H3.out⟩
   | none =>
    have HV : Hid (tadd m L id C = (0,L ++ [(id,C)])) := by show _ = _; unfold tadd; rw [if_neg (by simp [hx]),if_neg (by simp [hmk]),if_neg (by rw [hp]; simp)]
    have HEND : Hid (∀ w',Own w0 w' (TabG b m (ids L ++ [id]) (gcol m L C len) (fun x => if x = id then some L.length else plc L x) (c + 1) :: l) → Own w0 w' (Table b m (L ++ [(id,C)]) (c + 1) :: l)) := by
     intro w' h'
     refine TabG.is h' (by simp [ids]) (fun k hk => by rw [← HCS.out.1]; exact gcol_end hmk hm id k hk) (fun x _ => (plc_snoc L (id,C) hp x).symm) (Nat.le_refl _)
    have HMP : Hid (∀ w',Own w0 w' (Table b m L c :: l) → ∃ mb w'',w'.cell? ⟨b,8,none⟩ = some (.map (some mb)) ∧ (Instr.mapUpdate 309 (.map (some mb)) (.int .u32 (id : Int)) (.int .i64 (L.length : Int))).run Tryz.prog w' = .ok () w'' ∧ Own w0 w'' (TabG b m (ids L) (clm m L) (fun x => if x = id then some L.length else plc L x) (c + 1) :: l)) := by
     intro w' h'
     obtain ⟨vi,v,mb,h'⟩ := TabG.open _ _ _ _ _ _ _ _ _ h'
     have q := h'.cell 8
     simp [tcells] at q
     obtain ⟨w'',r1,r2⟩ := h'.three.mapPut id L.length hid hL (by unfold maxLen; omega)
     exact ⟨mb,w'',q,r1,TabG.shut _ _ _ _ _ _ _ _ _ vi v mb r2.back3⟩
    have HLN : Hid (∀ w',Own w0 w' (Table b m L c :: l) → Calls Tryz.prog 200 #[.pointer (some ⟨b,0,none⟩)] w' fun e w'' => e = .returned (.int .i64 (L.length : Int)) ∧ w'' = w') := fun w' h' => by have := tlen w0 w' l b m _ _ _ c h'; rw [length_ids] at this; exact this
    have HLC : Hid (∀ k,(clm m L k).length ≤ 1000000) := by intro k; rw [length_clm]; split <;> omega
    rw [hp] at HR
    simp only [lk] at HR
    rw [hmk] at HMK hm64
    clear hp hx hmk
    go_enter Tryz.func242,Tryz.ntmps242
    go_wp2_with fail
    refine HLS.out.mono ?_
    rintro e w1 ⟨rfl,hf⟩
    have H1 : Hid (Own w0 w1 (Table b m L c :: l)) := H.out.quiet hf
    clear hf HLS H
    go_wp2_with fail
    refine (HR.out _ H1.out).mono ?_
    rintro e w2 ⟨rfl,rfl⟩
    clear HR
    have q0 := HMC.out _ H1.out
    go_wp2_with fail
    go_region_with (
     go_at_call 194
     refine (HMK.out _ H1.out.drew).mono ?_
     rintro e w3 ⟨rfl,hf3⟩
     have H3 : Hid (Own w0 w3 (Table b m L c :: l)) := H1.out.drew.quiet hf3
     have q3 := HMC.out _ H3.out
     clear hf3)
    all_goals
     clear HMK H1 q0 q3
     obtain ⟨mb,w4,q8,hrun,hO4⟩ := HMP.out _ H3.out.drew
     have HL3 : Hid (Calls _ _ _ _ _) := HLN.out _ H3.out.drew
     have H4 : Hid (Own w0 w4 (TabG b m (ids L) (clm m L) (fun x => if x = id then some L.length else plc L x) (c + 1) :: l)) := hO4
     clear hO4 HMP HLN
     go_wp2_with fail
     go_region_with (
      go_at_call 200
      refine HL3.out.mono ?_
      rintro e w5 ⟨rfl,rfl⟩)
     all_goals
      clear H3 q8 hrun HL3
      go_wp2_with fail
      refine (tpushI w0 _ l b m _ _ _ (c + 1) H4.out id (by rw [length_ids]; exact hL)).mono ?_
      rintro e w6 ⟨rfl,hO6⟩
      have H6 : Hid (Own w0 w6 (TabG b m (ids L ++ [id]) (gcol m L C 0) (fun x => if x = id then some L.length else plc L x) (c + 1) :: l)) := by rw [gcol_zero]; exact hO6
      clear hO6 H4
      go_wp2
      go_loopw [49] (fun cv wr => ∃ j : Nat,j ≤ len ∧ cv = .int .i64 j ∧ Own w0 wr (TabG b m (ids L ++ [id]) (gcol m L C j) (fun x => if x = id then some L.length else plc L x) (c + 1) :: l)) (fun cv _ => len - (intOf cv).toNat)
      case atStart => exact ⟨0,Nat.zero_le _,rfl,H6.out⟩
      case round =>
       obtain ⟨j,hj,rfl,hO⟩ := hrel
       have HO : Hid (Own w0 wr (TabG b m (ids L ++ [id]) (gcol m L C j) (fun x => if x = id then some L.length else plc L x) (c + 1) :: l)) := hO
       clear H6
       by_cases hlt : j < len
       ·obtain ⟨q,hq⟩ : ∃ q,C[j]? = some q := ⟨_,List.getElem?_eq_getElem (by rw [HCS.out.1]; exact hlt)⟩
        obtain ⟨gg,o0,hao,_,c0,c1,c2,c3⟩ := (HCS.out.2.1 wr hO.tail).at j q hq
        subst hao
        have hq6 : q.k < 6 := chk_k ((lst_ok HLST.out).2 q (List.mem_of_getElem? hq)).2
        obtain ⟨g1,g2⟩ := gcol_at (m := m) (L := L) HLST.out hq
        have HPU : Hid (∀ w',Own w0 w' (TabG b m (ids L ++ [id]) (gcol m L C j) (fun x => if x = id then some L.length else plc L x) (c + 1) :: l) → Calls Tryz.prog 255 #[.pointer (some ⟨b,2 + q.k,none⟩),.agg #[.int .i32 q.a,.int .i32 q.b,.int .i32 q.c]] w' fun e w'' => e = .returned (.tuple #[]) ∧ Own w0 w'' (TabG b m (ids L ++ [id]) (gcol m L C (j + 1)) (fun x => if x = id then some L.length else plc L x) (c + 1) :: l)) := by
         intro w' h'
         have := tpush w0 w' l b m _ _ _ (c + 1) h' q.k hq6 q.f (by rw [g1]; exact HLC.out _)
         rw [g1,← g2] at this
         exact this
        have HA : Hid (Own w0 (wr.alloc (.cells #[.int .u8 (q.k : Int),.int .i32 q.a,.int .i32 q.b,.int .i32 q.c] 46)) (TabG b m (ids L ++ [id]) (gcol m L C j) (fun x => if x = id then some L.length else plc L x) (c + 1) :: l)) := hO.alloc _
        have hlt' : (j : Int) < (len : Int) := by omega
        have hq6' : (q.k : Int) < 6 := by omega
        clear hq g1 g2 hO
        obtain ⟨qk,qa,qb,qc⟩ := q
        simp only at c0 c1 c2 c3 hq6 hq6' HPU HA
        go_wp2_with fail
        go_region_with (
         go_at_call 255
         refine (HPU.out _ HA.out.drew).mono ?_
         rintro e w8 ⟨rfl,hO8⟩
         have H8 : Hid (Own w0 w8 (TabG b m (ids L ++ [id]) (gcol m L C (j + 1)) (fun x => if x = id then some L.length else plc L x) (c + 1) :: l)) := hO8
         clear hO8)
        all_goals
         go_wp2
         go_roundw
         case rel => exact ⟨j + 1,by omega,by go_num,H8.out⟩
         case measure => simp [intOf]; omega
       ·have hlt' : ¬ (j : Int) < (len : Int) := by omega
        have hjl : j = len := by omega
        subst hjl
        clear hO
        go_wp2
        go_ret
        rw [HV.out]
        exact ⟨rfl,HEND.out _ HO.out⟩
  ·have HV : Hid (tadd m L id C = (4,L)) := by show _ = _; unfold tadd; rw [if_neg (by simp [hx]),if_pos hmk]
   have hne : ((msk C : Int) != (m : Int)) = true := by simp; omega
   clear hx
   generalize msk C = mc at *
   cases hp : plc L id with
   | some r =>
    rw [hp] at HR
    simp only [lk] at HR
    clear hp
    go_enter Tryz.func242,Tryz.ntmps242
    go_wp2_with fail
    refine HLS.out.mono ?_
    rintro e w1 ⟨rfl,hf⟩
    have H1 : Hid (Own w0 w1 (Table b m L c :: l)) := H.out.quiet hf
    clear hf HLS H
    go_wp2_with fail
    refine (HR.out _ H1.out).mono ?_
    rintro e w2 ⟨rfl,rfl⟩
    clear HR
    have q0 := HMC.out _ H1.out
    go_wp2_with fail
    go_region_with (
     go_at_call 194
     refine (HMK.out _ H1.out.drew).mono ?_
     rintro e w3 ⟨rfl,hf3⟩
     have H3 : Hid (Own w0 w3 (Table b m L c :: l)) := H1.out.drew.quiet hf3
     have q3 := HMC.out _ H3.out
     clear hf3)
    all_goals
     go_wp2
     go_ret
     rw [HV.out]
     exact ⟨rfl,HUP.out _ H3.out⟩
   | none =>
    rw [hp] at HR
    simp only [lk] at HR
    clear hp
    go_enter Tryz.func242,Tryz.ntmps242
    go_wp2_with fail
    refine HLS.out.mono ?_
    rintro e w1 ⟨rfl,hf⟩
    have H1 : Hid (Own w0 w1 (Table b m L c :: l)) := H.out.quiet hf
    clear hf HLS H
    go_wp2_with fail
    refine (HR.out _ H1.out).mono ?_
    rintro e w2 ⟨rfl,rfl⟩
    clear HR
    have q0 := HMC.out _ H1.out
    go_wp2_with fail
    go_region_with (
     go_at_call 194
     refine (HMK.out _ H1.out.drew).mono ?_
     rintro e w3 ⟨rfl,hf3⟩
     have H3 : Hid (Own w0 w3 (Table b m L c :: l)) := H1.out.drew.quiet hf3
     have q3 := HMC.out _ H3.out
     clear hf3)
    all_goals
     go_wp2
     go_ret
     rw [HV.out]
     exact ⟨rfl,HUP.out _ H3.out⟩
 ·have HV : Hid (tadd m L id C = (x,L)) := by show _ = _; unfold tadd; rw [if_pos (by rw [hx]; exact hx0),hx]
  have hx1 : ((x : Int) != 0) = true := by simpa using hx0
  clear hx
  go_enter Tryz.func242,Tryz.ntmps242
  go_wp2_with fail
  refine HLS.out.mono ?_
  rintro e w1 ⟨rfl,hf⟩
  have H1 : Hid (Own w0 w1 (Table b m L c :: l)) := H.out.quiet hf
  clear hf HLS H
  go_wp2
  go_ret
  rw [HV.out]
  exact ⟨rfl,HUP.out _ H1.out⟩
end Go.Proofs.YtogmdoiecpihdaaGreatDoor
