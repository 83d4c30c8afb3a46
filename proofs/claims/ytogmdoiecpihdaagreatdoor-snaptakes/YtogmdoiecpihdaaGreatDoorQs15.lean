/- Package table: Remove; tables that are nil. -/
import Derived.Test.YtogmdoiecpihdaaGreatDoorQs13
import Derived.Test.YtogmdoiecpihdaaGreatDoorQs14
namespace Go.Proofs.YtogmdoiecpihdaaGreatDoor
open Go.RowKit Go.Maps
set_option linter.unusedVariables false
set_option maxHeartbeats 4000000
set_option maxRecDepth 100000
theorem delete_run {P:Program} {w w':World} {ops:Array Oper} {rest:List Oper} {o:Oper} {a:Act} {Q:Exit→Act→World→Prop} (hgd:o.guard=none) (s x:Operand) (t t':TypeId)
  (ho:o.op=.call { callee:=.builtin .delete,args:=#[s,x],argTypes:=#[t,t'] }) (vs vx:Value) (hs:a.eval s=vs) (hx:a.eval x=vx)
  (hrun:(Builtin.delete_ #[t,t'] o.type #[vs,vx]).run P w=.ok (.tuple #[]) w') (h:wpList P ops Q rest (a.put o.dst (.tuple #[])) w'):wpList P ops Q (o::rest) a w:=by
 refine wpList_plain hgd fun K hK'=>?_
 unfold Oper.wp
 simp [execOp,ho,resolve,invoke,builtin,hs,hx,hrun,Result.andThen]
 exact hK' _ _ h
def hcol (m:Nat) (L:List Ent) (C:List Cp) (r j:Nat):Nat→List Fs:=fun k=>if hasK (C.take j) k then outr (clm m L k) r else clm m L k
theorem hcol_zero (m:Nat) (L:List Ent) (C:List Cp) (r:Nat):hcol m L C r 0=clm m L:=by funext k;simp [hcol,hasK]
theorem hcol_at {m:Nat} {L:List Ent} {C:List Cp} (h:lst (-1) C=0) (r:Nat) {j:Nat} {q:Cp} (hq:C[j]? = some q):hcol m L C r j q.k=clm m L q.k∧hcol m L C r (j+1)=upd (hcol m L C r j) q.k (outr (clm m L q.k) r):=by
 have hno:hasK (C.take j) q.k=false:=by
  apply hasK_false
  intro x hx hc
  obtain ⟨i,hi⟩:=List.getElem?_of_mem hx
  rw [List.getElem?_take] at hi
  split at hi
  ·rename_i hij
   have hp:=(lst_ok h).1
   rw [List.pairwise_iff_getElem] at hp
   obtain ⟨h1,h2⟩:=List.getElem?_eq_some_iff.1 hi
   obtain ⟨h3,h4⟩:=List.getElem?_eq_some_iff.1 hq
   have:=hp i j h1 h3 hij
   rw [h2,h4] at this
   omega
  ·cases hi
 refine ⟨by unfold hcol;rw [hno];rfl,?_⟩
 funext k
 by_cases c:k=q.k
 ·subst c
  rw [upd_same]
  unfold hcol
  rw [hasK_take_succ hq,hno]
  simp
 ·rw [upd_other _ _ _ c]
  unfold hcol
  rw [hasK_take_succ hq,decide_eq_false (fun e=>c e.symm),Bool.or_false]
theorem hcol_end {m:Nat} {L:List Ent} {C:List Cp} (hm:msk C=m) (r:Nat) (hr:r < L.length) (k:Nat) (hk:k < 6):hcol m L C r C.length k=clm m (outr L r) k:=by
 rw [clm_outr m L r k hr]
 unfold hcol
 rw [List.take_length,← bt_msk C k hk,hm]
theorem Own.rcs {w0 w:World} {l:List Thing} {ao:Option Addr} {cap n:Nat} {L:List Cp} (h:Own w0 w (Row 46 4 (.slice ao n cap) n (ccat L)::l)) (hn:L.length=n):Cs w ao L:=Own.cs (h.view (by decide)) hn
section
variable (w0 w:World) (l:List Thing) (b m:Nat) (L:List Ent) (c:Nat)
theorem tremC (h:Own w0 w (Table b m L c::l)) (hT:TOk m L) (id:Nat) (hid:id < 4294967296) (r:Nat) (e:Ent) (hp:plc L id=some r) (he:L[r]? = some e) (hL:L.length≤1000000) (hc:c≤1000000) :
  Calls Tryz.prog 199 #[.pointer (some ⟨b,0,none⟩),.int .u32 (id:Int)] w fun out w'=>∃ ao cap,out=.returned (.tuple #[.slice ao e.2.length cap,.int .i64 0])∧Own w0 w' (Row 46 4 (.slice ao e.2.length cap) e.2.length (ccat e.2)::Table b m (outr L r) (c+1)::l):=by
 have hm:=hT.m64
 have hrl:=(List.getElem?_eq_some_iff.1 he).1
 have heo:=hT.ok e (List.mem_of_getElem? he)
 have HR:Hid (Calls _ _ _ _ _):=trow w0 w _ b m _ _ _ c h id hid
 rw [hp] at HR
 simp only [lk] at HR
 have HC:Hid (Calls _ _ _ _ _):=tcomps w0 w l b m L c h hT r e he
 obtain ⟨n,hn⟩:∃ n,L.length=n+1:=⟨L.length - 1,by omega⟩
 obtain ⟨last,hlast⟩:∃ x,L[n]? = some x:=⟨_,List.getElem?_eq_getElem (by omega)⟩
 have hli:=hT.id last (List.mem_of_getElem? hlast)
 have HPT:Hid (∀ w' l',Own w0 w' (Table b m L c::l')→∃ mb w'' gi ci,w'.cell? ⟨b,8,none⟩=some (.map (some mb))∧w'.cell? ⟨b,1,none⟩=some (.slice (some ⟨gi,0,none⟩) (n+1) ci)∧w'.cell? ⟨gi,n,none⟩=some (.int .u32 (last.1:Int))∧(Instr.mapUpdate 309 (.map (some mb)) (.int .u32 (last.1:Int)) (.int .i64 (r:Int))).run Tryz.prog w'=.ok () w''∧w''.cell? ⟨b,8,none⟩=some (.map (some mb))∧∃ w3,(Builtin.delete_ #[309,38] 0 #[.map (some mb),.int .u32 (id:Int)]).run Tryz.prog w''=.ok (.tuple #[]) w3∧Own w0 w3 (TabG b m (ids L) (clm m L) (plc (outr L r)) (c+1)::l')):=by
  intro w' l' h'
  obtain ⟨vi,v,mb,h'⟩:=TabG.open _ _ _ _ _ _ _ _ _ h'
  rw [length_ids,hn] at h'
  obtain ⟨gi,ci,rfl,_⟩:=row_shape h'.two.row (by omega)
  have q:=h'.cell 8
  have q1:=h'.cell 1
  simp [tcells] at q q1
  have c1:=h'.two.row.cellAt n (by omega)
  rw [getElem?_irow,ids,List.getElem?_map,hlast] at c1
  obtain ⟨w'',r1,r2⟩:=h'.three.mapPut last.1 r hli (by omega) (by unfold maxLen;omega)
  have q2:=r2.two.cell 8
  simp [tcells] at q2
  obtain ⟨w3,s1,s2⟩:=r2.mapDrop id hid 0
  refine ⟨mb,w'',gi,ci,q,q1,c1,r1,q2,w3,s1,?_⟩
  have s3:=s2.mapIs (q:=plc (outr L r)) (c+1) (Nat.le_refl _) (fun x _=>by
   rw [plc_outr hT.ap hp (last:=last) (by rw [hn];exact hlast)])
  refine TabG.shut _ _ _ _ _ _ _ _ _ (.slice (some ⟨gi,0,none⟩) (n+1) ci) v mb ?_
  rw [length_ids,hn]
  exact s3.back3
 have HLN:Hid (∀ w' l',Own w0 w' (Table b m L c::l')→Calls Tryz.prog 200 #[.pointer (some ⟨b,0,none⟩)] w' fun e w''=>e=.returned (.int .i64 ((n:Int)+1))∧w''=w'):=fun w' l' h'=>by
  have:=tlen w0 w' l' b m _ _ _ c h'
  rw [length_ids,hn] at this
  exact this
 have HDI:Hid (∀ w' l',Own w0 w' (TabG b m (ids L) (clm m L) (plc (outr L r)) (c+1)::l')→Calls Tryz.prog 237 #[.pointer (some ⟨b,1,none⟩),.int .i64 (r:Int)] w' fun e' w''=>e'=.returned (.tuple #[])∧Own w0 w'' (TabG b m (ids (outr L r)) (hcol m L e.2 r 0) (plc (outr L r)) (c+1)::l')):=by
  intro w' l' h'
  refine (tdropI w0 w' l' b m _ _ _ (c+1) h' r n (by rw [length_ids,hn]) (by omega) (by omega)).mono ?_
  rintro e' w'' ⟨h1,h2⟩
  refine ⟨h1,?_⟩
  rw [hcol_zero,ids,map_outr _ _ _ hrl]
  exact h2
 have HEND:Hid (∀ w' l',Own w0 w' (TabG b m (ids (outr L r)) (hcol m L e.2 r e.2.length) (plc (outr L r)) (c+1)::l')→Own w0 w' (Table b m (outr L r) (c+1)::l')):=fun w' l' h'=>TabG.is h' rfl (fun k hk=>hcol_end heo.2 r hrl k hk) (fun _ _=>rfl) (Nat.le_refl _)
 have HLEN:Hid (∀ k,hasK e.2 k=true→(clm m L k).length=n+1):=by
  intro k hk
  obtain ⟨x,hx,rfl⟩:=(hasK_iff _ _).1 hk
  have h6:=chk_k ((lst_ok heo.1).2 x hx).2
  rw [length_clm,← heo.2,bt_msk _ _ h6,hk,if_pos rfl,hn]
 have HLST:Hid (lst (-1) e.2=0):=heo.1
 have hrn:r < n+1:=by omega
 have hw1:IntKind.i64.wrap (n:Int)=(n:Int):=by rw [IntKind.wrap_i64];omega
 have hw2:IntKind.i64.wrap ((n:Int)+1 - 1)=(n:Int):=by rw [IntKind.wrap_i64];omega
 have hw3:¬ (n:Int) < 0:=by omega
 have hw4:(n:Int) < (n:Int)+1:=by omega
 have hn6:n≤1000000:=by omega
 have h6:e.2.length≤6:=by
  rw [← comps_of heo.1 heo.2,List.length_map]
  exact Nat.le_trans (List.length_filter_le _ _) (by simp)
 clear h hp he heo hlast hT hn hrl hL
 generalize e.2=C at *
 generalize last.1=li at *
 generalize hlen:C.length=len at *
 have HCL:Hid (C.length=len):=hlen
 clear hlen
 go_enter Tryz.func199,Tryz.ntmps199
 go_wp2_with fail
 refine HR.out.mono ?_
 rintro out w1 ⟨rfl,rfl⟩
 clear HR
 go_wp2_with fail
 refine HC.out.mono ?_
 rintro out w2 ⟨ao,cap,rfl,hO⟩
 have H2:Hid (Own w0 w2 (Table b m L c::Row 46 4 (.slice ao len cap) len (ccat C)::l)):=hO.two
 obtain ⟨mb,w3,gi,ci,q8,q1,qn,hup,q83,w4,hdel,hO4⟩:=HPT.out _ _ hO.two.drew
 have HL2:Hid (Calls _ _ _ _ _):=HLN.out _ _ hO.two.drew
 have HD:Hid _:=hdel
 have H4:Hid (Own w0 w4 (TabG b m (ids L) (clm m L) (plc (outr L r)) (c+1)::Row 46 4 (.slice ao len cap) len (ccat C)::l)):=hO4
 clear hO HC HPT HLN hdel hO4
 go_wp2_with fail
 go_region_with (
  go_at_call 200
  refine HL2.out.mono ?_
  rintro e w5 ⟨rfl,rfl⟩)
 all_goals
  clear q8 q1 qn hup HL2 H2
  go_wp2_with (at_delete;refine delete_run rfl _ _ _ _ rfl _ _ rfl rfl HD.out ?_)
  clear HD q83
  go_wp2_with fail
  refine (HDI.out _ _ H4.out).mono ?_
  rintro e w6 ⟨rfl,hO6⟩
  have H6:Hid (Own w0 w6 (TabG b m (ids (outr L r)) (hcol m L C r 0) (plc (outr L r)) (c+1)::Row 46 4 (.slice ao len cap) len (ccat C)::l)):=hO6
  clear hO6 H4 HDI
  go_wp2
  go_loopw [53] (fun cv wr=>∃ j:Nat,j≤len∧cv=.int .i64 j∧Own w0 wr (TabG b m (ids (outr L r)) (hcol m L C r j) (plc (outr L r)) (c+1)::Row 46 4 (.slice ao len cap) len (ccat C)::l)) (fun cv _=>len - (intOf cv).toNat)
  case atStart=>exact ⟨0,Nat.zero_le _,rfl,H6.out⟩
  case round =>
   obtain ⟨j,hj,rfl,hO⟩:=hrel
   have HO:Hid (Own w0 wr (TabG b m (ids (outr L r)) (hcol m L C r j) (plc (outr L r)) (c+1)::Row 46 4 (.slice ao len cap) len (ccat C)::l)):=hO
   clear H6
   by_cases hlt:j < len
   ·obtain ⟨q,hq⟩:∃ q,C[j]? = some q:=⟨_,List.getElem?_eq_getElem (by rw [HCL.out];exact hlt)⟩
    obtain ⟨gg,o0,hao,_,c0,c1,c2,c3⟩:=(Own.rcs hO.two HCL.out).at j q hq
    subst hao
    have hq6:q.k < 6:=chk_k ((lst_ok HLST.out).2 q (List.mem_of_getElem? hq)).2
    obtain ⟨g1,g2⟩:=hcol_at (m:=m) (L:=L) HLST.out r hq
    have HPU:Hid (∀ w' l',Own w0 w' (TabG b m (ids (outr L r)) (hcol m L C r j) (plc (outr L r)) (c+1)::l')→Calls Tryz.prog 238 #[.pointer (some ⟨b,2+q.k,none⟩),.int .i64 (r:Int)] w' fun e w''=>e=.returned (.tuple #[])∧Own w0 w'' (TabG b m (ids (outr L r)) (hcol m L C r (j+1)) (plc (outr L r)) (c+1)::l')):=by
     intro w' l' h'
     have:=tdrop w0 w' l' b m _ _ _ (c+1) h' q.k hq6 r n (by rw [g1];exact HLEN.out _ ((hasK_iff _ _).2 ⟨q,List.mem_of_getElem? hq,rfl⟩)) hrn hn6
     rw [g1,← g2] at this
     exact this
    have HA:Hid (Own w0 (wr.alloc (.cells #[.int .u8 (q.k:Int),.int .i32 q.a,.int .i32 q.b,.int .i32 q.c] 46)) _):=hO.alloc _
    have hlt':(j:Int) < (len:Int):=by omega
    have hq6':(q.k:Int) < 6:=by omega
    clear hq g1 g2 hO
    obtain ⟨qk,qa,qb,qc⟩:=q
    simp only at c0 c1 c2 c3 hq6 hq6' HPU HA
    go_wp2_with fail
    go_region_with (
     go_at_call 238
     refine (HPU.out _ _ HA.out.drew).mono ?_
     rintro e w8 ⟨rfl,hO8⟩
     have H8:Hid (Own w0 w8 _):=hO8
     clear hO8)
    all_goals
     go_wp2
     go_roundw
     case rel=>exact ⟨j+1,by omega,by go_num,H8.out⟩
     case measure=>simp [intOf];omega
   ·have hlt':¬ (j:Int) < (len:Int):=by omega
    have hjl:j=len:=by omega
    subst hjl
    clear hO
    go_wp2
    go_ret2
    exact ⟨_,_,rfl,(HEND.out _ _ HO.out).two⟩
end
set_option maxRecDepth 100000 in
theorem pull_ok (w0 w:World) (l:List Thing) (b bs:Nat) (v:Value) (p:Nat→Option Nat) (σ:Sto) (K:Nat) (h:Own w0 w (StoX b σ K (bs,v,p)::l)) (m:Nat) (hm:m < 64) (pt:Option Nat) (hp:p m=pt) (hT:TOk m (σ.T m)) (id:Nat) (hid:id < 4294967296) (r:Nat) (e:Ent) (hr:plc (σ.T m) id=some r) (he:(σ.T m)[r]? = some e) (hK:K < 1000000) :
  Calls Tryz.prog 154 #[.pointer (some ⟨b,0,none⟩),.pointer (pp pt),.int .u32 (id:Int)] w fun out w'=>∃ ao cap,out=.returned (.slice ao e.2.length cap)∧Own w0 w' (Row 46 4 (.slice ao e.2.length cap) e.2.length (ccat e.2)::Store b (σ.out m r) (K+1)::l):=by
 cases pt with
 | none=>exact absurd (h.stoN hm hp).1 (fun q=>by rw [q] at he;simp at he)
 | some bt =>
 rw [pp_some]
 obtain ⟨c,hc,hne,hlen,hO⟩:=h.stoB hm hp
 have HR:Hid (Calls _ _ _ _ _):=tremC w0 w _ bt m (σ.T m) c hO hT id hid r e hr he (by omega) (by omega)
 have hrl:=(List.getElem?_eq_some_iff.1 he).1
 have hol:(outr (σ.T m) r).length=(σ.T m).length - 1:=length_outr _ _ hrl
 have HE:Hid (∀ w' l',Own w0 w' (Table bt m (outr (σ.T m) r) (c+1)::StoB b σ K (bs,v,p) m::l')→outr (σ.T m) r≠[]→Own w0 w' (Store b (σ.out m r) (K+1)::l')):=fun w' l' h' hn=>(h'.stoBX hm hp (by omega) (by omega) hn (by omega)).xSto
 have HZ:Hid (∀ w' l',Own w0 w' (StoB b σ K (bs,v,upd p m none) m::l')→outr (σ.T m) r=[]→Own w0 w' (Store b (σ.out m r) (K+1)::l')):=fun w' l' h' hn=>((h'.tabEmpty hn).stoI hm (by omega)).xSto
 have HLN:Hid (∀ w' l',Own w0 w' (Table bt m (outr (σ.T m) r) (c+1)::l')→Calls Tryz.prog 200 #[.pointer (some ⟨bt,0,none⟩)] w' fun e w''=>e=.returned (.int .i64 ((outr (σ.T m) r).length:Int))∧w''=w'):=fun w' l' h'=>by have:=tlen w0 w' l' bt m _ _ _ _ h';rw [length_ids] at this;exact this
 have HMM:Hid (∀ w' l',Own w0 w' (Table bt m (outr (σ.T m) r) (c+1)::l')→Calls Tryz.prog 201 #[.pointer (some ⟨bt,0,none⟩)] w' fun e w''=>e=.returned (.int .u8 (m:Int))∧w''=w'):=fun w' l' h'=>tmask w0 w' l' bt m _ _ _ _ h'
 clear h hO hT hr he hrl hol hlen hne hid hc hK
 generalize outr (σ.T m) r=L2 at *
 generalize e.2=C at *
 have hm':(m:Int) < 64:=by omega
 by_cases hz:L2=[]
 ·subst hz
  go_enter Tryz.func154,Tryz.ntmps154
  go_wp2_with fail
  refine HR.out.mono ?_
  rintro out w1 ⟨ao,cap,rfl,hO⟩
  have H1:Hid (Own w0 w1 (Table bt m [] (c+1)::Row 46 4 (.slice ao C.length cap) C.length (ccat C)::StoB b σ K (bs,v,p) m::l)):=hO.two
  clear hO HR
  go_wp2_with fail
  refine (HLN.out _ _ H1.out).mono ?_
  rintro out w2 ⟨rfl,rfl⟩
  simp only [List.length_nil]
  obtain ⟨qc,qz⟩:=H1.out.three.stoBcell m hm
  have HS:Hid (∀ w',Own w0 w' (StoB b σ K (bs,v,p) m::Table bt m [] (c+1)::Row 46 4 (.slice ao C.length cap) C.length (ccat C)::l)→Own w0 (w'.setCell ⟨b,2+m,none⟩ (.pointer none)) (Row 46 4 (.slice ao C.length cap) C.length (ccat C)::Store b (σ.out m r) (K+1)::l)):=fun w' h'=>(HZ.out _ _ (h'.stoBset hm none).two.tail (by trivial)).two
  go_wp2_with fail
  go_region_with (
   go_at_call 201
   refine (HMM.out _ _ H1.out.drew).mono ?_
   rintro e w3 ⟨rfl,rfl⟩)
  all_goals
   go_wp2
   go_ret
   exact ⟨ao,cap,rfl,HS.out _ H1.out.three.drew⟩
 ·have hz':¬ ((L2.length:Nat):Int)=0:=by
   intro q
   exact hz (List.eq_nil_of_length_eq_zero (by omega))
  have HNZ:Hid (L2≠[]):=hz
  clear hz
  go_enter Tryz.func154,Tryz.ntmps154
  go_wp2_with fail
  refine HR.out.mono ?_
  rintro out w1 ⟨ao,cap,rfl,hO⟩
  have H1:Hid (Own w0 w1 (Table bt m L2 (c+1)::Row 46 4 (.slice ao C.length cap) C.length (ccat C)::StoB b σ K (bs,v,p) m::l)):=hO.two
  clear hO HR
  go_wp2_with fail
  refine (HLN.out _ _ H1.out).mono ?_
  rintro out w2 ⟨rfl,rfl⟩
  go_wp2
  go_ret
  exact ⟨ao,cap,rfl,(HE.out _ _ H1.out.in23 HNZ.out).two⟩
theorem Own.stoK {w0 w:World} {l:List Thing} {b:Nat} {σ:Sto} {K K':Nat} (hK:K≤K') (h:Own w0 w (Store b σ K::l)):Own w0 w (Store b σ K'::l):=by
 obtain ⟨bs,v,p,h⟩:=h.stoX
 exact (Own.stoS (TabsOn.mono hK h.stoO.four).back4).xSto
def Sto.spawn (σ:Sto) (C:List Cp):Nat × Int × Sto :=
 if lst (-1) C≠0 then (0,(lst (-1) C:Int),σ) else if σ.S.take.2.1≠0 then (0,σ.S.take.2.1,σ) else (σ.S.take.1,0,Sto.put { σ with S:=σ.S.take.2.2 } σ.S.take.1 C)
theorem Sto.spawn_ok {σ:Sto} (h:σ.Ok) (C:List Cp):(σ.spawn C).2.2.Ok:=by
 unfold Sto.spawn
 split
 ·exact h
 ·rename_i h0
  split
  ·exact h
  ·rename_i h1
   exact (h.take (by simpa using h1)).put (by simpa using h0)
def Sto.despawn (σ:Sto) (id:Nat):Int × Sto :=
 if σ.S.isLive id then (0,{ σ.out (σ.hom id) ((plc (σ.T (σ.hom id)) id).getD 0) with S:=σ.S.less id }) else (7,σ)
theorem Sto.despawn_ok {σ:Sto} (h:σ.Ok) (id:Nat):(σ.despawn id).2.Ok:=by
 unfold Sto.despawn
 split
 ·rename_i hl
  obtain ⟨_,_,r,e,hr,_⟩:=h.home hl
  rw [hr]
  exact (h.out hl hr).free
 ·exact h
set_option maxRecDepth 100000 in
theorem spawnC (w0 w:World) (l:List Thing) (b:Nat) (σ:Sto) (K:Nat) (ht:Tab w0) (h:Own w0 w (Store b σ K::l)) (hσ:σ.Ok)
  (ao:Option Addr) (len cap:Nat) (C:List Cp) (hCl:C.length=len) (hCs:∀ w',Own w0 w' l→Cs w' ao C) (hCk:∀ q∈C,q.k < 256) (hlen:len≤1000000) (hK:K < 1000000) :
  Calls Tryz.prog 158 #[.pointer (some ⟨b,0,none⟩),.slice ao len cap] w fun e w'=>e=.returned (.tuple #[.int .u32 ((σ.spawn C).1:Int),.int .i64 (σ.spawn C).2.1])∧Own w0 w' (Store b (σ.spawn C).2.2 (K+1)::l):=by
 have H:Hid (Own w0 w (Store b σ K::l)):=h
 have HLS:Hid (Calls _ _ _ _ _):=list_any w (ht.quiet h.fr) ao len cap C hCl (hCs _ h.tail) hCk hlen
 by_cases h0:lst (-1) C=0
 ·rw [h0] at HLS
  have HTK:Hid (∀ w',Own w0 w' (Store b σ K::l)→∃ bs,w'.cell? ⟨b,0,none⟩=some (.pointer (some ⟨bs,0,none⟩))∧Calls Tryz.prog 202 #[.pointer (some ⟨bs,0,none⟩)] w' fun e w''=>e=.returned (.tuple #[.int .u32 (σ.S.take.1:Int),.int .i64 σ.S.take.2.1])∧Own w0 w'' (Store b { σ with S:=σ.S.take.2.2 } K::l)):=by
   intro w' h'
   obtain ⟨bs,v,p,h'⟩:=h'.stoX
   refine ⟨bs,(stoCells h').1,(take_ok w0 w' _ bs σ.S h'.stoO.two hσ.s).mono ?_⟩
   rintro e w'' ⟨rfl,h2⟩
   exact ⟨rfl,(Own.stoS (σ:={ σ with S:=σ.S.take.2.2 }) h2.two).xSto⟩
  by_cases h1:σ.S.take.2.1=0
  ·have HV:Hid (σ.spawn C=(σ.S.take.1,0,Sto.put { σ with S:=σ.S.take.2.2 } σ.S.take.1 C)):=by show _=_;unfold Sto.spawn;rw [if_neg (by simp [h0]),if_neg (by simp [h1])]
   have hL:=hσ.take h1
   have hli:=St.live_lt hL.s hL.li
   have HPU:Hid (∀ w',Own w0 w' (Store b { σ with S:=σ.S.take.2.2 } K::l)→Calls Tryz.prog 203 #[.pointer (some ⟨b,0,none⟩),.int .u32 (σ.S.take.1:Int),.slice ao len cap] w' fun e w''=>e=.returned (.tuple #[])∧Own w0 w'' (Store b (Sto.put { σ with S:=σ.S.take.2.2 } σ.S.take.1 C) (K+1)::l)):=by
    intro w' h'
    obtain ⟨bs,v,p,h'⟩:=h'.stoX
    exact put_ok w0 w' l b bs v p _ K ht h' σ.S.take.1 hli.1 (by rw [hL.ml];exact hli.2) ao len cap C hCl hCs hCk hlen h0 (hL.t _ (msk64 C)) (hL.none (msk64 C)) hK
   rw [h1] at HTK
   clear h hCs hσ h0 h1 hL hli
   go_enter Tryz.func158,Tryz.ntmps158
   go_wp2_with fail
   refine HLS.out.mono ?_
   rintro e w1 ⟨rfl,hf⟩
   obtain ⟨bs,q0,htk⟩:=HTK.out _ (H.out.quiet hf)
   have HTK1:Hid (Calls _ _ _ _ _):=htk
   clear htk hf HTK H HLS
   go_wp2_with fail
   refine HTK1.out.mono ?_
   rintro e w2 ⟨rfl,hO⟩
   have H2:Hid (Own w0 w2 _):=hO
   clear hO HTK1
   go_wp2_with fail
   refine (HPU.out _ H2.out).mono ?_
   rintro e w3 ⟨rfl,hO⟩
   have H3:Hid (Own w0 w3 _):=hO
   clear hO
   go_wp2
   go_ret2
   rw [HV.out]
   exact ⟨rfl,H3.out⟩
  ·have HV:Hid (σ.spawn C=(0,σ.S.take.2.1,σ)):=by show _=_;unfold Sto.spawn;rw [if_neg (by simp [h0]),if_pos (by simp [h1])]
   have HS:Hid (σ.S.take.2.2=σ.S):=by
    show _=_
    unfold St.take at h1 ⊢
    split at h1
    ·exact absurd rfl h1
    ·split at h1
     ·exact absurd rfl h1
     ·rename_i c;simp [c]
   clear h hCs hσ h0
   generalize σ.S.take.2.1=r at *
   have h1':(r == (0:Int))=false:=by simpa using h1
   go_enter Tryz.func158,Tryz.ntmps158
   go_wp2_with fail
   refine HLS.out.mono ?_
   rintro e w1 ⟨rfl,hf⟩
   obtain ⟨bs,q0,htk⟩:=HTK.out _ (H.out.quiet hf)
   have HTK1:Hid (Calls _ _ _ _ _):=htk
   clear htk hf HTK H HLS
   go_wp2_with fail
   refine HTK1.out.mono ?_
   rintro e w2 ⟨rfl,hO⟩
   rw [HS.out] at hO
   have H2:Hid (Own w0 w2 _):=hO
   clear hO HTK1
   go_wp2
   go_ret2
   rw [HV.out]
   exact ⟨rfl,H2.out.stoK (Nat.le_succ K)⟩
 ·have HV:Hid (σ.spawn C=(0,(lst (-1) C:Int),σ)):=by show _=_;unfold Sto.spawn;rw [if_pos h0]
  clear h hCs hσ
  generalize lst (-1) C=r at *
  have h1':((r:Int) == (0:Int))=false:=by simp;omega
  go_enter Tryz.func158,Tryz.ntmps158
  go_wp2_with fail
  refine HLS.out.mono ?_
  rintro e w1 ⟨rfl,hf⟩
  have H1:Hid (Own w0 w1 (Store b σ K::l)):=H.out.quiet hf
  clear hf H HLS
  go_wp2
  go_ret2
  rw [HV.out]
  exact ⟨rfl,H1.out.stoK (Nat.le_succ K)⟩
theorem Own.made {P:Program} {w0 w:World} {l:List Thing} (h:Own w0 w l) (t e:TypeId) (i:TypeInfo) (z:Value) (size:Nat) (ht:P.underlying t=some (.slice e)) (hi:P.info? e=some i) (hz:i.zero=some z) (hsize:i.size=size)
  (n:Nat) (hbytes:i.bytes*n≤281474976710656) (h63:n≤maxLen) :
  ∃ w',(Instr.makeSlice t (.int .i64 (n:Int)) (.int .i64 (n:Int))).run P w=.ok (.slice (some ⟨w.heap.size,0,none⟩) n n) w'∧Own w0 w' (Row e size (.slice (some ⟨w.heap.size,0,none⟩) n n) n (madeCells z.cells (n*size)).toList::l)∧Fr Nobody w w'∧w.heap.size < w'.heap.size:=by
 obtain ⟨w',h1,h2,h3⟩:=run_make_full (P:=P) w 0 t e i z size ht hi hz hsize .i64 .i64 n hbytes h63 (Nat.zero_le _)
 have hf:Fr Nobody w w':=(Fr.refl _ _).grown h3 (by simp)
 exact ⟨w',h1,h.new (Row e size (.slice (some ⟨w.heap.size,0,none⟩) n n) n _) (fun k=>k=w.heap.size) ⟨h2,fun k=>by simp [Value.ownBlock];exact eq_comm⟩ hf (fun k hk=>by omega),hf,(h2.lt _ rfl).2⟩
theorem made_bytes (n:Nat):(madeCells #[.int .u8 0] (n*1)).toList=irow .u8 (List.replicate n 0):=by
 apply List.ext_getElem?
 intro i
 rw [getElem?_irow]
 by_cases h:i < n
 ·have:i % 1=0:=Nat.mod_one i
  simp [madeCells,h,this]
 ·simp [madeCells,h]
theorem Tryz.infoB2:(Tryz.prog.info? 5).map (fun i=>(i.zero,i.size,i.bytes))=some (some (.int .u8 0),1,1):=by kernel_rfl
set_option maxRecDepth 100000 in
theorem scells_zero (bs:Nat) (v:Value):(Tryz.zeroCells176.setIfInBounds 0 (.pointer (some ⟨bs,0,none⟩))).setIfInBounds 1 v=scells bs v (fun _=>none):=by kernel_rfl
set_option maxRecDepth 100000 in
theorem snew (w0 w:World) (l:List Thing) (n f:Nat) (h:Own w0 w l) (h1:1≤n) (h2:n≤1024) (h3:1≤f) (h4:f≤4194303) :
  Calls Tryz.prog 39 #[.int .i64 (n:Int),.int .i64 (f:Int)] w fun e w'=>∃ b,e=.returned (.tuple #[.pointer (some ⟨b,0,none⟩),.int .i64 0])∧Own w0 w' (Store b (Sto.new n f) 0::l):=by
 obtain ⟨i0,hi,hz0,hz1,hz2⟩:=info_parts Tryz.infoB2
 have HN:Hid (Calls _ _ _ _ _):=new_ok w0 w l n f h h1 h2 h3 h4
 have HM:Hid (∀ w' l',Own w0 w' l'→∃ w'',(Instr.makeSlice 170 (.int .i64 (n:Int)) (.int .i64 (n:Int))).run Tryz.prog w'=.ok (.slice (some ⟨w'.heap.size,0,none⟩) n n) w''∧Own w0 w'' (Row 5 1 (.slice (some ⟨w'.heap.size,0,none⟩) n n) n (irow .u8 (List.replicate n 0))::l')):=by
  intro w' l' h'
  obtain ⟨w'',r1,r2,_⟩:=h'.made (P:=Tryz.prog) 170 5 i0 (.int .u8 0) 1 Tryz.underlying170 hi hz0 hz1 n (by rw [hz2];omega) (by unfold maxLen;omega)
  have e2:Value.cells (.int .u8 0)=#[.int .u8 0]:=by rfl
  rw [e2,made_bytes] at r2
  exact ⟨w'',r1,r2⟩
 clear hi hz0 hz1 hz2 h
 go_enter Tryz.func39,Tryz.ntmps39
 go_wp2_with fail
 refine HN.out.mono ?_
 rintro e w1 ⟨bs,rfl,_,hO⟩
 obtain ⟨w2,hmk,hO2⟩:=HM.out _ _ hO
 have H2:Hid (Own w0 w2 _):=hO2
 clear hO hO2 HM HN
 go_wp2
 go_ret2
 refine ⟨_,rfl,?_⟩
 have k:=H2.out.allocC (scells bs (.slice (some ⟨w1.heap.size,0,none⟩) n n) (fun _=>none)) 176
 rw [← scells_zero] at k
 have k2:=(k.in23.tabsNew 0).back4
 refine (Own.stoS (σ:=Sto.new n f) (bs:=bs) (v:=.slice (some ⟨w1.heap.size,0,none⟩) n n) (p:=fun _=>none) ?_).xSto
 have e:(Sto.new n f).mks.length=n:=by simp [Sto.new]
 rw [e,← scells_zero]
 exact k2
theorem despawnC (w0 w:World) (l:List Thing) (b:Nat) (σ:Sto) (K:Nat) (h:Own w0 w (Store b σ K::l)) (hσ:σ.Ok) (id:Nat) (hid:id < 4294967296) (hK:K < 1000000) :
  Calls Tryz.prog 98 #[.pointer (some ⟨b,0,none⟩),.int .u32 (id:Int)] w fun e w'=>e=.returned (.int .i64 (σ.despawn id).1)∧Own w0 w' (Store b (σ.despawn id).2 (K+1)::l):=by
 obtain ⟨bs,v,p,h⟩:=h.stoX
 by_cases hl:σ.S.isLive id=true
 ·obtain ⟨h6,hn,r,e,hr,he,hx⟩:=hσ.home hl
  have HH:Hid (Calls _ _ _ _ _):=home_ok w0 w l b bs v p σ K h hσ.s id hid hl hn h6
  have HP:Hid (∀ w',Own w0 w' (StoX b σ K (bs,v,p)::l)→Calls Tryz.prog 154 #[.pointer (some ⟨b,0,none⟩),.pointer (pp (p (σ.hom id))),.int .u32 (id:Int)] w' fun out w''=>∃ ao cap,out=.returned (.slice ao e.2.length cap)∧Own w0 w'' (Row 46 4 (.slice ao e.2.length cap) e.2.length (ccat e.2)::Store b (σ.out (σ.hom id) r) (K+1)::l)):=fun w' h'=>pull_ok w0 w' l b bs v p σ K h' (σ.hom id) h6 _ rfl (hσ.t _ h6) id hid r e hr he hK
  have HV:Hid (σ.despawn id=(0,{ σ.out (σ.hom id) r with S:=σ.S.less id })):=by show _=_;unfold Sto.despawn;rw [if_pos hl,hr];rfl
  have HF:Hid (∀ w',Own w0 w' (Store b (σ.out (σ.hom id) r) (K+1)::l)→∃ bs,w'.cell? ⟨b,0,none⟩=some (.pointer (some ⟨bs,0,none⟩))∧Calls Tryz.prog 155 #[.pointer (some ⟨bs,0,none⟩),.int .u32 (id:Int)] w' fun e w''=>e=.returned (.int .i64 0)∧Own w0 w'' (Store b { σ.out (σ.hom id) r with S:=σ.S.less id } (K+1)::l)):=by
   intro w' h'
   obtain ⟨bs,v,p,h'⟩:=h'.stoX
   have k:=free_ok w0 w' _ bs (σ.out (σ.hom id) r).S id h'.stoO.two hσ.s hid
   rw [show (σ.out (σ.hom id) r).S=σ.S from rfl,(St.free_live hσ.s hl).1] at k
   refine ⟨bs,(stoCells h').1,k.mono ?_⟩
   rintro e w'' ⟨rfl,h2⟩
   exact ⟨rfl,(Own.stoS (σ:={ σ.out (σ.hom id) r with S:=σ.S.less id }) h2.two).xSto⟩
  clear h hσ hl hr he hx hK
  generalize pp (p (σ.hom id))=pt at *
  go_enter Tryz.func98,Tryz.ntmps98
  go_wp2_with fail
  refine HH.out.mono ?_
  rintro e w1 ⟨rfl,hO⟩
  have HP1:Hid (Calls _ _ _ _ _):=HP.out _ hO
  clear hO HH HP
  go_wp2_with fail
  refine HP1.out.mono ?_
  rintro e w2 ⟨ao,cap,rfl,hO⟩
  obtain ⟨bs2,q0,hfr⟩:=HF.out _ hO.tail
  have HF1:Hid (Calls _ _ _ _ _):=hfr
  clear hO hfr HP1 HF
  go_wp2_with fail
  refine HF1.out.mono ?_
  rintro e w3 ⟨rfl,hO⟩
  have H3:Hid (Own w0 w3 _):=hO
  clear hO
  go_wp2
  go_ret
  rw [HV.out]
  exact ⟨rfl,H3.out⟩
 ·have hl':σ.S.isLive id=false:=by simpa using hl
  have HH:Hid (Calls _ _ _ _ _):=home_dead w0 w l b bs v p σ K h hσ.s id hid hl'
  have HV:Hid (σ.despawn id=(7,σ)):=by show _=_;unfold Sto.despawn;rw [if_neg hl]
  clear h hσ hl hl'
  go_enter Tryz.func98,Tryz.ntmps98
  go_wp2_with fail
  refine HH.out.mono ?_
  rintro e w1 ⟨rfl,hO⟩
  have H1:Hid (Own w0 w1 _):=hO
  clear hO HH
  go_wp2
  go_ret
  rw [HV.out]
  exact ⟨rfl,H1.out.xSto.stoK (Nat.le_succ K)⟩
theorem sused (w0 w:World) (l:List Thing) (b bs:Nat) (v:Value) (p:Nat→Option Nat) (σ:Sto) (K:Nat) (h:Own w0 w (StoX b σ K (bs,v,p)::l)) :
  Calls Tryz.prog 121 #[.pointer (some ⟨b,0,none⟩)] w fun e w'=>e=.returned (.pointer (some ⟨bs,0,none⟩))∧w'=w:=by
 obtain ⟨q0,_,_⟩:=stoCells h
 clear h
 go_enter Tryz.func121,Tryz.ntmps121
 go_wp2
 go_ret
 exact ⟨rfl,rfl⟩
theorem slist (w0 w:World) (l:List Thing) (b:Nat) (σ:Sto) (K:Nat) (h:Own w0 w (Store b σ K::l)) (hσ:σ.S.Ok) :
  Calls Tryz.prog 67 #[.pointer (some ⟨b,0,none⟩)] w fun e w'=>∃ v,e=.returned v∧Own w0 w' (Row 38 1 v σ.S.list.length (irow .u32 σ.S.list)::Store b σ K::l):=by
 obtain ⟨bs,v,p,h⟩:=h.stoX
 have HU:Hid (Calls _ _ _ _ _):=sused w0 w l b bs v p σ K h
 have HL:Hid (Calls _ _ _ _ _):=list_ok w0 w _ bs σ.S h.stoO.two hσ
 clear h
 go_enter Tryz.func67,Tryz.ntmps67
 go_wp2_with (go_at_call 121;refine HU.out.mono ?_;rintro e w' ⟨rfl,rfl⟩)
 refine HL.out.mono ?_
 rintro e w' ⟨vv,rfl,hO⟩
 have H1:Hid (Own w0 w' (Row 38 1 vv σ.S.list.length (irow .u32 σ.S.list)::Store b σ K::l)):=by
  have k:=Own.sink (l:=[Cells b (scells bs v p) 176,Slots bs σ.S,Row 5 1 v σ.mks.length (irow .u8 σ.mks),Tabs p σ.T K]) (m:=l) hO.in23
  exact (Own.stoS k).xSto.two
 clear hO
 go_wp2
 go_ret
 exact ⟨_,rfl,H1.out⟩
theorem upd_self {α:Type} (f:Nat→α) (k:Nat):upd f k (f k)=f:=by
 funext j;unfold upd;split
 ·rename_i e;rw [e]
 ·rfl
theorem Own.stoT {w0 w:World} {l:List Thing} {b bs:Nat} {v:Value} {p:Nat→Option Nat} {σ:Sto} {K m bt c:Nat} (h:Own w0 w (Table bt m (σ.T m) c::StoB b σ K (bs,v,p) m::l)) (hm:m < 64) (hp:p m=some bt) (hc:c≤K) (hL:σ.T m≠[]) (hl:(σ.T m).length≤K):Own w0 w (StoX b σ K (bs,v,p)::l):=by
 have k:=h.stoBX hm hp (Nat.le_refl K) hc hL hl
 rw [upd_self] at k
 exact k
theorem stoP {w0 w:World} {l:List Thing} {b bs:Nat} {v:Value} {p:Nat→Option Nat} {σ:Sto} {K m r:Nat} {e:Ent} (h:Own w0 w (StoX b σ K (bs,v,p)::l)) (hm:m < 64) (he:(σ.T m)[r]? = some e):∃ bt,p m=some bt:=by
 cases hp:p m with
 | none=>exact absurd (h.stoN hm hp).1 (fun q=>by rw [q] at he;simp at he)
 | some bt=>exact ⟨bt,rfl⟩
theorem sent (w0 w:World) (l:List Thing) (b:Nat) (σ:Sto) (K:Nat) (h:Own w0 w (Store b σ K::l)) (hσ:σ.Ok) (id:Nat) (hid:id < 4294967296) (hl:σ.S.isLive id=true) (r:Nat) (C:List Cp) (he:(σ.T (σ.hom id))[r]? = some (id,C)) (hK:K≤1000000) :
  Calls Tryz.prog 119 #[.pointer (some ⟨b,0,none⟩),.int .u32 (id:Int)] w fun e w'=>∃ ao cap,e=.returned (.tuple #[.agg #[.int .u32 (id:Int),.slice ao C.length cap],.int .i64 0])∧Own w0 w' (Row 46 4 (.slice ao C.length cap) C.length (ccat C)::Store b σ K::l):=by
 obtain ⟨bs,v,p,h⟩:=h.stoX
 obtain ⟨h6,hn,_⟩:=hσ.home hl
 have hr:plc (σ.T (σ.hom id)) id=some r:=(plc_some (hσ.t _ h6).ap id r).2 ⟨_,he,rfl⟩
 have hA:=(h.allocC #[.int .u32 0,.slice none 0 0] 76).two
 have HH:Hid (Calls _ _ _ _ _):=home_ok w0 _ _ b bs v p σ K hA hσ.s id hid hl hn h6
 obtain ⟨bt,hp⟩:=stoP h h6 he
 rw [hp,pp_some] at HH
 have HRW:Hid (∀ w' l',Own w0 w' (StoX b σ K (bs,v,p)::l')→Calls Tryz.prog 173 #[.pointer (some ⟨bt,0,none⟩),.int .u32 (id:Int)] w' fun e w''=>e=.returned (.tuple #[.int .i64 (r:Int),.bool true])∧w''=w'):=by
  intro w' l' h'
  obtain ⟨c,_,_,_,h2⟩:=h'.stoB h6 hp
  have k:=trow w0 w' _ bt _ _ _ _ c h2 id hid
  rw [hr] at k
  exact k
 have HAT:Hid (∀ w' l',Own w0 w' (StoX b σ K (bs,v,p)::l')→Calls Tryz.prog 174 #[.pointer (some ⟨bt,0,none⟩),.int .i64 (r:Int)] w' fun out w''=>∃ ao cap,out=.returned (.tuple #[.agg #[.int .u32 (id:Int),.slice ao C.length cap],.bool true])∧Own w0 w'' (Row 46 4 (.slice ao C.length cap) C.length (ccat C)::StoX b σ K (bs,v,p)::l')):=by
  intro w' l' h'
  obtain ⟨c,hc,hne,hlen,h2⟩:=h'.stoB h6 hp
  refine (tatC w0 w' _ bt _ _ c h2 (hσ.t _ h6) r (id,C) he (by omega)).mono ?_
  rintro e w'' ⟨ao,cap,rfl,h3⟩
  refine ⟨ao,cap,rfl,?_⟩
  have h4:Own w0 w'' (Table bt (σ.hom id) (σ.T (σ.hom id)) c::StoB b σ K (bs,v,p) (σ.hom id)::Row 46 4 (.slice ao C.length cap) C.length (ccat C)::l'):=h3.back3
  exact (h4.stoT h6 hp hc hne hlen).two
 clear h hA hσ hl he hr hp hn hid
 go_enter Tryz.func119,Tryz.ntmps119
 go_wp2_with fail
 refine HH.out.mono ?_
 rintro e w1 ⟨rfl,hO⟩
 have H1:Hid (Own w0 w1 _):=hO
 clear hO HH
 go_wp2_with fail
 refine (HRW.out _ _ H1.out).mono ?_
 rintro e w2 ⟨rfl,rfl⟩
 go_wp2_with fail
 refine (HAT.out _ _ H1.out).mono ?_
 rintro e w3 ⟨ao,cap,rfl,hO⟩
 have hB:=(hO.allocC #[.int .u32 (id:Int),.slice ao C.length cap] 76).four
 have x0:=hB.two.cell 0
 have x1:=hB.two.cell 1
 have z0:=hB.cell 0
 have z1:=hB.cell 1
 simp at x0 x1 z0 z1
 have y0:=hB.froz 0
 have y1:=hB.froz 1
 have hne1:w3.heap.size≠w.heap.size:=by
  have:=hO.three.lt
  omega
 have hne2:w.heap.size≠w3.heap.size:=fun q=>hne1 q.symm
 have HF:Hid (Own w0 _ _):=(hB.setC 0 (.int .u32 (id:Int))).setC 1 (.slice ao C.length cap)
 clear hO hB HAT HRW H1
 go_wp2
 (try simp only [Exit.inBlock,Exit.then])
 refine bodyPost_ret (v:=.tuple #[.agg #[.int .u32 (id:Int),.slice ao C.length cap],.int .i64 0]) ?_ rfl ⟨ao,cap,rfl,?_⟩
 ·rw [results_cell_tmp rfl]
  have r0:=HF.out.cell 0
  have r1:=HF.out.cell 1
  simp at r0 r1
  go_simp
 ·exact HF.out.tail.tail.two.xSto.two
end Go.Proofs.YtogmdoiecpihdaaGreatDoor
