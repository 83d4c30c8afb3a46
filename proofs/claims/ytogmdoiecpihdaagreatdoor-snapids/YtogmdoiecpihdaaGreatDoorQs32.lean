/- The document's table: Get, Set. -/
import Derived.Test.YtogmdoiecpihdaaGreatDoorQs31
import Derived.Test.YtogmdoiecpihdaaGreatDoorQs15
namespace Go.Proofs.YtogmdoiecpihdaaGreatDoor
open Go.RowKit Go.Maps
set_option linter.unusedVariables false
set_option maxHeartbeats 4000000
set_option maxRecDepth 100000
theorem TOk.c6 {m:Nat} {L:List Ent} (hT:TOk m L) {r:Nat} {e:Ent} (he:L[r]? = some e):e.2.length≤6:=by
 have:=hT.ok e (List.mem_of_getElem? he)
 rw [← comps_of this.1 this.2,List.length_map]
 exact Nat.le_trans (List.length_filter_le _ _) (by simp)
theorem tget_has {m:Nat} {L:List Ent} (hT:TOk m L) {id r:Nat} {C:List Cp} (hp:plc L id=some r) (he:L[r]? = some (id,C)) {k i:Nat} {q:Cp} (hq:C[i]? = some q) (hqk:q.k=k):tget m L id k=(0,q):=by
 obtain ⟨h1,h2⟩:=hT.ok _ (List.mem_of_getElem? he)
 have hm:=List.mem_of_getElem? hq
 have h6:k < 6:=by rw [← hqk];exact chk_k ((lst_ok h1).2 q hm).2
 have hb:bt m k=true:=by rw [← h2,bt_msk C k h6,hasK_iff];exact ⟨q,hm,hqk⟩
 unfold tget
 rw [hp]
 simp only
 rw [if_pos hb,he]
 simp only [Option.map_some,Option.getD_some]
 rw [← hqk,fv_of h1 hm]
 rfl
theorem tget_not {m:Nat} {L:List Ent} (hT:TOk m L) {id r:Nat} {C:List Cp} (hp:plc L id=some r) (he:L[r]? = some (id,C)) {k:Nat} (hk:hasK C k=false):tget m L id k=(10,⟨0,0,0,0⟩):=by
 obtain ⟨h1,h2⟩:=hT.ok _ (List.mem_of_getElem? he)
 have hb:bt m k=false:=by
  cases hb:bt m k with
  | false=>rfl
  | true=>rw [hasK_bt h2 hT.m64 hb] at hk;cases hk
 unfold tget
 rw [hp]
 simp only
 rw [hb]
 rfl
section
variable (w0 w:World) (l:List Thing) (b o:Nat) (cur:Array Value) (m:Nat) (L:List Ent)
theorem rtgetC (h:Own w0 w (RTab b o cur m L::l)) (hT:TOk m L) (hL:L.length≤1000000) (id:Nat) (k:Nat) (hk:k < 256) :
  Calls Tryz.prog 215 #[.pointer (some ⟨b,o,none⟩),.int .u32 (id:Int),.int .u8 (k:Int)] w fun e w'=>e=.returned (.tuple #[(tget m L id k).2.ag,.int .i64 ((tget m L id k).1:Int)])∧Own w0 w' (RTab b o cur m L::l):=by
 have HCU:Hid (cur[o]? = some (.int .u8 (m:Int))∧o+1 < cur.size):=RTab.facts h
 have hA:=h.allocC #[.int .u8 0,.int .i32 0,.int .i32 0,.int .i32 0] 46
 have z0:=hA.cell 0
 have z1:=hA.cell 1
 have z2:=hA.cell 2
 have z3:=hA.cell 3
 simp at z0 z1 z2 z3
 have y0:=hA.froz 0
 have y1:=hA.froz 1
 have y2:=hA.froz 2
 have y3:=hA.froz 3
 have HR:Hid (Calls _ _ _ _ _):=rtrow w0 _ _ b o cur m L hA.two hT.ap hL id
 have HA:Hid (Own w0 _ (Cells w.heap.size #[.int .u8 0,.int .i32 0,.int .i32 0,.int .i32 0] 46::RTab b o cur m L::l)):=hA
 cases hp:plc L id with
 | none =>
  have HV:Hid (tget m L id k=(7,⟨0,0,0,0⟩)):=by show _=_;unfold tget;rw [hp]
  rw [hp] at HR
  simp only [pl1] at HR
  clear h hA hp
  go_enter Tryz.func215,Tryz.ntmps215
  go_wp2_with fail
  refine HR.out.mono ?_
  rintro e w1 ⟨rfl,hf⟩
  have hO:=HA.out.quiet hf
  have z0:=hO.cell 0
  have z1:=hO.cell 1
  have z2:=hO.cell 2
  have z3:=hO.cell 3
  simp at z0 z1 z2 z3
  have y0:=hO.froz 0
  have y1:=hO.froz 1
  have y2:=hO.froz 2
  have y3:=hO.froz 3
  have HF:Hid (Own w0 ((((w1.setCell ⟨w.heap.size,0,none⟩ (.int .u8 0)).setCell ⟨w.heap.size,1,none⟩ (.int .i32 0)).setCell ⟨w.heap.size,2,none⟩ (.int .i32 0)).setCell ⟨w.heap.size,3,none⟩ (.int .i32 0)) (Cells w.heap.size #[.int .u8 0,.int .i32 0,.int .i32 0,.int .i32 0] 46::RTab b o cur m L::l)) :=
   (((hO.setC 0 (.int .u8 0)).setC 1 (.int .i32 0)).setC 2 (.int .i32 0)).setC 3 (.int .i32 0)
  clear HR hf hO
  go_wp2
  (try simp only [Exit.inBlock,Exit.then])
  refine bodyPost_ret (v:=.tuple #[.agg #[.int .u8 0,.int .i32 0,.int .i32 0,.int .i32 0],.int .i64 7]) ?_ rfl ⟨by rw [HV.out];rfl,HF.out.tail⟩
  rw [results_cell_tmp rfl]
  have r0:=HF.out.cell 0
  have r1:=HF.out.cell 1
  have r2:=HF.out.cell 2
  have r3:=HF.out.cell 3
  simp at r0 r1 r2 r3
  go_simp
 | some r =>
  obtain ⟨d,hd,hdi⟩:=(plc_some hT.ap id r).1 hp
  obtain ⟨did,C⟩:=d
  simp only at hdi
  subst hdi
  rw [hp] at HR
  simp only [pl1] at HR
  have hrL:=(List.getElem?_eq_some_iff.1 hd).1
  have hr0:¬ (r:Int) < 0:=by omega
  have HG:Hid (∀ i q,C[i]? = some q→∀ kk,q.k=kk→tget m L did kk=(0,q)):=fun i q hq kk hk=>tget_has hT hp hd hq hk
  have HG2:Hid (hasK C k=false→tget m L did k=(10,⟨0,0,0,0⟩)):=fun h=>tget_not hT hp hd h
  have hCk:∀ q∈C,q.k < 256:=fun q hq=>by have:=chk_k ((lst_ok (hT.ok _ (List.mem_of_getElem? hd)).1).2 q hq).2;omega
  have hC6:C.length≤6:=hT.c6 hd
  have HX:Hid (∀ w' l',Own w0 w' (RTab b o cur m L::l')→∃ g n cap ac cc,r < n∧w'.cell? ⟨b,o+1,none⟩=some (.slice (some ⟨g,0,none⟩) n cap)∧w'.cell? ⟨g,r*2+1,none⟩=some (.slice ac C.length cc)∧Cs w' ac C):=by
   intro w' l' h'
   obtain ⟨v,E,hE,h'⟩:=RTab.open h'
   have hlen:E.length=L.length:=by rw [← hE,List.length_map]
   obtain ⟨g,cap,rfl,_⟩:=row_shape h'.two.row (by omega)
   have q1:=h'.cell (o+1)
   rw [tcur_at HCU.out.2] at q1
   obtain ⟨e,he⟩:∃ e,E[r]? = some e:=⟨_,List.getElem?_eq_getElem (by omega)⟩
   have hee:e.e=(did,C):=by
    have:(E.map REnt.e)[r]? = some e.e:=by rw [List.getElem?_map,he];rfl
    rw [hE,hd] at this
    exact (Option.some.inj this).symm
   obtain ⟨e1,e2,e3,e4⟩:=e
   have e2':e2=C:=(Prod.mk.inj hee).2
   subst e2'
   obtain ⟨_,c1⟩:=ecell h'.two r _ he
   have hpk:=Own.pick r _ he h'
   exact ⟨g,E.length,cap,e3,e4,by omega,q1,c1,Own.rcs hpk rfl⟩
  clear h hA hp hd
  go_enter Tryz.func215,Tryz.ntmps215
  go_wp2_with fail
  refine HR.out.mono ?_
  rintro e w1 ⟨rfl,hf⟩
  have hO:=HA.out.quiet hf
  obtain ⟨g,n,cap,ac,cc,hrn,q1,q2,hcs⟩:=HX.out _ _ hO.two
  have hrn':(r:Int) < (n:Int):=by omega
  have H1:Hid (Own w0 w1 (Cells w.heap.size #[.int .u8 0,.int .i32 0,.int .i32 0,.int .i32 0] 46::RTab b o cur m L::l)):=hO
  have HFD:Hid (Calls _ _ _ _ _):=find_any w1 ac C.length cc C rfl hcs hCk (by omega) k hk
  have HCS:Hid (Cs w1 ac C):=hcs
  clear HR hf hO hcs HA z0 z1 z2 z3 y0 y1 y2 y3
  generalize hcl:C.length=cl at *
  go_wp2_with fail
  refine HFD.out.mono ?_
  rintro e w2 ⟨r2,rfl,hf2,hcase⟩
  have hO:=H1.out.quiet hf2
  have z0:=hO.cell 0
  have z1:=hO.cell 1
  have z2:=hO.cell 2
  have z3:=hO.cell 3
  simp at z0 z1 z2 z3
  have y0:=hO.froz 0
  have y1:=hO.froz 1
  have y2:=hO.froz 2
  have y3:=hO.froz 3
  have hb1:=World.block_lt_of_cell? w1 _ q1
  have hb2:=World.block_lt_of_cell? w1 _ q2
  have p1:=(hf2.cell (p:=⟨b,o+1,none⟩) hb1 id).trans q1
  have p2:=(hf2.cell (p:=⟨g,r*2+1,none⟩) hb2 id).trans q2
  have HC2:Hid (Cs w2 ac C):=HCS.out.quiet hf2
  have H2:Hid (Own w0 w2 (Cells w.heap.size #[.int .u8 0,.int .i32 0,.int .i32 0,.int .i32 0] 46::RTab b o cur m L::l)):=hO
  clear hf2 hO H1 HFD q1 q2 hb1 hb2 HCS HX
  rcases hcase with ⟨rfl,hno⟩ | ⟨i,rfl,q,hq,hqk,_⟩
  ·have HV:Hid (tget m L did k=(10,⟨0,0,0,0⟩)):=HG2.out hno
   have HF:Hid (Own w0 ((((w2.setCell ⟨w.heap.size,0,none⟩ (.int .u8 0)).setCell ⟨w.heap.size,1,none⟩ (.int .i32 0)).setCell ⟨w.heap.size,2,none⟩ (.int .i32 0)).setCell ⟨w.heap.size,3,none⟩ (.int .i32 0)) (Cells w.heap.size #[.int .u8 0,.int .i32 0,.int .i32 0,.int .i32 0] 46::RTab b o cur m L::l)) :=
    (((H2.out.setC 0 (.int .u8 0)).setC 1 (.int .i32 0)).setC 2 (.int .i32 0)).setC 3 (.int .i32 0)
   clear hno
   go_wp2
   (try simp only [Exit.inBlock,Exit.then])
   refine bodyPost_ret (v:=.tuple #[.agg #[.int .u8 0,.int .i32 0,.int .i32 0,.int .i32 0],.int .i64 10]) ?_ rfl ⟨by rw [HV.out];rfl,HF.out.tail⟩
   rw [results_cell_tmp rfl]
   have r0:=HF.out.cell 0
   have r1:=HF.out.cell 1
   have r2:=HF.out.cell 2
   have r3:=HF.out.cell 3
   simp at r0 r1 r2 r3
   go_simp
  ·have HV:Hid (tget m L did k=(0,q)):=HG.out i q hq k hqk
   obtain ⟨gc,oc,hac,_,x0,x1,x2,x3⟩:=HC2.out.at i q hq
   subst hac
   have hic:i < cl:=by rw [← hcl];exact (List.getElem?_eq_some_iff.1 hq).1
   have hic':(i:Int) < (cl:Int):=by omega
   have hi0:¬ (i:Int) < 0:=by omega
   clear hq hcl
   obtain ⟨qk,qa,qb,qc⟩:=q
   simp only at x0 x1 x2 x3
   have HF:Hid (Own w0 ((((w2.setCell ⟨w.heap.size,0,none⟩ (.int .u8 (qk:Int))).setCell ⟨w.heap.size,1,none⟩ (.int .i32 qa)).setCell ⟨w.heap.size,2,none⟩ (.int .i32 qb)).setCell ⟨w.heap.size,3,none⟩ (.int .i32 qc)) (Cells w.heap.size #[.int .u8 (qk:Int),.int .i32 qa,.int .i32 qb,.int .i32 qc] 46::RTab b o cur m L::l)) :=
    (((H2.out.setC 0 (.int .u8 (qk:Int))).setC 1 (.int .i32 qa)).setC 2 (.int .i32 qb)).setC 3 (.int .i32 qc)
   clear hqk
   go_wp2
   (try simp only [Exit.inBlock,Exit.then])
   refine bodyPost_ret (v:=.tuple #[.agg #[.int .u8 (qk:Int),.int .i32 qa,.int .i32 qb,.int .i32 qc],.int .i64 0]) ?_ rfl ⟨by rw [HV.out];rfl,HF.out.tail⟩
   rw [results_cell_tmp rfl]
   have r0:=HF.out.cell 0
   have r1:=HF.out.cell 1
   have r2:=HF.out.cell 2
   have r3:=HF.out.cell 3
   simp at r0 r1 r2 r3
   go_simp
end
theorem cat_set2 (E:List REnt) (r:Nat) (e e':REnt) (he:E[r]? = some e) (hi:e'.1=e.1):cat rcells (E.set r e')=(cat rcells E).set (r*2+1) e'.v:=by
 induction E generalizing r with
 | nil=>simp at he
 | cons y E ih =>
  cases r with
  | zero =>
   simp at he;subst he
   simp [cat,rcells,hi]
  | succ r =>
   have ih:=ih r (by simpa using he)
   have e1:∀ (A:List REnt) (z:REnt),cat rcells (z::A)=[.int .u32 (z.1:Int),z.v]++cat rcells A:=fun _ _=>rfl
   rw [List.set_cons_succ,e1,e1,ih,show (r+1)*2+1=r*2+1+1+1 by omega]
   simp
theorem tset_none {m:Nat} {L:List Ent} {id:Nat} {q:Cp} (h0:q.chk=0) (hp:plc L id=none):tset m L id q=(7,L)∧tget m L id q.k=(7,⟨0,0,0,0⟩):=by
 unfold tset tget;rw [if_neg (by simp [h0]),hp];exact ⟨rfl,rfl⟩
theorem tset_no {m:Nat} {L:List Ent} {id r:Nat} {q:Cp} (h0:q.chk=0) (hp:plc L id=some r) (hb:bt m q.k=false):tset m L id q=(10,L)∧tget m L id q.k=(10,⟨0,0,0,0⟩):=by
 unfold tset tget;rw [if_neg (by simp [h0]),hp];simp [hb]
section
variable (w0 w:World) (l:List Thing) (b o:Nat) (cur:Array Value) (m:Nat) (L:List Ent)
theorem rtsetC (h:Own w0 w (RTab b o cur m L::l)) (hT:TOk m L) (id:Nat) (hid:id < 4294967296) (q:Cp) (hk:q.k < 256) (hL:L.length≤1000000) :
  Calls Tryz.prog 168 #[.pointer (some ⟨b,o,none⟩),.int .u32 (id:Int),q.ag] w fun e w'=>e=.returned (.int .i64 ((tset m L id q).1:Int))∧Own w0 w' (RTab b o cur m (tset m L id q).2::l):=by
 have HCU:Hid (cur[o]? = some (.int .u8 (m:Int))∧o+1 < cur.size):=RTab.facts h
 have hm:=hT.m64
 have hA:=h.allocC #[.int .u8 (q.k:Int),.int .i32 q.a,.int .i32 q.b,.int .i32 q.c] 46
 have z0:=hA.cell 0
 have z1:=hA.cell 1
 have z2:=hA.cell 2
 have z3:=hA.cell 3
 simp at z0 z1 z2 z3
 have HC:Hid (Calls _ _ _ _ _):=rcheck3 (w.alloc (.cells #[.int .u8 (q.k:Int),.int .i32 q.a,.int .i32 q.b,.int .i32 q.c] 46)) q.k hk q.a q.b q.c
 have HA:Hid (Own w0 _ (Cells w.heap.size #[.int .u8 (q.k:Int),.int .i32 q.a,.int .i32 q.b,.int .i32 q.c] 46::RTab b o cur m L::l)):=hA
 have HQ:Hid (q.chk=chk q.k (f3 q.a q.b q.c)):=rfl
 clear h hA
 unfold Cp.ag
 obtain ⟨x,hx⟩:∃ x,q.chk=x:=⟨_,rfl⟩
 have hx5:x≤5:=by rw [← hx];exact chk_lt q
 rw [← HQ.out,hx] at HC
 by_cases hx0:x=0
 ·subst hx0
  have HGT:Hid (∀ w',Own w0 w' (RTab b o cur m L::Cells w.heap.size #[.int .u8 (q.k:Int),.int .i32 q.a,.int .i32 q.b,.int .i32 q.c] 46::l)→Calls Tryz.prog 215 #[.pointer (some ⟨b,o,none⟩),.int .u32 (id:Int),.int .u8 (q.k:Int)] w' fun e w''=>e=.returned (.tuple #[(tget m L id q.k).2.ag,.int .i64 ((tget m L id q.k).1:Int)])∧Own w0 w'' (RTab b o cur m L::Cells w.heap.size #[.int .u8 (q.k:Int),.int .i32 q.a,.int .i32 q.b,.int .i32 q.c] 46::l)):=fun w' h'=>rtgetC w0 w' _ b o cur m L h' hT hL id q.k hk
  have hbad:∀ cd:Nat,cd=7∨cd=10→tset m L id q=(cd,L)∧tget m L id q.k=(cd,⟨0,0,0,0⟩)→Calls Tryz.prog 168 #[.pointer (some ⟨b,o,none⟩),.int .u32 (id:Int),.agg #[.int .u8 (q.k:Int),.int .i32 q.a,.int .i32 q.b,.int .i32 q.c]] w fun e w'=>e=.returned (.int .i64 ((tset m L id q).1:Int))∧Own w0 w' (RTab b o cur m (tset m L id q).2::l):=by
   rintro cd hcd ⟨e1,e2⟩
   have HV:Hid (tset m L id q=(cd,L)):=e1
   rw [e2] at HGT
   simp only [Cp.ag] at HGT
   have hcd0:((cd:Int) != 0)=true:=by rw [bne_iff_ne];omega
   clear e1 e2 hx HQ
   obtain ⟨qk,qa,qb,qc⟩:=q
   simp only at z0 z1 z2 z3 HC HGT HA hk ⊢
   go_enter Tryz.func168,Tryz.ntmps168
   go_wp2_with fail
   refine HC.out.mono ?_
   rintro e w1 ⟨rfl,hf⟩
   have H1:Hid (Own w0 w1 _):=HA.out.quiet hf
   have y0:=(HA.out.quiet hf).cell 0
   simp at y0
   clear hf HC z0 z1 z2 z3
   go_wp2_with fail
   refine (HGT.out _ H1.out.two).mono ?_
   rintro e w2 ⟨rfl,hO2⟩
   have H2:Hid (Own w0 w2 _):=hO2
   clear hO2 H1 y0 HGT
   go_wp2
   go_ret
   rw [HV.out]
   exact ⟨rfl,(H2.out.two.tail).alloc _⟩
  cases hp:plc L id with
  | none=>exact hbad 7 (.inl rfl) (tset_none hx hp)
  | some r =>
   cases hb:bt m q.k with
   | false=>exact hbad 10 (.inr rfl) (tset_no hx hp hb)
   | true =>
    clear hbad
    obtain ⟨d,hd,hdi⟩:=(plc_some hT.ap id r).1 hp
    obtain ⟨did,C⟩:=d
    simp only at hdi
    subst hdi
    have hok:=hT.ok _ (List.mem_of_getElem? hd)
    have hC6:C.length≤6:=hT.c6 hd
    have hCk:∀ y∈C,y.k < 256:=fun y hy=>by have:=chk_k ((lst_ok hok.1).2 y hy).2;omega
    have hin:insc C q=setc C q:=insc_set (lst_ok hok.1).1 q (hasK_bt hok.2 hm hb)
    have HV:Hid (tset m L did q=(0,L.set r (did,insc C q))):=by show _=_;unfold tset;rw [if_neg (by simp [hx]),hp];simp [hb,hd,hin]
    have hrL:=(List.getElem?_eq_some_iff.1 hd).1
    have hg0:∃ y,tget m L did q.k=(0,y):=by unfold tget;rw [hp];simp [hb]
    obtain ⟨y,hy⟩:=hg0
    rw [hy] at HGT
    simp only [Cp.ag] at HGT
    have HRW:Hid (∀ w' l',Own w0 w' (RTab b o cur m L::l')→Calls Tryz.prog 164 #[.pointer (some ⟨b,o,none⟩),.int .u32 (did:Int)] w' fun e w''=>e=.returned (.int .i64 (r:Int))∧Fr Nobody w' w''):=fun w' l' h'=>by have:=rtrow w0 w' l' b o cur m L h' hT.ap hL did;rw [hp] at this;exact this
    have HLD:Hid (L[r]? = some (did,C)):=hd
    have hr0:¬ (r:Int) < 0:=by omega
    clear hx HQ hy hp hd hb hin hok hT
    obtain ⟨qk,qa,qb,qc⟩:=q
    obtain ⟨yk,ya,yb,yc⟩:=y
    simp only at z0 z1 z2 z3 HC HGT HA hk ⊢
    go_enter Tryz.func168,Tryz.ntmps168
    go_wp2_with fail
    refine HC.out.mono ?_
    rintro e w1 ⟨rfl,hf⟩
    have H1:Hid (Own w0 w1 _):=HA.out.quiet hf
    have y0:=(HA.out.quiet hf).cell 0
    simp at y0
    clear hf HC z0 z1 z2 z3 HA
    go_wp2_with fail
    refine (HGT.out _ H1.out.two).mono ?_
    rintro e w2 ⟨rfl,hO2⟩
    have H2:Hid (Own w0 (w2.alloc (.cells #[.int .u8 (yk:Int),.int .i32 ya,.int .i32 yb,.int .i32 yc] 46)) (RTab b o cur m L::Cells w.heap.size #[.int .u8 (qk:Int),.int .i32 qa,.int .i32 qb,.int .i32 qc] 46::l)):=hO2.alloc _
    clear hO2 H1 y0 HGT
    go_wp2_with fail
    refine (HRW.out _ _ H2.out).mono ?_
    rintro e w3 ⟨rfl,hf3⟩
    have hO3:=(H2.out.quiet hf3).drew
    obtain ⟨v,E,hE,hO⟩:=RTab.open hO3
    have hlen:E.length=L.length:=by rw [← hE,List.length_map]
    obtain ⟨g,ce,hvv,_⟩:=row_shape hO.two.row (by omega)
    subst hvv
    obtain ⟨d,hd⟩:∃ d,E[r]? = some d:=⟨_,List.getElem?_eq_getElem (by omega)⟩
    have hee:d.e=(did,C):=by
     have:(E.map REnt.e)[r]? = some d.e:=by rw [List.getElem?_map,hd];rfl
     rw [hE,HLD.out] at this
     exact (Option.some.inj this).symm
    obtain ⟨d1,d2,d3,d4⟩:=d
    have e1:d1=did:=(Prod.mk.inj hee).1
    have e2:d2=C:=(Prod.mk.inj hee).2
    subst e1 e2
    obtain ⟨_,p2⟩:=ecell hO.two r _ hd
    simp only at p2
    have p1:=hO.cell (o+1)
    rw [tcur_at HCU.out.2] at p1
    have hbx:∀ w' l2,Own w0 w' (Cells b (cur.setIfInBounds (o+1) (.slice (some ⟨g,0,none⟩) E.length ce)) 186::Row 76 2 (.slice (some ⟨g,0,none⟩) E.length ce) E.length (cat rcells E)::(E.map rrow++(Cells w.heap.size #[.int .u8 (qk:Int),.int .i32 qa,.int .i32 qb,.int .i32 qc] 46::l2)))→Own w0 w' (Cells w.heap.size #[.int .u8 (qk:Int),.int .i32 qa,.int .i32 qb,.int .i32 qc] 46::Cells b (cur.setIfInBounds (o+1) (.slice (some ⟨g,0,none⟩) E.length ce)) 186::Row 76 2 (.slice (some ⟨g,0,none⟩) E.length ce) E.length (cat rcells E)::(E.map rrow++l2)):=by
     intro w' l2 h'
     refine h'.perm ?_
     exact (List.perm_middle (l₁:=Cells b (cur.setIfInBounds (o+1) (.slice (some ⟨g,0,none⟩) E.length ce)) 186::Row 76 2 (.slice (some ⟨g,0,none⟩) E.length ce) E.length (cat rcells E)::E.map rrow) (l₂:=l2))
    have hB:=hbx _ _ hO
    have u0:=hB.cell 0
    have u1:=hB.cell 1
    have u2:=hB.cell 2
    have u3:=hB.cell 3
    simp at u0 u1 u2 u3
    have HWI:Hid (Calls _ _ _ _ _):=rwith_any w0 _ _ hO d3 d2.length d4 d2 rfl (fun w'' h''=>Own.rcs (Own.pick r _ hd h'') rfl) hCk (by omega) ⟨qk,qa,qb,qc⟩ hk
    simp only [Cp.ag] at HWI
    have HES:Hid (E.map REnt.e=L∧E[r]? = some (d1,d2,d3,d4)):=⟨hE,hd⟩
    have hen:r < E.length:=by omega
    have hen':(r:Int) < (E.length:Int):=by omega
    obtain ⟨I,hI⟩:∃ I,I=insc d2 ⟨qk,qa,qb,qc⟩:=⟨_,rfl⟩
    rw [← hI] at HWI HV
    have HFI:Hid (∀ w' a5 c5,Own w0 w' (Row 46 4 (.slice a5 I.length c5) I.length (ccat I)::Cells b (cur.setIfInBounds (o+1) (.slice (some ⟨g,0,none⟩) E.length ce)) 186::Row 76 2 (.slice (some ⟨g,0,none⟩) E.length ce) E.length (cat rcells E)::(E.map rrow++(Cells w.heap.size #[.int .u8 (qk:Int),.int .i32 qa,.int .i32 qb,.int .i32 qc] 46::l)))→Own w0 (w'.setCell ⟨g,r*2+1,none⟩ (.slice a5 I.length c5)) (RTab b o cur m (L.set r (d1,I))::l)):=by
     intro w' a5 c5 h5
     have h6:=(h5.three.setR (r*2+1) (.slice a5 I.length c5))
     have e3:=cat_set2 E r _ (d1,I,a5,c5) HES.out.2 rfl
     have e4:(cat rcells E).set (r*2+1) (.slice a5 I.length c5)=cat rcells (E.set r (d1,I,a5,c5)):=e3.symm
     rw [e4] at h6
     have h7:Own w0 (w'.setCell ⟨g,r*2+1,none⟩ (.slice a5 I.length c5)) (Cells b (cur.setIfInBounds (o+1) (.slice (some ⟨g,0,none⟩) E.length ce)) 186::Row 76 2 (.slice (some ⟨g,0,none⟩) E.length ce) E.length (cat rcells (E.set r (d1,I,a5,c5)))::(E.map rrow++(Row 46 4 (.slice a5 I.length c5) I.length (ccat I)::Cells w.heap.size #[.int .u8 (qk:Int),.int .i32 qa,.int .i32 qb,.int .i32 qc] 46::l))):=by
      refine h6.three.perm ?_
      refine List.Perm.cons _ (List.Perm.cons _ ?_)
      exact List.perm_middle.symm
     have h8:=(Own.pick r _ HES.out.2 h7).tail
     refine RTab.shut (v:=.slice (some ⟨g,0,none⟩) E.length ce) (E:=E.set r (d1,I,a5,c5)) (by rw [List.map_set,HES.out.1];rfl) HCU.out ?_
     rw [List.length_set]
     refine Own.unpick (E:=E) r (d1,I,a5,c5) (by rw [List.getElem?_set,if_pos rfl,if_pos hen]) (List.eraseIdx_set_eq) ?_
     have h9:Own w0 (w'.setCell ⟨g,r*2+1,none⟩ (.slice a5 I.length c5)) (Row 46 4 (.slice a5 I.length c5) I.length (ccat I)::Cells b (cur.setIfInBounds (o+1) (.slice (some ⟨g,0,none⟩) E.length ce)) 186::Row 76 2 (.slice (some ⟨g,0,none⟩) E.length ce) E.length (cat rcells (E.set r (d1,I,a5,c5)))::((E.eraseIdx r).map rrow++(Cells w.heap.size #[.int .u8 (qk:Int),.int .i32 qa,.int .i32 qb,.int .i32 qc] 46::l))):=by
      refine h8.perm ?_
      exact (List.perm_middle (l₁:=Cells b (cur.setIfInBounds (o+1) (.slice (some ⟨g,0,none⟩) E.length ce)) 186::Row 76 2 (.slice (some ⟨g,0,none⟩) E.length ce) E.length (cat rcells (E.set r (d1,I,a5,c5)))::(E.eraseIdx r).map rrow))
     have h10:Own w0 (w'.setCell ⟨g,r*2+1,none⟩ (.slice a5 I.length c5)) (Cells w.heap.size #[.int .u8 (qk:Int),.int .i32 qa,.int .i32 qb,.int .i32 qc] 46::Row 46 4 (.slice a5 I.length c5) I.length (ccat I)::Cells b (cur.setIfInBounds (o+1) (.slice (some ⟨g,0,none⟩) E.length ce)) 186::Row 76 2 (.slice (some ⟨g,0,none⟩) E.length ce) E.length (cat rcells (E.set r (d1,I,a5,c5)))::((E.eraseIdx r).map rrow++l)):=by
      refine h9.perm ?_
      exact (List.perm_middle (l₁:=Row 46 4 (.slice a5 I.length c5) I.length (ccat I)::Cells b (cur.setIfInBounds (o+1) (.slice (some ⟨g,0,none⟩) E.length ce)) 186::Row 76 2 (.slice (some ⟨g,0,none⟩) E.length ce) E.length (cat rcells (E.set r (d1,I,a5,c5)))::(E.eraseIdx r).map rrow))
     exact h10.tail
    have HCF:Hid (∀ w' a5 c5,Own w0 w' (Row 46 4 (.slice a5 I.length c5) I.length (ccat I)::Cells b (cur.setIfInBounds (o+1) (.slice (some ⟨g,0,none⟩) E.length ce)) 186::Row 76 2 (.slice (some ⟨g,0,none⟩) E.length ce) E.length (cat rcells E)::(E.map rrow++(Cells w.heap.size #[.int .u8 (qk:Int),.int .i32 qa,.int .i32 qb,.int .i32 qc] 46::l)))→w'.cell? ⟨b,o+1,none⟩=some (.slice (some ⟨g,0,none⟩) E.length ce)∧w'.cell? ⟨g,r*2+1,none⟩=some (.slice d3 d2.length d4)∧w'.frozen? ⟨g,r*2+1,none⟩=false):=by
     intro w' a5 c5 h5
     have t1:=h5.two.cell (o+1)
     rw [tcur_at HCU.out.2] at t1
     have t2:=(ecell h5.three r _ HES.out.2).2
     exact ⟨t1,t2,h5.three.row.frozenAt _⟩
    clear hO hB hO3 hf3 hE hd hee hI hbx HRW HLD H2 hlen
    generalize E.length=en at *
    generalize I.length=il at *
    generalize d2.length=dl at *
    go_wp2_with fail
    go_region_with (
     go_at_call 213
     refine HWI.out.mono ?_
     rintro e w5 ⟨a5,c5,rfl,hO5⟩
     obtain ⟨t1,t2,t3⟩:=HCF.out _ _ _ hO5
     have HF5:Hid (Own w0 _ (RTab b o cur m (L.set r (d1,I))::l)):=HFI.out _ _ _ hO5
     clear hO5)
    all_goals
     go_wp2
     go_ret
     rw [HV.out]
     exact ⟨rfl,HF5.out⟩
 ·have HV:Hid (tset m L id q=(x,L)):=by show _=_;unfold tset;rw [if_pos (by rw [hx];exact hx0),hx]
  have hx1:((x:Int) != 0)=true:=by simpa using hx0
  clear hx HQ
  obtain ⟨qk,qa,qb,qc⟩:=q
  simp only at z0 z1 z2 z3 HC HA hk ⊢
  go_enter Tryz.func168,Tryz.ntmps168
  go_wp2_with fail
  refine HC.out.mono ?_
  rintro e w1 ⟨rfl,hf⟩
  have H1:Hid (Own w0 w1 _):=HA.out.quiet hf
  clear hf HC z0 z1 z2 z3
  go_wp2
  go_ret
  rw [HV.out]
  exact ⟨rfl,H1.out.tail⟩
end
end Go.Proofs.YtogmdoiecpihdaaGreatDoor
