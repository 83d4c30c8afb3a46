/- slices.Insert of one component. -/
import Derived.Test.YtogmdoiecpihdaaGreatDoorQs12
import Derived.Lib.Overlaps
import Derived.Lib.AppendZerosOnto
import Derived.Laws.CopyRow
import Derived.Test.YtogmdoiecpihdaaGreatDoorQs15
namespace Go.Proofs.YtogmdoiecpihdaaGreatDoor
open Go.RowKit
set_option linter.unusedVariables false
set_option maxHeartbeats 2000000
set_option maxRecDepth 100000
theorem run_copy_sz {P:Program} (w:World) (dT sT ty elem:TypeId) (g o dLen dCap:Nat) (a:Addr) (sLen sCap:Nat) (cur:Array Value) (t:TypeId) (cs:List Value) (size k:Nat)
  (hu:P.underlying dT=some (.slice elem)) (hs:(P.info? elem).map (·.size)=some size) (hsz:0 < size)
  (hg:w.heap[g]? = some (.cells cur t (0,0))) (hk:k=Nat.min sLen dLen) (hn:cs.length=k*size)
  (hsrc:∀ j v,cs[j]? = some v→w.cell? (a.add j)=some v) (hfit:o+cs.length≤cur.size) (h1:∀ v∈cs,v.oneCell'=true) :
  (Builtin.copy_ #[dT,sT] ty #[.slice (some ⟨g,o,none⟩) dLen dCap,.slice (some a) sLen sCap]).run P w =
   .ok (goInt k) (w.setRow g (cur.toList.take o++cs++cur.toList.drop (o+cs.length)).toArray):=by
 have hl:=run_loadCells_list (P:=P) w a cs hsrc
 have hst:=run_storeCells_at P g o t cs 0 cur w hg (by simpa using hfit) h1
 cases hq:P.info? elem with
 | none=>simp [hq] at hs
 | some i =>
  have hi:i.size=size:=by simpa [hq] using hs
  rw [hn] at hl
  simp [Builtin.copy_,run_underlying hu,Builtin.lenOf,Builtin.firstCells,sizeOf,typeInfo,hq,hi,← hk,hl,hst]
theorem step_cp {P:Program} {ops:Array Oper} {o:Oper} {a:Act} {w:World} {K:Act→World→Prop} {Q:Exit→Act→World→Prop} {E:Prop}
  (hg:o.guard=none) (s x:Operand) (t t':TypeId) (hop:o.op=Op.call { callee:=Callee.builtin Builtin.copy,args:=#[s,x],argTypes:=#[t,t'] })
  (vs vx v':Value) (w':World) (hs:a.eval s=vs) (hx:a.eval x=vx) (hrun:∀ ty,(Builtin.copy_ #[t,t'] ty #[vs,vx]).run P w=.ok v' w')
  (hK:K (a.put o.dst v') w') :
  if Region.wanted o (yielded ops a.tmps)=true then Oper.wp P o a w K Q else E:=by
 have hw:Region.wanted o (yielded ops a.tmps)=true:=by simp [Region.wanted,hg]
 rw [if_pos hw]
 unfold Oper.wp
 simp [execOp,hop,resolve,invoke,builtin,hs,hx,hrun,Result.andThen]
 exact hK
theorem Own.rowCur {w0 w:World} {l:List Thing} {e:TypeId} {size n g cap:Nat} {xs:List Value} (h:Own w0 w (Row e size (.slice (some ⟨g,0,none⟩) n cap) n xs::l)):∃ cur:Array Value,w.heap[g]? = some (.cells cur e (0,0))∧n≤cap∧cap≤maxLen∧cur.size=cap*size∧cur.toList.take (n*size)=xs:=by
 rcases h.row.2 with ⟨h0,_⟩ | ⟨g',cap',cur,h0,_,h1,h2,h3,h4,h5⟩
 ·cases h0
 ·cases h0
  exact ⟨cur,h1,h2,h3,h4,h5⟩
theorem Own.rowSet {w0 w:World} {l:List Thing} {e:TypeId} {size n g cap:Nat} {xs:List Value} (h:Own w0 w (Row e size (.slice (some ⟨g,0,none⟩) n cap) n xs::l)) {cur:Array Value} (hg:w.heap[g]? = some (.cells cur e (0,0))) (cur':Array Value) (m:Nat) (hm:m≤cap) (hc:cap≤maxLen) (hsz:cur'.size=cap*size) (ys:List Value) (ht:cur'.toList.take (m*size)=ys) :
  Own w0 (w.setRow g cur') (Row e size (.slice (some ⟨g,0,none⟩) m cap) m ys::l):=by
 obtain ⟨A,⟨hb,hA⟩,hlo,k⟩:=h.act
 have hl:ys.length=m*size:=by
  rw [← ht,List.length_take,Array.length_toList,hsz]
  exact Nat.min_eq_left (Nat.mul_le_mul_right _ hm)
 refine k _ (Row e size (.slice (some ⟨g,0,none⟩) m cap) m ys) A ⟨⟨hl,.inr ⟨g,cap,cur',rfl,Nat.zero_le _,setRow_heap w g cur cur' e _ hg,hm,hc,hsz,ht⟩⟩,hA⟩ ?_ (fun _ a=>.inl a)
 exact ⟨rfl,rfl,rfl,by simp [World.setRow],fun j hj hn=>setRow_other w g j cur' (fun q=>hn ((hA j).2 (by rw [q];rfl)))⟩
theorem ccat_take (L:List Cp) (i:Nat):(ccat L).take (i*4)=ccat (L.take i):=cat_take Cp.cs 4 cs_len L i
theorem ccat_drop (L:List Cp) (i:Nat):(ccat L).drop (i*4)=ccat (L.drop i):=cat_drop Cp.cs 4 cs_len L i
theorem one_ccat (L:List Cp):∀ u∈ccat L,u.oneCell'=true:=one_cat Cp.cs cs_one L
def Cp.ar (q:Cp):Array Value:=#[.int .u8 (q.k:Int),.int .i32 q.a,.int .i32 q.b,.int .i32 q.c]
theorem Cp.ar_list (q:Cp):q.ar.toList=q.cs:=rfl
theorem ccat_one (q:Cp):ccat [q]=q.cs:=by simp [ccat,cat]
theorem ccat_app (L M:List Cp):ccat (L++M)=ccat L++ccat M:=cat_append _ _ _
theorem insert_end (w0 w:World) (l:List Thing) (L:List Cp) (c:Cp) (ao:Option Addr) (n cap B:Nat) (hn:L.length=n) (hn6:n≤1000) (h:Own w0 w (Row 46 4 (.slice ao n cap) n (ccat L)::Cells B c.ar 46::l)) :
  Calls Tryz.prog 251 #[.slice ao n cap,.int .i64 (n:Int),.slice (some ⟨B,0,none⟩) 1 1] w fun e w'=>∃ ao' cap',e=.returned (.slice ao' (n+1) cap')∧Own w0 w' (Row 46 4 (.slice ao' (n+1) cap') (n+1) (ccat (L++[c]))::Cells B c.ar 46::l):=by
 obtain ⟨i0,hi,hz0,hz1,hz2⟩:=info_parts Tryz.infoComp
 have HN:Hid (∀ j u,c.cs[j]? = some u→w.cell? ((⟨B,0,none⟩:Addr).add j)=some u):=by
  intro j u hu
  rw [addr_add,Nat.zero_add,h.two.cell]
  rw [← Cp.ar_list,Array.getElem?_toList] at hu
  exact hu
 have H:Hid (Own w0 w _):=h
 have HO:Hid (∀ u∈c.cs,u.oneCell'=true):=cs_one c
 have he:((n:Int) == (n:Int))=true:=by simp
 clear h hn
 cases ao with
 | none =>
  have h0:n=0:=by
   rcases H.out.row.2 with ⟨hv,h0⟩ | ⟨g',cap',cur,hv,_⟩
   ·exact h0
   ·cases hv
  subst h0
  go_enter Tryz.func251,Tryz.ntmps251
  go_wp2_with (at_builtin;refine append_own rfl _ _ 39 rfl 46 i0 _ 4 16 Tryz.underlying39 hi hz0 hz1 hz2 rfl (by decide) _ 0 (ccat L) rfl H.out ⟨B,0,none⟩ 1 1 c.cs rfl rfl HN.out HO.out (by decide) (by unfold maxLen;omega) (by omega) ?_)
  intro g cap' w' hO hsz
  have H1:Hid (Own w0 w' (Row 46 4 (.slice (some ⟨g,0,none⟩) (0+1) cap') (0+1) (ccat (L++[c]))::Cells B c.ar 46::l)):=by
   show Own _ _ _
   rw [ccat_app,ccat_one];exact hO
  clear hO hsz H
  go_wp2
  go_ret
  exact ⟨_,_,rfl,H1.out⟩
 | some a =>
  obtain ⟨g,rfl⟩:∃ g,a=⟨g,0,none⟩:=by
   rcases H.out.row.2 with ⟨hv,h0⟩ | ⟨g',cap',cur,hv,_⟩
   ·cases hv
   ·exact ⟨g',by simpa using (Value.slice.inj hv).1⟩
  obtain ⟨cur,_,hnc,hcm,_⟩:=H.out.rowCur
  unfold maxLen at hcm
  go_enter Tryz.func251,Tryz.ntmps251
  go_wp2_with (at_builtin;refine append_own rfl _ _ 39 rfl 46 i0 _ 4 16 Tryz.underlying39 hi hz0 hz1 hz2 rfl (by decide) _ n (ccat L) rfl H.out ⟨B,0,none⟩ 1 1 c.cs rfl rfl HN.out HO.out (by decide) (by unfold maxLen;omega) (by omega) ?_)
  all_goals
   intro g cap' w' hO hsz
   have H1:Hid (Own w0 w' (Row 46 4 (.slice (some ⟨g,0,none⟩) (n+1) cap') (n+1) (ccat (L++[c]))::Cells B c.ar 46::l)):=by
    show Own _ _ _
    rw [ccat_app,ccat_one];exact hO
   clear hO hsz H
   go_wp2
   go_ret
   exact ⟨_,_,rfl,H1.out⟩
theorem cur_at {L:List Cp} {cur:Array Value} {n:Nat} (htk:cur.toList.take (n*4)=ccat L) (i j:Nat) (v:Value) (hv:(ccat (L.drop i))[j]? = some v):cur[i*4+j]? = some v:=by
 rw [← ccat_drop,List.getElem?_drop,← htk,List.getElem?_take] at hv
 split at hv
 ·rw [← Array.getElem?_toList];exact hv
 ·cases hv
theorem insert_fit (w0 w:World) (l:List Thing) (L:List Cp) (c:Cp) (g n cap B i:Nat) (hn:L.length=n) (hi:i < n) (hn6:n≤1000) (hroom:n+1≤cap) (h:Own w0 w (Row 46 4 (.slice (some ⟨g,0,none⟩) n cap) n (ccat L)::Cells B c.ar 46::l)) :
  Calls Tryz.prog 251 #[.slice (some ⟨g,0,none⟩) n cap,.int .i64 (i:Int),.slice (some ⟨B,0,none⟩) 1 1] w fun e w'=>e=.returned (.slice (some ⟨g,0,none⟩) (n+1) cap)∧Own w0 w' (Row 46 4 (.slice (some ⟨g,0,none⟩) (n+1) cap) (n+1) (ccat (L.take i++c::L.drop i))::Cells B c.ar 46::l):=by
 obtain ⟨i0,hi0,hz0,hz1,hz2⟩:=info_parts Tryz.infoComp
 have hinfo:(Tryz.prog.info? 46).map (·.size)=some 4:=by rw [hi0];simp [hz1]
 obtain ⟨cur,hg,hnc,hcm,hsz,htk⟩:=h.rowCur
 have hBg:B≠g:=fun e=>h.two.ne (by rw [e];rfl)
 have hD:(ccat (L.drop i)).length=(n - i)*4:=by rw [length_ccat,List.length_drop,hn]
 have hcl:cur.toList.length=cap*4:=by rw [Array.length_toList,hsz]
 obtain ⟨D,hDD⟩:∃ D,D=ccat (L.drop i):=⟨_,rfl⟩
 rw [← hDD] at hD
 obtain ⟨cur1,hc1⟩:∃ cur1,cur1=(cur.toList.take ((i+1)*4)++D++cur.toList.drop ((i+1)*4+D.length)).toArray:=⟨_,rfl⟩
 have hs1:cur1.size=cap*4:=by
  rw [hc1];simp only [List.size_toArray,List.length_append,List.length_take,List.length_drop,hcl,hD];omega
 have ht1:cur1.toList.take (i*4)=ccat (L.take i):=by
  rw [hc1,List.append_assoc,List.take_append_of_le_length (by rw [List.length_take,hcl];omega),List.take_take,Nat.min_eq_left (by omega),← ccat_take,← htk,List.take_take,Nat.min_eq_left (by omega)]
 have hd1:cur1.toList.drop ((i+1)*4)=D++cur.toList.drop ((i+1)*4+D.length):=by
  rw [hc1,List.append_assoc]
  rw [List.drop_append_of_le_length (by rw [List.length_take,hcl];omega)]
  rw [List.drop_eq_nil_of_le (by rw [List.length_take];omega)];rfl
 obtain ⟨cur2,hc2⟩:∃ cur2,cur2=(cur1.toList.take (i*4)++c.cs++cur1.toList.drop (i*4+c.cs.length)).toArray:=⟨_,rfl⟩
 have hs2:cur2.size=cap*4:=by
  rw [hc2];simp only [List.size_toArray,List.length_append,List.length_take,List.length_drop,Array.length_toList,hs1,cs_len];omega
 have ht2:cur2.toList.take ((n+1)*4)=ccat (L.take i++c::L.drop i):=by
  have e:i*4+c.cs.length=(i+1)*4:=by rw [cs_len];omega
  have e2:ccat (L.take i++c::L.drop i)=ccat (L.take i)++c.cs++D:=by
   rw [ccat_app,show c::L.drop i=[c]++L.drop i from rfl,ccat_app,ccat_one,← hDD,List.append_assoc]
  rw [hc2,e,ht1,hd1,e2]
  show List.take _ (ccat (L.take i)++c.cs++(D++_))=_
  rw [← List.append_assoc,List.take_append_of_le_length (by simp only [List.length_append,length_ccat,List.length_take,cs_len,hD,hn];omega)]
  exact List.take_of_length_le (by simp only [List.length_append,length_ccat,List.length_take,cs_len,hD,hn];omega)
 have hov:∀ lb cb,(callFunc 258 #[.slice (some ⟨B,0,none⟩) 1 1,.slice (some ⟨g,(i+1)*4,none⟩) lb cb]).run Tryz.prog w=.ok (.value (.bool false)) w:=fun lb cb=>by
  rw [run_callFunc_extern Tryz.func258 (by kernel_rfl) (by kernel_rfl) (by kernel_rfl) (e:=Extern.SlicesOverlaps.overlaps #[39,39] #[4]) (by kernel_rfl),
   Lib.run_overlaps_apart w 39 4 46 Tryz.underlying39 4 (fun w=>by simp [sizeOf,typeInfo,hi0,hz1]) ⟨B,0,none⟩ ⟨g,(i+1)*4,none⟩ 1 1 lb cb hBg 46 46 4 (cap*4) (by simp [World.shape?,h.two.obj,Cp.ar]) (by simp [World.shape?,hg,hsz]) (by omega) (h.two.froz 0) (h.two.froz 4)]
  rfl
 have hcp1:∀ dc sc ty,(Builtin.copy_ #[39,39] ty #[.slice (some ⟨g,(i+1)*4,none⟩) (n - i) dc,.slice (some ⟨g,i*4,none⟩) (n+1 - i) sc]).run Tryz.prog w.drew=.ok (goInt ((n - i:Nat):Int)) (w.drew.setRow g cur1):=fun dc sc ty=>by
  rw [hc1]
  exact run_copy_sz w.drew 39 39 ty 46 g ((i+1)*4) (n - i) dc ⟨g,i*4,none⟩ (n+1 - i) sc cur 46 D 4 (n - i) Tryz.underlying39 hinfo (by decide) hg (by simp only [Nat.min_def];split <;> omega) hD (fun j v hj=>by
   rw [addr_add]
   show w.cell? _=_
   simp only [World.cell?,hg]
   rw [hDD] at hj
   exact cur_at htk i j v hj) (by rw [hsz,hD];omega) (by rw [hDD];exact one_ccat _)
 have hO1:=h.drew.rowSet hg cur1 n hnc hcm hs1 _ rfl
 have hg1:=setRow_heap w.drew g cur cur1 46 _ hg
 obtain ⟨w1,hw1⟩:∃ w1,w1=w.drew.setRow g cur1:=⟨_,rfl⟩
 rw [← hw1] at hcp1 hO1 hg1
 have hcp2:∀ dc ty,(Builtin.copy_ #[39,39] ty #[.slice (some ⟨g,i*4,none⟩) (n+1 - i) dc,.slice (some ⟨B,0,none⟩) 1 1]).run Tryz.prog w1=.ok (goInt 1) (w1.setRow g cur2):=fun dc ty=>by
  rw [hc2]
  exact run_copy_sz w1 39 39 ty 46 g (i*4) (n+1 - i) dc ⟨B,0,none⟩ 1 1 cur1 46 c.cs 4 1 Tryz.underlying39 hinfo (by decide) hg1 (by simp only [Nat.min_def];split <;> omega) rfl (fun j v hj=>by
   rw [addr_add,Nat.zero_add,hO1.two.cell]
   rw [← Cp.ar_list,Array.getElem?_toList] at hj
   exact hj) (by rw [hs1,cs_len];omega) (cs_one c)
 have HF:Hid (Own w0 (w1.setRow g cur2) (Row 46 4 (.slice (some ⟨g,0,none⟩) (n+1) cap) (n+1) (ccat (L.take i++c::L.drop i))::Cells B c.ar 46::l)):=hO1.rowSet hg1 cur2 (n+1) hroom hcm hs2 _ ht2
 unfold maxLen at hcm
 have HC1:Hid _:=hcp1
 have HC2:Hid _:=hcp2
 clear hw1 hcp1 hcp2 hO1 hg1 ht2 hs2 hc2 hd1 ht1 hs1 hc1 hD hDD hcl htk hsz hg h hn hinfo hz0 hz1 hz2 hi0
 have f1:¬ (i:Int)=(n:Int):=by omega
 have f2:(n:Int)+1≤(cap:Int):=by omega
 have f3:¬ cap=i+1:=by omega
 have f4:¬ cap=i:=by omega
 have f5:(i:Int)≤(n:Int):=by omega
 have f6:((i:Int)+1).toNat=i+1:=by omega
 have f7:(i:Int)≤(n:Int)+1:=by omega
 have f8:(i:Int)+1≤(n:Int)+1:=by omega
 have f9:i+1≤n+1:=by omega
 have f10:((n:Int)+1).toNat=n+1:=by omega
 have f11:IntKind.i64.wrap ((i:Int)+1)=(i:Int)+1:=by rw [IntKind.wrap_i64];omega
 have f12:(0:Int)≤(i:Int)+1:=by omega
 go_enter Tryz.func251,Tryz.ntmps251
 go_wp2_with (simp only [hov])
 go_region_law (refine step_cp rfl (.tmp 73) (.tmp 76) 39 39 rfl (.slice (some ⟨g,(i+1)*4,none⟩) (n - i) (cap - (i+1))) (.slice (some ⟨g,i*4,none⟩) (n+1 - i) (cap - i)) _ _ (by simp [Act.eval,Act.put]) (by simp [Act.eval,Act.put]) (HC1.out _ _) ?_)
 all_goals
  have hc2:=HC2.out (cap - i)
  go_wp2
  go_ret
  exact ⟨rfl,HF.out⟩
theorem insert_grow (w0 w:World) (l:List Thing) (L:List Cp) (c:Cp) (g n cap B i:Nat) (hn:L.length=n) (hi:i < n) (hn6:n≤1000) (hroom:cap < n+1) (h:Own w0 w (Row 46 4 (.slice (some ⟨g,0,none⟩) n cap) n (ccat L)::Cells B c.ar 46::l)) :
  Calls Tryz.prog 251 #[.slice (some ⟨g,0,none⟩) n cap,.int .i64 (i:Int),.slice (some ⟨B,0,none⟩) 1 1] w fun e w'=>∃ ao' cap',e=.returned (.slice ao' (n+1) cap')∧Own w0 w' (Row 46 4 (.slice ao' (n+1) cap') (n+1) (ccat (L.take i++c::L.drop i))::Cells B c.ar 46::l):=by
 obtain ⟨i0,hi0,hz0,hz1,hz2⟩:=info_parts Tryz.infoComp
 have hinfo:(Tryz.prog.info? 46).map (·.size)=some 4:=by rw [hi0];simp [hz1]
 obtain ⟨cur,hg,hnc,hcm,hsz,htk⟩:=h.rowCur
 have hlt:g < w.heap.size:=(Array.getElem?_eq_some_iff.1 hg).1
 have hBg:B≠g:=fun e=>h.two.ne (by rw [e];rfl)
 have hcap:n=cap:=by omega
 obtain ⟨k,hk⟩:∃ k,k=n+1 - i:=⟨_,rfl⟩
 have hik:i+k=n+1:=by omega
 have hold:(Builtin.firstCells i0.size i (.slice (some ⟨g,0,none⟩) i cap)).run Tryz.prog w.drew=.ok (ccat (L.take i)).toArray w.drew:=by
  rw [hz1]
  refine run_firstCells_some (P:=Tryz.prog) w.drew 4 i ⟨g,0,none⟩ i cap (ccat (L.take i)) (by rw [length_ccat,List.length_take,hn,Nat.min_eq_left (by omega)]) ?_
  intro j u hu
  rw [addr_add,Nat.zero_add]
  show w.cell? _=_
  rw [← ccat_take,List.getElem?_take] at hu
  split at hu
  ·have:=h.row.cells (g:=g) rfl j u hu
   rw [addr_add,Nat.zero_add] at this
   exact this
  ·cases hu
 have hrz:∀ ty,_:=fun ty=>Lib.run_append_grow_zeros (P:=Tryz.prog) w 39 3 ty 46 i0 (.agg #[.int .u8 0,.int .i32 0,.int .i32 0,.int .i32 0]) .i64 .i64 Tryz.underlying39 Tryz.underlying3 hi0 hz0 (some ⟨g,0,none⟩) i cap (ccat (L.take i)) hold k (by omega) (by rw [hz1];decide) (by omega) (by omega) (by rw [hz2];omega) (growslice_fits (by omega) (by rw [hz2];omega))
 rw [hik] at hrz
 obtain ⟨G,hG⟩:∃ G,G=grownCap w (n+1) cap 46:=⟨_,rfl⟩
 have hGn:n+1≤G:=by rw [hG];exact grownCap_ge w _ _ _
 have hGm:G≤maxLen:=by rw [hG];exact grownCap_le_maxLen w (n+1) cap 46 (by unfold maxLen;omega)
 obtain ⟨cur0,hc0⟩:∃ cur0,cur0=(ccat (L.take i)).toArray++Builtin.zeroCells (Value.cells (.agg #[.int .u8 0,.int .i32 0,.int .i32 0,.int .i32 0])) k++Builtin.zeroCells (Value.cells (.agg #[.int .u8 0,.int .i32 0,.int .i32 0,.int .i32 0])) (G - (n+1)):=⟨_,rfl⟩
 rw [← hG,← hc0] at hrz
 have hzz:(Value.cells (.agg #[.int .u8 0,.int .i32 0,.int .i32 0,.int .i32 0])).size=4:=rfl
 have hil:(ccat (L.take i)).length=i*4:=by rw [length_ccat,List.length_take,hn,Nat.min_eq_left (by omega)]
 have hs0:cur0.size=G*4:=by
  rw [hc0];simp only [Array.size_append,List.size_toArray,size_zeroCells,hzz,hil];omega
 have ht0:cur0.toList.take (i*4)=ccat (L.take i):=by
  rw [hc0];simp only [Array.toList_append,List.append_assoc]
  rw [← hil];exact List.take_left
 obtain ⟨N,hN⟩:∃ N,N=w.heap.size:=⟨_,rfl⟩
 rw [← hN] at hrz
 have hNg:N≠g:=by omega
 have hBN:B≠N:=by have:=h.two.lt;omega
 obtain ⟨w1,hw1⟩:∃ w1,w1=w.drew.alloc (.cells cur0 46):=⟨_,rfl⟩
 rw [← hw1] at hrz
 have hg1:w1.heap[N]? = some (.cells cur0 46 (0,0)):=by rw [hw1,hN];exact heap_alloc_new w.drew _
 have hO1:Own w0 w1 (Row 46 4 (.slice (some ⟨N,0,none⟩) (n+1) G) (n+1) (cur0.toList.take ((n+1)*4))::Row 46 4 (.slice (some ⟨g,0,none⟩) n cap) n (ccat L)::Cells B c.ar 46::l):=by
  refine h.new (w':=w1) (Row 46 4 (.slice (some ⟨N,0,none⟩) (n+1) G) (n+1) (cur0.toList.take ((n+1)*4))) (fun j=>j=N) ⟨⟨?_,.inr ⟨N,G,cur0,rfl,Nat.zero_le _,hg1,hGn,hGm,hs0,rfl⟩⟩,fun j=>by simp [Value.ownBlock];exact eq_comm⟩ (by rw [hw1];exact (Fr.refl _ _).drew.alloc _) (fun j hj=>by omega)
  rw [List.length_take,Array.length_toList,hs0];omega
 -- the new one in its place
 obtain ⟨cur1,hc1⟩:∃ cur1,cur1=(cur0.toList.take (i*4)++c.cs++cur0.toList.drop (i*4+c.cs.length)).toArray:=⟨_,rfl⟩
 have hs1:cur1.size=G*4:=by
  rw [hc1];simp only [List.size_toArray,List.length_append,List.length_take,List.length_drop,Array.length_toList,hs0,cs_len];omega
 have hcp1:∀ dc ty,(Builtin.copy_ #[39,39] ty #[.slice (some ⟨N,i*4,none⟩) (n+1 - i) dc,.slice (some ⟨B,0,none⟩) 1 1]).run Tryz.prog w1=.ok (goInt 1) (w1.setRow N cur1):=fun dc ty=>by
  rw [hc1]
  exact run_copy_sz w1 39 39 ty 46 N (i*4) (n+1 - i) dc ⟨B,0,none⟩ 1 1 cur0 46 c.cs 4 1 Tryz.underlying39 hinfo (by decide) hg1 (by simp only [Nat.min_def];split <;> omega) rfl (fun j v hj=>by
   rw [addr_add,Nat.zero_add,hO1.three.cell]
   rw [← Cp.ar_list,Array.getElem?_toList] at hj
   exact hj) (by rw [hs0,cs_len];omega) (cs_one c)
 have hO2:=hO1.rowSet hg1 cur1 (n+1) hGn hGm hs1 _ rfl
 have hg2:=setRow_heap w1 N cur0 cur1 46 _ hg1
 obtain ⟨w2,hw2⟩:∃ w2,w2=w1.setRow N cur1:=⟨_,rfl⟩
 rw [← hw2] at hcp1 hO2 hg2
 obtain ⟨D,hDD⟩:∃ D,D=ccat (L.drop i):=⟨_,rfl⟩
 have hD:D.length=(n - i)*4:=by rw [hDD,length_ccat,List.length_drop,hn]
 obtain ⟨cur2,hc2⟩:∃ cur2,cur2=(cur1.toList.take ((i+1)*4)++D++cur1.toList.drop ((i+1)*4+D.length)).toArray:=⟨_,rfl⟩
 have hs2:cur2.size=G*4:=by
  rw [hc2];simp only [List.size_toArray,List.length_append,List.length_take,List.length_drop,Array.length_toList,hs1,hD];omega
 have hcp2:∀ dc sc ty,(Builtin.copy_ #[39,39] ty #[.slice (some ⟨N,(i+1)*4,none⟩) (n - i) dc,.slice (some ⟨g,i*4,none⟩) (n - i) sc]).run Tryz.prog w2.drew=.ok (goInt ((n - i:Nat):Int)) (w2.drew.setRow N cur2):=fun dc sc ty=>by
  rw [hc2]
  exact run_copy_sz w2.drew 39 39 ty 46 N ((i+1)*4) (n - i) dc ⟨g,i*4,none⟩ (n - i) sc cur1 46 D 4 (n - i) Tryz.underlying39 hinfo (by decide) hg2 (by simp only [Nat.min_def];split <;> omega) hD (fun j v hj=>by
   have r:=hO2.two.row
   have hj2:=(List.getElem?_eq_some_iff.1 hj).1
   rw [hD] at hj2
   rw [addr_add]
   show w2.cell? _=_
   rw [r.cellAt _ (by omega)]
   rw [hDD,← ccat_drop,List.getElem?_drop] at hj
   exact hj) (by rw [hs1,hD];omega) (by rw [hDD];exact one_ccat _)
 have ht2:cur2.toList.take ((n+1)*4)=ccat (L.take i++c::L.drop i):=by
  have e1:cur1.toList.take ((i+1)*4)=ccat (L.take i)++c.cs:=by
   rw [hc1,ht0]
   show List.take _ (ccat (L.take i)++c.cs++_)=_
   rw [List.take_append_of_le_length (by rw [List.length_append,hil,cs_len];omega)]
   exact List.take_of_length_le (by rw [List.length_append,hil,cs_len];omega)
  have e2:ccat (L.take i++c::L.drop i)=ccat (L.take i)++c.cs++D:=by
   rw [ccat_app,show c::L.drop i=[c]++L.drop i from rfl,ccat_app,ccat_one,← hDD,List.append_assoc]
  rw [hc2,e1,e2]
  show List.take _ (ccat (L.take i)++c.cs++D++_)=_
  rw [List.take_append_of_le_length (by simp only [List.length_append,hil,cs_len,hD];omega)]
  exact List.take_of_length_le (by simp only [List.length_append,hil,cs_len,hD];omega)
 have HF:Hid (Own w0 (w2.drew.setRow N cur2) (Row 46 4 (.slice (some ⟨N,0,none⟩) (n+1) G) (n+1) (ccat (L.take i++c::L.drop i))::Cells B c.ar 46::l)):=(hO2.drew.rowSet hg2 cur2 (n+1) hGn hGm hs2 _ ht2).two.tail
 unfold maxLen at hGm hcm
 have HC1:Hid _:=hcp1
 have HC2:Hid _:=hcp2
 have HRZ:Hid _:=hrz
 have hkI:(n:Int)+1 - (i:Int)=(k:Int):=by omega
 have hk1:0 < k:=by omega
 have hk2:k≤1001:=by omega
 subst hcap
 clear hk hik
 clear hcp1 hcp2 hrz hO1 hO2 hg1 hg2 ht2 hs2 hc2 hs1 hc1 hs0 ht0 hc0 hD hDD htk hsz hg h hn hinfo hz0 hz1 hz2 hi0 hw1 hw2 hold hG hzz hil hN
 have f1:¬ (i:Int)=(n:Int):=by omega
 have f3:¬ G=i+1:=by omega
 have f4:¬ n=i:=by omega
 have f4b:¬ G=i:=by omega
 have f5:(i:Int)≤(n:Int):=by omega
 have f6:((i:Int)+1).toNat=i+1:=by omega
 have f7:(i:Int)≤(n:Int)+1:=by omega
 have f8:(i:Int)+1≤(n:Int)+1:=by omega
 have f9:i+1≤n+1:=by omega
 have f10:((n:Int)+1).toNat=n+1:=by omega
 have f11:IntKind.i64.wrap ((i:Int)+1)=(i:Int)+1:=by rw [IntKind.wrap_i64];omega
 have f12:(0:Int)≤(i:Int)+1:=by omega
 have hc1:=HC1.out (G - i)
 go_enter Tryz.func251,Tryz.ntmps251
 go_wp2_with (at_builtin;refine Lib.wpList_append_run _ rfl _ _ _ _ rfl _ _ rfl rfl _ _ (HRZ.out _) ?_)
 go_region_law (refine step_cp rfl (.tmp 50) (.tmp 53) 39 39 rfl (.slice (some ⟨N,(i+1)*4,none⟩) (n - i) (G - (i+1))) (.slice (some ⟨g,i*4,none⟩) (n - i) (n - i)) _ _ (by simp [Act.eval,Act.put]) (by simp [Act.eval,Act.put]) (HC2.out _ _) ?_)
 all_goals
  go_wp2
  go_ret
  exact ⟨_,_,rfl,HF.out⟩
theorem insert_any (w0 w:World) (l:List Thing) (L:List Cp) (c:Cp) (ao:Option Addr) (n cap B i:Nat) (hn:L.length=n) (hi:i≤n) (hn6:n≤1000) (h:Own w0 w (Row 46 4 (.slice ao n cap) n (ccat L)::Cells B c.ar 46::l)) :
  Calls Tryz.prog 251 #[.slice ao n cap,.int .i64 (i:Int),.slice (some ⟨B,0,none⟩) 1 1] w fun e w'=>∃ ao' cap',e=.returned (.slice ao' (n+1) cap')∧Own w0 w' (Row 46 4 (.slice ao' (n+1) cap') (n+1) (ccat (L.take i++c::L.drop i))::Cells B c.ar 46::l):=by
 by_cases hin:i=n
 ·subst hin
  have e:L.take i++c::L.drop i=L++[c]:=by rw [List.take_of_length_le (by omega),List.drop_of_length_le (by omega)]
  rw [e]
  exact insert_end w0 w l L c ao i cap B hn hn6 h
 ·obtain ⟨g,cap',hv,_⟩:=row_shape h.row (by omega)
  have hao:=(Value.slice.inj hv).1
  subst hao
  by_cases hr:n+1≤cap
  ·refine (insert_fit w0 w l L c g n cap B i hn (by omega) hn6 hr h).mono ?_
   rintro e w' ⟨rfl,hO⟩
   exact ⟨_,_,rfl,hO⟩
  ·exact insert_grow w0 w l L c g n cap B i hn (by omega) hn6 (by omega) h
def insw (L:List Cp) (c:Cp):List Cp:=L.takeWhile (fun q=>decide (q.k < c.k))++c::L.dropWhile (fun q=>decide (q.k < c.k))
theorem insw_at (L:List Cp) (c:Cp) (j:Nat) (h1:∀ q∈L.take j,q.k < c.k) (h2:∀ q,L[j]? = some q→c.k≤q.k):L.take j++c::L.drop j=insw L c:=by
 induction L generalizing j with
 | nil=>simp [insw]
 | cons a L ih =>
  cases j with
  | zero =>
   have:=h2 a rfl
   have hn:¬ a.k < c.k:=by omega
   simp [insw,hn]
  | succ j =>
   have ha:a.k < c.k:=h1 a (by simp)
   have:=ih j (fun q hq=>h1 q (by simp [hq])) (fun q hq=>h2 q (by simpa using hq))
   simp only [insw] at this ⊢
   simp [ha,this]
theorem with_ok (w0 w:World) (l:List Thing) (L:List Cp) (c:Cp) (ao:Option Addr) (n cap:Nat) (hn:L.length=n) (hn6:n≤1000) (h:Own w0 w (Row 46 4 (.slice ao n cap) n (ccat L)::l)) :
  Calls Tryz.prog 234 #[.slice ao n cap,c.ag] w fun e w'=>∃ ao' cap',e=.returned (.slice ao' (n+1) cap')∧Own w0 w' (Row 46 4 (.slice ao' (n+1) cap') (n+1) (ccat (insw L c))::l):=by
 obtain ⟨ck,ca,cb,cc⟩:=c
 have hA:=(h.allocC #[.int .u8 (ck:Int),.int .i32 ca,.int .i32 cb,.int .i32 cc] 46).two
 have HA:Hid (Own w0 _ _):=hA
 have HN:Hid (L.length=n):=hn
 have HIN:Hid (∀ w' B i,i≤n→Own w0 w' (Row 46 4 (.slice ao n cap) n (ccat L)::Cells B #[.int .u8 (ck:Int),.int .i32 ca,.int .i32 cb,.int .i32 cc] 46::Cells w.heap.size #[.int .u8 (ck:Int),.int .i32 ca,.int .i32 cb,.int .i32 cc] 46::l)→Calls Tryz.prog 251 #[.slice ao n cap,.int .i64 (i:Int),.slice (some ⟨B,0,none⟩) 1 1] w' fun e w''=>∃ ao' cap',e=.returned (.slice ao' (n+1) cap')∧Own w0 w'' (Row 46 4 (.slice ao' (n+1) cap') (n+1) (ccat (L.take i++⟨ck,ca,cb,cc⟩::L.drop i))::l)):=by
  intro w' B i hi h'
  refine (insert_any w0 w' _ L ⟨ck,ca,cb,cc⟩ ao n cap B i hn hi hn6 h').mono ?_
  rintro e w'' ⟨a,c',rfl,hO⟩
  exact ⟨a,c',rfl,hO.two.tail.two.tail⟩
 show Calls _ _ #[_,.agg #[.int .u8 (ck:Int),.int .i32 ca,.int .i32 cb,.int .i32 cc]] _ _
 clear h hA hn
 go_enter Tryz.func234,Tryz.ntmps234
 go_wp2
 go_loopw [5] (fun at0 wr=>∃ j:Nat,j≤n∧at0=.int .i64 j∧(∀ q∈L.take j,q.k < ck)∧Own w0 wr (Row 46 4 (.slice ao n cap) n (ccat L)::Cells w.heap.size #[.int .u8 (ck:Int),.int .i32 ca,.int .i32 cb,.int .i32 cc] 46::l)) (fun at0 _=>n - (intOf at0).toNat)
 case atStart=>exact ⟨0,Nat.zero_le _,rfl,by simp,HA.out⟩
 case round =>
  obtain ⟨j,hj,rfl,hT,hO⟩:=hrel
  have HO:Hid (Own w0 wr _):=hO
  have HTK:Hid (∀ q∈L.take j,q.k < ck):=hT
  have k0:=hO.two.cell 0
  simp at k0
  clear HA
  by_cases hlt:j < n
  ·obtain ⟨q,hq⟩:∃ q,L[j]? = some q:=⟨_,List.getElem?_eq_getElem (by rw [HN.out];exact hlt)⟩
   obtain ⟨g,o,hao,_,c0,_,_,_⟩:=(Own.rcs hO HN.out).at j q hq
   have HQ:Hid (L[j]? = some q):=hq
   have hlt':(j:Int) < (n:Int):=by omega
   subst hao
   obtain ⟨qk,qa,qb,qc⟩:=q
   simp only at c0
   clear hO hT hq
   by_cases hk:qk < ck
   ·have hk':(qk:Int) < (ck:Int):=by omega
    have HT2:Hid (∀ q∈L.take (j+1),q.k < ck):=by
     intro x hx
     rw [List.take_add_one,HQ.out] at hx
     rcases List.mem_append.1 hx with hx | hx
     ·exact HTK.out x hx
     ·simp at hx;subst hx;exact hk
    go_wp2
    go_quiet (fail)
    go_wp2
    go_roundw
    case rel=>exact ⟨j+1,by omega,by go_num,HT2.out,HO.out.drewN _⟩
    case measure=>simp [intOf];omega
   ·have hk':¬ (qk:Int) < (ck:Int):=by omega
    have HE:Hid (L.take j++⟨ck,ca,cb,cc⟩::L.drop j=insw L ⟨ck,ca,cb,cc⟩):=insw_at L _ j HTK.out (fun x hx=>by rw [HQ.out] at hx;cases hx;exact Nat.le_of_not_lt hk)
    have k1:=HO.out.two.cell 1
    have k2:=HO.out.two.cell 2
    have k3:=HO.out.two.cell 3
    simp at k1 k2 k3
    go_wp2
    go_quiet (fail)
    go_wp2_with fail
    refine (HIN.out _ _ j (by omega) ((HO.out.drewN _).allocC _ _).two).mono ?_
    rintro e w2 ⟨a2,c2,rfl,hO2⟩
    have H2:Hid (Own w0 w2 (Row 46 4 (.slice a2 (n+1) c2) (n+1) (ccat (insw L ⟨ck,ca,cb,cc⟩))::l)):=by
     show Own _ _ _
     rw [← HE.out];exact hO2
    clear hO2 HO
    go_wp2
    go_ret
    exact ⟨_,_,rfl,H2.out⟩
  ·have hlt':¬ (j:Int) < (n:Int):=by omega
   clear hO hT
   have HE:Hid (L.take j++⟨ck,ca,cb,cc⟩::L.drop j=insw L ⟨ck,ca,cb,cc⟩):=insw_at L _ j HTK.out (fun x hx=>by have:=(List.getElem?_eq_some_iff.1 hx).1;rw [HN.out] at this;omega)
   have k1:=HO.out.two.cell 1
   have k2:=HO.out.two.cell 2
   have k3:=HO.out.two.cell 3
   simp at k1 k2 k3
   go_wp2
   go_quiet (fail)
   go_wp2_with fail
   refine (HIN.out _ _ j (by omega) ((HO.out.drewN _).allocC _ _).two).mono ?_
   rintro e w2 ⟨a2,c2,rfl,hO2⟩
   have H2:Hid (Own w0 w2 (Row 46 4 (.slice a2 (n+1) c2) (n+1) (ccat (insw L ⟨ck,ca,cb,cc⟩))::l)):=by
    show Own _ _ _
    rw [← HE.out];exact hO2
   clear hO2 HO
   go_wp2
   go_ret
   exact ⟨_,_,rfl,H2.out⟩
end Go.Proofs.YtogmdoiecpihdaaGreatDoor
