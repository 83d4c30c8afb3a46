/- Package table: IDs, comps, Get, At. -/
import Derived.Test.YtogmdoiecpihdaaGreatDoorQs12
import Derived.Deep.RegionWith
namespace Go.Proofs.YtogmdoiecpihdaaGreatDoor
open Go.RowKit Go.Maps
set_option linter.unusedVariables false
set_option maxHeartbeats 2000000
set_option maxRecDepth 100000
section
variable (w0 w:World) (l:List Thing) (b m:Nat) (L:List Ent) (c:Nat)
def pre (m:Nat) (C:List Cp) (k:Nat):List Cp:=((List.range k).filter (bt m)).map (fun j=>mkc j (fv C j))
theorem pre_succ (m:Nat) (C:List Cp) (k:Nat):pre m C (k+1)=if bt m k then pre m C k++[mkc k (fv C k)] else pre m C k:=by
 unfold pre
 rw [List.range_succ,List.filter_append]
 cases hb:bt m k <;> simp [List.filter,hb]
theorem pre_len (m:Nat) (C:List Cp) (k:Nat):(pre m C k).length≤k:=by
 unfold pre;rw [List.length_map];exact Nat.le_trans (List.length_filter_le _ _) (by simp)
theorem tcompsX (xx:Value × (Nat→Value) × Nat) (h:Own w0 w (TabX b m (ids L) (clm m L) (plc L) c xx::l)) (hT:TOk m L) (r:Nat) (e:Ent) (he:L[r]? = some e) :
  Calls Tryz.prog 219 #[.pointer (some ⟨b,0,none⟩),.int .i64 (r:Int)] w fun out w'=>∃ ao cap,out=.returned (.slice ao e.2.length cap)∧Own w0 w' (Row 46 4 (.slice ao e.2.length cap) e.2.length (ccat e.2)::TabX b m (ids L) (clm m L) (plc L) c xx::l):=by
 obtain ⟨i0,hi,hz0,hz1,hz2⟩:=info_parts Tryz.infoComp
 have hm:=hT.m64
 have HX:Hid (∀ k,k < 6→bt m k=true→(clm m L k)[r]? = some (fv e.2 k)):=by
  intro k hk hb
  unfold clm;rw [if_pos hb,List.getElem?_map,he];rfl
 have HE:Hid (pre m e.2 6=e.2):=comps_of (hT.ok e (List.mem_of_getElem? he)).1 (hT.ok e (List.mem_of_getElem? he)).2
 have H:Hid (Own w0 w (TabX b m (ids L) (clm m L) (plc L) c xx::l)):=h
 generalize e.2=C at *
 clear h he hT
 go_enter Tryz.func219,Tryz.ntmps219
 go_wp2
 go_loopw [5,7] (fun lv cv wr=>∃ k:Nat,k≤6∧cv=.int .u8 k∧∃ ao cap n,n=(pre m C k).length∧lv=.slice ao n cap∧Own w0 wr (Row 46 4 (.slice ao n cap) n (ccat (pre m C k))::TabX b m (ids L) (clm m L) (plc L) c xx::l)) (fun _ cv _=>6 - (intOf cv).toNat)
 case atStart=>exact ⟨0,by decide,rfl,none,0,0,rfl,rfl,H.out.nilRow _ _⟩
 case round =>
  obtain ⟨k,hk,rfl,ao,cap,n,hn,rfl,hO⟩:=hrel
  have HO:Hid (Own w0 wr (Row 46 4 (.slice ao n cap) n (ccat (pre m C k))::TabX b m (ids L) (clm m L) (plc L) c xx::l)):=hO
  have hn6:n≤6:=by rw [hn];exact Nat.le_trans (pre_len m C k) hk
  have HN:Hid (n=(pre m C k).length):=hn
  clear hO H hn
  by_cases hk6:k < 6
  ·have hk6':(k:Int) < 6:=by omega
   cases hb:bt m k with
   | true =>
    obtain ⟨x,hx⟩:∃ x,x=fv C k:=⟨_,rfl⟩
    have HS:Hid (pre m C (k+1)=pre m C k++[mkc k x]):=by show _=_;rw [pre_succ,if_pos hb,hx]
    have HC:Hid (∀ w' l',Own w0 w' (TabX b m (ids L) (clm m L) (plc L) c xx::l')→Calls Tryz.prog 198 #[.pointer (some ⟨b,0,none⟩),.int .i64 (r:Int),.int .u8 (k:Int)] w' fun e w''=>e=.returned (.agg #[.int .u8 (k:Int),.int .i32 x.1,.int .i32 x.2.1,.int .i32 x.2.2])∧Own w0 w'' (TabX b m (ids L) (clm m L) (plc L) c xx::l')) :=
     fun w' l' h'=>tcomp w0 w' l' b m _ _ _ c xx h' k hk6 r x (by rw [HX.out k hk6 hb,hx])
    have HA:Hid (∀ w',Own w0 w' (TabX b m (ids L) (clm m L) (plc L) c xx::Row 46 4 (.slice ao n cap) n (ccat (pre m C k))::l)→Calls Tryz.prog 197 #[.pointer (some ⟨b,0,none⟩),.int .u8 (k:Int)] w' fun e w''=>e=.returned (.bool true)∧w''=w') :=
     fun w' h'=>by have:=thas w0 w' _ b m _ _ _ c (TabX.tab h') k (by omega) hm;rw [hb] at this;exact this
    clear hx hb
    obtain ⟨x0,x1,x2⟩:=x
    simp only at HC
    go_wp2_with fail
    refine (HA.out _ HO.out.two).mono ?_
    rintro e w2 ⟨rfl,rfl⟩
    go_wp2_with fail
    refine (HC.out _ _ HO.out.two).mono ?_
    rintro e w3 ⟨rfl,hO3⟩
    have H3:Hid (Own w0 w3 (Row 46 4 (.slice ao n cap) n (ccat (pre m C k))::TabX b m (ids L) (clm m L) (plc L) c xx::l)):=hO3.two
    clear hO3 HO HA HC
    go_wp2_with (at_builtin;refine append1_own rfl _ _ 39 rfl 46 i0 _ 4 16 Tryz.underlying39 hi hz0 hz1 hz2 rfl (by decide) _ _ _ rfl H3.out _ #[.int .u8 (k:Int),.int .i32 x0,.int .i32 x1,.int .i32 x2] (by simp) rfl rfl (by intro u hu;simp at hu;rcases hu with rfl | rfl | rfl | rfl <;> rfl) (by unfold maxLen;omega) (by omega) ?_)
    intro g4 c4 w4 hO4 hsz
    have H4:Hid (Own w0 w4 (Row 46 4 (.slice (some ⟨g4,0,none⟩) (n+1) c4) (n+1) (ccat (pre m C (k+1)))::TabX b m (ids L) (clm m L) (plc L) c xx::l)):=by
     show Own _ _ _
     rw [HS.out,ccat,cat_append]
     exact hO4
    have HL:Hid (n+1=(pre m C (k+1)).length):=by show _=_;rw [HS.out,List.length_append,← HN.out];rfl
    clear hO4 H3 hsz
    go_wp2
    go_roundw
    case rel=>exact ⟨k+1,by omega,by go_num,_,_,_,HL.out,rfl,H4.out⟩
    case measure=>simp [intOf];omega
   | false =>
    have HS:Hid (pre m C (k+1)=pre m C k):=by show _=_;rw [pre_succ,hb];rfl
    have HA:Hid (∀ w',Own w0 w' (TabX b m (ids L) (clm m L) (plc L) c xx::Row 46 4 (.slice ao n cap) n (ccat (pre m C k))::l)→Calls Tryz.prog 197 #[.pointer (some ⟨b,0,none⟩),.int .u8 (k:Int)] w' fun e w''=>e=.returned (.bool false)∧w''=w') :=
     fun w' h'=>by have:=thas w0 w' _ b m _ _ _ c (TabX.tab h') k (by omega) hm;rw [hb] at this;exact this
    clear hb
    go_wp2_with fail
    refine (HA.out _ HO.out.two).mono ?_
    rintro e w2 ⟨rfl,rfl⟩
    clear HA
    go_wp2
    go_roundw
    case rel=>exact ⟨k+1,by omega,by go_num,_,_,n,by rw [HS.out];exact HN.out,rfl,by rw [HS.out];exact HO.out⟩
    case measure=>simp [intOf];omega
  ·have hk6':¬ (k:Int) < 6:=by omega
   have hk66:k=6:=by omega
   subst hk66
   go_wp2
   go_ret
   rw [HE.out] at HO HN
   rw [← HN.out]
   exact ⟨_,_,rfl,HO.out⟩
theorem tcomps (h:Own w0 w (Table b m L c::l)) (hT:TOk m L) (r:Nat) (e:Ent) (he:L[r]? = some e) :
  Calls Tryz.prog 219 #[.pointer (some ⟨b,0,none⟩),.int .i64 (r:Int)] w fun out w'=>∃ ao cap,out=.returned (.slice ao e.2.length cap)∧Own w0 w' (Row 46 4 (.slice ao e.2.length cap) e.2.length (ccat e.2)::Table b m L c::l):=by
 obtain ⟨xx,h⟩:=TabX.of h
 refine (tcompsX w0 w l b m L c xx h hT r e he).mono ?_
 rintro out w' ⟨ao,cap,h1,h2⟩
 exact ⟨ao,cap,h1,(TabX.tab h2.two).two⟩
end
def tget (m:Nat) (L:List Ent) (id k:Nat):Nat × Cp:=match plc L id with
 | none=>(7,⟨0,0,0,0⟩)
 | some r=>if bt m k then (0,mkc k (fv ((L[r]?).map (·.2) |>.getD []) k)) else (10,⟨0,0,0,0⟩)
def Cp.ag (q:Cp):Value:=.agg #[.int .u8 (q.k:Int),.int .i32 q.a,.int .i32 q.b,.int .i32 q.c]
section
variable (w0 w:World) (l:List Thing) (b m:Nat) (L:List Ent) (c:Nat)
theorem bt_lt {m k:Nat} (hm:m < 64) (h:bt m k=true):k < 6:=by
 unfold bt at h
 rcases Nat.lt_or_ge k 6 with q | q
 ·exact q
 ·have a1:2 ^ 6≤2 ^ k:=Nat.pow_le_pow_right (by decide) q
  rw [Nat.div_eq_of_lt (by omega)] at h
  simp at h
theorem tgetC (h:Own w0 w (Table b m L c::l)) (hT:TOk m L) (id:Nat) (hid:id < 4294967296) (k:Nat) (hk:k < 256) :
  Calls Tryz.prog 153 #[.pointer (some ⟨b,0,none⟩),.int .u32 (id:Int),.int .u8 (k:Int)] w fun e w'=>e=.returned (.tuple #[(tget m L id k).2.ag,.int .i64 ((tget m L id k).1:Int)])∧Own w0 w' (Table b m L c::l):=by
 have hm:=hT.m64
 have hA:=h.allocC #[.int .u8 0,.int .i32 0,.int .i32 0,.int .i32 0] 46
 have HR:Hid (Calls _ _ _ _ _):=trow w0 _ _ b m _ _ _ c hA.two id hid
 have HA:Hid (Own w0 _ (Cells w.heap.size #[.int .u8 0,.int .i32 0,.int .i32 0,.int .i32 0] 46::Table b m L c::l)):=hA
 cases hp:plc L id with
 | none =>
  have HV:Hid (tget m L id k=(7,⟨0,0,0,0⟩)):=by show _=_;unfold tget;rw [hp]
  rw [hp] at HR
  simp only [lk] at HR
  clear h hA hp
  go_enter Tryz.func153,Tryz.ntmps153
  go_wp2_with fail
  refine HR.out.mono ?_
  rintro e w1 ⟨rfl,rfl⟩
  clear HR
  go_wp2
  (try simp only [Exit.inBlock,Exit.then])
  refine bodyPost_ret (v:=.tuple #[.agg #[.int .u8 0,.int .i32 0,.int .i32 0,.int .i32 0],.int .i64 7]) ?_ rfl ⟨by rw [HV.out];rfl,HA.out.tail⟩
  rw [results_cell_tmp rfl]
  go_simp
 | some r =>
  obtain ⟨e,he,hei⟩:=(plc_some hT.ap id r).1 hp
  rw [hp] at HR
  simp only [lk] at HR
  have HH:Hid (Calls _ _ _ _ _):=thas w0 _ _ b m _ _ _ c hA.two k hk hm
  cases hb:bt m k with
  | false =>
   have HV:Hid (tget m L id k=(10,⟨0,0,0,0⟩)):=by show _=_;unfold tget;rw [hp];simp [hb]
   rw [hb] at HH
   clear h hA hp hb he
   go_enter Tryz.func153,Tryz.ntmps153
   go_wp2_with fail
   refine HR.out.mono ?_
   rintro e w1 ⟨rfl,rfl⟩
   clear HR
   go_wp2_with fail
   refine HH.out.mono ?_
   rintro e w1 ⟨rfl,rfl⟩
   clear HH
   go_wp2
   (try simp only [Exit.inBlock,Exit.then])
   refine bodyPost_ret (v:=.tuple #[.agg #[.int .u8 0,.int .i32 0,.int .i32 0,.int .i32 0],.int .i64 10]) ?_ rfl ⟨by rw [HV.out];rfl,HA.out.tail⟩
   rw [results_cell_tmp rfl]
   go_simp
  | true =>
   obtain ⟨x,hx⟩:∃ x,x=fv e.2 k:=⟨_,rfl⟩
   have HV:Hid (tget m L id k=(0,mkc k x)):=by show _=_;unfold tget;rw [hp];simp [hb,he,hx]
   obtain ⟨xx,hX⟩:=TabX.of hA.two
   have HC:Hid (Calls _ _ _ _ _):=tcomp w0 _ _ b m _ _ _ c xx hX k (bt_lt hm hb) r x (by unfold clm;rw [if_pos hb,List.getElem?_map,he,hx];rfl)
   rw [hb] at HH
   clear h hA hp hb he hx hX
   obtain ⟨x0,x1,x2⟩:=x
   go_enter Tryz.func153,Tryz.ntmps153
   go_wp2_with fail
   refine HR.out.mono ?_
   rintro e w1 ⟨rfl,rfl⟩
   clear HR
   go_wp2_with fail
   refine HH.out.mono ?_
   rintro e w1 ⟨rfl,rfl⟩
   clear HH
   go_wp2_with fail
   refine HC.out.mono ?_
   rintro e w2 ⟨rfl,hO⟩
   replace hO:=TabX.tab hO
   have z0:=hO.two.cell 0
   have z1:=hO.two.cell 1
   have z2:=hO.two.cell 2
   have z3:=hO.two.cell 3
   simp at z0 z1 z2 z3
   have y0:=hO.two.froz 0
   have y1:=hO.two.froz 1
   have y2:=hO.two.froz 2
   have y3:=hO.two.froz 3
   have HF:Hid (Own w0 ((((w2.setCell ⟨w.heap.size,0,none⟩ (.int .u8 (k:Int))).setCell ⟨w.heap.size,1,none⟩ (.int .i32 x0)).setCell ⟨w.heap.size,2,none⟩ (.int .i32 x1)).setCell ⟨w.heap.size,3,none⟩ (.int .i32 x2)) (Cells w.heap.size #[.int .u8 (k:Int),.int .i32 x0,.int .i32 x1,.int .i32 x2] 46::Table b m L c::l)) :=
    (((hO.two.setC 0 (.int .u8 (k:Int))).setC 1 (.int .i32 x0)).setC 2 (.int .i32 x1)).setC 3 (.int .i32 x2)
   clear hO HC HA
   simp only
   go_wp2
   (try simp only [Exit.inBlock,Exit.then])
   refine bodyPost_ret (v:=.tuple #[.agg #[.int .u8 (k:Int),.int .i32 x0,.int .i32 x1,.int .i32 x2],.int .i64 0]) ?_ rfl ⟨by rw [HV.out];rfl,HF.out.tail⟩
   rw [results_cell_tmp rfl]
   have r0:=HF.out.cell 0
   have r1:=HF.out.cell 1
   have r2:=HF.out.cell 2
   have r3:=HF.out.cell 3
   simp at r0 r1 r2 r3
   go_simp
theorem tatC (h:Own w0 w (Table b m L c::l)) (hT:TOk m L) (r:Nat) (e:Ent) (he:L[r]? = some e) (hL:L.length≤1000000) :
  Calls Tryz.prog 174 #[.pointer (some ⟨b,0,none⟩),.int .i64 (r:Int)] w fun out w'=>∃ ao cap,out=.returned (.tuple #[.agg #[.int .u32 (e.1:Int),.slice ao e.2.length cap],.bool true])∧Own w0 w' (Row 46 4 (.slice ao e.2.length cap) e.2.length (ccat e.2)::Table b m L c::l):=by
 obtain ⟨⟨vi,v,mb⟩,h⟩:=TabX.of h
 have hA:=h.allocC #[.int .u32 0,.slice none 0 0] 76
 have hrl:=(List.getElem?_eq_some_iff.1 he).1
 have hrl':(r:Int) < (L.length:Int):=by omega
 obtain ⟨g,cap,hvi,HI⟩:∃ g cap,vi=.slice (some ⟨g,0,none⟩) L.length cap∧Hid (∀ w' l',Own w0 w' (TabX b m (ids L) (clm m L) (plc L) c (vi,v,mb)::l')→w'.cell? ⟨b,1,none⟩=some vi∧w'.cell? ⟨g,r,none⟩=some (.int .u32 (e.1:Int))):=by
  have h':=TabX.open h
  rw [length_ids] at h'
  obtain ⟨g,cap,h2,_⟩:=row_shape h'.two.row (by omega)
  subst h2
  refine ⟨g,cap,rfl,fun w' l' h'=>?_⟩
  have h':=TabX.open h'
  rw [length_ids] at h'
  have q:=h'.cell 1
  simp [tcells] at q
  have c1:=h'.two.row.cellAt r (by omega)
  rw [getElem?_irow,ids,List.getElem?_map,he] at c1
  exact ⟨q,c1⟩
 subst hvi
 have HL:Hid (Calls _ _ _ _ _):=tlen w0 _ _ b m _ _ _ c (TabX.tab hA.two)
 have HC:Hid (Calls _ _ _ _ _):=tcompsX w0 _ _ b m L c _ hA.two.drew hT r e he
 obtain ⟨q1,q2⟩:=HI.out _ _ hA.two
 rw [length_ids] at HL
 obtain ⟨eid,eC⟩:=e
 simp only at HC HI q2 ⊢
 clear h hA he
 go_enter Tryz.func174,Tryz.ntmps174
 go_wp2_with fail
 refine HL.out.mono ?_
 rintro out w1 ⟨rfl,rfl⟩
 clear HL
 go_wp2_with fail
 go_region_with (
  go_at_call 219
  refine HC.out.mono ?_
  rintro out w2 ⟨ao,cp,rfl,hO⟩
  obtain ⟨d1,d2⟩:=HI.out _ _ hO.two
  have z0:=hO.three.cell 0
  have z1:=hO.three.cell 1
  simp at z0 z1
  have y0:=hO.three.froz 0
  have y1:=hO.three.froz 1
  have HF:Hid (Own w0 ((w2.setCell ⟨w.heap.size,0,none⟩ (.int .u32 (eid:Int))).setCell ⟨w.heap.size,1,none⟩ (.slice ao eC.length cp)) (Cells w.heap.size #[.int .u32 (eid:Int),.slice ao eC.length cp] 76::Row 46 4 (.slice ao eC.length cp) eC.length (ccat eC)::TabX b m (ids L) (clm m L) (plc L) c (.slice (some ⟨g,0,none⟩) L.length cap,v,mb)::l)):=(hO.three.setC 0 (.int .u32 (eid:Int))).setC 1 (.slice ao eC.length cp)
  clear hO)
 all_goals
  go_wp2
  (try simp only [Exit.inBlock,Exit.then])
  refine bodyPost_ret (v:=.tuple #[.agg #[.int .u32 (eid:Int),.slice ao eC.length cp],.bool true]) ?_ rfl ⟨ao,cp,rfl,(TabX.tab HF.out.tail.two).two⟩
  rw [results_cell_tmp rfl]
  have r0:=HF.out.cell 0
  have r1:=HF.out.cell 1
  simp at r0 r1
  go_simp
end
theorem cols_congr {f g:Nat→Thing} (h:∀ k,k < 6→f k=g k):cols f=cols g:=by
 unfold cols
 rw [h 0 (by decide),h 1 (by decide),h 2 (by decide),h 3 (by decide),h 4 (by decide),h 5 (by decide)]
theorem colT_upd {v:Nat→Value} {g:Nat→List Fs} {k:Nat} {u:Value} {y:List Fs} (j:Nat) (h:j≠k):colT v g j=colT (upd v k u) (upd g k y) j:=by
 unfold colT;rw [upd_other _ _ _ h,upd_other _ _ _ h]
theorem colT_at (v:Nat→Value) (g:Nat→List Fs) (k:Nat) (u:Value) (y:List Fs):colT (upd v k u) (upd g k y) k=Row 44 3 u y.length (cat fc y):=by
 unfold colT;rw [upd_same,upd_same]
theorem TabG.is {w0 w:World} {l:List Thing} {b m:Nat} {I J:List Nat} {g g':Nat→List Fs} {p p':Nat→Option Nat} {c c':Nat} (h:Own w0 w (TabG b m I g p c::l)) (hI:I=J) (hg:∀ k,k < 6→g k=g' k) (hp:∀ x,x < 4294967296→p x=p' x) (hc:c≤c'):Own w0 w (TabG b m J g' p' c'::l):=by
 subst hI
 obtain ⟨vi,v,mb,h⟩:=TabG.open _ _ _ _ _ _ _ _ _ h
 have h2:=(h.three.mapIs (q:=p') c' hc hp).back3
 have e:cols (colT v g)=cols (colT v g'):=cols_congr (fun k hk=>by unfold colT;rw [hg k hk])
 rw [e] at h2
 exact TabG.shut _ _ _ _ _ _ _ _ _ vi v mb h2
section
variable (w0 w:World) (l:List Thing) (b m:Nat) (I:List Nat) (g:Nat→List Fs) (p:Nat→Option Nat) (c:Nat)
theorem tpush (h:Own w0 w (TabG b m I g p c::l)) (k:Nat) (hk:k < 6) (x:Fs) (hn:(g k).length≤1000000) :
  Calls Tryz.prog 255 #[.pointer (some ⟨b,2+k,none⟩),.agg #[.int .i32 x.1,.int .i32 x.2.1,.int .i32 x.2.2]] w fun e w'=>e=.returned (.tuple #[])∧Own w0 w' (TabG b m I (upd g k (g k++[x])) p c::l):=by
 obtain ⟨vi,v,mb,h⟩:=TabG.open _ _ _ _ _ _ _ _ _ h
 have h1:=Own.col k hk h
 unfold colT at h1
 refine (pushF w0 w _ b _ _ (2+k) (v k) (g k).length _ x h1 (tcells_col m vi v mb k hk) hn).mono ?_
 rintro e w' ⟨rfl,gg,cap,hO⟩
 refine ⟨rfl,TabG.shut _ _ _ _ _ _ _ _ _ vi (upd v k (.slice (some ⟨gg,0,none⟩) ((g k).length+1) cap)) mb ?_⟩
 rw [tcells_set m vi v mb k hk] at hO
 refine Own.uncol (f:=colT v g) k hk ?_ (fun j hj=>colT_upd j hj)
 rw [colT_at,cat_append,List.length_append]
 exact hO
theorem tdrop (h:Own w0 w (TabG b m I g p c::l)) (k:Nat) (hk:k < 6) (r n:Nat) (hl:(g k).length=n+1) (hr:r < n+1) (hn:n≤1000000) :
  Calls Tryz.prog 238 #[.pointer (some ⟨b,2+k,none⟩),.int .i64 (r:Int)] w fun e w'=>e=.returned (.tuple #[])∧Own w0 w' (TabG b m I (upd g k (outr (g k) r)) p c::l):=by
 obtain ⟨vi,v,mb,h⟩:=TabG.open _ _ _ _ _ _ _ _ _ h
 have h1:=Own.col k hk h
 unfold colT at h1
 refine (dropF w0 w _ b _ _ (2+k) (v k) n (g k) r h1 hl (tcells_col m vi v mb k hk) hr hn).mono ?_
 rintro e w' ⟨rfl,gg,cap,hO⟩
 refine ⟨rfl,TabG.shut _ _ _ _ _ _ _ _ _ vi (upd v k (.slice (some ⟨gg,0,none⟩) n cap)) mb ?_⟩
 rw [tcells_set m vi v mb k hk] at hO
 refine Own.uncol (f:=colT v g) k hk ?_ (fun j hj=>colT_upd j hj)
 rw [colT_at,length_outr _ _ (by omega),hl]
 exact hO
theorem tpushI (h:Own w0 w (TabG b m I g p c::l)) (id:Nat) (hn:I.length≤1000000) :
  Calls Tryz.prog 254 #[.pointer (some ⟨b,1,none⟩),.int .u32 (id:Int)] w fun e w'=>e=.returned (.tuple #[])∧Own w0 w' (TabG b m (I++[id]) g p c::l):=by
 obtain ⟨vi,v,mb,h⟩:=TabG.open _ _ _ _ _ _ _ _ _ h
 refine (pushI w0 w _ b _ _ 1 vi I.length _ id h rfl hn).mono ?_
 rintro e w' ⟨rfl,gg,cap,hO⟩
 refine ⟨rfl,TabG.shut _ _ _ _ _ _ _ _ _ (.slice (some ⟨gg,0,none⟩) (I.length+1) cap) v mb ?_⟩
 rw [irow_append,List.length_append]
 exact hO
theorem tdropI (h:Own w0 w (TabG b m I g p c::l)) (r n:Nat) (hl:I.length=n+1) (hr:r < n+1) (hn:n≤1000000) :
  Calls Tryz.prog 237 #[.pointer (some ⟨b,1,none⟩),.int .i64 (r:Int)] w fun e w'=>e=.returned (.tuple #[])∧Own w0 w' (TabG b m (outr I r) g p c::l):=by
 obtain ⟨vi,v,mb,h⟩:=TabG.open _ _ _ _ _ _ _ _ _ h
 rw [hl] at h
 refine (dropI w0 w _ b _ _ 1 vi n I r h hl rfl hr hn).mono ?_
 rintro e w' ⟨rfl,gg,cap,hO⟩
 refine ⟨rfl,TabG.shut _ _ _ _ _ _ _ _ _ (.slice (some ⟨gg,0,none⟩) n cap) v mb ?_⟩
 rw [length_outr _ _ (by omega),hl]
 exact hO
end
theorem lst_mk {p:Int} {C:List Cp} (h1:C.Pairwise (fun x y=>x.k < y.k)) (h2:∀ q∈C,p < (q.k:Int)∧q.chk=0):lst p C=0:=by
 induction C generalizing p with
 | nil=>rfl
 | cons q t ih =>
  obtain ⟨a1,a2⟩:=List.pairwise_cons.1 h1
  have hq:=h2 q List.mem_cons_self
  rw [lst,if_neg (by simp [hq.2]),if_neg (by omega)]
  exact ih a2 (fun x hx=>⟨by have:=a1 x hx;omega,(h2 x (List.mem_cons_of_mem _ hx)).2⟩)
theorem lst_iff (C:List Cp):lst (-1) C=0 ↔ C.Pairwise (fun x y=>x.k < y.k)∧∀ q∈C,q.chk=0 :=
 ⟨fun h=>⟨(lst_ok h).1,fun q hq=>((lst_ok h).2 q hq).2⟩,fun ⟨h1,h2⟩=>lst_mk h1 (fun q hq=>⟨by omega,h2 q hq⟩)⟩
theorem hasK_map (C:List Cp) (k:Nat):hasK C k=(C.map Cp.k).any (fun x=>decide (x=k)):=by
 unfold hasK;rw [List.any_map];rfl
theorem msk_map {C D:List Cp} (h:C.map Cp.k=D.map Cp.k):msk C=msk D:=by
 rw [msk_val,msk_val]
 simp only [hasK_map,h]
def setc (C:List Cp) (q:Cp):List Cp:=C.map (fun x=>if x.k=q.k then q else x)
theorem setc_kinds (C:List Cp) (q:Cp):(setc C q).map Cp.k=C.map Cp.k:=by
 unfold setc;rw [List.map_map]
 apply List.map_congr_left
 intro x _
 show (if x.k=q.k then q else x).k=x.k
 split
 ·rename_i h;exact h.symm
 ·rfl
theorem setc_ok {C:List Cp} {q:Cp} (h:lst (-1) C=0) (hq:q.chk=0):lst (-1) (setc C q)=0:=by
 rw [lst_iff] at h ⊢
 constructor
 ·have:=List.pairwise_map.2 h.1
  rw [← setc_kinds C q] at this
  exact List.pairwise_map.1 this
 ·intro x hx
  unfold setc at hx
  obtain ⟨y,hy,rfl⟩:=List.mem_map.1 hx
  split
  ·exact hq
  ·exact h.2 y hy
theorem setc_msk (C:List Cp) (q:Cp):msk (setc C q)=msk C:=msk_map (setc_kinds C q)
theorem setc_fv {C:List Cp} {q:Cp} (h:lst (-1) C=0) (hq:q.chk=0) (k:Nat) (hk:hasK C k=true):fv (setc C q) k=if k=q.k then q.f else fv C k:=by
 obtain ⟨x,hx,rfl⟩:=(hasK_iff C k).1 hk
 have h2:=setc_ok h hq
 have hm:(if x.k=q.k then q else x)∈setc C q:=List.mem_map.2 ⟨x,hx,rfl⟩
 have:=fv_of h2 hm
 by_cases c:x.k=q.k
 ·rw [if_pos c] at this ⊢
  rw [c];exact this
 ·rw [if_neg c] at this ⊢
  rw [this,fv_of h hx]
theorem hasK_bt {C:List Cp} {m k:Nat} (hm:msk C=m) (hm6:m < 64) (hb:bt m k=true):hasK C k=true:=by
 have hk:=bt_lt hm6 hb
 rw [← bt_msk C k hk,hm];exact hb
theorem TOk.set {m:Nat} {L:List Ent} (h:TOk m L) {r:Nat} {e:Ent} (he:L[r]? = some e) (q:Cp) (hq:q.chk=0):TOk m (L.set r (e.1,setc e.2 q)):=by
 have hm:=List.mem_of_getElem? he
 have hi:=(List.getElem?_eq_some_iff.1 he).1
 refine ⟨h.m64,?_,?_,?_⟩
 ·intro x hx
  rcases List.mem_or_eq_of_mem_set hx with q | q
  ·exact h.id x q
  ·subst q;exact h.id e hm
 ·intro i j a d ha hd hx
  rw [List.getElem?_set] at ha hd
  split at ha <;> split at hd
  ·omega
  ·rename_i c1 c2
   subst c1
   cases ha
   exact h.ap _ _ e d he hd hx
  ·rename_i c1 c2
   subst c2
   cases hd
   exact h.ap _ _ a e ha he hx
  ·exact h.ap _ _ a d ha hd hx
 ·intro x hx
  rcases List.mem_or_eq_of_mem_set hx with q' | q'
  ·exact h.ok x q'
  ·subst q'
   have:=h.ok e hm
   exact ⟨setc_ok this.1 hq,by rw [setc_msk];exact this.2⟩
theorem set_self {α:Type} (L:List α) (r:Nat) (x:α) (h:L[r]? = some x):L.set r x=L:=by
 apply List.ext_getElem?
 intro i
 rw [List.getElem?_set]
 split
 ·rename_i c;subst c;rw [if_pos (List.getElem?_eq_some_iff.1 h).1,h]
 ·rfl
theorem clm_set {m:Nat} {L:List Ent} (h:TOk m L) {r:Nat} {e:Ent} (he:L[r]? = some e) (q:Cp) (hq:q.chk=0) (hb:bt m q.k=true) (k:Nat):clm m (L.set r (e.1,setc e.2 q)) k=upd (clm m L) q.k ((clm m L q.k).set r q.f) k:=by
 have ho:=h.ok e (List.mem_of_getElem? he)
 by_cases c:k=q.k
 ·subst c
  rw [upd_same]
  unfold clm
  rw [if_pos hb,if_pos hb,List.map_set]
  show (L.map _).set r (fv (setc e.2 q) q.k)=_
  rw [setc_fv ho.1 hq _ (hasK_bt ho.2 h.m64 hb),if_pos rfl]
 ·rw [upd_other _ _ _ c]
  unfold clm
  split
  ·rename_i hb2
   rw [List.map_set]
   show (L.map _).set r (fv (setc e.2 q) k)=_
   rw [setc_fv ho.1 hq _ (hasK_bt ho.2 h.m64 hb2),if_neg c]
   exact set_self _ _ _ (by rw [List.getElem?_map,he];rfl)
  ·rfl
theorem plc_set {L:List Ent} {r:Nat} {e:Ent} (he:L[r]? = some e) (C:List Cp) (x:Nat):plc (L.set r (e.1,C)) x=plc L x:=by
 have e1:∀ M:List Ent,plc M x=(M.map (·.1)).findIdx? (fun y=>decide (y=x)):=by
  intro M
  unfold plc
  rw [List.findIdx?_map];rfl
 rw [e1,e1,List.map_set]
 congr 1
 exact set_self _ _ _ (by rw [List.getElem?_map,he];rfl)
theorem ids_set {L:List Ent} {r:Nat} {e:Ent} (he:L[r]? = some e) (C:List Cp):ids (L.set r (e.1,C))=ids L:=by
 unfold ids;rw [List.map_set]
 exact set_self _ _ _ (by rw [List.getElem?_map,he];rfl)
def tset (m:Nat) (L:List Ent) (id:Nat) (q:Cp):Nat × List Ent:=if q.chk≠0 then (q.chk,L) else match plc L id with
 | none=>(7,L)
 | some r=>if bt m q.k then (0,L.set r (id,setc ((L[r]?).map (·.2) |>.getD []) q)) else (10,L)
theorem tsetC (w0 w:World) (l:List Thing) (b m:Nat) (L:List Ent) (c:Nat) (ht:Tab w0) (h:Own w0 w (Table b m L c::l)) (hT:TOk m L) (id:Nat) (hid:id < 4294967296) (q:Cp) (hk:q.k < 256) (hL:L.length≤1000000) :
  Calls Tryz.prog 157 #[.pointer (some ⟨b,0,none⟩),.int .u32 (id:Int),q.ag] w fun e w'=>e=.returned (.int .i64 ((tset m L id q).1:Int))∧Own w0 w' (Table b m (tset m L id q).2 c::l):=by
 have hm:=hT.m64
 have hA:=h.allocC #[.int .u8 (q.k:Int),.int .i32 q.a,.int .i32 q.b,.int .i32 q.c] 46
 have z0:=hA.cell 0
 have z1:=hA.cell 1
 have z2:=hA.cell 2
 have z3:=hA.cell 3
 simp at z0 z1 z2 z3
 have HC:Hid (Calls _ _ _ _ _):=check3 _ (ht.quiet hA.fr) q.k hk q.a q.b q.c
 have HA:Hid (Own w0 _ (Cells w.heap.size #[.int .u8 (q.k:Int),.int .i32 q.a,.int .i32 q.b,.int .i32 q.c] 46::Table b m L c::l)):=hA
 have HQ:Hid (q.chk=chk q.k (f3 q.a q.b q.c)):=rfl
 clear h hA
 unfold Cp.ag
 obtain ⟨x,hx⟩:∃ x,q.chk=x:=⟨_,rfl⟩
 have hx5:x≤5:=by rw [← hx];exact chk_lt q
 rw [← HQ.out,hx] at HC
 by_cases hx0:x=0
 ·subst hx0
  have HR:Hid (∀ w',Own w0 w' (Table b m L c::Cells w.heap.size #[.int .u8 (q.k:Int),.int .i32 q.a,.int .i32 q.b,.int .i32 q.c] 46::l)→Calls Tryz.prog 173 #[.pointer (some ⟨b,0,none⟩),.int .u32 (id:Int)] w' fun e w''=>e=.returned (lk (plc L id))∧w''=w'):=fun w' h'=>trow w0 w' _ b m _ _ _ c h' id hid
  cases hp:plc L id with
  | none =>
   have HV:Hid (tset m L id q=(7,L)):=by show _=_;unfold tset;rw [if_neg (by simp [hx]),hp]
   rw [hp] at HR
   simp only [lk] at HR
   clear hp hx HQ
   obtain ⟨qk,qa,qb,qc⟩:=q
   simp only at z0 z1 z2 z3 HC HR HA hk ⊢
   go_enter Tryz.func157,Tryz.ntmps157
   go_wp2_with fail
   refine HC.out.mono ?_
   rintro e w1 ⟨rfl,hf⟩
   have H1:Hid (Own w0 w1 _):=HA.out.quiet hf
   clear hf HC z0 z1 z2 z3
   go_wp2_with fail
   refine (HR.out _ H1.out.two).mono ?_
   rintro e w2 ⟨rfl,rfl⟩
   clear HR
   go_wp2
   go_ret
   rw [HV.out]
   exact ⟨rfl,H1.out.tail⟩
  | some r =>
   obtain ⟨e,he,hei⟩:=(plc_some hT.ap id r).1 hp
   rw [hp] at HR
   simp only [lk] at HR
   have HH:Hid (∀ w',Own w0 w' (Table b m L c::Cells w.heap.size #[.int .u8 (q.k:Int),.int .i32 q.a,.int .i32 q.b,.int .i32 q.c] 46::l)→Calls Tryz.prog 197 #[.pointer (some ⟨b,0,none⟩),.int .u8 (q.k:Int)] w' fun e w''=>e=.returned (.bool (bt m q.k))∧w''=w'):=fun w' h'=>thas w0 w' _ b m _ _ _ c h' q.k hk hm
   cases hb:bt m q.k with
   | false =>
    have HV:Hid (tset m L id q=(10,L)):=by show _=_;unfold tset;rw [if_neg (by simp [hx]),hp];simp [hb]
    rw [hb] at HH
    clear hp hx HQ hb he
    obtain ⟨qk,qa,qb,qc⟩:=q
    simp only at z0 z1 z2 z3 HC HR HA HH hk ⊢
    go_enter Tryz.func157,Tryz.ntmps157
    go_wp2_with fail
    refine HC.out.mono ?_
    rintro e w1 ⟨rfl,hf⟩
    have H1:Hid (Own w0 w1 _):=HA.out.quiet hf
    have y0:=(HA.out.quiet hf).cell 0
    simp at y0
    clear hf HC z0 z1 z2 z3
    go_wp2_with fail
    refine (HR.out _ H1.out.two).mono ?_
    rintro e w2 ⟨rfl,rfl⟩
    clear HR
    go_wp2_with fail
    refine (HH.out _ H1.out.two).mono ?_
    rintro e w2 ⟨rfl,rfl⟩
    clear HH
    go_wp2
    go_ret
    rw [HV.out]
    exact ⟨rfl,H1.out.tail⟩
   | true =>
    have hk6:=bt_lt hm hb
    have hk6':(q.k:Int) < 6:=by omega
    have hrl:=(List.getElem?_eq_some_iff.1 he).1
    have hlen:(clm m L q.k).length=L.length:=by rw [length_clm,if_pos hb]
    have hrl':(r:Int) < (L.length:Int):=by omega
    have HV:Hid (tset m L id q=(0,L.set r (e.1,setc e.2 q))):=by show _=_;unfold tset;rw [if_neg (by simp [hx]),hp];simp [hb,he,hei]
    have HF:Hid (∀ w' vi v mb g cap l',Own w0 w' (Row 44 3 (.slice (some ⟨g,0,none⟩) L.length cap) L.length (cat fc (clm m L q.k))::Cells b (tcells m vi v mb) 311::Row 38 1 vi (ids L).length (irow .u32 (ids L))::RowMap mb c (plc L)::(but q.k (colT v (clm m L))++l'))→v q.k=.slice (some ⟨g,0,none⟩) L.length cap→Own w0 (((w'.setCell ⟨g,r*3,none⟩ (.int .i32 q.a)).setCell ⟨g,r*3+1,none⟩ (.int .i32 q.b)).setCell ⟨g,r*3+2,none⟩ (.int .i32 q.c)) (Table b m (L.set r (e.1,setc e.2 q)) c::l')):=by
     intro w' vi v mb g cap l' h' hv
     have h1:=((h'.setR (r*3) (.int .i32 q.a)).setR (r*3+1) (.int .i32 q.b)).setR (r*3+2) (.int .i32 q.c)
     have e1:cat fc ((clm m L q.k).set r q.f)=(((cat fc (clm m L q.k)).set (r*3) (.int .i32 q.a)).set (r*3+1) (.int .i32 q.b)).set (r*3+2) (.int .i32 q.c):=by
      have:=cat_set3 (clm m L q.k) r q.f
      rw [if_pos (by omega)] at this
      exact this
     rw [← e1] at h1
     have h2:=h1
     have h3:Own w0 (((w'.setCell ⟨g,r*3,none⟩ (.int .i32 q.a)).setCell ⟨g,r*3+1,none⟩ (.int .i32 q.b)).setCell ⟨g,r*3+2,none⟩ (.int .i32 q.c)) (TabG b m (ids L) (upd (clm m L) q.k ((clm m L q.k).set r q.f)) (plc L) c::l'):=by
      refine TabG.shut _ _ _ _ _ _ _ _ _ vi (upd v q.k (.slice (some ⟨g,0,none⟩) L.length cap)) mb ?_
      refine Own.uncol (f:=colT v (clm m L)) q.k hk6 ?_ (fun j hj=>colT_upd j hj)
      rw [colT_at,List.length_set,hlen,← tcells_set m vi v mb q.k hk6]
      have e2:(tcells m vi v mb).setIfInBounds (2+q.k) (.slice (some ⟨g,0,none⟩) L.length cap)=tcells m vi v mb:=by
       rw [tcells_set m vi v mb q.k hk6,← hv]
       congr 1
       funext j
       unfold upd;split
       ·rename_i c;rw [c]
       ·rfl
      rw [e2]
      exact h2.two
     exact TabG.is h3 (ids_set he _).symm (fun k _=>(clm_set hT he q hx hb k).symm) (fun x _=>(plc_set he _ x).symm) (Nat.le_refl _)
    rw [hb] at HH
    clear hp hx HQ hb he
    obtain ⟨qk,qa,qb,qc⟩:=q
    simp only at z0 z1 z2 z3 HC HR HA HH HF hk hk6 hk6' hlen ⊢
    go_enter Tryz.func157,Tryz.ntmps157
    go_wp2_with fail
    refine HC.out.mono ?_
    rintro e w1 ⟨rfl,hf⟩
    have hO:=HA.out.quiet hf
    have H1:Hid (Own w0 w1 _):=HA.out.quiet hf
    have y0:=hO.cell 0
    have y1:=hO.cell 1
    have y2:=hO.cell 2
    have y3:=hO.cell 3
    simp at y0 y1 y2 y3
    obtain ⟨vi,v,mb,hG⟩:=TabG.open _ _ _ _ _ _ _ _ _ hO.two
    have hcl:=(Own.col qk hk6 hG)
    have hq2:=hcl.cell (2+qk)
    rw [tcells_col m vi v mb qk hk6] at hq2
    unfold colT at hcl
    rw [hlen] at hcl
    obtain ⟨gg,cap,hv,_⟩:=row_shape hcl.two.row (by omega)
    rw [hv] at hq2 hcl
    obtain ⟨y,hy⟩:∃ y,(clm m L qk)[r]? = some y:=⟨_,List.getElem?_eq_getElem (by omega)⟩
    have hcl2:=hcl.two
    rw [← hlen] at hcl2
    obtain ⟨d0,d1,d2⟩:=fcell hcl2 r y hy
    have x0:w1.frozen? ⟨gg,r*3,none⟩=false:=hcl.two.row.frozenAt _
    have x1:w1.frozen? ⟨gg,r*3+1,none⟩=false:=hcl.two.row.frozenAt _
    have x2:w1.frozen? ⟨gg,r*3+2,none⟩=false:=hcl.two.row.frozenAt _
    have HE:Hid (Own w0 (((w1.setCell ⟨gg,r*3,none⟩ (.int .i32 qa)).setCell ⟨gg,r*3+1,none⟩ (.int .i32 qb)).setCell ⟨gg,r*3+2,none⟩ (.int .i32 qc)) (Table b m _ c::_)):=HF.out w1 vi v mb gg cap _ hcl.two hv
    clear hf HC z0 z1 z2 z3 hG hcl hv hcl2 hO HF hy
    go_wp2_with fail
    refine (HR.out _ H1.out.two).mono ?_
    rintro e w2 ⟨rfl,rfl⟩
    clear HR
    go_wp2_with fail
    refine (HH.out _ H1.out.two).mono ?_
    rintro e w2 ⟨rfl,rfl⟩
    clear HH
    go_wp2
    go_region
    all_goals
     go_wp2
     go_ret
     rw [HV.out]
     exact ⟨rfl,HE.out.drew.two.tail⟩
 ·have HV:Hid (tset m L id q=(x,L)):=by show _=_;unfold tset;rw [if_pos (by rw [hx];exact hx0),hx]
  have hx1:((x:Int) != 0)=true:=by simpa using hx0
  clear hx HQ
  obtain ⟨qk,qa,qb,qc⟩:=q
  simp only at z0 z1 z2 z3 HC HA hk ⊢
  go_enter Tryz.func157,Tryz.ntmps157
  go_wp2_with fail
  refine HC.out.mono ?_
  rintro e w1 ⟨rfl,hf⟩
  have H1:Hid (Own w0 w1 _):=HA.out.quiet hf
  clear hf HC z0 z1 z2 z3
  go_wp2
  go_ret
  rw [HV.out]
  exact ⟨rfl,H1.out.tail⟩
end Go.Proofs.YtogmdoiecpihdaaGreatDoor
