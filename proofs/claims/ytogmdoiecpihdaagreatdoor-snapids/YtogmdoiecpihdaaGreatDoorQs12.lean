/- A store's New, home, put, pull. -/
import Derived.Test.YtogmdoiecpihdaaGreatDoorQs11
import Derived.Deep.RegionHeld3
import Derived.Deep.AppendLies
import Derived.Laws.ResultCell
import Derived.Laws.BitsAllLaws
import Derived.Carry
namespace Go.Proofs.YtogmdoiecpihdaaGreatDoor
open Go.RowKit Go.Maps
set_option linter.unusedVariables false
set_option maxHeartbeats 1000000
def Sto.hom (σ:Sto) (id:Nat):Nat:=σ.mks.getD (id % 1024) 0
def Sto.put (σ:Sto) (id:Nat) (C:List Cp):Sto:={ σ with mks:=σ.mks.set (id % 1024) (msk C),T:=upd σ.T (msk C) (σ.T (msk C)++[(id,C)]) }
def Sto.out (σ:Sto) (m r:Nat):Sto:={ σ with T:=upd σ.T m (outr (σ.T m) r) }
theorem stoCells {w0 w:World} {l:List Thing} {b bs:Nat} {v:Value} {p:Nat→Option Nat} {σ:Sto} {K:Nat} (h:Own w0 w (StoX b σ K (bs,v,p)::l)) :
  w.cell? ⟨b,0,none⟩=some (.pointer (some ⟨bs,0,none⟩))∧w.cell? ⟨b,1,none⟩=some v∧∀ m,m < 64→w.cell? ⟨b,2+m,none⟩=some (.pointer (pp (p m))):=by
 have h:=h.stoO
 refine ⟨by rw [h.cell 0,scells_ids],by rw [h.cell 1,scells_mk],fun m hm=>by rw [h.cell,scells_tab _ _ _ _ hm]⟩
theorem stoMk {w0 w:World} {l:List Thing} {b bs:Nat} {v:Value} {p:Nat→Option Nat} {σ:Sto} {K:Nat} (h:Own w0 w (StoX b σ K (bs,v,p)::l)) (s:Nat) (hs:s < σ.mks.length) :
  ∃ g cap,v=.slice (some ⟨g,0,none⟩) σ.mks.length cap∧w.cell? ⟨g,s,none⟩=some (.int .u8 ((σ.mks.getD s 0:Nat):Int))∧w.frozen? ⟨g,s,none⟩=false∧g≠b:=by
 have h:=h.stoO
 have r:=h.three.row
 obtain ⟨g,cap,rfl,_⟩:=row_shape r (by omega)
 refine ⟨g,cap,rfl,?_,r.frozenAt s,?_⟩
 ·rw [r.cellAt _ (by omega),getElem?_irow,List.getElem?_eq_getElem hs,List.getD_eq_getElem?_getD,List.getElem?_eq_getElem hs];rfl
 ·intro e
  exact h.in23.ne (by rw [e];rfl)
theorem home_ok (w0 w:World) (l:List Thing) (b bs:Nat) (v:Value) (p:Nat→Option Nat) (σ:Sto) (K:Nat) (h:Own w0 w (StoX b σ K (bs,v,p)::l)) (hS:σ.S.Ok) (id:Nat) (hid:id < 4294967296) (hl:σ.S.isLive id=true) (hm:id % 1024 < σ.mks.length) (h6:σ.hom id < 64) :
  Calls Tryz.prog 152 #[.pointer (some ⟨b,0,none⟩),.int .u32 (id:Int)] w fun e w'=>e=.returned (.tuple #[.pointer (pp (p (σ.hom id))),.int .i64 0])∧Own w0 w' (StoX b σ K (bs,v,p)::l):=by
 have H:Hid (Own w0 w (StoX b σ K (bs,v,p)::l)):=h
 obtain ⟨q0,q1,qt⟩:=stoCells h
 have qt:=qt _ h6
 obtain ⟨g,cap,rfl,qm,_,_⟩:=stoMk h _ hm
 have HL:Hid (Calls _ _ _ _ _):=live_ok w0 w _ bs σ.S id h.stoO.two hS hid
 rw [hl] at HL
 have HSL:Hid (∀ w',Calls Tryz.prog 126 #[.int .u32 (id:Int)] w' fun e w''=>e=.returned (.int .i64 ((id % 1024:Nat):Int))∧w''=w'):=fun w'=>slot_any id w' hid
 have qm':w.cell? ⟨g,id % 1024,none⟩=some (.int .u8 ((σ.hom id:Nat):Int)):=qm
 clear qm h hS hl hid
 generalize σ.hom id=m at *
 generalize id % 1024=s at *
 have h6':(m:Int) < 64:=by omega
 have hm':(s:Int) < (σ.mks.length:Int):=by omega
 go_enter Tryz.func152,Tryz.ntmps152
 go_wp2_with (first | (go_at_call 175;refine HL.out.mono ?_;rintro e w' ⟨rfl,rfl⟩))
 go_region_with (
  go_at_call 126
  refine (HSL.out _).mono ?_
  rintro e w' ⟨rfl,rfl⟩)
 all_goals
  go_wp2
  go_ret2
  exact ⟨rfl,H.out.drew⟩
theorem home_dead (w0 w:World) (l:List Thing) (b bs:Nat) (v:Value) (p:Nat→Option Nat) (σ:Sto) (K:Nat) (h:Own w0 w (StoX b σ K (bs,v,p)::l)) (hS:σ.S.Ok) (id:Nat) (hid:id < 4294967296) (hl:σ.S.isLive id=false) :
  Calls Tryz.prog 152 #[.pointer (some ⟨b,0,none⟩),.int .u32 (id:Int)] w fun e w'=>e=.returned (.tuple #[.pointer none,.int .i64 7])∧Own w0 w' (StoX b σ K (bs,v,p)::l):=by
 have H:Hid (Own w0 w (StoX b σ K (bs,v,p)::l)):=h
 obtain ⟨q0,_,_⟩:=stoCells h
 have HL:Hid (Calls _ _ _ _ _):=live_ok w0 w _ bs σ.S id h.stoO.two hS hid
 rw [hl] at HL
 clear h
 go_enter Tryz.func152,Tryz.ntmps152
 go_wp2_with (first | (go_at_call 175;refine HL.out.mono ?_;rintro e w' ⟨rfl,rfl⟩))
 go_ret2
 exact ⟨rfl,H.out⟩
theorem Own.tabOpen {w0 w:World} {l:List Thing} {p:Nat→Option Nat} {T:Nat→List Ent} {K k b:Nat} (h:Own w0 w (Tabs p T K::l)) (hk:k < 64) (hp:p k=some b):∃ c,c≤K∧T k≠[]∧(T k).length≤K∧Own w0 w (Table b k (T k) c::TabsBut k p T K::l):=by
 have h:=h.tabOut k hk
 rw [hp] at h
 obtain ⟨⟨c,h1,h2,h3⟩,h⟩:=Own.ex_iff.1 h
 exact ⟨c,h1,h2,h3,h⟩
theorem Own.tabShut {w0 w:World} {l:List Thing} {b m c K:Nat} {L:List Ent} (h:Own w0 w (Table b m L c::l)) (h1:c≤K) (h2:L≠[]) (h3:L.length≤K):Own w0 w (TbS (some b) m L K::l):=Own.ex_iff.2 ⟨⟨c,h1,h2,h3⟩,h⟩
theorem Own.tabEmpty {w0 w:World} {l:List Thing} {m K:Nat} {L:List Ent} (h:Own w0 w l) (h2:L=[]):Own w0 w (TbS none m L K::l):=Own.ex_iff.2 ⟨⟨h2⟩,h⟩
theorem pp_some (b:Nat):pp (some b)=some ⟨b,0,none⟩:=rfl
theorem pp_none:pp none=none:=rfl
def StoB (b:Nat) (σ:Sto) (K:Nat) (x:Nat × Value × (Nat→Option Nat)) (m:Nat):Thing :=
 Ex (fun _:Unit=>[Cells b (scells x.1 x.2.1 x.2.2) 176,Slots x.1 σ.S,Row 5 1 x.2.1 σ.mks.length (irow .u8 σ.mks),TabsBut m x.2.2 σ.T K])
section
variable {w0 w:World} {l:List Thing} {b bs:Nat} {v:Value} {p:Nat→Option Nat} {σ:Sto} {K m:Nat}
theorem Own.stoB (h:Own w0 w (StoX b σ K (bs,v,p)::l)) (hm:m < 64) {bt:Nat} (hp:p m=some bt):∃ c,c≤K∧σ.T m≠[]∧(σ.T m).length≤K∧Own w0 w (Table bt m (σ.T m) c::StoB b σ K (bs,v,p) m::l):=by
 obtain ⟨c,h1,h2,h3,h⟩:=h.stoO.four.tabOpen hm hp
 exact ⟨c,h1,h2,h3,Own.ex2.2 ⟨(),(h.perm ((List.Perm.refl _).cons _ |>.trans (List.Perm.cons _ (List.perm_middle (l₁:=[Cells b (scells bs v p) 176,Slots bs σ.S,Row 5 1 v σ.mks.length (irow .u8 σ.mks)]) (l₂:=l)).symm)))⟩⟩
theorem Own.stoN (h:Own w0 w (StoX b σ K (bs,v,p)::l)) (hm:m < 64) (hp:p m=none):σ.T m=[]∧Own w0 w (StoB b σ K (bs,v,p) m::l):=by
 have h:=h.stoO.four.tabOut m hm
 rw [hp] at h
 refine ⟨Own.tabNone h,Own.ex_iff.2 ⟨(),h.tail.back4⟩⟩
theorem Own.stoI {q:Option Nat} {L:List Ent} {K':Nat} (hm:m < 64) (hK:K≤K') (h:Own w0 w (TbS q m L K'::StoB b σ K (bs,v,upd p m q) m::l)):Own w0 w (StoX b { σ with T:=upd σ.T m L } K' (bs,v,upd p m q)::l):=by
 obtain ⟨_,h⟩:=Own.ex2.1 h
 refine Own.ex_iff.2 ⟨(),?_⟩
 have h2:Own w0 w (TbS q m L K'::TabsBut m (upd p m q) σ.T K::Cells b (scells bs v (upd p m q)) 176::Slots bs σ.S::Row 5 1 v σ.mks.length (irow .u8 σ.mks)::l) :=
  h.perm (List.Perm.cons _ (List.perm_middle (l₁:=[Cells b (scells bs v (upd p m q)) 176,Slots bs σ.S,Row 5 1 v σ.mks.length (irow .u8 σ.mks)]) (l₂:=l)))
 have h3:=h2.tabIn hm hK
 have e:upd (upd p m q) m q=upd p m q:=by funext j;unfold upd;split <;> rfl
 rw [e] at h3
 exact h3.back4
theorem Own.stoBcell (h:Own w0 w (StoB b σ K (bs,v,p) m::l)) (k:Nat) (hk:k < 64):w.cell? ⟨b,2+k,none⟩=some (.pointer (pp (p k)))∧w.frozen? ⟨b,2+k,none⟩=false:=by
 obtain ⟨_,h⟩:=Own.ex_iff.1 h
 exact ⟨by rw [h.cell,scells_tab _ _ _ _ hk],h.froz _⟩
theorem Own.stoBset (h:Own w0 w (StoB b σ K (bs,v,p) m::l)) (hm:m < 64) (q:Option Nat):Own w0 (w.setCell ⟨b,2+m,none⟩ (.pointer (pp q))) (StoB b σ K (bs,v,upd p m q) m::l):=by
 obtain ⟨_,h⟩:=Own.ex_iff.1 h
 have h2:=h.setC (2+m) (.pointer (pp q))
 rw [scells_set _ _ _ _ hm] at h2
 refine Own.ex_iff.2 ⟨(),?_⟩
 have e:TabsBut m (upd p m q) σ.T K=TabsBut m p σ.T K:=TabsOn.congr (fun k hk=>⟨upd_other _ _ _ (but_mem hk),rfl⟩)
 show Own w0 _ (_::_::_::TabsBut m (upd p m q) σ.T K::l)
 rw [e]
 exact h2
theorem Own.stoMset {g cap:Nat} (h:Own w0 w (StoX b σ K (bs,.slice (some ⟨g,0,none⟩) σ.mks.length cap,p)::l)) (s x:Nat):Own w0 (w.setCell ⟨g,s,none⟩ (.int .u8 (x:Int))) (StoX b { σ with mks:=σ.mks.set s x } K (bs,.slice (some ⟨g,0,none⟩) σ.mks.length cap,p)::l):=by
 have h2:=(h.stoO.three.setR s (.int .u8 (x:Int))).back3
 rw [← irow_set] at h2
 refine Own.ex_iff.2 ⟨(),?_⟩
 simp only [List.length_set]
 exact h2
end
end Go.Proofs.YtogmdoiecpihdaaGreatDoor
namespace Go.Proofs.YtogmdoiecpihdaaGreatDoor
open Go.RowKit Go.Maps
set_option linter.unusedVariables false
set_option maxHeartbeats 1000000
set_option maxRecDepth 100000
theorem run1_own {P:Program} {w0 w:World} {l:List Thing} (t ty e:TypeId) (i:TypeInfo) (z:Value) (size bytes:Nat) (ht:P.underlying t=some (.slice e)) (hi:P.info? e=some i) (hz:i.zero=some z)
  (hsize:i.size=size) (hby:i.bytes=bytes) (hzs:z.cells.size=size) (hsz:0 < size) (v:Value) (n:Nat) (xs:List Value) (h:Own w0 w (Row e size v n xs::l)) (cs:Array Value) (hl:cs.size=size) (h1:∀ u∈cs.toList,u.oneCell'=true) (h63:n+1≤maxLen) (hbytes:(n+1)*bytes≤140737488355328) :
  ∃ g cap w',(Builtin.append_ #[t,t] ty #[v,.slice (some ⟨w.heap.size,0,none⟩) 1 1]).run P (w.alloc (.cells cs e))=.ok (.slice (some ⟨g,0,none⟩) (n+1) cap) w'∧Own w0 w' (Row e size (.slice (some ⟨g,0,none⟩) (n+1) cap) (n+1) (xs++cs.toList)::l):=by
 have h':=h.alloc (.cells cs e)
 obtain ⟨g,cap,w',hr,ho,hg,hat,hlt⟩:=run_append_lies (P:=P) (w:=w.alloc (.cells cs e)) t ty 0 e i z size bytes ht hi hz hsize hby hzs hsz v n xs h'.row ⟨w.heap.size,0,none⟩ 1 1 cs.toList (by simp [hl]) (cells_new w cs e _ rfl) h1 (by decide) h63 hbytes (Nat.zero_le _) _ rfl
 refine ⟨g,cap,w',hr,h'.grow ho hg (fun k hk=>?_)⟩
 have hk':k=g:=by simp [Value.ownBlock] at hk;exact hk.symm
 subst hk'
 rcases hat with q | q
 ·exact .inl q
 ·exact .inr (by rw [q];exact Nat.le_refl _)
theorem Tryz.infoID2:(Tryz.prog.info? 38).map (fun i=>(i.zero,i.size,i.bytes))=some (some (.int .u32 0),1,4):=by kernel_rfl
theorem Tryz.infoA3:(Tryz.prog.info? 44).map (fun i=>(i.zero,i.size,i.bytes))=some (some (.agg #[.int .i32 0,.int .i32 0,.int .i32 0]),3,12):=by kernel_rfl
theorem pushI (w0 w:World) (l:List Thing) (b:Nat) (cur:Array Value) (t:TypeId) (p:Nat) (v:Value) (n:Nat) (xs:List Value) (id:Nat) (h:Own w0 w (Cells b cur t::Row 38 1 v n xs::l)) (hp:cur[p]? = some v) (hn:n≤1000000) :
  Calls Tryz.prog 254 #[.pointer (some ⟨b,p,none⟩),.int .u32 (id:Int)] w fun e w'=>e=.returned (.tuple #[])∧∃ g cap,Own w0 w' (Cells b (cur.setIfInBounds p (.slice (some ⟨g,0,none⟩) (n+1) cap)) t::Row 38 1 (.slice (some ⟨g,0,none⟩) (n+1) cap) (n+1) (xs++[.int .u32 (id:Int)])::l):=by
 obtain ⟨i0,hi,hz0,hz1,hz2⟩:=info_parts Tryz.infoID2
 obtain ⟨ao,cap,rfl⟩:=row_any h.two.row
 have q:=h.cell p
 rw [hp] at q
 have H:Hid (Own w0 w (Cells b cur t::Row 38 1 (.slice ao n cap) n xs::l)):=h
 have HP:Hid (cur[p]? = some (.slice ao n cap)):=hp
 clear h hp
 go_enter Tryz.func254,Tryz.ntmps254
 go_wp2_with (at_builtin;refine append1_own rfl _ _ 55 rfl 38 i0 (.int .u32 0) 1 4 Tryz.underlying55 hi hz0 hz1 hz2 rfl (by decide) _ _ _ rfl H.out.two _ #[.int .u32 (id:Int)] (by simp) rfl rfl (one_int _ _) (by unfold maxLen;omega) (by omega) ?_)
 intro g1 c1 w1 hO hsz
 have k2:=hO.two.cell p
 rw [HP.out] at k2
 have z2:=hO.two.froz p
 have H1:Hid (Own w0 w1 _):=hO
 clear hO H q hsz
 go_wp2
 go_end0
 exact ⟨rfl,g1,c1,H1.out.two.setC p _⟩
theorem pushF (w0 w:World) (l:List Thing) (b:Nat) (cur:Array Value) (t:TypeId) (p:Nat) (v:Value) (n:Nat) (xs:List Value) (x:Fs) (h:Own w0 w (Cells b cur t::Row 44 3 v n xs::l)) (hp:cur[p]? = some v) (hn:n≤1000000) :
  Calls Tryz.prog 255 #[.pointer (some ⟨b,p,none⟩),.agg #[.int .i32 x.1,.int .i32 x.2.1,.int .i32 x.2.2]] w fun e w'=>e=.returned (.tuple #[])∧∃ g cap,Own w0 w' (Cells b (cur.setIfInBounds p (.slice (some ⟨g,0,none⟩) (n+1) cap)) t::Row 44 3 (.slice (some ⟨g,0,none⟩) (n+1) cap) (n+1) (xs++fc x)::l):=by
 obtain ⟨i0,hi,hz0,hz1,hz2⟩:=info_parts Tryz.infoA3
 obtain ⟨x0,x1,x2⟩:=x
 show Calls _ _ #[_,.agg #[.int .i32 x0,.int .i32 x1,.int .i32 x2]] _ _
 obtain ⟨ao,cap,rfl⟩:=row_any h.two.row
 have hbw:=h.lt
 have hbn:b≠w.heap.size:=by omega
 have hbn':w.heap.size≠b:=by omega
 have hbn1:b≠w.heap.size+1:=by omega
 have hbn2:w.heap.size+1≠b:=by omega
 have hbw1:b < w.heap.size+1:=by omega
 have hP:=h.allocC #[.int .i32 x0,.int .i32 x1,.int .i32 x2] 44
 have p0:=hP.cell 0
 have p1:=hP.cell 1
 have p2:=hP.cell 2
 simp at p0 p1 p2
 have q:=hP.two.cell p
 rw [hp] at q
 obtain ⟨g',c',w1,hrun,hO⟩:=run1_own (P:=Tryz.prog) 303 303 44 i0 (.agg #[.int .i32 0,.int .i32 0,.int .i32 0]) 3 12 Tryz.underlying303 hi hz0 hz1 hz2 rfl (by decide) _ n _ hP.three.drew #[.int .i32 x0,.int .i32 x1,.int .i32 x2] rfl (by intro u hu;simp at hu;rcases hu with rfl | rfl | rfl <;> rfl) (by unfold maxLen;omega) (by omega)
 have hszz:(w.alloc (.cells #[.int .i32 x0,.int .i32 x1,.int .i32 x2] 44)).drew.heap.size=w.heap.size+1:=by simp [World.drew]
 rw [hszz] at hrun
 have HRUN:Hid _:=hrun
 clear hrun hszz hP
 have k2:=hO.three.cell p
 rw [hp] at k2
 have z2:=hO.three.froz p
 have H1:Hid (Own w0 w1 (Cells b cur t::Row 44 3 (.slice (some ⟨g',0,none⟩) (n+1) c') (n+1) (xs++[.int .i32 x0,.int .i32 x1,.int .i32 x2])::l)):=hO.two.tail.two
 clear hO h hp
 go_enter Tryz.func255,Tryz.ntmps255
 go_wp2_with fail
 go_region_law (refine step_run rfl (.tmp 8) (.tmp 10) 303 303 303 rfl rfl (.slice ao n cap) (.slice (some ⟨w.heap.size+1,0,none⟩) 1 1) (.slice (some ⟨g',0,none⟩) (n+1) c') w1 (by simp [Act.eval]) (by simp [Act.eval]) HRUN.out ?_)
 all_goals
  go_wp2
  go_end0
  exact ⟨rfl,g',c',H1.out.setC p _⟩
theorem cat_set3 (G:List Fs) (r:Nat) (x:Fs):cat fc (G.set r x)=if r < G.length then (((cat fc G).set (r*3) (.int .i32 x.1)).set (r*3+1) (.int .i32 x.2.1)).set (r*3+2) (.int .i32 x.2.2) else cat fc G:=by
 induction G generalizing r with
 | nil=>simp [cat]
 | cons y G ih =>
  cases r with
  | zero=>simp [cat,fc]
  | succ r =>
   have e:=ih r
   simp only [List.set_cons_succ,List.length_cons]
   have e1:∀ (A:List Fs) (z:Fs),cat fc (z::A)=[.int .i32 z.1,.int .i32 z.2.1,.int .i32 z.2.2]++cat fc A:=fun _ _=>rfl
   rw [e1,e1,e]
   by_cases c:r < G.length
   ·rw [if_pos c,if_pos (by omega),show (r+1)*3=r*3+3 by omega]
    simp
   ·rw [if_neg c,if_neg (by omega)]
theorem cat_take {α:Type} (c:α→List Value) (s:Nat) (hs:∀ x,(c x).length=s) (L:List α) (n:Nat):(cat c L).take (n*s)=cat c (L.take n):=by
 induction n generalizing L with
 | zero=>simp [cat]
 | succ n ih =>
  cases L with
  | nil=>simp [cat]
  | cons x L =>
   rw [List.take_succ_cons]
   show (c x++cat c L).take _=c x++cat c (L.take n)
   rw [Nat.succ_mul,Nat.add_comm,← ih L,List.take_append,hs x,List.take_of_length_le (by rw [hs x];omega),Nat.add_sub_cancel_left]
theorem outr_take {α:Type} (G:List α) (r:Nat) (x:α) (hx:G[G.length - 1]? = some x):outr G r=(G.set r x).take (G.length - 1):=by
 unfold outr
 have hl:G.getLast? = G[G.length - 1]?:=List.getLast?_eq_getElem?
 rw [hl,hx]
 simp [List.dropLast_eq_take]
theorem dropI (w0 w:World) (l:List Thing) (b:Nat) (cur:Array Value) (t:TypeId) (p:Nat) (v:Value) (n:Nat) (I:List Nat) (r:Nat) (h:Own w0 w (Cells b cur t::Row 38 1 v (n+1) (irow .u32 I)::l)) (hl:I.length=n+1) (hp:cur[p]? = some v) (hr:r < n+1) (hn:n≤1000000) :
  Calls Tryz.prog 237 #[.pointer (some ⟨b,p,none⟩),.int .i64 (r:Int)] w fun e w'=>e=.returned (.tuple #[])∧∃ g cap,Own w0 w' (Cells b (cur.setIfInBounds p (.slice (some ⟨g,0,none⟩) n cap)) t::Row 38 1 (.slice (some ⟨g,0,none⟩) n cap) n (irow .u32 (outr I r))::l):=by
 obtain ⟨g,cap,rfl,_⟩:=row_shape h.two.row (by omega)
 have hcap:=(row_cap h.two.row).2
 have q:=h.cell p
 rw [hp] at q
 have zq:=h.froz p
 have hgb:g≠b:=by
  have:=h.ne
  simpa [Value.ownBlock] using this
 have hgb':b≠g:=fun e=>hgb e.symm
 obtain ⟨x,hx⟩:∃ x,I[n]? = some x:=⟨_,List.getElem?_eq_getElem (by omega)⟩
 obtain ⟨y,hy⟩:∃ y,I[r]? = some y:=⟨_,List.getElem?_eq_getElem (by omega)⟩
 have c1:=h.two.row.cellAt n (by omega)
 rw [getElem?_irow,hx] at c1
 have c2:=h.two.row.cellAt r (by omega)
 rw [getElem?_irow,hy] at c2
 simp only [Option.map_some] at c1 c2
 have zr:w.frozen? ⟨g,r,none⟩=false:=h.two.row.frozenAt r
 have hcap2:n≤cap:=by omega
 have hcap3:¬ cap=0:=by omega
 have hr':(r:Int) < (n:Int)+1:=by omega
 have HF:Hid (Own w0 ((w.setCell ⟨g,r,none⟩ (.int .u32 (x:Int))).setCell ⟨b,p,none⟩ (.slice (some ⟨g,0,none⟩) n cap)) (Cells b (cur.setIfInBounds p (.slice (some ⟨g,0,none⟩) n cap)) t::Row 38 1 (.slice (some ⟨g,0,none⟩) n cap) n (irow .u32 (outr I r))::l)):=by
  have h1:=((h.two.setR r (.int .u32 (x:Int))).cut (m:=n) (by omega)).two.setC p (.slice (some ⟨g,0,none⟩) n cap)
  have e:(irow .u32 (outr I r))=((irow .u32 I).set r (.int .u32 (x:Int))).take (n*1):=by
   rw [outr_take I r x (by rw [hl];exact hx),← irow_set,Nat.mul_one,hl,← irow_take];rfl
  rw [e];exact h1
 clear h hp hx hy
 go_enter Tryz.func237,Tryz.ntmps237
 go_wp2
 go_region
 all_goals
  go_wp2
  go_end0
  exact ⟨rfl,g,cap,HF.out.drew⟩
theorem fcell {w0 w:World} {l:List Thing} {g n cap:Nat} {G:List Fs} (h:Own w0 w (Row 44 3 (.slice (some ⟨g,0,none⟩) n cap) G.length (cat fc G)::l)) (i:Nat) (x:Fs) (hx:G[i]? = some x) :
  w.cell? ⟨g,i*3,none⟩=some (.int .i32 x.1)∧w.cell? ⟨g,i*3+1,none⟩=some (.int .i32 x.2.1)∧w.cell? ⟨g,i*3+2,none⟩=some (.int .i32 x.2.2):=by
 have hn:=(row_cap h.row).1
 subst hn
 have hi:=(List.getElem?_eq_some_iff.1 hx).1
 refine ⟨?_,?_,?_⟩
 ·rw [h.row.cellAt _ (by omega)]
  exact (cat_at fc 3 fc_len G i 0 x hx (by decide)).trans rfl
 ·rw [h.row.cellAt _ (by omega)]
  exact (cat_at fc 3 fc_len G i 1 x hx (by decide)).trans rfl
 ·rw [h.row.cellAt _ (by omega)]
  exact (cat_at fc 3 fc_len G i 2 x hx (by decide)).trans rfl
theorem dropF (w0 w:World) (l:List Thing) (b:Nat) (cur:Array Value) (t:TypeId) (p:Nat) (v:Value) (n:Nat) (G:List Fs) (r:Nat) (h:Own w0 w (Cells b cur t::Row 44 3 v G.length (cat fc G)::l)) (hl:G.length=n+1) (hp:cur[p]? = some v) (hr:r < n+1) (hn:n≤1000000) :
  Calls Tryz.prog 238 #[.pointer (some ⟨b,p,none⟩),.int .i64 (r:Int)] w fun e w'=>e=.returned (.tuple #[])∧∃ g cap,Own w0 w' (Cells b (cur.setIfInBounds p (.slice (some ⟨g,0,none⟩) n cap)) t::Row 44 3 (.slice (some ⟨g,0,none⟩) n cap) n (cat fc (outr G r))::l):=by
 obtain ⟨g,cap,rfl,_⟩:=row_shape h.two.row (by omega)
 have hcap:=(row_cap h.two.row).2
 have q:=h.cell p
 rw [hp] at q
 have zq:=h.froz p
 have hgb:g≠b:=by
  have:=h.ne
  simpa [Value.ownBlock] using this
 have hgb':b≠g:=fun e=>hgb e.symm
 obtain ⟨x,hx⟩:∃ x,G[n]? = some x:=⟨_,List.getElem?_eq_getElem (by omega)⟩
 obtain ⟨y,hy⟩:∃ y,G[r]? = some y:=⟨_,List.getElem?_eq_getElem (by omega)⟩
 obtain ⟨c0,c1,c2⟩:=fcell h.two n x hx
 obtain ⟨d0,d1,d2⟩:=fcell h.two r y hy
 have z0:w.frozen? ⟨g,r*3,none⟩=false:=h.two.row.frozenAt _
 have z1:w.frozen? ⟨g,r*3+1,none⟩=false:=h.two.row.frozenAt _
 have z2:w.frozen? ⟨g,r*3+2,none⟩=false:=h.two.row.frozenAt _
 have hcap2:n≤cap:=by omega
 have hcap3:¬ cap=0:=by omega
 have hr':(r:Int) < (n:Int)+1:=by omega
 obtain ⟨x0,x1,x2⟩:=x
 simp only at c0 c1 c2
 have HF:Hid (Own w0 ((((w.setCell ⟨g,r*3,none⟩ (.int .i32 x0)).setCell ⟨g,r*3+1,none⟩ (.int .i32 x1)).setCell ⟨g,r*3+2,none⟩ (.int .i32 x2)).setCell ⟨b,p,none⟩ (.slice (some ⟨g,0,none⟩) n cap)) (Cells b (cur.setIfInBounds p (.slice (some ⟨g,0,none⟩) n cap)) t::Row 44 3 (.slice (some ⟨g,0,none⟩) n cap) n (cat fc (outr G r))::l)):=by
  have h0:=h.two
  rw [hl] at h0
  have h1:=((((h0.setR (r*3) (.int .i32 x0)).setR (r*3+1) (.int .i32 x1)).setR (r*3+2) (.int .i32 x2)).cut (m:=n) (by omega)).two.setC p (.slice (some ⟨g,0,none⟩) n cap)
  have e:cat fc (outr G r)=((((cat fc G).set (r*3) (.int .i32 x0)).set (r*3+1) (.int .i32 x1)).set (r*3+2) (.int .i32 x2)).take (n*3):=by
   have e1:=cat_set3 G r (x0,x1,x2)
   rw [if_pos (by omega)] at e1
   rw [outr_take G r (x0,x1,x2) (by rw [hl];exact hx),← cat_take fc 3 fc_len,e1,hl];rfl
  rw [e];exact h1
 rw [hl] at q
 clear h hp hx hy
 go_enter Tryz.func238,Tryz.ntmps238
 go_wp2
 go_region
 all_goals
  go_wp2
  go_end0
  exact ⟨rfl,g,cap,HF.out.drew⟩
theorem has_bit (m k:Nat) (hm:m < 64):(bits .and .u8 ((m:Int) / 2 ^ min k 8) 1 == 1)=bt m k:=by
 have h1:((m:Int) / 2 ^ min k 8)=((m / 2 ^ min k 8:Nat):Int):=by simp
 have h2:m / 2 ^ min k 8 < 256:=Nat.lt_of_le_of_lt (Nat.div_le_self _ _) (by omega)
 have h3:=u8_and_nat (m / 2 ^ min k 8) 1 h2 (by decide)
 rw [h1]
 show (bits .and .u8 ((m / 2 ^ min k 8:Nat):Int) ((1:Nat):Int) == 1)=_
 rw [h3,Nat.and_one_is_mod]
 have e:m / 2 ^ min k 8=m / 2 ^ k:=by
  rcases Nat.le_total k 8 with q | q
  ·rw [Nat.min_eq_left q]
  ·rw [Nat.min_eq_right q]
   have a1:2 ^ 8≤2 ^ k:=Nat.pow_le_pow_right (by decide) q
   rw [Nat.div_eq_of_lt (by omega:m < 2 ^ 8),Nat.div_eq_of_lt (by omega)]
 rw [e]
 unfold bt
 generalize m / 2 ^ k=z
 rcases Nat.mod_two_eq_zero_or_one z with q | q <;> rw [q] <;> rfl
section
variable (w0 w:World) (l:List Thing) (b m:Nat) (I:List Nat) (g:Nat→List Fs) (p:Nat→Option Nat) (c:Nat)
theorem TabG.open (h:Own w0 w (TabG b m I g p c::l)):∃ vi v mb,Own w0 w (Cells b (tcells m vi v mb) 311::Row 38 1 vi I.length (irow .u32 I)::RowMap mb c p::(cols (colT v g)++l)):=by
 obtain ⟨⟨vi,v,mb⟩,h⟩:=Own.ex_iff.1 h
 exact ⟨vi,v,mb,h⟩
theorem TabG.shut (vi:Value) (v:Nat→Value) (mb:Nat) (h:Own w0 w (Cells b (tcells m vi v mb) 311::Row 38 1 vi I.length (irow .u32 I)::RowMap mb c p::(cols (colT v g)++l))):Own w0 w (TabG b m I g p c::l) :=
 Own.ex_iff.2 ⟨⟨vi,v,mb⟩,h⟩
theorem tnew (h:Own w0 w l) (hm:m < 64) :
  Calls Tryz.prog 241 #[.int .u8 (m:Int)] w fun e w'=>∃ b,e=.returned (.tuple #[.pointer (some ⟨b,0,none⟩),.int .i64 0])∧Own w0 w' (Table b m [] 0::l):=by
 have H:Hid (Own w0 w l):=h
 have hm':¬ (64:Int)≤(m:Int):=by omega
 have hmm:=@run_makeMap Tryz.prog
 clear h
 go_enter Tryz.func241,Tryz.ntmps241
 go_wp2
 go_ret2
 refine ⟨_,rfl,TabG.shut _ _ _ _ _ _ _ _ _ (.slice none 0 0) (fun _=>.slice none 0 0) w.heap.size ?_⟩
 have h1:=(H.out.mapNew.allocC (tcells m (.slice none 0 0) (fun _=>.slice none 0 0) w.heap.size) 311)
 have hs1:(w.alloc (.map #[] 0)).heap.size=w.heap.size+1:=by simp
 rw [hs1] at h1
 have h2:Own w0 _ (RowMap w.heap.size 0 (plc [])::Cells (w.heap.size+1) (tcells m (.slice none 0 0) (fun _=>.slice none 0 0) w.heap.size) 311::l):=h1.two.mapIs (q:=plc []) 0 (Nat.le_refl _) (fun x _=>by simp [plc])
 have e:∀ k,colT (fun _=>.slice none 0 0) (clm m []) k=Row 44 3 (.slice none 0 0) 0 []:=by intro k;simp [colT,clm,cat]
 have h3:=((((((h2.nilRow 44 3).nilRow 44 3).nilRow 44 3).nilRow 44 3).nilRow 44 3).nilRow 44 3).nilRow 38 1
 unfold cols
 simp only [e]
 refine h3.perm ?_
 simp only [ids,List.map_nil,List.length_nil,irow,List.cons_append,List.nil_append]
 refine List.Perm.trans ?_ (List.perm_middle (l₁:=[Row 38 1 (.slice none 0 0) 0 [],RowMap w.heap.size 0 (plc []),Row 44 3 (.slice none 0 0) 0 [],Row 44 3 (.slice none 0 0) 0 [],Row 44 3 (.slice none 0 0) 0 [],Row 44 3 (.slice none 0 0) 0 [],Row 44 3 (.slice none 0 0) 0 [],Row 44 3 (.slice none 0 0) 0 []]))
 refine List.Perm.cons _ ?_
 exact List.perm_middle (l₁:=[Row 44 3 (.slice none 0 0) 0 [],Row 44 3 (.slice none 0 0) 0 [],Row 44 3 (.slice none 0 0) 0 [],Row 44 3 (.slice none 0 0) 0 [],Row 44 3 (.slice none 0 0) 0 [],Row 44 3 (.slice none 0 0) 0 []])
theorem tlen (h:Own w0 w (TabG b m I g p c::l)) :
  Calls Tryz.prog 200 #[.pointer (some ⟨b,0,none⟩)] w fun e w'=>e=.returned (.int .i64 (I.length:Int))∧w'=w:=by
 obtain ⟨vi,v,mb,h⟩:=TabG.open _ _ _ _ _ _ _ _ _ h
 obtain ⟨ao,cap,rfl⟩:=row_any h.two.row
 have q:=h.cell 1
 simp [tcells] at q
 clear h
 go_enter Tryz.func200,Tryz.ntmps200
 go_wp2
 go_ret
 exact ⟨rfl,rfl⟩
theorem tmask (h:Own w0 w (TabG b m I g p c::l)) :
  Calls Tryz.prog 201 #[.pointer (some ⟨b,0,none⟩)] w fun e w'=>e=.returned (.int .u8 (m:Int))∧w'=w:=by
 obtain ⟨vi,v,mb,h⟩:=TabG.open _ _ _ _ _ _ _ _ _ h
 have q:=h.cell 0
 simp [tcells] at q
 clear h
 go_enter Tryz.func201,Tryz.ntmps201
 go_wp2
 go_ret
 exact ⟨rfl,rfl⟩
theorem trow (h:Own w0 w (TabG b m I g p c::l)) (id:Nat) (hid:id < 4294967296) :
  Calls Tryz.prog 173 #[.pointer (some ⟨b,0,none⟩),.int .u32 (id:Int)] w fun e w'=>e=.returned (lk (p id))∧w'=w:=by
 obtain ⟨vi,v,mb,h⟩:=TabG.open _ _ _ _ _ _ _ _ _ h
 have q:=h.cell 8
 simp [tcells] at q
 have hl:=h.three.mapLook id hid
 clear h
 cases hp:p id with
 | none =>
  rw [hp] at hl
  simp only [lk] at hl ⊢
  go_enter Tryz.func173,Tryz.ntmps173
  go_wp2
  go_ret2
  exact ⟨rfl,rfl⟩
 | some r =>
  rw [hp] at hl
  simp only [lk] at hl ⊢
  go_enter Tryz.func173,Tryz.ntmps173
  go_wp2
  go_ret2
  exact ⟨rfl,rfl⟩
theorem thas (h:Own w0 w (TabG b m I g p c::l)) (k:Nat) (hk:k < 256) (hm:m < 64) :
  Calls Tryz.prog 197 #[.pointer (some ⟨b,0,none⟩),.int .u8 (k:Int)] w fun e w'=>e=.returned (.bool (bt m k))∧w'=w:=by
 obtain ⟨vi,v,mb,h⟩:=TabG.open _ _ _ _ _ _ _ _ _ h
 have q:=h.cell 0
 simp [tcells] at q
 clear h
 go_enter Tryz.func197,Tryz.ntmps197
 go_wp2
 go_ret
 refine ⟨?_,rfl⟩
 show Ending.returned (.bool (bits .and .u8 ((m:Int) / 2 ^ min k 8) 1 == 1))=_
 rw [has_bit m k hm]
theorem tcomp (xx:Value × (Nat→Value) × Nat) (h:Own w0 w (TabX b m I g p c xx::l)) (k:Nat) (hk:k < 6) (r:Nat) (x:Fs) (hx:(g k)[r]? = some x) :
  Calls Tryz.prog 198 #[.pointer (some ⟨b,0,none⟩),.int .i64 (r:Int),.int .u8 (k:Int)] w fun e w'=>e=.returned (.agg #[.int .u8 (k:Int),.int .i32 x.1,.int .i32 x.2.1,.int .i32 x.2.2])∧Own w0 w' (TabX b m I g p c xx::l):=by
 obtain ⟨vi,v,mb⟩:=xx
 obtain ⟨_,h⟩:=Own.ex_iff.1 h
 replace h:Own w0 w (Cells b (tcells m vi v mb) 311::Row 38 1 vi I.length (irow .u32 I)::RowMap mb c p::(cols (colT v g)++l)):=h
 have hA:=h.allocC #[.int .u8 0,.int .i32 0,.int .i32 0,.int .i32 0] 46
 have z0:=hA.cell 0
 have z1:=hA.cell 1
 have z2:=hA.cell 2
 have z3:=hA.cell 3
 simp at z0 z1 z2 z3
 have y0:=hA.froz 0
 have y1:=hA.froz 1
 have y2:=hA.froz 2
 have y3:=hA.froz 3
 have hb:=h.lt
 have hbn:b≠w.heap.size:=by omega
 have hbn':w.heap.size≠b:=by omega
 have hc:=hA.two.cell (2+k)
 rw [tcells_col m vi v mb k hk] at hc
 have hrl:r < (g k).length:=(List.getElem?_eq_some_iff.1 hx).1
 have hR:=(Own.col k hk h).two
 obtain ⟨gg,cap,hv,_⟩:=row_shape hR.row (by omega)
 rw [hv] at hc
 unfold colT at hR
 rw [hv] at hR
 obtain ⟨c0,c1,c2⟩:=fcell (hR.alloc (.cells #[.int .u8 0,.int .i32 0,.int .i32 0,.int .i32 0] 46)) r x hx
 have hgg:gg < w.heap.size:=(hR.row.lt gg rfl).2
 have hgn:gg≠w.heap.size:=by omega
 have hgn':w.heap.size≠gg:=by omega
 obtain ⟨x0,x1,x2⟩:=x
 simp only at c0 c1 c2 ⊢
 have hk':(k:Int) < 6:=by omega
 have hrl':(r:Int) < ((g k).length:Int):=by omega
 have HF:Hid (Own w0 (w.alloc (.cells #[.int .u8 (k:Int),.int .i32 x0,.int .i32 x1,.int .i32 x2] 46)) (Cells w.heap.size #[.int .u8 (k:Int),.int .i32 x0,.int .i32 x1,.int .i32 x2] 46::TabX b m I g p c (vi,v,mb)::l)):=by
  have h1:=h.allocC #[.int .u8 (k:Int),.int .i32 x0,.int .i32 x1,.int .i32 x2] 46
  exact Own.ex2.2 ⟨(),h1⟩
 generalize (g k).length=gl at *
 clear h hA hR hx hv
 go_enter Tryz.func198,Tryz.ntmps198
 go_wp2
 (try simp only [Exit.inBlock,Exit.then])
 refine bodyPost_ret (v:=.agg #[.int .u8 (k:Int),.int .i32 x0,.int .i32 x1,.int .i32 x2]) ?_ rfl ⟨rfl,HF.out.tail⟩
 have r0:=HF.out.cell 0
 have r1:=HF.out.cell 1
 have r2:=HF.out.cell 2
 have r3:=HF.out.cell 3
 simp at r0 r1 r2 r3
 simp only [results]
 go_simp
end
end Go.Proofs.YtogmdoiecpihdaaGreatDoor
