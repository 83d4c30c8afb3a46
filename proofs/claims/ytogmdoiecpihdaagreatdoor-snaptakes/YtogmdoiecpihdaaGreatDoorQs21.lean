/- A store's Set. -/
import Derived.Test.YtogmdoiecpihdaaGreatDoorQs17
namespace Go.Proofs.YtogmdoiecpihdaaGreatDoor
open Go.RowKit Go.Maps
set_option linter.unusedVariables false
set_option maxHeartbeats 2000000
set_option maxRecDepth 100000
theorem plc_same {L:List Ent} {r id:Nat} {C C':List Cp} (he:L[r]? = some (id,C)) (x:Nat):plc (L.set r (id,C')) x=plc L x:=by
 have key:∀ M:List Ent,plc M x=(ids M).findIdx? (fun y=>decide (y=x)):=by
  intro M
  unfold plc ids
  rw [List.findIdx?_map]
  rfl
 rw [key,key]
 have:ids (L.set r (id,C'))=ids L:=by
  unfold ids
  apply List.ext_getElem?
  intro i
  rw [List.getElem?_map,List.getElem?_map,List.getElem?_set]
  by_cases c:r=i
  ·subst c
   have hr:=(List.getElem?_eq_some_iff.1 he).1
   rw [he];simp [hr]
  ·rw [if_neg c]
 rw [this]
def Sto.set (σ:Sto) (id:Nat) (c:Cp):Int × Sto :=
 if c.chk≠0 then ((c.chk:Int),σ) else if σ.S.isLive id=false then (7,σ) else if hasK (σ.cps id) c.k=false then (10,σ) else (0,{ σ with T:=upd σ.T (σ.hom id) ((σ.T (σ.hom id)).set ((plc (σ.T (σ.hom id)) id).getD 0) (id,setc (σ.cps id) c)) })
theorem Sto.set_ok {σ:Sto} (h:σ.Ok) (id:Nat) (c:Cp):(σ.set id c).2.Ok:=by
 unfold Sto.set
 split
 ·exact h
 ·rename_i h0
  have hc:c.chk=0:=by simpa using h0
  split
  ·exact h
  ·rename_i h1
   have hl:σ.S.isLive id=true:=by simpa using h1
   split
   ·exact h
   ·obtain ⟨r,C,hr,he,hC,hm,h6⟩:=h.ent hl
    rw [Sto.cps_of hr he,hr]
    simp only [Option.getD_some]
    generalize hk:σ.hom id=k at *
    refine ⟨h.s,h.ml,?_,?_,?_⟩
    ·intro m hm'
     show TOk m (upd σ.T k _ m)
     by_cases e:m=k
     ·subst e;rw [upd_same];exact (h.t m hm').set he c hc
     ·rw [upd_other _ _ _ e];exact h.t m hm'
    ·intro m hm' x hx
     replace hx:x∈upd σ.T k ((σ.T k).set r (id,setc C c)) m:=hx
     by_cases e:m=k
     ·subst e
      rw [upd_same] at hx
      rcases List.mem_or_eq_of_mem_set hx with hx | hx
      ·exact h.lv m hm' x hx
      ·subst hx
       exact h.lv m hm' (id,C) (List.mem_of_getElem? he)
     ·rw [upd_other _ _ _ e] at hx;exact h.lv m hm' x hx
    ·intro x hx
     obtain ⟨m,hm',h1',r',h2'⟩:=h.hm x hx
     refine ⟨m,hm',h1',r',?_⟩
     show plc (upd σ.T k _ m) x=_
     by_cases e:m=k
     ·subst e;rw [upd_same,plc_same he];exact h2'
     ·rw [upd_other _ _ _ e];exact h2'
theorem Sto.add_ok {σ:Sto} (h:σ.Ok) (id:Nat) (c:Cp):(σ.add id c).2.Ok:=by
 unfold Sto.add
 split
 ·exact h
 ·rename_i h0
  split
  ·exact h
  ·rename_i h1
   have hl:σ.S.isLive id=true:=by simpa using h1
   split
   ·exact h
   ·rename_i h2
    obtain ⟨r,C,hr,he,hC,hm,h6⟩:=h.ent hl
    have hcps:=Sto.cps_of hr he
    rw [hcps] at h2 ⊢
    exact Sto.turn_ok h hl (insw_ok hC (by simpa using h0) (by simpa using h2))
theorem setC0 (w0 w:World) (l:List Thing) (b:Nat) (σ:Sto) (K:Nat) (ht:Tab w0) (h:Own w0 w (Store b σ K::l)) (hσ:σ.Ok) (id:Nat) (hid:id < 4294967296) (c:Cp) (hk:c.k < 256) (hK:K < 1000000) :
  Calls Tryz.prog 99 #[.pointer (some ⟨b,0,none⟩),.int .u32 (id:Int),c.ag] w fun e w'=>e=.returned (.int .i64 (σ.set id c).1)∧Own w0 w' (Store b (σ.set id c).2 K::l):=by
 obtain ⟨bs,v,p,h⟩:=h.stoX
 have hA:=(h.allocC c.ar 46).two
 have HA:Hid (Own w0 _ _):=hA
 by_cases hc:c.chk=0
 ·cases hl:σ.S.isLive id with
  | false =>
   have HV:Hid (σ.set id c=(7,σ)):=by show _=_;unfold Sto.set;rw [if_neg (by simp [hc]),if_pos hl]
   have HH:Hid (Calls _ _ _ _ _):=homeFor_of w0 _ _ b bs v p σ K ht hA id c hk hc none 7 (fun w' h'=>home_dead w0 w' _ b bs v p σ K h' hσ.s id hid hl)
   obtain ⟨ck,ca,cb,cc⟩:=c
   unfold Cp.ag at HH ⊢
   unfold Cp.ar at HH
   clear h hA hσ hl hc HA
   go_enter Tryz.func99,Tryz.ntmps99
   go_wp2_with fail
   refine HH.out.mono ?_
   rintro e w1 ⟨rfl,hO⟩
   have H1:Hid (Own w0 w1 (StoX b σ K (bs,v,p)::l)):=hO.two.tail
   clear hO HH
   go_wp2
   go_ret
   rw [HV.out]
   exact ⟨rfl,H1.out.xSto⟩
  | true =>
   obtain ⟨r,C,hr,he,hC,hm,h6⟩:=hσ.ent hl
   have hcps:=Sto.cps_of hr he
   obtain ⟨bt0,hp⟩:=stoP h h6 he
   have hn:=(hσ.home hl).2.1
   have hbt:bt (σ.hom id) c.k=hasK C c.k:=by rw [← hm];exact bt_msk C c.k (chk_k hc)
   have HH:Hid (Calls _ _ _ _ _):=homeFor_of w0 _ _ b bs v p σ K ht hA id c hk hc (some ⟨bt0,0,none⟩) 0 (fun w' h'=>by
    have:=home_ok w0 w' _ b bs v p σ K h' hσ.s id hid hl hn h6
    rw [hp,pp_some] at this
    exact this)
   have hts:tset (σ.hom id) (σ.T (σ.hom id)) id c=if hasK C c.k then (0,(σ.T (σ.hom id)).set r (id,setc C c)) else (10,σ.T (σ.hom id)):=by
    unfold tset
    rw [if_neg (by simp [hc]),hr]
    simp only [he,Option.map_some,Option.getD_some,hbt]
   have HST:Hid (∀ w' l',Own w0 w' (StoX b σ K (bs,v,p)::l')→Calls Tryz.prog 157 #[.pointer (some ⟨bt0,0,none⟩),.int .u32 (id:Int),c.ag] w' fun e w''=>e=.returned (.int .i64 (σ.set id c).1)∧Own w0 w'' (Store b (σ.set id c).2 K::l')):=by
    intro w' l' h'
    obtain ⟨cc,hcc,hne,hlen,h2⟩:=h'.stoB h6 hp
    have k:=tsetC w0 w' _ bt0 _ _ cc ht h2 (hσ.t _ h6) id hid c hk (by omega)
    rw [hts] at k
    cases hhk:hasK C c.k with
    | false =>
     have hv:σ.set id c=(10,σ):=by unfold Sto.set;rw [if_neg (by simp [hc]),if_neg (by simp [hl]),hcps,if_pos hhk]
     rw [hhk] at k
     simp only [if_false,Bool.false_eq_true] at k
     rw [hv]
     refine k.mono ?_
     rintro e w'' ⟨rfl,h3⟩
     exact ⟨rfl,(h3.stoT h6 hp hcc hne hlen).xSto⟩
    | true =>
     have hv:σ.set id c=(0,{ σ with T:=upd σ.T (σ.hom id) ((σ.T (σ.hom id)).set r (id,setc C c)) }):=by unfold Sto.set;rw [if_neg (by simp [hc]),if_neg (by simp [hl]),hcps,if_neg (by simp [hhk]),hr];rfl
     rw [hhk] at k
     simp only [if_true] at k
     rw [hv]
     refine k.mono ?_
     rintro e w'' ⟨rfl,h3⟩
     exact ⟨rfl,(h3.stoBX h6 hp (Nat.le_refl K) hcc (fun q=>hne (by simpa using q)) (by simpa using hlen)).xSto⟩
   obtain ⟨ck,ca,cb,cc⟩:=c
   unfold Cp.ag at HH HST ⊢
   unfold Cp.ar at HH
   simp only at HH HST
   clear h hA hσ hl hc HA hr he hC hm hcps hp hn hbt hts
   generalize Sto.set σ id ⟨ck,ca,cb,cc⟩=rs at *
   go_enter Tryz.func99,Tryz.ntmps99
   go_wp2_with fail
   refine HH.out.mono ?_
   rintro e w1 ⟨rfl,hO⟩
   have q0:=hO.two.cell 0
   have q1:=hO.two.cell 1
   have q2:=hO.two.cell 2
   have q3:=hO.two.cell 3
   simp at q0 q1 q2 q3
   have H1:Hid (Own w0 w1 _):=hO
   clear hO HH
   go_wp2_with fail
   refine (HST.out _ _ H1.out).mono ?_
   rintro e w2 ⟨rfl,hO⟩
   have H2:Hid (Own w0 w2 _):=hO.two.tail
   clear hO HST
   go_wp2
   go_ret
   exact ⟨rfl,H2.out⟩
 ·have HV:Hid (σ.set id c=((c.chk:Int),σ)):=by show _=_;unfold Sto.set;rw [if_pos hc]
  have HH:Hid (Calls _ _ _ _ _):=homeFor_bad w0 _ _ b bs v p σ K ht hA id c hk hc
  have hx:¬ ((c.chk:Nat):Int)=0:=by omega
  generalize c.chk=x at *
  obtain ⟨ck,ca,cb,cc⟩:=c
  unfold Cp.ag at HH ⊢
  unfold Cp.ar at HH
  clear h hA hσ hc HA
  go_enter Tryz.func99,Tryz.ntmps99
  go_wp2_with fail
  refine HH.out.mono ?_
  rintro e w1 ⟨rfl,hO⟩
  have H1:Hid (Own w0 w1 (StoX b σ K (bs,v,p)::l)):=hO.two.tail
  clear hO HH
  go_wp2
  go_ret
  rw [HV.out]
  exact ⟨rfl,H1.out.xSto⟩
end Go.Proofs.YtogmdoiecpihdaaGreatDoor
namespace Go.Proofs.YtogmdoiecpihdaaGreatDoor
open Go.RowKit
set_option linter.unusedVariables false
set_option maxHeartbeats 2000000
set_option maxRecDepth 100000
theorem ccat_set4 (C:List Cp) (k:Nat) (q:Cp) (hk:k < C.length):ccat (C.set k q)=((((ccat C).set (k*4) (.int .u8 (q.k:Int))).set (k*4+1) (.int .i32 q.a)).set (k*4+2) (.int .i32 q.b)).set (k*4+3) (.int .i32 q.c):=by
 induction C generalizing k with
 | nil=>simp at hk
 | cons y C ih =>
  have e1:∀ (A:List Cp) (z:Cp),ccat (z::A)=[.int .u8 (z.k:Int),.int .i32 z.a,.int .i32 z.b,.int .i32 z.c]++ccat A:=fun _ _=>rfl
  cases k with
  | zero=>rw [List.set_cons_zero,e1,e1];simp
  | succ k =>
   have ih:=ih k (by simpa using hk)
   rw [List.set_cons_succ,e1,e1,ih]
   have h0:(k+1)*4=k*4+4:=by omega
   have h1:(k+1)*4+1=(k*4+1)+4:=by omega
   have h2:(k+1)*4+2=(k*4+2)+4:=by omega
   have h3:(k+1)*4+3=(k*4+3)+4:=by omega
   rw [h1,h2,h3,h0]
   simp
theorem pred_any (w:World) (bk k:Nat) (hk:w.cell? ⟨bk,0,none⟩=some (.int .u8 (k:Int))) (q:Cp) :
  Calls Tryz.prog 253 #[.agg #[.int .u8 (q.k:Int),.int .i32 q.a,.int .i32 q.b,.int .i32 q.c],.pointer (some ⟨bk,0,none⟩)] w fun e w'=>e=.returned (.bool (decide (q.k=k)))∧Fr Nobody w w':=by
 have hlt:bk < w.heap.size:=World.block_lt_of_cell? w _ hk
 have hne:bk≠w.heap.size:=by omega
 have hne2:w.heap.size≠bk:=by omega
 by_cases h:q.k=k
 ·subst h
  go_enter Tryz.func253,Tryz.ntmps253
  go_wp2
  go_ret
  exact ⟨by simp,(Fr.refl _ _).alloc _⟩
 ·have h':((q.k:Int) == (k:Int))=false:=by simp;omega
  rw [decide_eq_false h]
  go_enter Tryz.func253,Tryz.ntmps253
  go_wp2
  go_ret
  exact ⟨rfl,(Fr.refl _ _).alloc _⟩
theorem index_ok (w0 w:World) (l:List Thing) (C:List Cp) (ao:Option Addr) (n cap bk k r:Nat) (hn:C.length=n) (hn6:n≤1000) (h:Own w0 w (Row 46 4 (.slice ao n cap) n (ccat C)::Cells bk #[.int .u8 (k:Int)] 5::l)) (hr:∃ q,C[r]? = some q∧q.k=k) (hlt:∀ j x,j < r→C[j]? = some x→x.k≠k) :
  Calls Tryz.prog 128 #[.slice ao n cap,.func (.func 253) #[] #[.pointer (some ⟨bk,0,none⟩)]] w fun e w'=>e=.returned (.int .i64 (r:Int))∧Own w0 w' (Row 46 4 (.slice ao n cap) n (ccat C)::Cells bk #[.int .u8 (k:Int)] 5::l):=by
 have H:Hid (Own w0 w _):=h
 have HN:Hid (C.length=n):=hn
 have HR:Hid (∃ q,C[r]? = some q∧q.k=k):=hr
 have HLT:Hid (∀ j x,j < r→C[j]? = some x→x.k≠k):=hlt
 have hrn:r < n:=by obtain ⟨q,hq,_⟩:=hr;rw [← hn];exact (List.getElem?_eq_some_iff.1 hq).1
 clear h hn hr hlt
 go_enter Tryz.func128,Tryz.ntmps128
 go_wp2
 go_loopw [8] (fun cc wr=>∃ j:Nat,j≤r∧cc=.int .i64 j∧Own w0 wr (Row 46 4 (.slice ao n cap) n (ccat C)::Cells bk #[.int .u8 (k:Int)] 5::l)) (fun cc _=>n - (intOf cc).toNat)
 case atStart=>exact ⟨0,Nat.zero_le _,rfl,H.out⟩
 case round =>
  obtain ⟨j,hj,rfl,hO⟩:=hrel
  have HO:Hid (Own w0 wr _):=hO
  clear H
  obtain ⟨q,hq⟩:∃ q,C[j]? = some q:=⟨_,List.getElem?_eq_getElem (by rw [HN.out];omega)⟩
  obtain ⟨g,o,hao,_,c0,c1,c2,c3⟩:=(Own.rcs hO HN.out).at j q hq
  subst hao
  have kc:=hO.two.cell 0
  simp at kc
  have HP:Hid (Calls _ _ _ _ _):=pred_any wr bk k kc q
  have hlt':(j:Int) < (n:Int):=by omega
  by_cases hjr:j < r
  ·have hqk:q.k≠k:=HLT.out j q hjr hq
   rw [decide_eq_false hqk] at HP
   obtain ⟨qk,qa,qb,qc⟩:=q
   simp only at c0 c1 c2 c3 HP
   clear hO hq
   go_wp2_with fail
   refine HP.out.mono ?_
   rintro e w2 ⟨rfl,hf⟩
   have H2:Hid (Own w0 w2 _):=HO.out.quiet hf
   clear hf HP HO
   go_wp2
   go_roundw
   case rel=>exact ⟨j+1,by omega,by go_num,H2.out⟩
   case measure=>simp [intOf];omega
  ·have hje:j=r:=by omega
   subst hje
   obtain ⟨q',hq',hk'⟩:=HR.out
   rw [hq] at hq'
   cases hq'
   rw [decide_eq_true hk'] at HP
   obtain ⟨qk,qa,qb,qc⟩:=q
   simp only at c0 c1 c2 c3 HP
   clear hO hq hk'
   go_wp2_with fail
   refine HP.out.mono ?_
   rintro e w2 ⟨rfl,hf⟩
   have H2:Hid (Own w0 w2 _):=HO.out.quiet hf
   clear hf HP HO
   go_wp2
   go_ret
   exact ⟨rfl,H2.out⟩
theorem zeroComp2 (w:World):(zeroValue 46).run Tryz.prog w=.ok (.agg #[.int .u8 0,.int .i32 0,.int .i32 0,.int .i32 0]) w:=by kernel_rfl
theorem delete_ok (w0 w:World) (l:List Thing) (C:List Cp) (g n cap bk k r:Nat) (hn:C.length=n) (hn6:n≤1000) (h:Own w0 w (Row 46 4 (.slice (some ⟨g,0,none⟩) n cap) n (ccat C)::Cells bk #[.int .u8 (k:Int)] 5::l)) (hr:∃ q,C[r]? = some q∧q.k=k) (hlt:∀ j x,j≠r→C[j]? = some x→x.k≠k) :
  Calls Tryz.prog 252 #[.slice (some ⟨g,0,none⟩) n cap,.func (.func 253) #[] #[.pointer (some ⟨bk,0,none⟩)]] w fun e w'=>e=.returned (.slice (some ⟨g,0,none⟩) (n - 1) cap)∧Own w0 w' (Row 46 4 (.slice (some ⟨g,0,none⟩) (n - 1) cap) (n - 1) (ccat (C.eraseIdx r))::Cells bk #[.int .u8 (k:Int)] 5::l):=by
 have HIX:Hid (Calls _ _ _ _ _):=index_ok w0 w l C (some ⟨g,0,none⟩) n cap bk k r hn hn6 h hr (fun j x hj hx=>hlt j x (by omega) hx)
 have HN:Hid (C.length=n):=hn
 have HLT:Hid (∀ j x,j≠r→C[j]? = some x→x.k≠k):=hlt
 have hrn:r < n:=by obtain ⟨q,hq,_⟩:=hr;rw [← hn];exact (List.getElem?_eq_some_iff.1 hq).1
 obtain ⟨hnc,hcm⟩:=(row_cap h.row).2
 unfold maxLen at hcm
 have HEL:Hid ((C.eraseIdx r).length=n - 1):=by show _=_;rw [List.length_eraseIdx_of_lt (by omega),hn]
 have hr1:¬ (r:Int) = -1:=by omega
 clear h hn hr hlt
 go_enter Tryz.func252,Tryz.ntmps252
 go_wp2_with fail
 refine HIX.out.mono ?_
 rintro e w1 ⟨rfl,hO⟩
 have H1:Hid (Own w0 w1 _):=hO
 clear hO HIX
 go_wp2
 go_loopw [5,6] (fun iv jv wr=>∃ (j:Nat) (X:List Cp),r+1≤j∧j≤n∧jv=.int .i64 j∧iv=.int .i64 ((j - 1:Nat):Int)∧X.length=n∧X.take (j - 1)=(C.eraseIdx r).take (j - 1)∧X.drop j=C.drop j∧Own w0 wr (Row 46 4 (.slice (some ⟨g,0,none⟩) n cap) n (ccat X)::Cells bk #[.int .u8 (k:Int)] 5::l)) (fun _ jv _=>n - (intOf jv).toNat)
 case atStart =>
  refine ⟨r+1,C,Nat.le_refl _,by omega,by go_num,by simp,HN.out,?_,rfl,H1.out⟩
  rw [Nat.add_sub_cancel,List.eraseIdx_eq_take_drop_succ,List.take_append_of_le_length (by rw [List.length_take,HN.out];omega),List.take_take,Nat.min_self]
 case round =>
  obtain ⟨j,X,hj1,hj2,rfl,rfl,hXl,hXt,hXd,hO⟩:=hrel
  have HO:Hid (Own w0 wr _):=hO
  have HX:Hid (X.length=n∧X.take (j - 1)=(C.eraseIdx r).take (j - 1)∧X.drop j=C.drop j):=⟨hXl,hXt,hXd⟩
  clear H1
  obtain ⟨i,hi⟩:∃ i,i=j - 1:=⟨_,rfl⟩
  have hij:i+1=j:=by omega
  rw [← hi]
  rw [← hi] at HX hXt
  by_cases hlt:j < n
  ·have hlt':(j:Int) < (n:Int):=by omega
   obtain ⟨q,hq⟩:∃ q,X[j]? = some q:=⟨_,List.getElem?_eq_getElem (by rw [hXl];exact hlt)⟩
   have hCq:C[j]? = some q:=by
    have:=congrArg (fun l=>l[0]?) hXd
    simp only [List.getElem?_drop,Nat.add_zero] at this
    rw [← this];exact hq
   have hqk:q.k≠k:=HLT.out j q (by omega) hCq
   obtain ⟨g',o',hao,_,c0,c1,c2,c3⟩:=(Own.rcs hO hXl).at j q hq
   cases hao
   have kc:=hO.two.cell 0
   simp at kc
   have HP:Hid (∀ w',Own w0 w' (Row 46 4 (.slice (some ⟨g,0,none⟩) n cap) n (ccat X)::Cells bk #[.int .u8 (k:Int)] 5::l)→Calls Tryz.prog 253 #[.agg #[.int .u8 (q.k:Int),.int .i32 q.a,.int .i32 q.b,.int .i32 q.c],.pointer (some ⟨bk,0,none⟩)] w' fun e w''=>e=.returned (.bool false)∧Fr Nobody w' w''):=by
    intro w' h'
    have kc:=h'.two.cell 0
    simp at kc
    have:=pred_any w' bk k kc q
    rw [decide_eq_false hqk] at this
    exact this
   have HXN:Hid ((X.set i q).length=n∧(X.set i q).take j=(C.eraseIdx r).take j∧(X.set i q).drop (j+1)=C.drop (j+1)):=by
    refine ⟨by rw [List.length_set];exact hXl,?_,?_⟩
    ·rw [← hij,List.take_add_one,List.take_add_one,List.getElem?_set_self (by omega),List.getElem?_eraseIdx,if_neg (by omega),hij,hCq,List.take_set_of_le (Nat.le_refl _),hXt]
    ·rw [List.drop_set_of_lt (by omega)]
     have:=congrArg (List.drop 1) hXd
     rw [List.drop_drop,List.drop_drop] at this
     exact this
   have hA:=hO.alloc (.cells #[.int .u8 (q.k:Int),.int .i32 q.a,.int .i32 q.b,.int .i32 q.c] 46)
   have HA:Hid (Own w0 _ _):=hA
   have hnew:=hO.allocC #[.int .u8 (q.k:Int),.int .i32 q.a,.int .i32 q.b,.int .i32 q.c] 46
   have HW:Hid (Own w0 _ _):=hnew
   have hS4:Hid (ccat (X.set i q)=((((ccat X).set (i*4) (.int .u8 (q.k:Int))).set (i*4+1) (.int .i32 q.a)).set (i*4+2) (.int .i32 q.b)).set (i*4+3) (.int .i32 q.c)):=ccat_set4 X i q (by omega)
   have hin:(i:Int) < (n:Int):=by omega
   have hi0:(0:Int)≤(i:Int):=by omega
   obtain ⟨qk,qa,qb,qc⟩:=q
   simp only [Nat.zero_add] at c0 c1 c2 c3 HP HW hS4
   clear hO hA hnew hq hCq hXl hXt hXd HO hi
   go_wp2_with fail
   refine (HP.out _ HA.out).mono ?_
   rintro e w2 ⟨rfl,hf⟩
   have hO2:=HW.out.quiet hf
   have x0:=hO2.cell 0
   have x1:=hO2.cell 1
   have x2:=hO2.cell 2
   have x3:=hO2.cell 3
   simp at x0 x1 x2 x3
   have hrow:=hO2.two.row
   have z0:=hrow.frozenAt (i*4)
   have z1:=hrow.frozenAt (i*4+1)
   have z2:=hrow.frozenAt (i*4+2)
   have z3:=hrow.frozenAt (i*4+3)
   obtain ⟨v0,y0⟩:∃ v,w2.cell? ⟨g,i*4,none⟩=some v:=⟨_,by rw [hrow.cellAt _ (by omega)];exact List.getElem?_eq_getElem (by rw [length_ccat,HX.out.1];omega)⟩
   obtain ⟨v1,y1⟩:∃ v,w2.cell? ⟨g,i*4+1,none⟩=some v:=⟨_,by rw [hrow.cellAt _ (by omega)];exact List.getElem?_eq_getElem (by rw [length_ccat,HX.out.1];omega)⟩
   obtain ⟨v2,y2⟩:∃ v,w2.cell? ⟨g,i*4+2,none⟩=some v:=⟨_,by rw [hrow.cellAt _ (by omega)];exact List.getElem?_eq_getElem (by rw [length_ccat,HX.out.1];omega)⟩
   obtain ⟨v3,y3⟩:∃ v,w2.cell? ⟨g,i*4+3,none⟩=some v:=⟨_,by rw [hrow.cellAt _ (by omega)];exact List.getElem?_eq_getElem (by rw [length_ccat,HX.out.1];omega)⟩
   have HF:Hid (Own w0 ((((w2.setCell ⟨g,i*4,none⟩ (.int .u8 (qk:Int))).setCell ⟨g,i*4+1,none⟩ (.int .i32 qa)).setCell ⟨g,i*4+2,none⟩ (.int .i32 qb)).setCell ⟨g,i*4+3,none⟩ (.int .i32 qc)) (Row 46 4 (.slice (some ⟨g,0,none⟩) n cap) n (ccat (X.set i ⟨qk,qa,qb,qc⟩))::Cells bk #[.int .u8 (k:Int)] 5::l)):=by
    have h4:=((((hO2.tail).setR (i*4) (.int .u8 (qk:Int))).setR (i*4+1) (.int .i32 qa)).setR (i*4+2) (.int .i32 qb)).setR (i*4+3) (.int .i32 qc)
    rw [← hS4.out] at h4
    exact h4
   clear hO2 hf hrow HP HA HW hS4
   go_wp2
   go_roundw
   case rel =>
    refine ⟨_,_,_,_,_,_,_,_,_,_,_,_,_,_,_,_,_,_,_,_,_,_,_,⟨j+1,X.set i ⟨qk,qa,qb,qc⟩,by omega,by omega,by go_num,?_,HXN.out.1,by rw [Nat.add_sub_cancel];exact HXN.out.2.1,HXN.out.2.2,HF.out⟩,rfl⟩
    rw [Nat.add_sub_cancel,← hij];go_num
   case measure=>simp [intOf];omega
  ·have hlt':¬ (j:Int) < (n:Int):=by omega
   have hjn:j=n:=by omega
   have hcut:=hO.cut (m:=i) (by omega)
   have e1:(ccat X).take (i*4)=ccat (C.eraseIdx r):=by
    rw [ccat_take,hXt]
    rw [List.take_of_length_le (by rw [HEL.out];omega)]
   rw [e1] at hcut
   obtain ⟨w2,hcl,hO2⟩:=hcut.cleared (P:=Tryz.prog) 39 (.agg #[.int .u8 0,.int .i32 0,.int .i32 0,.int .i32 0]) Tryz.underlying39 zeroComp2 rfl (by intro u hu;simp [Value.cells] at hu;rcases hu with rfl | rfl | rfl | rfl <;> rfl) (by decide) 1 (cap - i) (by decide) (by omega)
   have H2:Hid (Own w0 w2 _):=hO2
   have hni:n - 1=i:=by omega
   have hni2:n - i=1:=by omega
   have hin:(i:Int)≤(n:Int):=by omega
   have hci:¬ cap=i:=by omega
   have hic:i≤cap:=by omega
   clear hO hcut hXl hXt hXd hO2 e1 HO hi HX
   go_wp2
   go_ret
   first
    | exact ⟨rfl,H2.out⟩
    | (show Ending.returned _=Ending.returned (.slice (some ⟨g,0,none⟩) (n - 1) cap)∧_;rw [hni];exact ⟨rfl,H2.out⟩)
end Go.Proofs.YtogmdoiecpihdaaGreatDoor
namespace Go.Proofs.YtogmdoiecpihdaaGreatDoor
open Go.RowKit Go.Maps
set_option linter.unusedVariables false
set_option maxHeartbeats 2000000
set_option maxRecDepth 100000
def outk (C:List Cp) (k:Nat):List Cp:=C.filter (fun q=>decide (q.k≠k))
theorem outk_none {C:List Cp} {k:Nat} (h:∀ q∈C,q.k≠k):outk C k=C:=List.filter_eq_self.2 (fun q hq=>by simpa using h q hq)
theorem outk_erase {C:List Cp} {k r:Nat} {q:Cp} (h:C.Pairwise (fun x y=>x.k < y.k)) (hr:C[r]? = some q) (hq:q.k=k):C.eraseIdx r=outk C k:=by
 induction C generalizing r with
 | nil=>simp at hr
 | cons a C ih =>
  obtain ⟨h1,h2⟩:=List.pairwise_cons.1 h
  cases r with
  | zero =>
   simp at hr
   subst hr
   have:outk (a::C) k=outk C k:=by unfold outk;rw [List.filter_cons];simp [hq]
   rw [this,outk_none (fun x hx=>by have:=h1 x hx;omega)]
   rfl
  | succ r =>
   have hm:q∈C:=List.mem_of_getElem? (by simpa using hr)
   have ha:a.k≠k:=by have:=h1 q hm;omega
   have:=ih h2 (r:=r) (by simpa using hr)
   rw [List.eraseIdx_cons_succ,this]
   unfold outk
   rw [List.filter_cons];simp [ha]
theorem outk_ok {C:List Cp} (h:lst (-1) C=0) (k:Nat):lst (-1) (outk C k)=0:=by
 rw [lst_iff] at h ⊢
 exact ⟨h.1.filter _,fun x hx=>h.2 x (List.mem_filter.1 hx).1⟩
theorem without_ok (w0 w:World) (l:List Thing) (C:List Cp) (ao:Option Addr) (n cap k:Nat) (hn:C.length=n) (hC:lst (-1) C=0) (h:Own w0 w (Row 46 4 (.slice ao n cap) n (ccat C)::l)) (hk:hasK C k=true) :
  Calls Tryz.prog 235 #[.slice ao n cap,.int .u8 (k:Int)] w fun e w'=>∃ ao' cap',e=.returned (.slice ao' (outk C k).length cap')∧Own w0 w' (Row 46 4 (.slice ao' (outk C k).length cap') (outk C k).length (ccat (outk C k))::l):=by
 obtain ⟨q,hq,hqk⟩:=(hasK_iff _ _).1 hk
 obtain ⟨r,hr⟩:=List.getElem?_of_mem hq
 have hs:=((lst_iff C).1 hC).1
 have hlen:=lst_len hC
 have hrn:r < n:=by rw [← hn];exact (List.getElem?_eq_some_iff.1 hr).1
 obtain ⟨g,cap',hv,_⟩:=row_shape h.row (by omega)
 have hao:=(Value.slice.inj hv).1
 subst hao
 have hA:=(h.allocC #[.int .u8 (k:Int)] 5).two
 have HD:Hid (Calls _ _ _ _ _):=delete_ok w0 _ l C g n cap w.heap.size k r hn (by omega) hA ⟨q,hr,hqk⟩ (fun j x hj hx e=>by
  rcases Nat.lt_or_gt_of_ne hj with c | c
  ·have:=List.pairwise_iff_getElem.1 hs j r (List.getElem?_eq_some_iff.1 hx).1 (List.getElem?_eq_some_iff.1 hr).1 c
   rw [(List.getElem?_eq_some_iff.1 hx).2,(List.getElem?_eq_some_iff.1 hr).2] at this
   omega
  ·have:=List.pairwise_iff_getElem.1 hs r j (List.getElem?_eq_some_iff.1 hr).1 (List.getElem?_eq_some_iff.1 hx).1 c
   rw [(List.getElem?_eq_some_iff.1 hx).2,(List.getElem?_eq_some_iff.1 hr).2] at this
   omega)
 have hol:n - 1=(outk C k).length:=by rw [← outk_erase hs hr hqk,List.length_eraseIdx_of_lt (by omega),hn]
 rw [outk_erase hs hr hqk,hol] at HD
 clear h hA hol hs hC hk hq hr hqk hn
 go_enter Tryz.func235,Tryz.ntmps235
 go_wp2_with fail
 refine HD.out.mono ?_
 rintro e w1 ⟨rfl,hO⟩
 have H1:Hid (Own w0 w1 _):=hO
 clear hO
 go_wp2
 go_ret
 exact ⟨_,_,rfl,H1.out.two.tail⟩
def Sto.remove (σ:Sto) (id k:Nat):Int × Sto :=
 if σ.S.isLive id=false then (7,σ) else if hasK (σ.cps id) k=false then (10,σ) else (0,σ.turn id (outk (σ.cps id) k))
theorem removeC (w0 w:World) (l:List Thing) (b:Nat) (σ:Sto) (K:Nat) (ht:Tab w0) (h:Own w0 w (Store b σ K::l)) (hσ:σ.Ok) (id:Nat) (hid:id < 4294967296) (k:Nat) (hk:k < 256) (hK:K+1 < 1000000) :
  Calls Tryz.prog 192 #[.pointer (some ⟨b,0,none⟩),.int .u32 (id:Int),.int .u8 (k:Int)] w fun e w'=>e=.returned (.int .i64 (σ.remove id k).1)∧Own w0 w' (Store b (σ.remove id k).2 (K+2)::l):=by
 obtain ⟨bs,v,p,h⟩:=h.stoX
 cases hl:σ.S.isLive id with
 | false =>
  have HV:Hid (σ.remove id k=(7,σ)):=by show _=_;unfold Sto.remove;rw [if_pos hl]
  have HH:Hid (Calls _ _ _ _ _):=home_dead w0 w l b bs v p σ K h hσ.s id hid hl
  clear h hσ hl
  go_enter Tryz.func192,Tryz.ntmps192
  go_wp2_with fail
  refine HH.out.mono ?_
  rintro e w1 ⟨rfl,hO⟩
  have H1:Hid (Own w0 w1 (StoX b σ K (bs,v,p)::l)):=hO
  clear hO HH
  go_wp2
  go_ret
  rw [HV.out]
  exact ⟨rfl,H1.out.xSto.stoK (by omega)⟩
 | true =>
  obtain ⟨r,C,hr,he,hC,hm,h6⟩:=hσ.ent hl
  have hcps:=Sto.cps_of hr he
  obtain ⟨bt0,hp⟩:=stoP h h6 he
  have hn:=(hσ.home hl).2.1
  have HH:Hid (Calls _ _ _ _ _):=home_ok w0 w l b bs v p σ K h hσ.s id hid hl hn h6
  rw [hp,pp_some] at HH
  have HG:Hid (∀ w' l',Own w0 w' (StoX b σ K (bs,v,p)::l')→Calls Tryz.prog 153 #[.pointer (some ⟨bt0,0,none⟩),.int .u32 (id:Int),.int .u8 (k:Int)] w' fun e w''=>e=.returned (.tuple #[(if hasK C k then mkc k (fv C k) else ⟨0,0,0,0⟩:Cp).ag,.int .i64 (if hasK C k then 0 else 10)])∧Own w0 w'' (StoX b σ K (bs,v,p)::l')):=fun w' l' h'=>by
   have:=homeGet w0 w' l' b bs v p σ K hσ id hid hl bt0 hp h' k hk
   rw [hcps] at this
   exact this
  cases hhk:hasK C k with
  | false =>
   have HV:Hid (σ.remove id k=(10,σ)):=by show _=_;unfold Sto.remove;rw [if_neg (by simp [hl]),hcps,if_pos hhk]
   rw [hhk] at HG
   simp only [if_false,Bool.false_eq_true] at HG
   unfold Cp.ag at HG
   simp only at HG
   clear h hσ hl hr he hC hm hcps hp hn hhk
   go_enter Tryz.func192,Tryz.ntmps192
   go_wp2_with fail
   refine HH.out.mono ?_
   rintro e w1 ⟨rfl,hO⟩
   have H1:Hid (Own w0 w1 _):=hO
   clear hO HH
   go_wp2_with fail
   refine (HG.out _ _ H1.out).mono ?_
   rintro e w2 ⟨rfl,hO⟩
   have H2:Hid (Own w0 _ (StoX b σ K (bs,v,p)::l)):=hO.alloc (.cells #[.int .u8 0,.int .i32 0,.int .i32 0,.int .i32 0] 46)
   clear hO
   go_wp2
   go_ret
   rw [HV.out]
   exact ⟨rfl,H2.out.xSto.stoK (by omega)⟩
  | true =>
   have HV:Hid (σ.remove id k=(0,(σ.out (σ.hom id) r).put id (outk C k))):=by show _=_;unfold Sto.remove;rw [if_neg (by simp [hl]),hcps,if_neg (by simp [hhk])];unfold Sto.turn;rw [hr];rfl
   rw [hhk] at HG
   simp only [if_true] at HG
   have hlen:=lst_len hC
   have hI:=outk_ok hC k
   have hIl:=lst_len hI
   have hLk:=hσ.out hl hr
   have HPL:Hid (∀ w' l',Own w0 w' (StoX b σ K (bs,v,p)::l')→Calls Tryz.prog 154 #[.pointer (some ⟨b,0,none⟩),.pointer (some ⟨bt0,0,none⟩),.int .u32 (id:Int)] w' fun out w''=>∃ ao cap,out=.returned (.slice ao C.length cap)∧Own w0 w'' (Row 46 4 (.slice ao C.length cap) C.length (ccat C)::Store b (σ.out (σ.hom id) r) (K+1)::l')):=fun w' l' h'=>pull_ok w0 w' l' b bs v p σ K h' (σ.hom id) h6 (some bt0) hp (hσ.t _ h6) id hid r (id,C) hr he (by omega)
   have HWI:Hid (∀ w' l' ao cap,Own w0 w' (Row 46 4 (.slice ao C.length cap) C.length (ccat C)::l')→Calls Tryz.prog 235 #[.slice ao C.length cap,.int .u8 (k:Int)] w' fun e w''=>∃ ao' cap',e=.returned (.slice ao' (outk C k).length cap')∧Own w0 w'' (Row 46 4 (.slice ao' (outk C k).length cap') (outk C k).length (ccat (outk C k))::l')):=fun w' l' ao cap h'=>without_ok w0 w' l' C ao C.length cap k rfl hC h' hhk
   have HPU:Hid (∀ w' l' ao cap,Own w0 w' (Row 46 4 (.slice ao (outk C k).length cap) (outk C k).length (ccat (outk C k))::Store b (σ.out (σ.hom id) r) (K+1)::l')→Calls Tryz.prog 203 #[.pointer (some ⟨b,0,none⟩),.int .u32 (id:Int),.slice ao (outk C k).length cap] w' fun e w''=>e=.returned (.tuple #[])∧Own w0 w'' (Store b ((σ.out (σ.hom id) r).put id (outk C k)) (K+2)::l')):=by
    intro w' l' ao cap h'
    obtain ⟨bs',v',p',h2⟩:=h'.two.stoX
    have hli:=St.live_lt hLk.s hLk.li
    refine (put_ok w0 w' _ b bs' v' p' _ (K+1) ht h2 id hid (by rw [hLk.ml];exact hli.2) ao (outk C k).length cap (outk C k) rfl (fun w'' h''=>Own.rcs h'' rfl) (lst_k hI) (by omega) hI (hLk.t _ (msk64 _)) (hLk.none (msk64 _)) (by omega)).mono ?_
    rintro e w'' ⟨rfl,h3⟩
    exact ⟨rfl,h3.two.tail⟩
   generalize mkc k (fv C k)=q at *
   obtain ⟨qk,qa,qb,qc⟩:=q
   unfold Cp.ag at HG
   simp only at HG
   clear h hσ hl hr he hC hm hcps hp hn hhk hI hLk hIl
   generalize (outk C k).length=n2 at *
   generalize C.length=n at *
   go_enter Tryz.func192,Tryz.ntmps192
   go_wp2_with fail
   refine HH.out.mono ?_
   rintro e w1 ⟨rfl,hO⟩
   have H1:Hid (Own w0 w1 _):=hO
   clear hO HH
   go_wp2_with fail
   refine (HG.out _ _ H1.out).mono ?_
   rintro e w2 ⟨rfl,hO⟩
   have H2:Hid (Own w0 _ _):=hO.alloc (.cells #[.int .u8 (qk:Int),.int .i32 qa,.int .i32 qb,.int .i32 qc] 46)
   clear hO H1
   go_wp2_with fail
   refine (HPL.out _ _ H2.out).mono ?_
   rintro e w3 ⟨a3,c3,rfl,hO⟩
   have H3:Hid (Own w0 w3 _):=hO
   clear hO H2
   go_wp2_with fail
   refine (HWI.out _ _ _ _ H3.out).mono ?_
   rintro e w4 ⟨a4,c4,rfl,hO⟩
   have H4:Hid (Own w0 w4 _):=hO
   clear hO H3
   go_wp2_with fail
   refine (HPU.out _ _ _ _ H4.out).mono ?_
   rintro e w5 ⟨rfl,hO⟩
   have H5:Hid (Own w0 w5 _):=hO
   clear hO H4
   go_wp2
   go_ret
   rw [HV.out]
   exact ⟨rfl,H5.out⟩
end Go.Proofs.YtogmdoiecpihdaaGreatDoor
