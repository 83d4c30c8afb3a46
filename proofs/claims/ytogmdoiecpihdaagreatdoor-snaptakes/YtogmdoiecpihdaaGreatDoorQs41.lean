/- Spawn, Despawn. -/
import Derived.Test.YtogmdoiecpihdaaGreatDoorQs40
import Derived.Test.YtogmdoiecpihdaaGreatDoorQs39
namespace Go.Proofs.YtogmdoiecpihdaaGreatDoor
open Go.RowKit Go.Maps
set_option linter.unusedVariables false
set_option maxHeartbeats 2000000
set_option maxRecDepth 100000
theorem hom_put {σ:Sto} {id x:Nat} {C:List Cp} (h:x % 1024≠id % 1024):(σ.put id C).hom x=σ.hom x:=by
 show (σ.mks.set (id % 1024) (msk C)).getD (x % 1024) 0=σ.mks.getD (x % 1024) 0
 rw [List.getD_eq_getElem?_getD,List.getD_eq_getElem?_getD,List.getElem?_set,if_neg (fun e=>h e.symm)]
theorem take_slot {S:St} (h:S.Ok) (h1:S.take.2.1=0) {x:Nat} (hx:S.isLive x=true):x % 1024≠S.take.1 % 1024:=by
 intro he
 obtain ⟨t1,t2⟩:=St.take_live h h1
 have a1:S.take.2.2.isLive x=true:=by rw [t2,hx];simp
 have a2:S.take.2.2.isLive S.take.1=true:=by rw [t2];simp
 unfold St.isLive at a1 a2
 rw [he] at a1
 simp only [Bool.and_eq_true,beq_iff_eq] at a1 a2
 have:x=S.take.1:=a1.2.symm.trans a2.2
 rw [this,t1] at hx
 cases hx
theorem rputG (w0 w:World) (l:List Thing) (b:Nat) (σ:Sto) (K:Nat) {G:List REnt} (h:Own w0 w (RStG G b σ K::l)) (id:Nat) (hG:∀ d∈G,d.1 % 1024≠id % 1024) (hid:id < 4294967296) (ao:Option Addr) (len cap:Nat) (C:List Cp) (hCl:C.length=len) (hCs:∀ w',Own w0 w' l→Cs w' ao C) (hCk:∀ q∈C,q.k < 256) (hlen:len≤1000000) (h0:lst (-1) C=0) (hT:TOk (msk C) (σ.T (msk C))) (hn:plc (σ.T (msk C)) id=none) (hK:K < 1000000) :
  Calls Tryz.prog 172 #[.pointer (some ⟨b,0,none⟩),.int .u32 (id:Int),.slice ao len cap] w fun e w'=>e=.returned (.tuple #[])∧Own w0 w' (RStG G b (σ.put id C) (K+1)::l):=by
 have h6:=msk64 C
 have H:Hid (Own w0 w.drew (RStG G b σ K::l)):=h.drew
 have HMK:Hid (Calls Tryz.prog 218 #[.slice ao len cap] w.drew fun e w''=>e=.returned (.int .u8 ((msk C:Nat):Int))∧Fr Nobody w.drew w''):=rmask_any w.drew ao len cap C hCl (hCs _ h.drew.tail) hCk hlen
 have HAD:Hid (∀ w',Own w0 w' (RStG G b σ K::l)→Calls Tryz.prog 217 #[.pointer (some ⟨b,1+msk C*2,none⟩),.int .u32 (id:Int),.slice ao len cap] w' fun e w''=>e=.returned (.int .i64 0)∧Own w0 w'' (RStG G b (σ.put id C) (K+1)::l)):=by
  intro w' h'
  obtain ⟨x,hx,hgx,h'⟩:=RStG.opn h'
  have h2:=RSX.outG (G:=gAt σ G (msk C)) h' h6 (gAt_in hgx _)
  rw [hx.E _ h6] at h2
  have ht:tadd (msk C) (σ.T (msk C)) id C=(0,σ.T (msk C)++[(id,C)]):=by unfold tadd;rw [if_neg (by simp [h0]),if_neg (by simp),if_neg (by rw [hn];simp)]
  refine (rtaddG w0 w' _ b _ _ _ _ h2 hT id hid ao len cap C hCl (fun w'' h''=>hCs _ h''.tail.tail) hCk hlen (by have:=hx.len _ h6;omega)).mono ?_
  rintro e w'' ⟨rfl,h3⟩
  rw [ht] at h3 ⊢
  obtain ⟨v',E',hE,hGE,h4⟩:=RSX.intoG h6 h3
  refine ⟨rfl,RStG.mk (σ:=σ.put id C) ((hx.mono (Nat.le_succ K)).upd h6 hE ?_) (KP.upd hgx hGE rfl (fun d hd=>hom_put (hG d hd))) h4⟩
  have:=hx.len _ h6
  simp;omega
 clear h hCs hCk h0 hT hn
 generalize msk C=m at *
 go_enter Tryz.func172,Tryz.ntmps172
 go_wp2_with fail
 have hm64:(m:Int) < 64:=by omega
 go_region_with (first
  | (go_at_call 218
     refine HMK.out.mono ?_
     rintro e w3 ⟨rfl,hf3⟩
     have H3:Hid (Own w0 w3 (RStG G b σ K::l)):=H.out.quiet hf3
     clear hf3)
  | (go_at_call 217
     refine (HAD.out _ H3.out).mono ?_
     rintro e w4 ⟨rfl,hO4⟩
     have H4:Hid (Own w0 w4 _):=hO4
     clear hO4))
 all_goals
  go_wp2
  go_end0
  exact ⟨rfl,H4.out⟩
theorem rspawnG (w0 w:World) (l:List Thing) (b:Nat) (σ:Sto) (K:Nat) {G:List REnt} (h:Own w0 w (RStG G b σ K::l)) (hσ:σ.Ok) (hG:∀ d∈G,σ.S.isLive d.1=true)
  (ao:Option Addr) (len cap:Nat) (C:List Cp) (hCl:C.length=len) (hCs:∀ w',Own w0 w' l→Cs w' ao C) (hCk:∀ q∈C,q.k < 256) (hlen:len≤1000000) (hK:K < 1000000) :
  Calls Tryz.prog 115 #[.pointer (some ⟨b,0,none⟩),.slice ao len cap] w fun e w'=>e=.returned (.tuple #[.int .u32 ((σ.spawn C).1:Int),.int .i64 (σ.spawn C).2.1])∧Own w0 w' (RStG G b (σ.spawn C).2.2 (K+1)::l):=by
 have H:Hid (Own w0 w (RStG G b σ K::l)):=h
 have HLS:Hid (Calls _ _ _ _ _):=rlist_any w ao len cap C hCl (hCs _ h.tail) hCk hlen
 by_cases h0:lst (-1) C=0
 ·rw [h0] at HLS
  have HTK:Hid (∀ w',Own w0 w' (RStG G b σ K::l)→∃ bs,w'.cell? ⟨b,0,none⟩=some (.pointer (some ⟨bs,0,none⟩))∧Calls Tryz.prog 171 #[.pointer (some ⟨bs,0,none⟩)] w' fun e w''=>e=.returned (.tuple #[.int .u32 (σ.S.take.1:Int),.int .i64 σ.S.take.2.1])∧Own w0 w'' (RStG G b { σ with S:=σ.S.take.2.2 } K::l)):=by
   intro w' h'
   obtain ⟨x,hx,hgx,h'⟩:=RStG.opn h'
   refine ⟨x.bs,RSX.ids w0 w' l b σ x h',(rtake_ok w0 w' _ x.bs σ.S x.f x.ck (RSX.iff.1 h').two hσ.s hx.st (by have:=hx.ck;omega)).mono ?_⟩
   rintro e w'' ⟨rfl,f',hf',h2⟩
   refine ⟨rfl,RStG.mk (σ:={ σ with S:=σ.S.take.2.2 }) (x:={ x with f:=f' }) ⟨hf',hx.ck,hx.E,hx.len⟩ hgx (RSX.iff.2 h2.two)⟩
  by_cases h1:σ.S.take.2.1=0
  ·have HV:Hid (σ.spawn C=(σ.S.take.1,0,Sto.put { σ with S:=σ.S.take.2.2 } σ.S.take.1 C)):=by show _=_;unfold Sto.spawn;rw [if_neg (by simp [h0]),if_neg (by simp [h1])]
   have hL:=hσ.take h1
   have hli:=St.live_lt hL.s hL.li
   have HPU:Hid (∀ w',Own w0 w' (RStG G b { σ with S:=σ.S.take.2.2 } K::l)→Calls Tryz.prog 172 #[.pointer (some ⟨b,0,none⟩),.int .u32 (σ.S.take.1:Int),.slice ao len cap] w' fun e w''=>e=.returned (.tuple #[])∧Own w0 w'' (RStG G b (Sto.put { σ with S:=σ.S.take.2.2 } σ.S.take.1 C) (K+1)::l)):=by
    intro w' h'
    exact rputG w0 w' l b _ K h' σ.S.take.1 (fun d hd=>take_slot hσ.s h1 (hG d hd)) hli.1 ao len cap C hCl hCs hCk hlen h0 (hL.t _ (msk64 C)) (hL.none (msk64 C)) hK
   rw [h1] at HTK
   clear h hCs hσ hG h0 h1 hL hli
   go_enter Tryz.func115,Tryz.ntmps115
   go_wp2_with fail
   refine HLS.out.mono ?_
   rintro e w1 ⟨rfl,hf⟩
   obtain ⟨bs,q0,htk⟩:=HTK.out _ (H.out.quiet hf)
   have HTK1:Hid (Calls _ _ _ _ _):=htk
   clear htk hf HTK H HLS
   go_wp2_with fail
   refine HTK1.out.mono ?_
   rintro e w2 ⟨rfl,hO⟩
   have H2:Hid (Own w0 w2 _):=hO
   clear hO HTK1
   go_wp2_with fail
   refine (HPU.out _ H2.out).mono ?_
   rintro e w3 ⟨rfl,hO⟩
   have H3:Hid (Own w0 w3 _):=hO
   clear hO
   go_wp2
   go_ret2
   rw [HV.out]
   exact ⟨rfl,H3.out⟩
  ·have HV:Hid (σ.spawn C=(0,σ.S.take.2.1,σ)):=by show _=_;unfold Sto.spawn;rw [if_neg (by simp [h0]),if_pos (by simp [h1])]
   have HS:Hid (σ.S.take.2.2=σ.S∧σ.S.take.1=0):=by
    show _∧_
    unfold St.take at h1 ⊢
    split at h1
    ·exact absurd rfl h1
    ·split at h1
     ·exact absurd rfl h1
     ·rename_i c;simp [c]
   rw [HS.out.2] at HTK
   clear h hCs hσ hG h0
   generalize σ.S.take.2.1=r at *
   have h1':(r == (0:Int))=false:=by simpa using h1
   go_enter Tryz.func115,Tryz.ntmps115
   go_wp2_with fail
   refine HLS.out.mono ?_
   rintro e w1 ⟨rfl,hf⟩
   obtain ⟨bs,q0,htk⟩:=HTK.out _ (H.out.quiet hf)
   have HTK1:Hid (Calls _ _ _ _ _):=htk
   clear htk hf HTK H HLS
   go_wp2_with fail
   refine HTK1.out.mono ?_
   rintro e w2 ⟨rfl,hO⟩
   have H2:Hid (Own w0 w2 _):=hO
   clear hO HTK1
   go_wp2
   go_ret2
   rw [HV.out]
   have h3:=H2.out
   rw [HS.out.1] at h3
   exact ⟨rfl,h3.stoKG (Nat.le_succ K)⟩
 ·have HV:Hid (σ.spawn C=(0,(lst (-1) C:Int),σ)):=by show _=_;unfold Sto.spawn;rw [if_pos h0]
  generalize lst (-1) C=r at *
  have h1':((r:Int) != 0)=true:=by simpa using h0
  clear h hCs hσ hG h0
  go_enter Tryz.func115,Tryz.ntmps115
  go_wp2_with fail
  refine HLS.out.mono ?_
  rintro e w1 ⟨rfl,hf⟩
  have H1:Hid (Own w0 w1 _):=H.out.quiet hf
  clear hf H HLS
  go_wp2
  go_ret2
  rw [HV.out]
  exact ⟨rfl,H1.out.stoKG (Nat.le_succ K)⟩
theorem rdropG (w0 w:World) (l:List Thing) (b:Nat) (σ:Sto) (K:Nat) {G:List REnt} (h:Own w0 w (RStG G b σ K::l)) (hσ:σ.Ok) (hK:K≤1000000) (id:Nat) (hG:∀ d∈G,d.1≠id) (hl:σ.S.isLive id=true) (r:Nat) (C:List Cp) (hr:plc (σ.T (σ.hom id)) id=some r) (he:(σ.T (σ.hom id))[r]? = some (id,C)) :
  Calls Tryz.prog 169 #[.pointer (some ⟨b,1+σ.hom id*2,none⟩),.int .u32 (id:Int)] w fun out w'=>∃ ao cap,out=.returned (.tuple #[.slice ao C.length cap,.int .i64 0])∧Own w0 w' (RStG G b (σ.out (σ.hom id) r) K::l):=by
 obtain ⟨h6,_⟩:=hσ.home hl
 obtain ⟨x,hx,hgx,h'⟩:=RStG.opn h
 have h2:=RSX.outG (G:=gAt σ G (σ.hom id)) h' h6 (gAt_in hgx _)
 rw [hx.E _ h6] at h2
 refine (rtremG w0 w _ b _ _ _ _ h2 (hσ.t _ h6) (by have:=hx.len _ h6;omega) id r (fun d hd=>hG d (gAt_sub hd)) (id,C) rfl hr he).mono ?_
 rintro out w' ⟨ao,cap,rfl,h3⟩
 obtain ⟨v',E',hE,hGE,h4⟩:=RSX.intoG h6 h3.tail
 refine ⟨ao,cap,rfl,RStG.mk (σ:=σ.out (σ.hom id) r) (hx.upd h6 hE ?_) (KP.upd hgx hGE rfl (fun _ _=>rfl)) h4⟩
 have h5:=hx.len _ h6
 have h7:=(List.getElem?_eq_some_iff.1 he).1
 rw [length_outr _ _ h7];omega
theorem rdespawnG (w0 w:World) (l:List Thing) (b:Nat) (σ:Sto) (K:Nat) {G:List REnt} (h:Own w0 w (RStG G b σ K::l)) (hσ:σ.Ok) (id:Nat) (hG:∀ d∈G,d.1≠id) (hid:id < 4294967296) (hK:K < 1000000) :
  Calls Tryz.prog 114 #[.pointer (some ⟨b,0,none⟩),.int .u32 (id:Int)] w fun e w'=>e=.returned (.int .i64 (σ.despawn id).1)∧Own w0 w' (RStG G b (σ.despawn id).2 (K+1)::l):=by
 cases hl:σ.S.isLive id with
 | false =>
  have HV:Hid (σ.despawn id=(7,σ)):=by show _=_;unfold Sto.despawn;rw [hl];rfl
  obtain ⟨x,hx,hgx,h'⟩:=RStG.opn h
  have HE:Hid (Calls _ _ _ _ _):=rentNo w0 w l b σ x K h' hx hσ (by omega) id hl
  have HX:Hid (RXok σ x K):=hx
  have HKP:Hid (KP σ x G):=hgx
  clear h h' hσ hx hl hgx hG
  go_enter Tryz.func114,Tryz.ntmps114
  go_wp2_with fail
  refine HE.out.mono ?_
  rintro e w1 ⟨rfl,hO⟩
  have H1:Hid (Own w0 w1 _):=hO
  clear hO HE
  go_wp2
  go_ret
  rw [HV.out]
  exact ⟨rfl,RStG.stoK (Nat.le_succ K) (RStG.mk HX.out HKP.out (H1.out.alloc _))⟩
 | true =>
  obtain ⟨x,hx,hgx,h'⟩:=RStG.opn h
  obtain ⟨r,d,hr,hd,hdi,he⟩:=hx.row hσ hl
  have HV:Hid (σ.despawn id=(0,{ σ.out (σ.hom id) r with S:=σ.S.less id })):=by show _=_;unfold Sto.despawn;rw [hl,hr];rfl
  have HE:Hid (Calls _ _ _ _ _):=rent w0 w l b σ x K h' hx hσ (by omega) id hl r hr d hd
  obtain ⟨hw,h6⟩:=whr_live hσ hl
  have HFD:Hid (∀ w' l',Own w0 w' (RSX b σ.S x::l')→Calls Tryz.prog 163 #[.pointer (some ⟨b,0,none⟩),.int .u32 (id:Int)] w' fun e w''=>e=.returned (.pointer (some ⟨b,1+σ.hom id*2,none⟩))∧Fr Nobody w' w''):=by
   intro w' l' h''
   have:=rfind w0 w' l' b σ x K h'' hx hσ.t (by omega) id _ hw
   rw [if_pos h6] at this
   exact this
  have HDR:Hid (∀ w',Own w0 w' (RSX b σ.S x::l)→Calls Tryz.prog 169 #[.pointer (some ⟨b,1+σ.hom id*2,none⟩),.int .u32 (id:Int)] w' fun out w''=>∃ ao cap,out=.returned (.tuple #[.slice ao d.2.1.length cap,.int .i64 0])∧Own w0 w'' (RStG G b (σ.out (σ.hom id) r) K::l)):=fun w' h''=>rdropG w0 w' l b σ K (RStG.mk hx hgx h'') hσ (by omega) id hG hl r _ hr he
  have HFR:Hid (∀ w',Own w0 w' (RStG G b (σ.out (σ.hom id) r) K::l)→∃ bs,w'.cell? ⟨b,0,none⟩=some (.pointer (some ⟨bs,0,none⟩))∧Calls Tryz.prog 170 #[.pointer (some ⟨bs,0,none⟩),.int .u32 (id:Int)] w' fun e w''=>e=.returned (.int .i64 0)∧Own w0 w'' (RStG G b { σ.out (σ.hom id) r with S:=σ.S.less id } (K+1)::l)):=by
   intro w' h''
   obtain ⟨y,hy,hgy,h''⟩:=RStG.opn h''
   have hfr:σ.S.free id=(0,σ.S.less id):=(St.free_live hσ.s hl).1
   refine ⟨y.bs,RSX.ids w0 w' l b _ y h'',(rfree_ok w0 w' _ y.bs σ.S y.f y.ck id (RSX.iff.1 h'').two hσ.s hy.st hid (by have:=hy.ck;omega)).mono ?_⟩
   rintro e w'' ⟨rfl,f',ck',hck',hst,h2⟩
   rw [hfr] at hst h2 ⊢
   refine ⟨rfl,RStG.mk (σ:={ σ.out (σ.hom id) r with S:=σ.S.less id }) (x:={ y with f:=f',ck:=ck' }) ⟨hst,by have:=hy.ck;simp only;omega,hy.E,fun m hm=>by have:=hy.len m hm;exact Nat.le_succ_of_le this⟩ hgy (RSX.iff.2 h2.two)⟩
  clear h h' hσ hx hl hr hd he hw h6 hgx hG
  generalize σ.hom id=m at *
  obtain ⟨d1,d2,d3,d4⟩:=d
  simp only at HE HDR hdi
  subst hdi
  generalize d2.length=dl at *
  go_enter Tryz.func114,Tryz.ntmps114
  go_wp2_with fail
  refine HE.out.mono ?_
  rintro e w1 ⟨rfl,hO⟩
  have H1:Hid (Own w0 (w1.alloc (.cells #[.int .u32 (d1:Int),.slice d3 dl d4] 76)) _):=hO.alloc _
  clear hO HE
  go_wp2_with fail
  refine (HFD.out _ _ H1.out).mono ?_
  rintro e w2 ⟨rfl,hf⟩
  have H2:Hid (Own w0 w2 _):=H1.out.quiet hf
  clear hf H1 HFD
  go_wp2_with fail
  refine (HDR.out _ H2.out).mono ?_
  rintro e w3 ⟨ao,cap,rfl,hO⟩
  obtain ⟨bs,q0,hfr⟩:=HFR.out _ hO
  have HFR1:Hid (Calls _ _ _ _ _):=hfr
  clear hfr hO HDR H2 HFR
  go_wp2_with fail
  refine HFR1.out.mono ?_
  rintro e w4 ⟨rfl,hO⟩
  have H4:Hid (Own w0 w4 _):=hO
  clear hO
  go_wp2
  go_ret
  rw [HV.out]
  exact ⟨rfl,H4.out⟩
theorem rtgetG (w0 w:World) (l:List Thing) (b o:Nat) (cur:Array Value) (m:Nat) (L:List Ent) {G:List REnt} (h:Own w0 w (RTaG G b o cur m L::l)) (hT:TOk m L) (hL:L.length≤1000000) (id:Nat) (k:Nat) (hk:k < 256) :
  Calls Tryz.prog 215 #[.pointer (some ⟨b,o,none⟩),.int .u32 (id:Int),.int .u8 (k:Int)] w fun e w'=>e=.returned (.tuple #[(tget m L id k).2.ag,.int .i64 ((tget m L id k).1:Int)])∧Own w0 w' (RTaG G b o cur m L::l):=by
 have HCU:Hid (cur[o]? = some (.int .u8 (m:Int))∧o+1 < cur.size):=RTaG.facts h
 have hA:=h.allocC #[.int .u8 0,.int .i32 0,.int .i32 0,.int .i32 0] 46
 have z0:=hA.cell 0
 have z1:=hA.cell 1
 have z2:=hA.cell 2
 have z3:=hA.cell 3
 simp at z0 z1 z2 z3
 have y0:=hA.froz 0
 have y1:=hA.froz 1
 have y2:=hA.froz 2
 have y3:=hA.froz 3
 have HR:Hid (Calls _ _ _ _ _):=rtrowG w0 _ _ b o cur m L hA.two hT.ap hL id
 have HA:Hid (Own w0 _ (Cells w.heap.size #[.int .u8 0,.int .i32 0,.int .i32 0,.int .i32 0] 46::RTaG G b o cur m L::l)):=hA
 cases hp:plc L id with
 | none =>
  have HV:Hid (tget m L id k=(7,⟨0,0,0,0⟩)):=by show _=_;unfold tget;rw [hp]
  rw [hp] at HR
  simp only [pl1] at HR
  clear h hA hp
  go_enter Tryz.func215,Tryz.ntmps215
  go_wp2_with fail
  refine HR.out.mono ?_
  rintro e w1 ⟨rfl,hf⟩
  have hO:=HA.out.quiet hf
  have z0:=hO.cell 0
  have z1:=hO.cell 1
  have z2:=hO.cell 2
  have z3:=hO.cell 3
  simp at z0 z1 z2 z3
  have y0:=hO.froz 0
  have y1:=hO.froz 1
  have y2:=hO.froz 2
  have y3:=hO.froz 3
  have HF:Hid (Own w0 ((((w1.setCell ⟨w.heap.size,0,none⟩ (.int .u8 0)).setCell ⟨w.heap.size,1,none⟩ (.int .i32 0)).setCell ⟨w.heap.size,2,none⟩ (.int .i32 0)).setCell ⟨w.heap.size,3,none⟩ (.int .i32 0)) (Cells w.heap.size #[.int .u8 0,.int .i32 0,.int .i32 0,.int .i32 0] 46::RTaG G b o cur m L::l)) :=
   (((hO.setC 0 (.int .u8 0)).setC 1 (.int .i32 0)).setC 2 (.int .i32 0)).setC 3 (.int .i32 0)
  clear HR hf hO
  go_wp2
  (try simp only [Exit.inBlock,Exit.then])
  refine bodyPost_ret (v:=.tuple #[.agg #[.int .u8 0,.int .i32 0,.int .i32 0,.int .i32 0],.int .i64 7]) ?_ rfl ⟨by rw [HV.out];rfl,HF.out.tail⟩
  rw [results_cell_tmp rfl]
  have r0:=HF.out.cell 0
  have r1:=HF.out.cell 1
  have r2:=HF.out.cell 2
  have r3:=HF.out.cell 3
  simp at r0 r1 r2 r3
  go_simp
 | some r =>
  obtain ⟨d,hd,hdi⟩:=(plc_some hT.ap id r).1 hp
  obtain ⟨did,C⟩:=d
  simp only at hdi
  subst hdi
  rw [hp] at HR
  simp only [pl1] at HR
  have hrL:=(List.getElem?_eq_some_iff.1 hd).1
  have hr0:¬ (r:Int) < 0:=by omega
  have HG:Hid (∀ i q,C[i]? = some q→∀ kk,q.k=kk→tget m L did kk=(0,q)):=fun i q hq kk hk=>tget_has hT hp hd hq hk
  have HG2:Hid (hasK C k=false→tget m L did k=(10,⟨0,0,0,0⟩)):=fun h=>tget_not hT hp hd h
  have hCk:∀ q∈C,q.k < 256:=fun q hq=>by have:=chk_k ((lst_ok (hT.ok _ (List.mem_of_getElem? hd)).1).2 q hq).2;omega
  have hC6:C.length≤6:=hT.c6 hd
  have HX:Hid (∀ w' l',Own w0 w' (RTaG G b o cur m L::l')→∃ g n cap ac cc,r < n∧w'.cell? ⟨b,o+1,none⟩=some (.slice (some ⟨g,0,none⟩) n cap)∧w'.cell? ⟨g,r*2+1,none⟩=some (.slice ac C.length cc)∧Cs w' ac C):=by
   intro w' l' h'
   obtain ⟨v,E,hE,hGE,h'⟩:=RTaG.open h'
   have hlen:E.length=L.length:=by rw [← hE,List.length_map]
   obtain ⟨g,cap,rfl,_⟩:=row_shape h'.two.row (by omega)
   have q1:=h'.cell (o+1)
   rw [tcur_at HCU.out.2] at q1
   obtain ⟨e,he⟩:∃ e,E[r]? = some e:=⟨_,List.getElem?_eq_getElem (by omega)⟩
   have hee:e.e=(did,C):=by
    have:(E.map REnt.e)[r]? = some e.e:=by rw [List.getElem?_map,he];rfl
    rw [hE,hd] at this
    exact (Option.some.inj this).symm
   obtain ⟨e1,e2,e3,e4⟩:=e
   have e2':e2=C:=(Prod.mk.inj hee).2
   subst e2'
   obtain ⟨_,c1⟩:=ecell h'.two r _ he
   have hpk:=Own.pick r _ he h'
   exact ⟨g,E.length,cap,e3,e4,by omega,q1,c1,Own.rcs hpk rfl⟩
  clear h hA hp hd
  go_enter Tryz.func215,Tryz.ntmps215
  go_wp2_with fail
  refine HR.out.mono ?_
  rintro e w1 ⟨rfl,hf⟩
  have hO:=HA.out.quiet hf
  obtain ⟨g,n,cap,ac,cc,hrn,q1,q2,hcs⟩:=HX.out _ _ hO.two
  have hrn':(r:Int) < (n:Int):=by omega
  have H1:Hid (Own w0 w1 (Cells w.heap.size #[.int .u8 0,.int .i32 0,.int .i32 0,.int .i32 0] 46::RTaG G b o cur m L::l)):=hO
  have HFD:Hid (Calls _ _ _ _ _):=find_any w1 ac C.length cc C rfl hcs hCk (by omega) k hk
  have HCS:Hid (Cs w1 ac C):=hcs
  clear HR hf hO hcs HA z0 z1 z2 z3 y0 y1 y2 y3
  generalize hcl:C.length=cl at *
  go_wp2_with fail
  refine HFD.out.mono ?_
  rintro e w2 ⟨r2,rfl,hf2,hcase⟩
  have hO:=H1.out.quiet hf2
  have z0:=hO.cell 0
  have z1:=hO.cell 1
  have z2:=hO.cell 2
  have z3:=hO.cell 3
  simp at z0 z1 z2 z3
  have y0:=hO.froz 0
  have y1:=hO.froz 1
  have y2:=hO.froz 2
  have y3:=hO.froz 3
  have hb1:=World.block_lt_of_cell? w1 _ q1
  have hb2:=World.block_lt_of_cell? w1 _ q2
  have p1:=(hf2.cell (p:=⟨b,o+1,none⟩) hb1 id).trans q1
  have p2:=(hf2.cell (p:=⟨g,r*2+1,none⟩) hb2 id).trans q2
  have HC2:Hid (Cs w2 ac C):=HCS.out.quiet hf2
  have H2:Hid (Own w0 w2 (Cells w.heap.size #[.int .u8 0,.int .i32 0,.int .i32 0,.int .i32 0] 46::RTaG G b o cur m L::l)):=hO
  clear hf2 hO H1 HFD q1 q2 hb1 hb2 HCS HX
  rcases hcase with ⟨rfl,hno⟩ | ⟨i,rfl,q,hq,hqk,_⟩
  ·have HV:Hid (tget m L did k=(10,⟨0,0,0,0⟩)):=HG2.out hno
   have HF:Hid (Own w0 ((((w2.setCell ⟨w.heap.size,0,none⟩ (.int .u8 0)).setCell ⟨w.heap.size,1,none⟩ (.int .i32 0)).setCell ⟨w.heap.size,2,none⟩ (.int .i32 0)).setCell ⟨w.heap.size,3,none⟩ (.int .i32 0)) (Cells w.heap.size #[.int .u8 0,.int .i32 0,.int .i32 0,.int .i32 0] 46::RTaG G b o cur m L::l)) :=
    (((H2.out.setC 0 (.int .u8 0)).setC 1 (.int .i32 0)).setC 2 (.int .i32 0)).setC 3 (.int .i32 0)
   clear hno
   go_wp2
   (try simp only [Exit.inBlock,Exit.then])
   refine bodyPost_ret (v:=.tuple #[.agg #[.int .u8 0,.int .i32 0,.int .i32 0,.int .i32 0],.int .i64 10]) ?_ rfl ⟨by rw [HV.out];rfl,HF.out.tail⟩
   rw [results_cell_tmp rfl]
   have r0:=HF.out.cell 0
   have r1:=HF.out.cell 1
   have r2:=HF.out.cell 2
   have r3:=HF.out.cell 3
   simp at r0 r1 r2 r3
   go_simp
  ·have HV:Hid (tget m L did k=(0,q)):=HG.out i q hq k hqk
   obtain ⟨gc,oc,hac,_,x0,x1,x2,x3⟩:=HC2.out.at i q hq
   subst hac
   have hic:i < cl:=by rw [← hcl];exact (List.getElem?_eq_some_iff.1 hq).1
   have hic':(i:Int) < (cl:Int):=by omega
   have hi0:¬ (i:Int) < 0:=by omega
   clear hq hcl
   obtain ⟨qk,qa,qb,qc⟩:=q
   simp only at x0 x1 x2 x3
   have HF:Hid (Own w0 ((((w2.setCell ⟨w.heap.size,0,none⟩ (.int .u8 (qk:Int))).setCell ⟨w.heap.size,1,none⟩ (.int .i32 qa)).setCell ⟨w.heap.size,2,none⟩ (.int .i32 qb)).setCell ⟨w.heap.size,3,none⟩ (.int .i32 qc)) (Cells w.heap.size #[.int .u8 (qk:Int),.int .i32 qa,.int .i32 qb,.int .i32 qc] 46::RTaG G b o cur m L::l)) :=
    (((H2.out.setC 0 (.int .u8 (qk:Int))).setC 1 (.int .i32 qa)).setC 2 (.int .i32 qb)).setC 3 (.int .i32 qc)
   clear hqk
   go_wp2
   (try simp only [Exit.inBlock,Exit.then])
   refine bodyPost_ret (v:=.tuple #[.agg #[.int .u8 (qk:Int),.int .i32 qa,.int .i32 qb,.int .i32 qc],.int .i64 0]) ?_ rfl ⟨by rw [HV.out];rfl,HF.out.tail⟩
   rw [results_cell_tmp rfl]
   have r0:=HF.out.cell 0
   have r1:=HF.out.cell 1
   have r2:=HF.out.cell 2
   have r3:=HF.out.cell 3
   simp at r0 r1 r2 r3
   go_simp
end Go.Proofs.YtogmdoiecpihdaaGreatDoor
