/- Package table: Add. -/
import Derived.Test.YtogmdoiecpihdaaGreatDoorQs13
import Derived.Test.YtogmdoiecpihdaaGreatDoorQs12
namespace Go.Proofs.YtogmdoiecpihdaaGreatDoor
open Go.RowKit Go.Maps
set_option linter.unusedVariables false
set_option maxHeartbeats 4000000
set_option maxRecDepth 100000
def tadd (m:Nat) (L:List Ent) (id:Nat) (C:List Cp):Nat × List Ent :=
 if lst (-1) C≠0 then (lst (-1) C,L) else if msk C≠m then (4,L) else if (plc L id).isSome then (9,L) else (0,L++[(id,C)])
def gcol (m:Nat) (L:List Ent) (C:List Cp) (j:Nat):Nat→List Fs:=fun k=>if hasK (C.take j) k then clm m L k++[fv C k] else clm m L k
theorem gcol_zero (m:Nat) (L:List Ent) (C:List Cp):gcol m L C 0=clm m L:=by funext k;simp [gcol,hasK]
theorem gcol_at {m:Nat} {L:List Ent} {C:List Cp} (h:lst (-1) C=0) {j:Nat} {q:Cp} (hq:C[j]? = some q):gcol m L C j q.k=clm m L q.k∧gcol m L C (j+1)=upd (gcol m L C j) q.k (clm m L q.k++[q.f]):=by
 have hno:hasK (C.take j) q.k=false:=by
  apply hasK_false
  intro x hx hc
  obtain ⟨i,hi⟩:=List.getElem?_of_mem hx
  rw [List.getElem?_take] at hi
  split at hi
  ·rename_i hij
   have hp:=(lst_ok h).1
   rw [List.pairwise_iff_getElem] at hp
   obtain ⟨h1,h2⟩:=List.getElem?_eq_some_iff.1 hi
   obtain ⟨h3,h4⟩:=List.getElem?_eq_some_iff.1 hq
   have:=hp i j h1 h3 hij
   rw [h2,h4] at this
   omega
  ·cases hi
 refine ⟨by unfold gcol;rw [hno];rfl,?_⟩
 funext k
 by_cases c:k=q.k
 ·subst c
  rw [upd_same]
  unfold gcol
  rw [hasK_take_succ hq,hno]
  simp [fv_of h (List.mem_of_getElem? hq)]
 ·rw [upd_other _ _ _ c]
  unfold gcol
  rw [hasK_take_succ hq,decide_eq_false (fun e=>c e.symm),Bool.or_false]
theorem gcol_end {m:Nat} {L:List Ent} {C:List Cp} (hm:msk C=m) (hm6:m < 64) (id:Nat) (k:Nat) (hk:k < 6):gcol m L C C.length k=clm m (L++[(id,C)]) k:=by
 rw [clm_snoc]
 unfold gcol
 rw [List.take_length,← bt_msk C k hk,hm]
theorem taddC (w0 w:World) (l:List Thing) (b m:Nat) (L:List Ent) (c:Nat) (ht:Tab w0) (h:Own w0 w (Table b m L c::l)) (hT:TOk m L) (id:Nat) (hid:id < 4294967296) (ao:Option Addr) (len cap:Nat) (C:List Cp) (hCl:C.length=len) (hCs:∀ w',Own w0 w' l→Cs w' ao C) (hCk:∀ q∈C,q.k < 256) (hlen:len≤1000000) (hL:L.length≤1000000) (hc:c≤1000000) :
  Calls Tryz.prog 242 #[.pointer (some ⟨b,0,none⟩),.int .u32 (id:Int),.slice ao len cap] w fun e w'=>e=.returned (.int .i64 ((tadd m L id C).1:Int))∧Own w0 w' (Table b m (tadd m L id C).2 (c+1)::l):=by
 have hm:=hT.m64
 have H:Hid (Own w0 w (Table b m L c::l)):=h
 have HT:Hid (Tab w0∧TOk m L):=⟨ht,hT⟩
 have HCS:Hid (C.length=len∧(∀ w',Own w0 w' l→Cs w' ao C)∧∀ q∈C,q.k < 256):=⟨hCl,hCs,hCk⟩
 have HLS:Hid (Calls _ _ _ _ _):=list_any w (ht.quiet h.fr) ao len cap C hCl (hCs w h.tail) hCk hlen
 have HUP:Hid (∀ w',Own w0 w' (Table b m L c::l)→Own w0 w' (Table b m L (c+1)::l)):=fun w' h'=>TabG.is h' rfl (fun _ _=>rfl) (fun _ _=>rfl) (Nat.le_succ _)
 clear h ht hT hCl hCs hCk
 obtain ⟨x,hx⟩:∃ x,lst (-1) C=x:=⟨_,rfl⟩
 rw [hx] at HLS
 by_cases hx0:x=0
 ·subst hx0
  have HLST:Hid (lst (-1) C=0):=hx
  have HR:Hid (∀ w',Own w0 w' (Table b m L c::l)→Calls Tryz.prog 173 #[.pointer (some ⟨b,0,none⟩),.int .u32 (id:Int)] w' fun e w''=>e=.returned (lk (plc L id))∧w''=w'):=fun w' h'=>trow w0 w' _ b m _ _ _ c h' id hid
  have HMK:Hid (∀ w',Own w0 w' (Table b m L c::l)→Calls Tryz.prog 194 #[.slice ao len cap] w' fun e w''=>e=.returned (.int .u8 ((msk C:Nat):Int))∧Fr Nobody w' w''):=fun w' h'=>mask_any w' ao len cap C HCS.out.1 (HCS.out.2.1 w' h'.tail) HCS.out.2.2 hlen
  have HMC:Hid (∀ w',Own w0 w' (Table b m L c::l)→w'.cell? ⟨b,0,none⟩=some (.int .u8 (m:Int))):=by
   intro w' h'
   obtain ⟨vi,v,mb,h'⟩:=TabG.open _ _ _ _ _ _ _ _ _ h'
   have q:=h'.cell 0
   simpa [tcells] using q
  have hm64:=msk_lt C
  by_cases hmk:msk C=m
  ·cases hp:plc L id with
   | some r =>
    have HV:Hid (tadd m L id C=(9,L)):=by show _=_;unfold tadd;rw [if_neg (by simp [hx]),if_neg (by simp [hmk]),if_pos (by rw [hp];rfl)]
    rw [hp] at HR
    simp only [lk] at HR
    rw [hmk] at HMK hm64
    clear hp hx hmk
    go_enter Tryz.func242,Tryz.ntmps242
    go_wp2_with fail
    refine HLS.out.mono ?_
    rintro e w1 ⟨rfl,hf⟩
    have H1:Hid (Own w0 w1 (Table b m L c::l)):=H.out.quiet hf
    clear hf HLS H
    go_wp2_with fail
    refine (HR.out _ H1.out).mono ?_
    rintro e w2 ⟨rfl,rfl⟩
    clear HR
    have q0:=HMC.out _ H1.out
    go_wp2_with fail
    go_region_with (
     go_at_call 194
     refine (HMK.out _ H1.out.drew).mono ?_
     rintro e w3 ⟨rfl,hf3⟩
     have H3:Hid (Own w0 w3 (Table b m L c::l)):=H1.out.drew.quiet hf3
     have q3:=HMC.out _ H3.out
     clear hf3)
    all_goals
     go_wp2
     go_ret
     rw [HV.out]
     exact ⟨rfl,HUP.out _ H3.out⟩
   | none =>
    have HV:Hid (tadd m L id C=(0,L++[(id,C)])):=by show _=_;unfold tadd;rw [if_neg (by simp [hx]),if_neg (by simp [hmk]),if_neg (by rw [hp];simp)]
    have HEND:Hid (∀ w',Own w0 w' (TabG b m (ids L++[id]) (gcol m L C len) (fun x=>if x=id then some L.length else plc L x) (c+1)::l)→Own w0 w' (Table b m (L++[(id,C)]) (c+1)::l)):=by
     intro w' h'
     refine TabG.is h' (by simp [ids]) (fun k hk=>by rw [← HCS.out.1];exact gcol_end hmk hm id k hk) (fun x _=>(plc_snoc L (id,C) hp x).symm) (Nat.le_refl _)
    have HMP:Hid (∀ w',Own w0 w' (Table b m L c::l)→∃ mb w'',w'.cell? ⟨b,8,none⟩=some (.map (some mb))∧(Instr.mapUpdate 309 (.map (some mb)) (.int .u32 (id:Int)) (.int .i64 (L.length:Int))).run Tryz.prog w'=.ok () w''∧Own w0 w'' (TabG b m (ids L) (clm m L) (fun x=>if x=id then some L.length else plc L x) (c+1)::l)):=by
     intro w' h'
     obtain ⟨vi,v,mb,h'⟩:=TabG.open _ _ _ _ _ _ _ _ _ h'
     have q:=h'.cell 8
     simp [tcells] at q
     obtain ⟨w'',r1,r2⟩:=h'.three.mapPut id L.length hid hL (by unfold maxLen;omega)
     exact ⟨mb,w'',q,r1,TabG.shut _ _ _ _ _ _ _ _ _ vi v mb r2.back3⟩
    have HLN:Hid (∀ w',Own w0 w' (Table b m L c::l)→Calls Tryz.prog 200 #[.pointer (some ⟨b,0,none⟩)] w' fun e w''=>e=.returned (.int .i64 (L.length:Int))∧w''=w'):=fun w' h'=>by have:=tlen w0 w' l b m _ _ _ c h';rw [length_ids] at this;exact this
    have HLC:Hid (∀ k,(clm m L k).length≤1000000):=by intro k;rw [length_clm];split <;> omega
    rw [hp] at HR
    simp only [lk] at HR
    rw [hmk] at HMK hm64
    clear hp hx hmk
    go_enter Tryz.func242,Tryz.ntmps242
    go_wp2_with fail
    refine HLS.out.mono ?_
    rintro e w1 ⟨rfl,hf⟩
    have H1:Hid (Own w0 w1 (Table b m L c::l)):=H.out.quiet hf
    clear hf HLS H
    go_wp2_with fail
    refine (HR.out _ H1.out).mono ?_
    rintro e w2 ⟨rfl,rfl⟩
    clear HR
    have q0:=HMC.out _ H1.out
    go_wp2_with fail
    go_region_with (
     go_at_call 194
     refine (HMK.out _ H1.out.drew).mono ?_
     rintro e w3 ⟨rfl,hf3⟩
     have H3:Hid (Own w0 w3 (Table b m L c::l)):=H1.out.drew.quiet hf3
     have q3:=HMC.out _ H3.out
     clear hf3)
    all_goals
     clear HMK H1 q0 q3
     obtain ⟨mb,w4,q8,hrun,hO4⟩:=HMP.out _ H3.out.drew
     have HL3:Hid (Calls _ _ _ _ _):=HLN.out _ H3.out.drew
     have H4:Hid (Own w0 w4 (TabG b m (ids L) (clm m L) (fun x=>if x=id then some L.length else plc L x) (c+1)::l)):=hO4
     clear hO4 HMP HLN
     go_wp2_with fail
     go_region_with (
      go_at_call 200
      refine HL3.out.mono ?_
      rintro e w5 ⟨rfl,rfl⟩)
     all_goals
      clear H3 q8 hrun HL3
      go_wp2_with fail
      refine (tpushI w0 _ l b m _ _ _ (c+1) H4.out id (by rw [length_ids];exact hL)).mono ?_
      rintro e w6 ⟨rfl,hO6⟩
      have H6:Hid (Own w0 w6 (TabG b m (ids L++[id]) (gcol m L C 0) (fun x=>if x=id then some L.length else plc L x) (c+1)::l)):=by rw [gcol_zero];exact hO6
      clear hO6 H4
      go_wp2
      go_loopw [49] (fun cv wr=>∃ j:Nat,j≤len∧cv=.int .i64 j∧Own w0 wr (TabG b m (ids L++[id]) (gcol m L C j) (fun x=>if x=id then some L.length else plc L x) (c+1)::l)) (fun cv _=>len - (intOf cv).toNat)
      case atStart=>exact ⟨0,Nat.zero_le _,rfl,H6.out⟩
      case round =>
       obtain ⟨j,hj,rfl,hO⟩:=hrel
       have HO:Hid (Own w0 wr (TabG b m (ids L++[id]) (gcol m L C j) (fun x=>if x=id then some L.length else plc L x) (c+1)::l)):=hO
       clear H6
       by_cases hlt:j < len
       ·obtain ⟨q,hq⟩:∃ q,C[j]? = some q:=⟨_,List.getElem?_eq_getElem (by rw [HCS.out.1];exact hlt)⟩
        obtain ⟨gg,o0,hao,_,c0,c1,c2,c3⟩:=(HCS.out.2.1 wr hO.tail).at j q hq
        subst hao
        have hq6:q.k < 6:=chk_k ((lst_ok HLST.out).2 q (List.mem_of_getElem? hq)).2
        obtain ⟨g1,g2⟩:=gcol_at (m:=m) (L:=L) HLST.out hq
        have HPU:Hid (∀ w',Own w0 w' (TabG b m (ids L++[id]) (gcol m L C j) (fun x=>if x=id then some L.length else plc L x) (c+1)::l)→Calls Tryz.prog 255 #[.pointer (some ⟨b,2+q.k,none⟩),.agg #[.int .i32 q.a,.int .i32 q.b,.int .i32 q.c]] w' fun e w''=>e=.returned (.tuple #[])∧Own w0 w'' (TabG b m (ids L++[id]) (gcol m L C (j+1)) (fun x=>if x=id then some L.length else plc L x) (c+1)::l)):=by
         intro w' h'
         have:=tpush w0 w' l b m _ _ _ (c+1) h' q.k hq6 q.f (by rw [g1];exact HLC.out _)
         rw [g1,← g2] at this
         exact this
        have HA:Hid (Own w0 (wr.alloc (.cells #[.int .u8 (q.k:Int),.int .i32 q.a,.int .i32 q.b,.int .i32 q.c] 46)) (TabG b m (ids L++[id]) (gcol m L C j) (fun x=>if x=id then some L.length else plc L x) (c+1)::l)):=hO.alloc _
        have hlt':(j:Int) < (len:Int):=by omega
        have hq6':(q.k:Int) < 6:=by omega
        clear hq g1 g2 hO
        obtain ⟨qk,qa,qb,qc⟩:=q
        simp only at c0 c1 c2 c3 hq6 hq6' HPU HA
        go_wp2_with fail
        go_region_with (
         go_at_call 255
         refine (HPU.out _ HA.out.drew).mono ?_
         rintro e w8 ⟨rfl,hO8⟩
         have H8:Hid (Own w0 w8 (TabG b m (ids L++[id]) (gcol m L C (j+1)) (fun x=>if x=id then some L.length else plc L x) (c+1)::l)):=hO8
         clear hO8)
        all_goals
         go_wp2
         go_roundw
         case rel=>exact ⟨j+1,by omega,by go_num,H8.out⟩
         case measure=>simp [intOf];omega
       ·have hlt':¬ (j:Int) < (len:Int):=by omega
        have hjl:j=len:=by omega
        subst hjl
        clear hO
        go_wp2
        go_ret
        rw [HV.out]
        exact ⟨rfl,HEND.out _ HO.out⟩
  ·have HV:Hid (tadd m L id C=(4,L)):=by show _=_;unfold tadd;rw [if_neg (by simp [hx]),if_pos hmk]
   have hne:((msk C:Int) != (m:Int))=true:=by simp;omega
   clear hx
   generalize msk C=mc at *
   cases hp:plc L id with
   | some r =>
    rw [hp] at HR
    simp only [lk] at HR
    clear hp
    go_enter Tryz.func242,Tryz.ntmps242
    go_wp2_with fail
    refine HLS.out.mono ?_
    rintro e w1 ⟨rfl,hf⟩
    have H1:Hid (Own w0 w1 (Table b m L c::l)):=H.out.quiet hf
    clear hf HLS H
    go_wp2_with fail
    refine (HR.out _ H1.out).mono ?_
    rintro e w2 ⟨rfl,rfl⟩
    clear HR
    have q0:=HMC.out _ H1.out
    go_wp2_with fail
    go_region_with (
     go_at_call 194
     refine (HMK.out _ H1.out.drew).mono ?_
     rintro e w3 ⟨rfl,hf3⟩
     have H3:Hid (Own w0 w3 (Table b m L c::l)):=H1.out.drew.quiet hf3
     have q3:=HMC.out _ H3.out
     clear hf3)
    all_goals
     go_wp2
     go_ret
     rw [HV.out]
     exact ⟨rfl,HUP.out _ H3.out⟩
   | none =>
    rw [hp] at HR
    simp only [lk] at HR
    clear hp
    go_enter Tryz.func242,Tryz.ntmps242
    go_wp2_with fail
    refine HLS.out.mono ?_
    rintro e w1 ⟨rfl,hf⟩
    have H1:Hid (Own w0 w1 (Table b m L c::l)):=H.out.quiet hf
    clear hf HLS H
    go_wp2_with fail
    refine (HR.out _ H1.out).mono ?_
    rintro e w2 ⟨rfl,rfl⟩
    clear HR
    have q0:=HMC.out _ H1.out
    go_wp2_with fail
    go_region_with (
     go_at_call 194
     refine (HMK.out _ H1.out.drew).mono ?_
     rintro e w3 ⟨rfl,hf3⟩
     have H3:Hid (Own w0 w3 (Table b m L c::l)):=H1.out.drew.quiet hf3
     have q3:=HMC.out _ H3.out
     clear hf3)
    all_goals
     go_wp2
     go_ret
     rw [HV.out]
     exact ⟨rfl,HUP.out _ H3.out⟩
 ·have HV:Hid (tadd m L id C=(x,L)):=by show _=_;unfold tadd;rw [if_pos (by rw [hx];exact hx0),hx]
  have hx1:((x:Int) != 0)=true:=by simpa using hx0
  clear hx
  go_enter Tryz.func242,Tryz.ntmps242
  go_wp2_with fail
  refine HLS.out.mono ?_
  rintro e w1 ⟨rfl,hf⟩
  have H1:Hid (Own w0 w1 (Table b m L c::l)):=H.out.quiet hf
  clear hf HLS H
  go_wp2
  go_ret
  rw [HV.out]
  exact ⟨rfl,HUP.out _ H1.out⟩
theorem tadd_put {m:Nat} {L:List Ent} {id:Nat} {C:List Cp} (h1:lst (-1) C=0) (h2:msk C=m) (h3:plc L id=none):tadd m L id C=(0,L++[(id,C)]):=by
 unfold tadd;rw [if_neg (by simp [h1]),if_neg (by simp [h2]),if_neg (by rw [h3];simp)]
theorem Own.stoBX {w0 w:World} {l:List Thing} {b bs:Nat} {v:Value} {p:Nat→Option Nat} {σ:Sto} {K K' m bt c:Nat} {L:List Ent} (h:Own w0 w (Table bt m L c::StoB b σ K (bs,v,p) m::l)) (hm:m < 64) (hp:p m=some bt) (hK:K≤K') (hc:c≤K') (hL:L≠[]) (hl:L.length≤K'):Own w0 w (StoX b { σ with T:=upd σ.T m L } K' (bs,v,p)::l):=by
 have e:upd p m (some bt)=p:=by
  funext j
  unfold upd
  split
  ·rename_i q;rw [q,hp]
  ·rfl
 have h2:=h.tabShut hc hL hl
 rw [← e] at h2
 have:=h2.stoI hm hK
 rw [e] at this
 exact this
set_option maxRecDepth 100000 in
theorem put_ok (w0 w:World) (l:List Thing) (b bs:Nat) (v:Value) (p:Nat→Option Nat) (σ:Sto) (K:Nat) (ht:Tab w0) (h:Own w0 w (StoX b σ K (bs,v,p)::l)) (id:Nat) (hid:id < 4294967296) (hm:id % 1024 < σ.mks.length)
  (ao:Option Addr) (len cap:Nat) (C:List Cp) (hCl:C.length=len) (hCs:∀ w',Own w0 w' l→Cs w' ao C) (hCk:∀ q∈C,q.k < 256) (hlen:len≤1000000) (hC:lst (-1) C=0) (hT:TOk (msk C) (σ.T (msk C))) (hp:plc (σ.T (msk C)) id=none) (hK:K < 1000000) :
  Calls Tryz.prog 203 #[.pointer (some ⟨b,0,none⟩),.int .u32 (id:Int),.slice ao len cap] w fun e w'=>e=.returned (.tuple #[])∧Own w0 w' (Store b (σ.put id C) (K+1)::l):=by
 have H:Hid (Own w0 w (StoX b σ K (bs,v,p)::l)):=h
 have h6:msk C < 64:=hT.m64
 obtain ⟨g,cp,rfl,_,_,_⟩:=stoMk h (id % 1024) hm
 have HCs:Hid (∀ w',Own w0 w' l→Cs w' ao C):=hCs
 have HMK:Hid (Calls _ _ _ _ _):=mask_any w ao len cap C hCl (hCs _ h.tail) hCk hlen
 have HSL:Hid (∀ w',Calls Tryz.prog 126 #[.int .u32 (id:Int)] w' fun e w''=>e=.returned (.int .i64 ((id % 1024:Nat):Int))∧w''=w'):=fun w'=>slot_any id w' hid
 have HC4:Hid (∀ w' p',Own w0 w' (StoX b { σ with T:=upd σ.T (msk C) (σ.T (msk C)++[(id,C)]) } (K+1) (bs,.slice (some ⟨g,0,none⟩) σ.mks.length cp,p')::l)→w'.cell? ⟨b,1,none⟩=some (.slice (some ⟨g,0,none⟩) σ.mks.length cp)∧(∃ u,w'.cell? ⟨g,id % 1024,none⟩=some u)∧w'.frozen? ⟨g,id % 1024,none⟩=false):=by
  intro w' p' h'
  obtain ⟨g',cp',he,q1,q2,_⟩:=stoMk h' (id % 1024) hm
  cases he
  exact ⟨(stoCells h').2.1,⟨_,q1⟩,q2⟩
 have HFIN:Hid (∀ w' p',Own w0 w' (StoX b { σ with T:=upd σ.T (msk C) (σ.T (msk C)++[(id,C)]) } (K+1) (bs,.slice (some ⟨g,0,none⟩) σ.mks.length cp,p')::l)→Own w0 (w'.setCell ⟨g,id % 1024,none⟩ (.int .u8 ((msk C:Nat):Int))) (Store b (σ.put id C) (K+1)::l)):=fun w' p' h'=>(Own.stoMset (σ:={ σ with T:=upd σ.T (msk C) (σ.T (msk C)++[(id,C)]) }) h' (id % 1024) (msk C)).xSto
 have HADD:Hid (∀ w' l' bt c,Own w0 w' (Table bt (msk C) (σ.T (msk C)) c::l')→(∀ w'',Own w0 w'' l'→Cs w'' ao C)→(σ.T (msk C)).length≤1000000→c≤1000000→Calls Tryz.prog 242 #[.pointer (some ⟨bt,0,none⟩),.int .u32 (id:Int),.slice ao len cap] w' fun e w''=>e=.returned (.int .i64 0)∧Own w0 w'' (Table bt (msk C) (σ.T (msk C)++[(id,C)]) (c+1)::l')):=by
  intro w' l' bt c h' hc' hl' hcc
  have:=taddC w0 w' l' bt (msk C) (σ.T (msk C)) c ht h' hT id hid ao len cap C hCl hc' hCk hlen hl' hcc
  rw [tadd_put hC rfl hp] at this
  exact this
 have HNEW:Hid (∀ w' l',Own w0 w' l'→Calls Tryz.prog 241 #[.int .u8 ((msk C:Nat):Int)] w' fun e w''=>∃ bt,e=.returned (.tuple #[.pointer (some ⟨bt,0,none⟩),.int .i64 0])∧Own w0 w'' (Table bt (msk C) [] 0::l')):=fun w' l' h'=>tnew w0 w' l' (msk C) h' h6
 have qt:=(stoCells h).2.2 _ h6
 have h6':((msk C:Nat):Int) < 64:=by omega
 have hm':((id % 1024:Nat):Int) < (σ.mks.length:Int):=by omega
 cases hpm:p (msk C) with
 | none =>
  obtain ⟨hTe,hB⟩:=h.stoN h6 hpm
  have HB:Hid (∀ w',Fr Nobody w w'→Own w0 w' (StoB b σ K (bs,.slice (some ⟨g,0,none⟩) σ.mks.length cp,p) (msk C)::l)):=fun w' hf=>hB.quiet hf
  have HTE:Hid (σ.T (msk C)=[]):=hTe
  have HTL:Hid ((σ.T (msk C)).length≤1000000):=by show _≤_;rw [hTe];simp
  have HTL2:Hid ((σ.T (msk C)).length≤K):=by show _≤_;rw [hTe];simp
  have HPM:Hid (p (msk C)=none):=hpm
  clear qt
  clear h hB hTe hT hp hC hCs hCk hid hlen hCl hpm
  generalize msk C=m at *
  generalize id % 1024=s at *
  go_enter Tryz.func203,Tryz.ntmps203
  go_wp2_with fail
  refine HMK.out.mono ?_
  rintro e w1 ⟨rfl,hf⟩
  have hB1:=HB.out _ hf
  have HB1:Hid (Own w0 w1 _):=hB1
  have qt1:=(hB1.stoBcell m h6).1
  rw [HPM.out,pp_none] at qt1
  clear hB1 hf HMK HB
  go_wp2_with fail
  go_region_with (
   go_at_call 241
   refine (HNEW.out _ _ HB1.out.drew).mono ?_
   rintro e w2 ⟨bt,rfl,hO⟩
   have qz:=hO.two.stoBcell m h6
   rw [HPM.out,pp_none] at qz
   obtain ⟨qc,qz⟩:=qz
   have HO3:Hid (Own w0 (w2.setCell ⟨b,2+m,none⟩ (.pointer (some ⟨bt,0,none⟩))) (Table bt m (σ.T m) 0::StoB b σ K (bs,.slice (some ⟨g,0,none⟩) σ.mks.length cp,upd p m (some bt)) m::l)):=by rw [HTE.out];exact (hO.two.stoBset h6 (some bt)).two
   clear hO)
  all_goals
   have qp:=(HO3.out.two.stoBcell m h6).1
   rw [upd_same,pp_some] at qp
   generalize hw3:(w2.setCell ⟨b,2+m,none⟩ (.pointer (some ⟨bt,0,none⟩)))=w3 at *
   clear hw3 qc qz qt1 HB1
   go_wp2_with fail
   refine (HADD.out _ _ bt 0 HO3.out (fun w'' h''=>HCs.out _ h''.tail) HTL.out (by omega)).mono ?_
   rintro e w4 ⟨rfl,hO4⟩
   have hX:=hO4.stoBX h6 (upd_same _ _ _) (Nat.le_succ K) (by omega) (by simp) (by have:=HTL2.out;simp;omega)
   have HX:Hid (Own w0 w4 _):=hX
   obtain ⟨q1,⟨u,qu⟩,qf⟩:=HC4.out _ _ hX
   clear hO4 hX qp HADD HNEW
   go_wp2_with fail
   go_region_with (
    go_at_call 126
    refine (HSL.out _).mono ?_
    rintro e w' ⟨rfl,rfl⟩)
   all_goals
    go_wp2
    go_end0
    exact ⟨rfl,HFIN.out _ _ HX.out.drew⟩
 | some bt =>
  obtain ⟨c,hcK,hTne,hTl,hB⟩:=h.stoB h6 hpm
  have HB:Hid (∀ w',Fr Nobody w w'→Own w0 w' (Table bt (msk C) (σ.T (msk C)) c::StoB b σ K (bs,.slice (some ⟨g,0,none⟩) σ.mks.length cp,p) (msk C)::l)):=fun w' hf=>hB.quiet hf
  have HTL:Hid ((σ.T (msk C)).length≤1000000):=by show _≤_;omega
  have HTL2:Hid ((σ.T (msk C)).length≤K):=hTl
  have HPM:Hid (p (msk C)=some bt):=hpm
  clear qt
  clear h hB hT hp hC hCs hCk hid hlen hCl hpm hTl hTne
  generalize msk C=m at *
  generalize id % 1024=s at *
  go_enter Tryz.func203,Tryz.ntmps203
  go_wp2_with fail
  refine HMK.out.mono ?_
  rintro e w1 ⟨rfl,hf⟩
  have hB1:=HB.out _ hf
  have HB1:Hid (Own w0 w1 _):=hB1
  have qt1:=(hB1.two.stoBcell m h6).1
  rw [HPM.out,pp_some] at qt1
  clear hB1 hf HMK HB
  go_wp2_with fail
  refine (HADD.out _ _ bt c HB1.out (fun w'' h''=>HCs.out _ h''.tail) HTL.out (by omega)).mono ?_
  rintro e w4 ⟨rfl,hO4⟩
  have hX:=hO4.stoBX h6 HPM.out (Nat.le_succ K) (by omega) (by simp) (by have:=HTL2.out;simp;omega)
  have HX:Hid (Own w0 w4 _):=hX
  obtain ⟨q1,⟨u,qu⟩,qf⟩:=HC4.out _ _ hX
  clear hO4 hX qt1 HADD HNEW
  go_wp2_with fail
  go_region_with (
   go_at_call 126
   refine (HSL.out _).mono ?_
   rintro e w' ⟨rfl,rfl⟩)
  all_goals
   go_wp2
   go_end0
   exact ⟨rfl,HFIN.out _ _ HX.out.drew⟩
theorem gd_set_same {α:Type} (l:List α) (i:Nat) (x d:α) (h:i < l.length):(l.set i x).getD i d=x:=by rw [List.getD_eq_getElem?_getD,List.getElem?_set_self h];rfl
theorem gd_set_other {α:Type} (l:List α) (i k:Nat) (x d:α) (h:k≠i):(l.set i x).getD k d=l.getD k d:=by rw [List.getD_eq_getElem?_getD,List.getElem?_set_ne (fun q=>h q.symm),List.getD_eq_getElem?_getD]
theorem gd_snoc_same {α:Type} (l:List α) (x d:α) (k:Nat) (h:k=l.length):(l++[x]).getD k d=x:=by rw [h,List.getD_eq_getElem?_getD,List.getElem?_append_right (Nat.le_refl _)];simp
theorem gd_snoc_other {α:Type} (l:List α) (x d:α) (k:Nat) (h:k≠l.length):(l++[x]).getD k d=l.getD k d:=by
 rw [List.getD_eq_getElem?_getD,List.getD_eq_getElem?_getD]
 rcases Nat.lt_or_gt_of_ne h with c | c
 ·rw [List.getElem?_append_left c]
 ·rw [List.getElem?_eq_none (by simp;omega),List.getElem?_eq_none (by omega)]
theorem gd_some {α:Type} {l:List α} {i:Nat} {d x:α} (h:l[i]? = some x):l.getD i d=x:=by rw [List.getD_eq_getElem?_getD,h];rfl
theorem gd_none {α:Type} {l:List α} {i:Nat} {d:α} (h:l.length≤i):l.getD i d=d:=by rw [List.getD_eq_getElem?_getD,List.getElem?_eq_none h];rfl
theorem St.live_lt {S:St} (h:S.Ok) {id:Nat} (hl:S.isLive id=true):id < 4294967296∧id % 1024 < S.n:=by
 obtain ⟨_,b⟩:=(S.isLive_iff h id).1 hl
 exact ⟨(h.id _ _ b).2.2,Nat.lt_of_lt_of_le (List.getElem?_eq_some_iff.1 b).1 h.le⟩
theorem St.live_one {S:St} (h:S.Ok) {x y:Nat} (hx:S.isLive x=true) (hy:S.isLive y=true) (he:x % 1024=y % 1024):x=y:=by
 obtain ⟨_,a⟩:=(S.isLive_iff h x).1 hx
 obtain ⟨_,b⟩:=(S.isLive_iff h y).1 hy
 rw [he,b] at a
 exact (Option.some.inj a).symm
theorem St.take_live {S:St} (h:S.Ok) (he:S.take.2.1=0):S.isLive S.take.1=false∧∀ x,S.take.2.2.isLive x=(decide (x=S.take.1) || S.isLive x):=by
 cases hf:S.freed.getLast? with
 | some f =>
  have ht:S.take=(S.last.getD f 0+1024,0,S.again f):=by unfold St.take;rw [hf]
  have hm:f∈S.freed:=by rw [dropLast_of _ _ hf];simp
  obtain ⟨hu,x,hx,_⟩:=h.fr f hm
  obtain ⟨h1,h2,h3⟩:=h.id f x hx
  have hlt:=(List.getElem?_eq_some_iff.1 hx).1
  have hlu:=(List.getElem?_eq_some_iff.1 hu).1
  rw [ht]
  simp only [gd_some hx]
  have hmod:(x+1024) % 1024=f:=by omega
  refine ⟨by unfold St.isLive;rw [hmod,gd_some hu];rfl,fun y=>?_⟩
  unfold St.isLive St.again
  simp only [gd_some hx]
  by_cases c:y % 1024=f
  ·rw [c,gd_set_same _ _ _ _ hlu,gd_set_same _ _ _ _ hlt,gd_some hu]
   by_cases d:y=x+1024
   ·subst d;simp
   ·have:¬ x+1024=y:=fun q=>d q.symm
    simp [d,this]
  ·rw [gd_set_other _ _ _ _ _ c,gd_set_other _ _ _ _ _ c]
   have d:¬ y=x+1024:=fun q=>c (by rw [q];exact hmod)
   simp [d]
 | none =>
  by_cases hl:S.last.length < S.n
  ·have ht:S.take=(S.first*1024+S.last.length,0,S.more):=by unfold St.take;rw [hf];simp [hl]
   rw [ht]
   simp only
   have h2:=h.n2
   have hul:=h.ul
   have hmod:(S.first*1024+S.last.length) % 1024=S.last.length:=by omega
   refine ⟨by unfold St.isLive;rw [hmod,gd_none (by omega)];rfl,fun y=>?_⟩
   unfold St.isLive St.more
   simp only
   by_cases c:y % 1024=S.last.length
   ·rw [c,gd_snoc_same _ _ _ _ hul.symm,gd_snoc_same _ _ _ _ rfl,gd_none (l:=S.used) (by omega)]
    by_cases d:y=S.first*1024+S.last.length
    ·subst d;simp
    ·have:¬ S.first*1024+S.last.length=y:=fun q=>d q.symm
     simp [d,this]
   ·rw [gd_snoc_other _ _ _ _ (by omega),gd_snoc_other _ _ _ _ c]
    have d:¬ y=S.first*1024+S.last.length:=fun q=>c (by rw [q];exact hmod)
    simp [d]
  ·have ht:S.take=(0,8,S):=by unfold St.take;rw [hf];simp [hl]
   rw [ht] at he
   simp at he
theorem St.free_live {S:St} (h:S.Ok) {id:Nat} (hl:S.isLive id=true):S.free id=(0,S.less id)∧∀ x,(S.less id).isLive x=(S.isLive x && !decide (x=id)):=by
 refine ⟨by unfold St.free;rw [if_pos hl],fun x=>?_⟩
 obtain ⟨hu,hx⟩:=(S.isLive_iff h id).1 hl
 have hlu:=(List.getElem?_eq_some_iff.1 hu).1
 unfold St.isLive St.less
 simp only
 by_cases c:x % 1024=id % 1024
 ·rw [c,gd_set_same _ _ _ _ hlu,gd_some hu,gd_some hx]
  by_cases d:x=id
  ·subst d;simp
  ·have:¬ id=x:=fun q=>d q.symm
   simp [d,this]
 ·rw [gd_set_other _ _ _ _ _ c]
  have d:¬ x=id:=fun q=>c (by rw [q])
  simp [d]
structure Sto.Ok (σ:Sto):Prop where
 s:σ.S.Ok
 ml:σ.mks.length=σ.S.n
 t:∀ m,m < 64→TOk m (σ.T m)
 lv:∀ m,m < 64→∀ e∈σ.T m,σ.S.isLive e.1=true∧σ.mks[e.1 % 1024]? = some m
 hm:∀ x,σ.S.isLive x=true→∃ m,m < 64∧σ.mks[x % 1024]? = some m∧∃ r,plc (σ.T m) x=some r
structure Sto.Lack (σ:Sto) (id:Nat):Prop where
 s:σ.S.Ok
 ml:σ.mks.length=σ.S.n
 t:∀ m,m < 64→TOk m (σ.T m)
 li:σ.S.isLive id=true
 lv:∀ m,m < 64→∀ e∈σ.T m,e.1≠id∧σ.S.isLive e.1=true∧σ.mks[e.1 % 1024]? = some m
 hm:∀ x,x≠id→σ.S.isLive x=true→∃ m,m < 64∧σ.mks[x % 1024]? = some m∧∃ r,plc (σ.T m) x=some r
theorem msk64 (C:List Cp):msk C < 64:=mskN_lt C 6
theorem Sto.Lack.none {σ:Sto} {id:Nat} (h:σ.Lack id) {m:Nat} (hm:m < 64):plc (σ.T m) id=Option.none:=(plc_none _ _).2 (fun e he=>(h.lv m hm e he).1)
theorem Sto.Lack.put {σ:Sto} {id:Nat} (h:σ.Lack id) {C:List Cp} (hC:lst (-1) C=0):(σ.put id C).Ok:=by
 have h6:=msk64 C
 obtain ⟨hi,hn⟩:=St.live_lt h.s h.li
 rw [← h.ml] at hn
 have hset:(σ.mks.set (id % 1024) (msk C))[id % 1024]? = some (msk C):=List.getElem?_set_self hn
 have hother:∀ x,x≠id→σ.S.isLive x=true→(σ.mks.set (id % 1024) (msk C))[x % 1024]? = σ.mks[x % 1024]?:=fun x hx hl=>List.getElem?_set_ne (fun q=>hx (St.live_one h.s hl h.li q.symm))
 refine ⟨h.s,by simp [Sto.put,h.ml],?_,?_,?_⟩
 ·intro m hm
  show TOk m (upd σ.T (msk C) _ m)
  by_cases c:m=msk C
  ·subst c
   rw [upd_same]
   exact (h.t _ hm).snoc (id,C) hi (h.none hm) hC rfl
  ·rw [upd_other _ _ _ c];exact h.t m hm
 ·intro m hm e he
  show σ.S.isLive e.1=true∧(σ.mks.set (id % 1024) (msk C))[e.1 % 1024]? = some m
  replace he:e∈upd σ.T (msk C) (σ.T (msk C)++[(id,C)]) m:=he
  have old:e∈σ.T m→σ.S.isLive e.1=true∧(σ.mks.set (id % 1024) (msk C))[e.1 % 1024]? = some m:=fun he=>by
   obtain ⟨a,b,c⟩:=h.lv m hm e he
   exact ⟨b,by rw [hother _ a b];exact c⟩
  by_cases c:m=msk C
  ·subst c
   rw [upd_same] at he
   rcases List.mem_append.1 he with he | he
   ·exact old he
   ·simp at he
    subst he
    exact ⟨h.li,hset⟩
  ·rw [upd_other _ _ _ c] at he;exact old he
 ·intro x hl
  by_cases hx:x=id
  ·subst hx
   refine ⟨msk C,h6,hset,(σ.T (msk C)).length,?_⟩
   show plc (upd σ.T (msk C) _ (msk C)) x=_
   rw [upd_same,plc_snoc _ (x,C) (h.none h6)];simp
  ·obtain ⟨m,hm,h1,r,h2⟩:=h.hm x hx hl
   refine ⟨m,hm,(hother x hx hl).trans h1,r,?_⟩
   show plc (upd σ.T (msk C) _ m) x=_
   by_cases c:m=msk C
   ·subst c
    rw [upd_same,plc_snoc _ (id,C) (h.none hm),if_neg hx];exact h2
   ·rw [upd_other _ _ _ c];exact h2
theorem Sto.Ok.home {σ:Sto} (h:σ.Ok) {id:Nat} (hl:σ.S.isLive id=true):σ.hom id < 64∧id % 1024 < σ.mks.length∧∃ r e,plc (σ.T (σ.hom id)) id=some r∧(σ.T (σ.hom id))[r]? = some e∧e.1=id:=by
 obtain ⟨m,hm,h1,r,h2⟩:=h.hm id hl
 have e:σ.hom id=m:=gd_some h1
 obtain ⟨en,he,hx⟩:=(plc_some (h.t m hm).ap id r).1 h2
 rw [e]
 exact ⟨hm,(List.getElem?_eq_some_iff.1 h1).1,r,en,h2,he,hx⟩
theorem Sto.Ok.out {σ:Sto} (h:σ.Ok) {id r:Nat} (hl:σ.S.isLive id=true) (hr:plc (σ.T (σ.hom id)) id=some r):(σ.out (σ.hom id) r).Lack id:=by
 obtain ⟨h6,hn,_⟩:=h.home hl
 generalize hk:σ.hom id=k at *
 have hlt:=plc_lt hr
 have hT:=h.t k h6
 obtain ⟨last,hlast⟩:∃ e,(σ.T k)[(σ.T k).length - 1]? = some e:=⟨_,List.getElem?_eq_getElem (by omega)⟩
 have hmk:σ.mks[id % 1024]? = some k:=by
  obtain ⟨m,_,h1,_⟩:=h.hm id hl
  rw [h1,← hk];congr 1;exact (gd_some h1).symm
 refine ⟨h.s,h.ml,?_,hl,?_,?_⟩
 ·intro m hm
  show TOk m (upd σ.T k _ m)
  by_cases c:m=k
  ·subst c;rw [upd_same];exact hT.outr r hlt
  ·rw [upd_other _ _ _ c];exact h.t m hm
 ·intro m hm e he
  replace he:e∈upd σ.T k (outr (σ.T k) r) m:=he
  by_cases c:m=k
  ·subst c
   rw [upd_same] at he
   refine ⟨?_,h.lv m hm e (mem_outr hlt he)⟩
   have hp:=plc_outr hT.ap hr hlast id
   rw [if_pos rfl,plc_none] at hp
   exact hp e he
  ·rw [upd_other _ _ _ c] at he
   obtain ⟨a,b⟩:=h.lv m hm e he
   refine ⟨?_,a,b⟩
   intro q
   rw [q,hmk] at b
   exact c (Option.some.inj b).symm
 ·intro x hx hlx
  obtain ⟨m,hm,h1,r',h2⟩:=h.hm x hlx
  refine ⟨m,hm,h1,?_⟩
  show ∃ r',plc (upd σ.T k _ m) x=some r'
  by_cases c:m=k
  ·subst c
   rw [upd_same,plc_outr hT.ap hr hlast x,if_neg hx]
   split
   ·exact ⟨_,rfl⟩
   ·exact ⟨_,h2⟩
  ·rw [upd_other _ _ _ c];exact ⟨_,h2⟩
theorem Sto.Ok.take {σ:Sto} (h:σ.Ok) (he:σ.S.take.2.1=0):(Sto.Lack { σ with S:=σ.S.take.2.2 } σ.S.take.1):=by
 obtain ⟨h1,h2⟩:=St.take_live h.s he
 have hne:∀ x,σ.S.isLive x=true→x≠σ.S.take.1:=fun x hx q=>by rw [q,h1] at hx;cases hx
 refine ⟨St.take_ok h.s,h.ml.trans (St.take_n _).1.symm,h.t,by simp [h2],?_,?_⟩
 ·intro m hm e hx
  obtain ⟨a,b⟩:=h.lv m hm e hx
  exact ⟨hne _ a,by simp [h2,a],b⟩
 ·intro x hx hl
  simp [h2,hx] at hl
  exact h.hm x hl
theorem Sto.Lack.free {σ:Sto} {id:Nat} (h:σ.Lack id):(Sto.Ok { σ with S:=σ.S.less id }):=by
 obtain ⟨_,h2⟩:=St.free_live h.s h.li
 refine ⟨St.less_ok h.s h.li,h.ml,h.t,?_,?_⟩
 ·intro m hm e he
  obtain ⟨a,b,c⟩:=h.lv m hm e he
  exact ⟨by simp [h2,b,a],c⟩
 ·intro x hx
  simp [h2] at hx
  exact h.hm x hx.2 hx.1
def Sto.new (n f:Nat):Sto:=⟨St.new n f,List.replicate n 0,fun _=>[]⟩
theorem Sto.new_ok (n f:Nat) (h1:1≤n) (h2:n≤1024) (h3:1≤f) (h4:f≤4194303):(Sto.new n f).Ok :=
 ⟨St.new_ok n f h1 h2 h3 h4,by simp [Sto.new,St.new],fun m hm=>TOk.nil hm,by simp [Sto.new],fun x hx=>by simp [Sto.new,St.new,St.isLive] at hx⟩
end Go.Proofs.YtogmdoiecpihdaaGreatDoor
