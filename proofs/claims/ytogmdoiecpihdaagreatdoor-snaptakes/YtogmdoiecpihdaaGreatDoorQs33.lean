/- The document's table: Remove. -/
import Derived.Test.YtogmdoiecpihdaaGreatDoorQs32
import Derived.Test.YtogmdoiecpihdaaGreatDoorQs31
import Derived.Test.YtogmdoiecpihdaaGreatDoorQs15
namespace Go.Proofs.YtogmdoiecpihdaaGreatDoor
open Go.RowKit Go.Maps
set_option linter.unusedVariables false
set_option maxHeartbeats 4000000
set_option maxRecDepth 100000
theorem outr_perm {α:Type} (E:List α) (r:Nat) (e:α) (he:E[r]? = some e):E.Perm (e::outr E r):=by
 obtain ⟨hr,hre⟩:=List.getElem?_eq_some_iff.1 he
 have hsp:E=E.take r++e::E.drop (r+1):=by
  rw [← hre,List.getElem_cons_drop,List.take_append_drop]
 have hA:(E.take r).length=r:=by rw [List.length_take];omega
 generalize E.take r=A at *
 generalize E.drop (r+1)=B at *
 subst hsp
 rcases List.eq_nil_or_concat B with rfl | ⟨B',x,rfl⟩
 ·have:outr (A++[e]) r=A:=by
   unfold outr
   rw [List.getLast?_append,List.getLast?_singleton]
   simp only [Option.some_or]
   rw [List.set_append_right _ _ (by omega),hA,Nat.sub_self]
   simp
  rw [this]
  exact List.perm_append_singleton _ _
 ·have:outr (A++e::(B'++[x])) r=A++x::B':=by
   unfold outr
   have hl:(A++e::(B'++[x])).getLast? = some x:=by
    rw [List.getLast?_append,List.getLast?_cons,List.getLast?_append];simp
   rw [hl]
   simp only
   rw [List.set_append_right _ _ (by omega),hA,Nat.sub_self]
   simp only [List.set_cons_zero]
   rw [show A++x::(B'++[x])=(A++x::B')++[x] by simp,List.dropLast_concat]
  rw [List.concat_eq_append,this]
  refine (List.perm_middle).trans (List.Perm.cons e ?_)
  rw [← List.append_assoc]
  refine (List.perm_append_singleton x (A++B')).trans ?_
  exact List.perm_middle.symm
section
variable (w0 w:World) (l:List Thing) (b o:Nat) (cur:Array Value) (m:Nat) (L:List Ent)
theorem rtremC (h:Own w0 w (RTab b o cur m L::l)) (hT:TOk m L) (hL:L.length≤1000000) (id r:Nat) (e:Ent) (hp:plc L id=some r) (he:L[r]? = some e) :
  Calls Tryz.prog 169 #[.pointer (some ⟨b,o,none⟩),.int .u32 (id:Int)] w fun out w'=>∃ ao cap,out=.returned (.tuple #[.slice ao e.2.length cap,.int .i64 0])∧Own w0 w' (Row 46 4 (.slice ao e.2.length cap) e.2.length (ccat e.2)::RTab b o cur m (outr L r)::l):=by
 have HCU:Hid (cur[o]? = some (.int .u8 (m:Int))∧o+1 < cur.size):=RTab.facts h
 obtain ⟨i0,hi,hz0,hz1,hz2⟩:=info_parts Tryz.infoEnt
 have HR:Hid (Calls _ _ _ _ _):=rtrow w0 w _ b o cur m L h hT.ap hL id
 rw [hp] at HR
 simp only [pl1] at HR
 have H:Hid (Own w0 w (RTab b o cur m L::l)):=h
 have HLE:Hid (L[r]? = some e):=he
 have hrL:=(List.getElem?_eq_some_iff.1 he).1
 have hr0:¬ (r:Int) < 0:=by omega
 clear h hp he hT
 go_enter Tryz.func169,Tryz.ntmps169
 go_wp2_with fail
 refine HR.out.mono ?_
 rintro out w1 ⟨rfl,hf⟩
 obtain ⟨v,E,hE,hO⟩:=RTab.open (H.out.quiet hf)
 have hlen:E.length=L.length:=by rw [← hE,List.length_map]
 obtain ⟨n,hn⟩:∃ n,E.length=n+1:=⟨E.length - 1,by omega⟩
 rw [hn] at hO
 obtain ⟨g,ce,hvv,_⟩:=row_shape hO.two.row (by omega)
 subst hvv
 obtain ⟨d,hd⟩:∃ d,E[r]? = some d:=⟨_,List.getElem?_eq_getElem (by omega)⟩
 have hee:d.e=e:=by
  have:(E.map REnt.e)[r]? = some d.e:=by rw [List.getElem?_map,hd];rfl
  rw [hE,HLE.out] at this
  exact (Option.some.inj this).symm
 obtain ⟨xl,hxl⟩:∃ x,E[n]? = some x:=⟨_,List.getElem?_eq_getElem (by omega)⟩
 have hcap:=(row_cap hO.two.row).2
 have hO2:=hO.two
 rw [← hn] at hO2
 obtain ⟨_,p2⟩:=ecell hO2 r d hd
 have p1:=hO.cell (o+1)
 rw [tcur_at HCU.out.2] at p1
 have HO:Hid (Own w0 w1 (Cells b (cur.setIfInBounds (o+1) (.slice (some ⟨g,0,none⟩) (n+1) ce)) 186::Row 76 2 (.slice (some ⟨g,0,none⟩) (n+1) ce) (n+1) (cat rcells E)::(E.map rrow++l))):=hO
 have HE:Hid (E.map REnt.e=L∧E.length=n+1∧E[r]? = some d∧E[n]? = some xl∧d.e=e):=⟨hE,hn,hd,hxl,hee⟩
 have hrn:r < n+1:=by omega
 have hrn':(r:Int) < (n:Int)+1:=by omega
 have hn6:n≤1000000:=by omega
 have hcap2:n≤ce:=by omega
 have hcap3:¬ ce=0:=by omega
 have HIN:Hid (∀ w' l',Own w0 w' (Row 76 2 (.slice (some ⟨g,0,none⟩) (n+1) ce) (n+1) (cat rcells E)::l')→∀ i x,E[i]? = some x→w'.cell? ⟨g,i*2,none⟩=some (.int .u32 (x.1:Int))∧w'.cell? ⟨g,i*2+1,none⟩=some (.slice x.2.2.1 x.2.1.length x.2.2.2)):=by
  intro w' l' h' i x hx
  rw [← HE.out.2.1] at h'
  exact ecell h' i x hx
 clear HR hf H hO hO2 hE hn hd hee hxl hlen hrL
 go_wp2
 go_loopw [9,40] (fun lv cv wr=>∃ j:Nat,j≤n∧cv=.int .i64 j∧∃ a1 c1,lv=.slice a1 j c1∧Own w0 wr (Row 76 2 (.slice a1 j c1) j (cat rcells ((outr E r).take j))::Cells b (cur.setIfInBounds (o+1) (.slice (some ⟨g,0,none⟩) (n+1) ce)) 186::Row 76 2 (.slice (some ⟨g,0,none⟩) (n+1) ce) (n+1) (cat rcells E)::(E.map rrow++l))) (fun _ cv _=>n - (intOf cv).toNat)
 case atStart=>exact ⟨0,Nat.zero_le _,rfl,none,0,rfl,by simpa [cat] using HO.out.nilRow 76 2⟩
 case round =>
  obtain ⟨j,hj,rfl,a1,c1,rfl,hO⟩:=hrel
  have H1:Hid (Own w0 wr (Row 76 2 (.slice a1 j c1) j (cat rcells ((outr E r).take j))::Cells b (cur.setIfInBounds (o+1) (.slice (some ⟨g,0,none⟩) (n+1) ce)) 186::Row 76 2 (.slice (some ⟨g,0,none⟩) (n+1) ce) (n+1) (cat rcells E)::(E.map rrow++l))):=hO
  clear HO
  by_cases hlt:j < n
  ·have hlt':(j:Int) < (n:Int):=by omega
   obtain ⟨x,hx⟩:∃ x,E[j]? = some x:=⟨_,List.getElem?_eq_getElem (by rw [HE.out.2.1];omega)⟩
   obtain ⟨s0,s1⟩:=HIN.out _ _ hO.three j x hx
   obtain ⟨t0,t1⟩:=HIN.out _ _ hO.three n xl HE.out.2.2.2.1
   have u1:=hO.two.cell (o+1)
   rw [tcur_at HCU.out.2] at u1
   have hbw:=hO.two.lt
   have hgw:g < wr.heap.size:=(hO.three.row.lt g rfl).2
   have hgn:g≠wr.heap.size:=by omega
   have hgn':wr.heap.size≠g:=by omega
   have hbn:b≠wr.heap.size:=by omega
   have hbn':wr.heap.size≠b:=by omega
   obtain ⟨y,hy⟩:∃ y,(outr E r)[j]? = some y:=⟨_,List.getElem?_eq_getElem (by rw [length_outr _ _ (by rw [HE.out.2.1];omega),HE.out.2.1];omega)⟩
   have hy2:=hy
   rw [outr_at E r j (by rw [HE.out.2.1];omega),HE.out.2.1,if_pos (by omega)] at hy2
   have HTK:Hid ((outr E r).take (j+1)=(outr E r).take j++[y]):=take_snoc _ j y hy
   have HAL:Hid (∀ ob,Own w0 (wr.alloc ob) (Row 76 2 (.slice a1 j c1) j (cat rcells ((outr E r).take j))::Cells b (cur.setIfInBounds (o+1) (.slice (some ⟨g,0,none⟩) (n+1) ce)) 186::Row 76 2 (.slice (some ⟨g,0,none⟩) (n+1) ce) (n+1) (cat rcells E)::(E.map rrow++l))):=fun ob=>H1.out.alloc ob
   clear hO hy
   by_cases hjr:j=r
   ·rw [if_pos hjr] at hy2
    have hyx:y=xl:=by
     have:=HE.out.2.2.2.1
     rw [show n+1 - 1=n by omega,this] at hy2
     exact (Option.some.inj hy2).symm
    have HJR:Hid (j=r):=hjr
    have hjr':((j:Int) == (r:Int))=true:=by rw [hjr];simp
    clear hjr hy2 hx
    subst hyx
    obtain ⟨y1,y2,y3,y4⟩:=y
    obtain ⟨x1,x2,x3,x4⟩:=x
    simp only at s0 s1 t0 t1
    generalize hyl:y2.length=yl at *
    generalize x2.length=xl2 at *
    have HYL:Hid (y2.length=yl):=hyl
    clear hyl
    go_wp2_with (at_builtin;refine append1_own rfl _ _ 62 rfl 76 i0 (.agg #[.int .u32 0,.slice none 0 0]) 2 32 Tryz.underlying62 hi hz0 hz1 hz2 rfl (by decide) _ _ _ rfl (HAL.out _) _ #[.int .u32 (y1:Int),.slice y3 yl y4] (by simp) rfl rfl (by intro u hu;simp at hu;rcases hu with rfl | rfl <;> rfl) (by unfold maxLen;omega) (by omega) ?_)
    intro g4 c4 w4 hO4 hsz
    have H4:Hid (Own w0 w4 (Row 76 2 (.slice (some ⟨g4,0,none⟩) (j+1) c4) (j+1) (cat rcells ((outr E r).take (j+1)))::Cells b (cur.setIfInBounds (o+1) (.slice (some ⟨g,0,none⟩) (n+1) ce)) 186::Row 76 2 (.slice (some ⟨g,0,none⟩) (n+1) ce) (n+1) (cat rcells E)::(E.map rrow++l))):=by
     show Own _ _ _
     rw [HTK.out,cat_append]
     have e2:cat rcells [(y1,y2,y3,y4)]=[.int .u32 (y1:Int),.slice y3 yl y4]:=by
      show [Value.int .u32 (y1:Int),Value.slice y3 y2.length y4]=_
      rw [HYL.out]
     rw [e2];exact hO4
    clear hO4 hsz H1 HAL s0 s1 t0 t1 u1
    go_wp2
    go_roundw
    case rel=>exact ⟨j+1,by omega,by go_num,_,_,rfl,H4.out⟩
    case measure=>simp [intOf];omega
   ·rw [if_neg hjr,hx] at hy2
    have hyx:x=y:=Option.some.inj hy2
    have hjr':((j:Int) == (r:Int))=false:=by rw [beq_eq_false_iff_ne];omega
    clear hy2 hx
    subst hyx
    obtain ⟨y1,y2,y3,y4⟩:=x
    simp only at s0 s1
    generalize hyl:y2.length=yl at *
    have HYL:Hid (y2.length=yl):=hyl
    clear hyl t0 t1
    go_wp2_with (at_builtin;refine append1_own rfl _ _ 62 rfl 76 i0 (.agg #[.int .u32 0,.slice none 0 0]) 2 32 Tryz.underlying62 hi hz0 hz1 hz2 rfl (by decide) _ _ _ rfl (HAL.out _) _ #[.int .u32 (y1:Int),.slice y3 yl y4] (by simp) rfl rfl (by intro u hu;simp at hu;rcases hu with rfl | rfl <;> rfl) (by unfold maxLen;omega) (by omega) ?_)
    intro g4 c4 w4 hO4 hsz
    have H4:Hid (Own w0 w4 (Row 76 2 (.slice (some ⟨g4,0,none⟩) (j+1) c4) (j+1) (cat rcells ((outr E r).take (j+1)))::Cells b (cur.setIfInBounds (o+1) (.slice (some ⟨g,0,none⟩) (n+1) ce)) 186::Row 76 2 (.slice (some ⟨g,0,none⟩) (n+1) ce) (n+1) (cat rcells E)::(E.map rrow++l))):=by
     show Own _ _ _
     rw [HTK.out,cat_append]
     have e2:cat rcells [(y1,y2,y3,y4)]=[.int .u32 (y1:Int),.slice y3 yl y4]:=by
      show [Value.int .u32 (y1:Int),Value.slice y3 y2.length y4]=_
      rw [HYL.out]
     rw [e2];exact hO4
    clear hO4 hsz H1 HAL s0 s1 u1
    go_wp2
    go_roundw
    case rel=>exact ⟨j+1,by omega,by go_num,_,_,rfl,H4.out⟩
    case measure=>simp [intOf];omega
  ·have hjn:j=n:=by omega
   subst hjn
   have hlt':¬ (j:Int) < (j:Int):=by omega
   have u1:=hO.two.cell (o+1)
   have v1:=hO.two.froz (o+1)
   rw [tcur_at HCU.out.2] at u1
   have HFIN:Hid (Own w0 (wr.setCell ⟨b,o+1,none⟩ (.slice a1 j c1)) (Row 46 4 (.slice d.2.2.1 e.2.length d.2.2.2) e.2.length (ccat e.2)::RTab b o cur m (outr L r)::l)):=by
    have hlo:(outr E r).length=j:=by rw [length_outr _ _ (by rw [HE.out.2.1];omega),HE.out.2.1];rfl
    have h1:=hO.two.setC (o+1) (.slice a1 j c1)
    rw [Array.setIfInBounds_setIfInBounds] at h1
    rw [List.take_of_length_le (by rw [hlo];exact Nat.le_refl _)] at h1
    have h2:=h1.three.tail
    have h3:Own w0 (wr.setCell ⟨b,o+1,none⟩ (.slice a1 j c1)) (rrow d::Cells b (cur.setIfInBounds (o+1) (.slice a1 j c1)) 186::Row 76 2 (.slice a1 j c1) j (cat rcells (outr E r))::((outr E r).map rrow++l)):=by
     refine h2.perm ?_
     have hpm:=((outr_perm E r d HE.out.2.2.1).map rrow).append_right l
     refine ((hpm.cons _).cons _).trans ?_
     exact (List.perm_middle (l₁:=[Cells b (cur.setIfInBounds (o+1) (.slice a1 j c1)) 186,Row 76 2 (.slice a1 j c1) j (cat rcells (outr E r))]))
    have h4:Own w0 (wr.setCell ⟨b,o+1,none⟩ (.slice a1 j c1)) (RTab b o cur m (outr L r)::rrow d::l):=by
     refine RTab.shut (v:=.slice a1 j c1) (E:=outr E r) (by rw [map_outr _ _ _ (by rw [HE.out.2.1];omega),HE.out.1]) HCU.out ?_
     rw [hlo]
     refine h3.perm ?_
     refine ((List.Perm.swap _ _ _).trans ((List.Perm.swap _ _ _).cons _)).trans ?_
     exact ((List.perm_middle.symm).cons _).cons _
    have hde:=HE.out.2.2.2.2
    subst hde
    exact h4.two
   have HDE:Hid (d.e=e):=HE.out.2.2.2.2
   have hdl:d.2.1.length=e.2.length:=by rw [← HDE.out];rfl
   rw [hdl] at p2
   clear hO
   go_wp2
   go_ret2
   exact ⟨_,_,rfl,HFIN.out⟩
end
section
variable (w0 w:World) (l:List Thing) (b:Nat) (σ:Sto) (K:Nat)
theorem rputS (h:Own w0 w (RSto b σ K::l)) (id:Nat) (hid:id < 4294967296) (ao:Option Addr) (len cap:Nat) (C:List Cp) (hCl:C.length=len) (hCs:∀ w',Own w0 w' l→Cs w' ao C) (hCk:∀ q∈C,q.k < 256) (hlen:len≤1000000) (h0:lst (-1) C=0) (hT:TOk (msk C) (σ.T (msk C))) (hn:plc (σ.T (msk C)) id=none) (hK:K < 1000000) :
  Calls Tryz.prog 172 #[.pointer (some ⟨b,0,none⟩),.int .u32 (id:Int),.slice ao len cap] w fun e w'=>e=.returned (.tuple #[])∧Own w0 w' (RSto b (σ.put id C) (K+1)::l):=by
 have h6:=msk64 C
 have H:Hid (Own w0 w.drew (RSto b σ K::l)):=h.drew
 have HMK:Hid (Calls Tryz.prog 218 #[.slice ao len cap] w.drew fun e w''=>e=.returned (.int .u8 ((msk C:Nat):Int))∧Fr Nobody w.drew w''):=rmask_any w.drew ao len cap C hCl (hCs _ h.drew.tail) hCk hlen
 have HAD:Hid (∀ w',Own w0 w' (RSto b σ K::l)→Calls Tryz.prog 217 #[.pointer (some ⟨b,1+msk C*2,none⟩),.int .u32 (id:Int),.slice ao len cap] w' fun e w''=>e=.returned (.int .i64 0)∧Own w0 w'' (RSto b (σ.put id C) (K+1)::l)):=by
  intro w' h'
  obtain ⟨x,hx,h'⟩:=RSto.opn h'
  have h2:=RSX.out h' h6
  rw [hx.E _ h6] at h2
  have ht:tadd (msk C) (σ.T (msk C)) id C=(0,σ.T (msk C)++[(id,C)]):=by unfold tadd;rw [if_neg (by simp [h0]),if_neg (by simp),if_neg (by rw [hn];simp)]
  refine (rtaddC w0 w' _ b _ _ _ _ h2 hT id hid ao len cap C hCl (fun w'' h''=>hCs _ h''.tail.tail) hCk hlen (by have:=hx.len _ h6;omega)).mono ?_
  rintro e w'' ⟨rfl,h3⟩
  rw [ht] at h3 ⊢
  obtain ⟨v',E',hE,h4⟩:=RSX.into h6 h3
  refine ⟨rfl,RSto.mk (σ:=σ.put id C) ((hx.mono (Nat.le_succ K)).upd h6 hE ?_) h4⟩
  have:=hx.len _ h6
  simp;omega
 clear h hCs hCk h0 hT hn
 generalize msk C=m at *
 go_enter Tryz.func172,Tryz.ntmps172
 go_wp2_with fail
 have hm64:(m:Int) < 64:=by omega
 go_region_with (first
  | (go_at_call 218
     refine HMK.out.mono ?_
     rintro e w3 ⟨rfl,hf3⟩
     have H3:Hid (Own w0 w3 (RSto b σ K::l)):=H.out.quiet hf3
     clear hf3)
  | (go_at_call 217
     refine (HAD.out _ H3.out).mono ?_
     rintro e w4 ⟨rfl,hO4⟩
     have H4:Hid (Own w0 w4 _):=hO4
     clear hO4))
 all_goals
  go_wp2
  go_end0
  exact ⟨rfl,H4.out⟩
theorem rspawnC (h:Own w0 w (RSto b σ K::l)) (hσ:σ.Ok)
  (ao:Option Addr) (len cap:Nat) (C:List Cp) (hCl:C.length=len) (hCs:∀ w',Own w0 w' l→Cs w' ao C) (hCk:∀ q∈C,q.k < 256) (hlen:len≤1000000) (hK:K < 1000000) :
  Calls Tryz.prog 115 #[.pointer (some ⟨b,0,none⟩),.slice ao len cap] w fun e w'=>e=.returned (.tuple #[.int .u32 ((σ.spawn C).1:Int),.int .i64 (σ.spawn C).2.1])∧Own w0 w' (RSto b (σ.spawn C).2.2 (K+1)::l):=by
 have H:Hid (Own w0 w (RSto b σ K::l)):=h
 have HLS:Hid (Calls _ _ _ _ _):=rlist_any w ao len cap C hCl (hCs _ h.tail) hCk hlen
 by_cases h0:lst (-1) C=0
 ·rw [h0] at HLS
  have HTK:Hid (∀ w',Own w0 w' (RSto b σ K::l)→∃ bs,w'.cell? ⟨b,0,none⟩=some (.pointer (some ⟨bs,0,none⟩))∧Calls Tryz.prog 171 #[.pointer (some ⟨bs,0,none⟩)] w' fun e w''=>e=.returned (.tuple #[.int .u32 (σ.S.take.1:Int),.int .i64 σ.S.take.2.1])∧Own w0 w'' (RSto b { σ with S:=σ.S.take.2.2 } K::l)):=by
   intro w' h'
   obtain ⟨x,hx,h'⟩:=RSto.opn h'
   refine ⟨x.bs,RSX.ids w0 w' l b σ x h',(rtake_ok w0 w' _ x.bs σ.S x.f x.ck (RSX.iff.1 h').two hσ.s hx.st (by have:=hx.ck;omega)).mono ?_⟩
   rintro e w'' ⟨rfl,f',hf',h2⟩
   refine ⟨rfl,RSto.mk (σ:={ σ with S:=σ.S.take.2.2 }) (x:={ x with f:=f' }) ⟨hf',hx.ck,hx.E,hx.len⟩ (RSX.iff.2 h2.two)⟩
  by_cases h1:σ.S.take.2.1=0
  ·have HV:Hid (σ.spawn C=(σ.S.take.1,0,Sto.put { σ with S:=σ.S.take.2.2 } σ.S.take.1 C)):=by show _=_;unfold Sto.spawn;rw [if_neg (by simp [h0]),if_neg (by simp [h1])]
   have hL:=hσ.take h1
   have hli:=St.live_lt hL.s hL.li
   have HPU:Hid (∀ w',Own w0 w' (RSto b { σ with S:=σ.S.take.2.2 } K::l)→Calls Tryz.prog 172 #[.pointer (some ⟨b,0,none⟩),.int .u32 (σ.S.take.1:Int),.slice ao len cap] w' fun e w''=>e=.returned (.tuple #[])∧Own w0 w'' (RSto b (Sto.put { σ with S:=σ.S.take.2.2 } σ.S.take.1 C) (K+1)::l)):=by
    intro w' h'
    exact rputS w0 w' l b _ K h' σ.S.take.1 hli.1 ao len cap C hCl hCs hCk hlen h0 (hL.t _ (msk64 C)) (hL.none (msk64 C)) hK
   rw [h1] at HTK
   clear h hCs hσ h0 h1 hL hli
   go_enter Tryz.func115,Tryz.ntmps115
   go_wp2_with fail
   refine HLS.out.mono ?_
   rintro e w1 ⟨rfl,hf⟩
   obtain ⟨bs,q0,htk⟩:=HTK.out _ (H.out.quiet hf)
   have HTK1:Hid (Calls _ _ _ _ _):=htk
   clear htk hf HTK H HLS
   go_wp2_with fail
   refine HTK1.out.mono ?_
   rintro e w2 ⟨rfl,hO⟩
   have H2:Hid (Own w0 w2 _):=hO
   clear hO HTK1
   go_wp2_with fail
   refine (HPU.out _ H2.out).mono ?_
   rintro e w3 ⟨rfl,hO⟩
   have H3:Hid (Own w0 w3 _):=hO
   clear hO
   go_wp2
   go_ret2
   rw [HV.out]
   exact ⟨rfl,H3.out⟩
  ·have HV:Hid (σ.spawn C=(0,σ.S.take.2.1,σ)):=by show _=_;unfold Sto.spawn;rw [if_neg (by simp [h0]),if_pos (by simp [h1])]
   have HS:Hid (σ.S.take.2.2=σ.S∧σ.S.take.1=0):=by
    show _∧_
    unfold St.take at h1 ⊢
    split at h1
    ·exact absurd rfl h1
    ·split at h1
     ·exact absurd rfl h1
     ·rename_i c;simp [c]
   rw [HS.out.2] at HTK
   clear h hCs hσ h0
   generalize σ.S.take.2.1=r at *
   have h1':(r == (0:Int))=false:=by simpa using h1
   go_enter Tryz.func115,Tryz.ntmps115
   go_wp2_with fail
   refine HLS.out.mono ?_
   rintro e w1 ⟨rfl,hf⟩
   obtain ⟨bs,q0,htk⟩:=HTK.out _ (H.out.quiet hf)
   have HTK1:Hid (Calls _ _ _ _ _):=htk
   clear htk hf HTK H HLS
   go_wp2_with fail
   refine HTK1.out.mono ?_
   rintro e w2 ⟨rfl,hO⟩
   have H2:Hid (Own w0 w2 _):=hO
   clear hO HTK1
   go_wp2
   go_ret2
   rw [HV.out]
   have h3:=H2.out
   rw [HS.out.1] at h3
   exact ⟨rfl,h3.rstoK (Nat.le_succ K)⟩
 ·have HV:Hid (σ.spawn C=(0,(lst (-1) C:Int),σ)):=by show _=_;unfold Sto.spawn;rw [if_pos h0]
  generalize lst (-1) C=r at *
  have h1':((r:Int) != 0)=true:=by simpa using h0
  clear h hCs hσ h0
  go_enter Tryz.func115,Tryz.ntmps115
  go_wp2_with fail
  refine HLS.out.mono ?_
  rintro e w1 ⟨rfl,hf⟩
  have H1:Hid (Own w0 w1 _):=H.out.quiet hf
  clear hf H HLS
  go_wp2
  go_ret2
  rw [HV.out]
  exact ⟨rfl,H1.out.rstoK (Nat.le_succ K)⟩
theorem RXok.row {σ:Sto} {x:RX} {K:Nat} (hx:RXok σ x K) (hσ:σ.Ok) {id:Nat} (hl:σ.S.isLive id=true):∃ r d,plc (σ.T (σ.hom id)) id=some r∧(x.E (σ.hom id))[r]? = some d∧d.1=id∧(σ.T (σ.hom id))[r]? = some (id,d.2.1):=by
 obtain ⟨h6,hn,r,e,hr,he,hi⟩:=hσ.home hl
 have:((x.E (σ.hom id)).map REnt.e)[r]? = some e:=by rw [hx.E _ h6];exact he
 rw [List.getElem?_map] at this
 cases hd:(x.E (σ.hom id))[r]? with
 | none=>rw [hd] at this;simp at this
 | some d =>
  rw [hd] at this
  have hde:d.e=e:=Option.some.inj this
  subst hde
  have h1:d.1=id:=hi
  refine ⟨r,d,hr,hd,h1,?_⟩
  rw [he,← h1];rfl
theorem rdrop (h:Own w0 w (RSto b σ K::l)) (hσ:σ.Ok) (hK:K≤1000000) (id:Nat) (hl:σ.S.isLive id=true) (r:Nat) (C:List Cp) (hr:plc (σ.T (σ.hom id)) id=some r) (he:(σ.T (σ.hom id))[r]? = some (id,C)) :
  Calls Tryz.prog 169 #[.pointer (some ⟨b,1+σ.hom id*2,none⟩),.int .u32 (id:Int)] w fun out w'=>∃ ao cap,out=.returned (.tuple #[.slice ao C.length cap,.int .i64 0])∧Own w0 w' (RSto b (σ.out (σ.hom id) r) K::l):=by
 obtain ⟨h6,_⟩:=hσ.home hl
 obtain ⟨x,hx,h'⟩:=RSto.opn h
 have h2:=RSX.out h' h6
 rw [hx.E _ h6] at h2
 refine (rtremC w0 w _ b _ _ _ _ h2 (hσ.t _ h6) (by have:=hx.len _ h6;omega) id r (id,C) hr he).mono ?_
 rintro out w' ⟨ao,cap,rfl,h3⟩
 obtain ⟨v',E',hE,h4⟩:=RSX.into h6 h3.tail
 refine ⟨ao,cap,rfl,RSto.mk (σ:=σ.out (σ.hom id) r) (hx.upd h6 hE ?_) h4⟩
 have h5:=hx.len _ h6
 have h7:=(List.getElem?_eq_some_iff.1 he).1
 rw [length_outr _ _ h7];omega
theorem rdespawnC (h:Own w0 w (RSto b σ K::l)) (hσ:σ.Ok) (id:Nat) (hid:id < 4294967296) (hK:K < 1000000) :
  Calls Tryz.prog 114 #[.pointer (some ⟨b,0,none⟩),.int .u32 (id:Int)] w fun e w'=>e=.returned (.int .i64 (σ.despawn id).1)∧Own w0 w' (RSto b (σ.despawn id).2 (K+1)::l):=by
 cases hl:σ.S.isLive id with
 | false =>
  have HV:Hid (σ.despawn id=(7,σ)):=by show _=_;unfold Sto.despawn;rw [hl];rfl
  obtain ⟨x,hx,h'⟩:=RSto.opn h
  have HE:Hid (Calls _ _ _ _ _):=rentNo w0 w l b σ x K h' hx hσ (by omega) id hl
  have HX:Hid (RXok σ x K):=hx
  clear h h' hσ hx hl
  go_enter Tryz.func114,Tryz.ntmps114
  go_wp2_with fail
  refine HE.out.mono ?_
  rintro e w1 ⟨rfl,hO⟩
  have H1:Hid (Own w0 w1 _):=hO
  clear hO HE
  go_wp2
  go_ret
  rw [HV.out]
  exact ⟨rfl,(RSto.mk HX.out (H1.out.alloc _)).rstoK (Nat.le_succ K)⟩
 | true =>
  obtain ⟨x,hx,h'⟩:=RSto.opn h
  obtain ⟨r,d,hr,hd,hdi,he⟩:=hx.row hσ hl
  have HV:Hid (σ.despawn id=(0,{ σ.out (σ.hom id) r with S:=σ.S.less id })):=by show _=_;unfold Sto.despawn;rw [hl,hr];rfl
  have HE:Hid (Calls _ _ _ _ _):=rent w0 w l b σ x K h' hx hσ (by omega) id hl r hr d hd
  obtain ⟨hw,h6⟩:=whr_live hσ hl
  have HFD:Hid (∀ w' l',Own w0 w' (RSX b σ.S x::l')→Calls Tryz.prog 163 #[.pointer (some ⟨b,0,none⟩),.int .u32 (id:Int)] w' fun e w''=>e=.returned (.pointer (some ⟨b,1+σ.hom id*2,none⟩))∧Fr Nobody w' w''):=by
   intro w' l' h''
   have:=rfind w0 w' l' b σ x K h'' hx hσ.t (by omega) id _ hw
   rw [if_pos h6] at this
   exact this
  have HDR:Hid (∀ w',Own w0 w' (RSX b σ.S x::l)→Calls Tryz.prog 169 #[.pointer (some ⟨b,1+σ.hom id*2,none⟩),.int .u32 (id:Int)] w' fun out w''=>∃ ao cap,out=.returned (.tuple #[.slice ao d.2.1.length cap,.int .i64 0])∧Own w0 w'' (RSto b (σ.out (σ.hom id) r) K::l)):=fun w' h''=>rdrop w0 w' l b σ K (RSto.mk hx h'') hσ (by omega) id hl r _ hr he
  have HFR:Hid (∀ w',Own w0 w' (RSto b (σ.out (σ.hom id) r) K::l)→∃ bs,w'.cell? ⟨b,0,none⟩=some (.pointer (some ⟨bs,0,none⟩))∧Calls Tryz.prog 170 #[.pointer (some ⟨bs,0,none⟩),.int .u32 (id:Int)] w' fun e w''=>e=.returned (.int .i64 0)∧Own w0 w'' (RSto b { σ.out (σ.hom id) r with S:=σ.S.less id } (K+1)::l)):=by
   intro w' h''
   obtain ⟨y,hy,h''⟩:=RSto.opn h''
   have hfr:σ.S.free id=(0,σ.S.less id):=(St.free_live hσ.s hl).1
   refine ⟨y.bs,RSX.ids w0 w' l b _ y h'',(rfree_ok w0 w' _ y.bs σ.S y.f y.ck id (RSX.iff.1 h'').two hσ.s hy.st hid (by have:=hy.ck;omega)).mono ?_⟩
   rintro e w'' ⟨rfl,f',ck',hck',hst,h2⟩
   rw [hfr] at hst h2 ⊢
   refine ⟨rfl,RSto.mk (σ:={ σ.out (σ.hom id) r with S:=σ.S.less id }) (x:={ y with f:=f',ck:=ck' }) ⟨hst,by have:=hy.ck;simp only;omega,hy.E,fun m hm=>by have:=hy.len m hm;exact Nat.le_succ_of_le this⟩ (RSX.iff.2 h2.two)⟩
  clear h h' hσ hx hl hr hd he hw h6
  generalize σ.hom id=m at *
  obtain ⟨d1,d2,d3,d4⟩:=d
  simp only at HE HDR hdi
  subst hdi
  generalize d2.length=dl at *
  go_enter Tryz.func114,Tryz.ntmps114
  go_wp2_with fail
  refine HE.out.mono ?_
  rintro e w1 ⟨rfl,hO⟩
  have H1:Hid (Own w0 (w1.alloc (.cells #[.int .u32 (d1:Int),.slice d3 dl d4] 76)) _):=hO.alloc _
  clear hO HE
  go_wp2_with fail
  refine (HFD.out _ _ H1.out).mono ?_
  rintro e w2 ⟨rfl,hf⟩
  have H2:Hid (Own w0 w2 _):=H1.out.quiet hf
  clear hf H1 HFD
  go_wp2_with fail
  refine (HDR.out _ H2.out).mono ?_
  rintro e w3 ⟨ao,cap,rfl,hO⟩
  obtain ⟨bs,q0,hfr⟩:=HFR.out _ hO
  have HFR1:Hid (Calls _ _ _ _ _):=hfr
  clear hfr hO HDR H2 HFR
  go_wp2_with fail
  refine HFR1.out.mono ?_
  rintro e w4 ⟨rfl,hO⟩
  have H4:Hid (Own w0 w4 _):=hO
  clear hO
  go_wp2
  go_ret
  rw [HV.out]
  exact ⟨rfl,H4.out⟩
end
end Go.Proofs.YtogmdoiecpihdaaGreatDoor
