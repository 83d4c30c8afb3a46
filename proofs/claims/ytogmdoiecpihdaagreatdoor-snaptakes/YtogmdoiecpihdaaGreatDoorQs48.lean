/- Entities as they are told; IDs that rise; entities taken out of a world. -/
import Derived.Test.YtogmdoiecpihdaaGreatDoorQs47
import Derived.Test.YtogmdoiecpihdaaGreatDoorQs30
import Derived.Laws.Rows
import Derived.Test.YtogmdoiecpihdaaGreatDoorQs35
import Derived.Test.YtogmdoiecpihdaaGreatDoorQs26
namespace Go.Proofs.YtogmdoiecpihdaaGreatDoor
open Go.RowKit
set_option linter.unusedVariables false
set_option maxHeartbeats 16000000
set_option maxRecDepth 100000
theorem toldE_any (w0 w:World) (ht:Tab w0) (l:List Thing) (h:Own w0 w l) (id:Nat) (ao:Option Addr) (len cap:Nat) (C:List Cp) (hCl:C.length=len) (hCs:∀ w',Own w0 w' l→Cs w' ao C) (hCk:∀ q∈C,q.k < 256) (hlen:len≤1000000) :
  Calls Tryz.prog 70 #[.agg #[.int .u32 (id:Int),.slice ao len cap]] w fun e w'=>∃ ao' cap',e=.returned (.agg #[.int .u32 (id:Int),.slice ao' (toldL C).length cap'])∧Own w0 w' (Row 46 4 (.slice ao' (toldL C).length cap') (toldL C).length (ccat (toldL C))::l):=by
 have hB:=(h.allocC #[.int .u32 (id:Int),.slice ao len cap] 76).allocC #[.int .u32 0,.slice none 0 0] 76
 have e1:(w.alloc (.cells #[.int .u32 (id:Int),.slice ao len cap] 76)).heap.size=w.heap.size+1:=by simp
 rw [e1] at hB
 have HTL:Hid (Calls _ _ _ _ _):=told_l w0 _ ht _ hB.drew ao len cap C hCl (fun w' hw=>hCs w' hw.tail.tail) hCk hlen
 have HB:Hid (Own w0 _ _):=hB
 generalize hn:(toldL C).length=n at *
 have HN:Hid ((toldL C).length=n):=hn
 clear h hCl hCs hCk hB e1 hn ht
 go_enter Tryz.func70,Tryz.ntmps70
 go_wp2
 generalize hWg:(w.alloc (.cells #[.int .u32 (id:Int),.slice ao len cap] 76)).alloc (.cells #[.int .u32 0,.slice none 0 0] 76)=W1 at *
 clear hWg
 have hne:w.heap.size+1≠w.heap.size:=by omega
 generalize w.heap.size+1=b2 at *
 generalize w.heap.size=b1 at *
 have p0:=HB.out.two.cell 0
 have p1:=HB.out.two.cell 1
 simp at p0 p1
 go_region_held3 (fun w'=>w'.cell? ⟨b1,0,none⟩=some (.int .u32 (id:Int))∧w'.cell? ⟨b1,1,none⟩=some (.slice ao len cap)) (go_keep)
  (first
    | (go_at_call 123;refine HTL.out.mono ?_;rintro e w5 ⟨a5,c5,rfl,h5⟩
       have u0:=h5.three.cell 0
       have u1:=h5.three.cell 1
       have x0:=h5.two.cell 0
       have x1:=h5.two.cell 1
       have y0:=h5.two.froz 0
       have y1:=h5.two.froz 1
       simp at u0 u1 x0 x1)
    | fail)
 have h6:=(h5.two.setC 0 (.int .u32 (id:Int))).setC 1 (.slice a5 n c5)
 simp at h6
 have H6:Hid (Own w0 _ _):=h6
 clear h5 h6 HTL HB u0 u1 x0 x1 y0 y1 p0 p1
 go_wp2
 (try simp only [Exit.inBlock,Exit.then])
 refine bodyPost_ret (results_cell_row rfl _ _ b2 76 #[.int .u32 (id:Int),.slice a5 n c5] _ _ rfl H6.out.obj Tryz.underlying76 rfl (by kernel_rfl)) rfl ?_
 exact ⟨a5,c5,rfl,H6.out.two.in23.two.tail.two.tail⟩
def risB:List Nat→Bool
 | x::y::t=>decide (x < y) && risB (y::t)
 | _=>true
theorem ris_take {L:List Nat} {j x y:Nat} (hx:L[j]? = some x) (hy:L[j+1]? = some y) (h:risB (L.take (j+1))=true):risB (L.take (j+2))=decide (x < y):=by
 induction L generalizing j with
 | nil=>simp at hx
 | cons a t ih =>
  cases j with
  | zero =>
   simp at hx hy
   subst hx
   cases t with
   | nil=>simp at hy
   | cons b s=>simp at hy;subst hy;simp [risB]
  | succ j =>
   cases t with
   | nil=>simp at hy
   | cons b s =>
    simp at hx hy
    have h1:risB ((b::s).take (j+1))=true∧a < b:=by
     cases j with
     | zero=>simp [risB] at h ⊢;exact h
     | succ j=>simp [risB] at h ⊢;exact ⟨h.2,h.1⟩
    have h2:=ih (j:=j) (by simpa using hx) (by simpa using hy) h1.1
    have e:((a::b::s).take (j+1+2))=a::((b::s).take (j+2)):=by simp
    rw [e]
    have e2:(b::s).take (j+2)=b::s.take (j+1):=by simp
    rw [e2] at h2 ⊢
    rw [risB,h2]
    simp [h1.2]
theorem ris_no {L:List Nat} {j:Nat} (h:risB (L.take j)=false):risB L=false:=by
 induction L generalizing j with
 | nil=>simp [risB] at h
 | cons a t ih =>
  cases j with
  | zero=>simp [risB] at h
  | succ j =>
   cases t with
   | nil=>simp [risB] at h
   | cons b s =>
    cases j with
    | zero=>simp [risB] at h
    | succ j =>
     have e:(a::b::s).take (j+1+1)=a::b::s.take j:=by simp
     rw [e,risB] at h
     rw [risB]
     by_cases hab:a < b
     ·simp only [decide_eq_true hab,Bool.true_and] at h ⊢
      exact ih (j:=j+1) (by simpa using h)
     ·simp [hab]
theorem rising_any (w:World) (v:Value) (X:List Nat) (h:Nums .u32 w v X) (hX:X.length≤1000000) :
  Calls Tryz.prog 69 #[v] w fun e w'=>e=.returned (.bool (risB X))∧Fr Nobody w w':=by
 obtain ⟨ao,cap,rfl,h⟩:=h
 obtain ⟨n,hn⟩:∃ n,n=X.length:=⟨_,rfl⟩
 rw [← hn] at hX ⊢
 have HX:Hid (n=X.length∧(X=[]∨∃ g o,ao=some ⟨g,o,none⟩∧∀ (j x:Nat),X[j]? = some x→w.cell? ⟨g,o+j,none⟩=some (.int .u32 (x:Int)))):=⟨hn,h⟩
 have HS:Hid (risB (X.take 1)=true):=by
  show _=_
  cases X with
  | nil=>rfl
  | cons a t=>simp [risB]
 clear hn h
 go_enter Tryz.func69,Tryz.ntmps69
 go_wp2
 go_loopw [3] (fun cc wr=>∃ k:Nat,1≤k∧(k≤n∨k=1)∧cc=.int .i64 k∧Fr Nobody w wr∧risB (X.take k)=true) (fun cc _=>n - (intOf cc).toNat)
 case atStart=>exact ⟨1,Nat.le_refl _,.inr rfl,rfl,Fr.refl _ _,HS.out⟩
 case round =>
  obtain ⟨k,hk1,hk2,rfl,hf,hr⟩:=hrel
  have HF:Hid (Fr Nobody w wr):=hf
  have HR:Hid (risB (X.take k)=true):=hr
  clear hf hr HS
  by_cases hlt:k < n
  ·obtain ⟨i,hi⟩:∃ i,k=i+1:=⟨k - 1,by omega⟩
   subst hi
   obtain ⟨x,hx⟩:∃ x,X[i]? = some x:=⟨_,List.getElem?_eq_getElem (by rw [← HX.out.1];omega)⟩
   obtain ⟨y,hy⟩:∃ y,X[i+1]? = some y:=⟨_,List.getElem?_eq_getElem (by rw [← HX.out.1];omega)⟩
   obtain ⟨g,o,hao,d1,d2⟩:∃ g o,ao=some ⟨g,o,none⟩∧wr.cell? ⟨g,o+i,none⟩=some (.int .u32 (x:Int))∧wr.cell? ⟨g,o+(i+1),none⟩=some (.int .u32 (y:Int)):=by
    rcases HX.out.2 with h0 | ⟨g,o,ha,hc⟩
    ·rw [h0] at hx;simp at hx
    ·have h1:=hc i x hx
     have h2:=hc (i+1) y hy
     exact ⟨g,o,ha,(HF.out.cell (p:=⟨g,o+i,none⟩) (World.block_lt_of_cell? w _ h1) id).trans h1,(HF.out.cell (p:=⟨g,o+(i+1),none⟩) (World.block_lt_of_cell? w _ h2) id).trans h2⟩
   subst hao
   have HRT:Hid (risB (X.take (i+2))=decide (x < y)):=ris_take hx hy HR.out
   have hlt':((i:Int)+1) < (n:Int):=by omega
   have hin:(i:Int) < (n:Int):=by omega
   have hwi:IntKind.i64.wrap (i:Int)=(i:Int):=by rw [IntKind.wrap_i64];omega
   clear hx hy
   by_cases hle:y≤x
   ·have hle':(y:Int)≤(x:Int):=by omega
    have HN:Hid (risB X=false):=ris_no (j:=i+2) (by rw [HRT.out];simp;omega)
    go_wp2
    go_quiet (fail)
    go_wp2
    go_ret
    exact ⟨by rw [HN.out];rfl,HF.out.drewN _⟩
   ·have hle':¬ (y:Int)≤(x:Int):=by omega
    have HN:Hid (risB (X.take (i+1+1))=true):=by show _=_;rw [HRT.out];simp;omega
    go_wp2
    go_quiet (fail)
    go_wp2
    go_roundw
    case rel=>exact ⟨i+1+1,by omega,.inl (by omega),by go_num,HF.out.drewN _,HN.out⟩
    case measure=>simp [intOf];omega
  ·have hlt':¬ (k:Int) < (n:Int):=by omega
   have HN:Hid (risB X=true):=by have:=HR.out;rw [List.take_of_length_le (by rw [← HX.out.1];omega)] at this;exact this
   go_wp2
   go_ret
   exact ⟨by rw [HN.out];rfl,HF.out⟩
theorem wentT (w0 w:World) (l:List Thing) (b K n:Nat) (x:Wd) (hσ:x.σ.Ok) (id:Nat) (hid:id < 4294967296) (hl:x.σ.S.isLive id=true) (hK:K≤1000000) (h:Own w0 w (WdT b x K n::l)) :
  Calls Tryz.prog 63 #[.pointer (some ⟨b,0,none⟩),.int .u32 (id:Int)] w fun e w'=>∃ ao cap,e=.returned (.tuple #[.agg #[.int .u32 (id:Int),.slice ao (x.σ.cps id).length cap],.int .i64 0])∧Own w0 w' (Row 46 4 (.slice ao (x.σ.cps id).length cap) (x.σ.cps id).length (ccat (x.σ.cps id))::WdT b x K n::l):=by
 obtain ⟨bs,bw,mp,pv,h⟩:=h.wdO
 refine (went w0 w _ b bs _ x.σ K h rfl hσ id hid hl hK).mono ?_
 rintro e w' ⟨ao,cap,rfl,h2⟩
 exact ⟨ao,cap,rfl,Own.ex2.2 ⟨(bs,bw,mp,pv),h2⟩⟩
theorem Sto.cps_in {σ:Sto} (hσ:σ.Ok) {id:Nat} (hl:σ.S.isLive id=true):(∀ q∈σ.cps id,q.k < 256)∧(σ.cps id).length≤6:=by
 obtain ⟨r,C,hr,he,hlC,_⟩:=hσ.ent hl
 rw [Sto.cps_of hr he]
 exact ⟨fun q hq=>by have:=chk_k ((lst_ok hlC).2 q hq).2;omega,lst_len6 hlC⟩
theorem Own.k4 {w0 w:World} {A B C D P:Thing} {m:List Thing} (h:Own w0 w (A::B::C::D::P::m)):Own w0 w (P::A::B::C::D::m):=Own.lift (l:=[A,B,C,D]) h
def tks (σ:Sto) (ids:List Nat):List En:=ids.map (fun id=>(id,toldL (σ.cps id)))
theorem tks_take {σ:Sto} {ids:List Nat} {j id:Nat} (h:ids[j]? = some id):tks σ (ids.take (j+1))=tks σ (ids.take j)++[(id,toldL (σ.cps id))]:=by
 unfold tks
 rw [List.take_add_one,h]
 simp
theorem take_fall (w0 w:World) (l:List Thing) (h:Own w0 w l) (pw v:Value) (ids:List Nat) (hN:Nums .u32 w v ids) (hX:ids.length≤1000000) (hr:risB ids=false) :
  Calls Tryz.prog 24 #[pw,v] w fun e w'=>e=.returned (.tuple #[.slice none 0 0,.int .i64 4])∧Own w0 w' l:=by
 have HR:Hid (Calls _ _ _ _ _):=rising_any w v ids hN hX
 rw [hr] at HR
 have H:Hid (Own w0 w l):=h
 clear hr hN h
 go_enter Tryz.func24,Tryz.ntmps24
 go_wp2_with fail
 refine HR.out.mono ?_
 rintro e w1 ⟨rfl,hf⟩
 have H1:Hid (Own w0 w1 l):=H.out.quiet hf
 clear hf HR H
 go_wp2
 go_ret2
 exact ⟨rfl,H1.out⟩
theorem take_live (w0 w:World) (ht:Tab w0) (l:List Thing) (b K n:Nat) (x:Wd) (hσ:x.σ.Ok) (hK:K≤1000000) (ia:Option Addr) (ic:Nat) (ids:List Nat) (hN:∀ w',Own w0 w' l→Nums .u32 w' (.slice ia ids.length ic) ids) (hX:ids.length≤1000000) (hr:risB ids=true) (hl:∀ id∈ids,x.σ.S.isLive id=true∧id < 4294967296) (h:Own w0 w (WdT b x K n::l)) :
  Calls Tryz.prog 24 #[.pointer (some ⟨b,0,none⟩),.slice ia ids.length ic] w fun e w'=>∃ (ao:Option Addr) (cap:Nat),e=.returned (.tuple #[.slice ao ids.length cap,.int .i64 0])∧∃ M:List EnE,M.length=ids.length∧evs M=tks x.σ ids∧Own w0 w' (EntsT ao cap M::WdT b x K n::l):=by
 obtain ⟨i0,hi,hz0,hz1,hz2⟩:=info3w Tryz.infoEnt
 have HR:Hid (Calls _ _ _ _ _):=rising_any w _ ids (hN w h.tail) hX
 rw [hr] at HR
 obtain ⟨m,hm⟩:∃ m,m=ids.length:=⟨_,rfl⟩
 have HM:Hid (m=ids.length):=hm
 have HN:Hid (∀ w',Own w0 w' l→Nums .u32 w' (.slice ia ids.length ic) ids):=hN
 have HL:Hid (∀ id∈ids,x.σ.S.isLive id=true∧id < 4294967296):=hl
 have HT:Hid (Tab w0):=ht
 have HOK:Hid (x.σ.Ok):=hσ
 have H:Hid (Own w0 w _):=h
 rw [← hm] at HR hX ⊢
 clear h hN hl hr ht hσ hm
 go_enter Tryz.func24,Tryz.ntmps24
 go_wp2_with fail
 refine HR.out.mono ?_
 rintro e w1 ⟨rfl,hf⟩
 have H1:Hid (Own w0 w1 (WdT b x K n::l)):=H.out.quiet hf
 clear hf HR H
 go_wp2
 go_loopw [6,16] (fun v6 v16 wr=>∃ (j:Nat) (M:List EnE) (ao:Option Addr) (cap:Nat),j≤m∧v16=.int .i64 (j:Int)∧v6=.slice ao j cap∧M.length=j∧evs M=tks x.σ (ids.take j)∧Own w0 wr (Row 76 2 (.slice ao j cap) j (cat EnE.cs M)::(M.map erow++(WdT b x K n::l)))) (fun _ v16 _=>m - (intOf v16).toNat)
 case atStart=>exact ⟨0,[],none,0,Nat.zero_le _,rfl,rfl,rfl,rfl,H1.out.nilRow _ _⟩
 case round =>
  obtain ⟨j,M,ao,cap,hj,rfl,rfl,hMl,hMv,hO⟩:=hrel
  have HMM:Hid (M.length=j∧evs M=tks x.σ (ids.take j)):=⟨hMl,hMv⟩
  clear H1 hMl hMv
  by_cases hlt:j < m
  ·have hlt':(j:Int) < (m:Int):=by omega
   obtain ⟨id,hid⟩:∃ id,ids[j]? = some id:=⟨_,List.getElem?_eq_getElem (by rw [← HM.out];exact hlt)⟩
   obtain ⟨hlv,h32⟩:=HL.out id (List.mem_of_getElem? hid)
   obtain ⟨g,o,hia,hc0⟩:∃ g o,ia=some ⟨g,o,none⟩∧wr.cell? ⟨g,o+j,none⟩=some (.int .u32 (id:Int)):=by
    obtain ⟨a2,c2,e2,h2⟩:=HN.out wr (hO.tail.dropA).tail
    simp only [Value.slice.injEq] at e2
    rcases h2 with h2 | ⟨g,o,ha,hc⟩
    ·rw [h2] at hid;simp at hid
    ·exact ⟨g,o,by rw [e2.1,ha],hc j id hid⟩
   have h2:=Own.lift (l:=Row 76 2 (.slice ao j cap) j (cat EnE.cs M)::M.map erow) hO
   have HEN:Hid (Calls _ _ _ _ _):=wentT w0 wr _ b K n x HOK.out id h32 hlv hK h2
   have HMV:Hid (∀ a c,evs (M++[EnE.mk id a c (toldL (x.σ.cps id))])=tks x.σ (ids.take (j+1))):=fun a c=>by
    rw [tks_take hid,← HMM.out.2];simp [evs]
   obtain ⟨hck,hcl⟩:=Sto.cps_in HOK.out hlv
   have HCK:Hid (∀ q∈x.σ.cps id,q.k < 256):=hck
   generalize hCe:x.σ.cps id=C at *
   generalize hcl2:C.length=cl at *
   have HCL:Hid (C.length=cl):=hcl2
   have htl:=toldL_le C
   rw [hcl2] at htl
   generalize htl2:(toldL C).length=tl at *
   have HTL:Hid ((toldL C).length=tl):=htl2
   subst hia
   clear hO h2 hlv hid hck hCe hcl2 htl2
   go_wp2_with fail
   refine HEN.out.mono ?_
   rintro e w2 ⟨a2,c2,rfl,h3⟩
   have hB:=h3.allocC #[.int .u32 (id:Int),.slice a2 cl c2] 76
   have HTD:Hid (Calls _ _ _ _ _):=toldE_any w0 _ HT.out _ hB id a2 cl c2 C HCL.out (fun w' hw=>Own.rcs hw.tail HCL.out) HCK.out (by omega)
   simp only [HTL.out] at HTD
   clear h3 hB HEN hc0
   go_wp2_with fail
   refine HTD.out.mono ?_
   rintro e w3 ⟨a3,c3,rfl,h4⟩
   have H4:Hid (Own w0 w3 _):=Own.k4 h4
   clear h4 HTD
   go_wp2_with (at_builtin;refine append1_own rfl _ _ 62 rfl 76 i0 (.agg #[.int .u32 0,.slice none 0 0]) 2 32 Tryz.underlying62 hi hz0 hz1 hz2 rfl (by decide) _ _ _ rfl H4.out _ #[.int .u32 (id:Int),.slice a3 tl c3] (by simp) rfl rfl (by intro u hu;simp at hu;rcases hu with rfl | rfl <;> rfl) (by unfold maxLen;omega) (by omega) ?_)
   intro g6 c6 w6 hO6 hsz6
   have H7:Hid (Own w0 w6 (Row 76 2 (.slice (some ⟨g6,0,none⟩) (j+1) c6) (j+1) (cat EnE.cs (M++[EnE.mk id a3 c3 (toldL C)]))::((M++[EnE.mk id a3 c3 (toldL C)]).map erow++(WdT b x K n::l)))):=by
    have e1:cat EnE.cs (M++[EnE.mk id a3 c3 (toldL C)])=cat EnE.cs M++[.int .u32 (id:Int),.slice a3 tl c3]:=by
     rw [cat_append]
     congr 1
     simp [cat,EnE.cs,HTL.out]
    have e2:(M++[EnE.mk id a3 c3 (toldL C)]).map erow++(WdT b x K n::l)=M.map erow++([Row 46 4 (.slice a3 tl c3) tl (ccat (toldL C)),WdT b x K n]++l):=by
     simp [erow,HTL.out]
    show Own _ _ _
    rw [e1,e2]
    have h8:=hO6.three.tail.three.tail
    exact h8.perm (List.Perm.cons _ (List.perm_append_comm_assoc [Row 46 4 (.slice a3 tl c3) tl (ccat (toldL C)),WdT b x K n] (M.map erow) l))
   clear hO6 hsz6 H4
   go_wp2
   go_roundw
   case rel=>exact ⟨j+1,M++[EnE.mk id a3 c3 (toldL C)],_,_,by omega,by go_num,rfl,by rw [List.length_append,HMM.out.1];rfl,HMV.out a3 c3,H7.out⟩
   case measure=>simp [intOf];omega
  ·have hlt':¬ (j:Int) < (m:Int):=by omega
   have hjm:j=m:=by omega
   subst hjm
   have HF:Hid (evs M=tks x.σ ids):=by
    have:=HMM.out.2
    rw [List.take_of_length_le (by rw [← HM.out];exact Nat.le_refl _)] at this
    exact this
   have HE:Hid (Own w0 wr (EntsT ao cap M::WdT b x K n::l)):=by
    have h1:=hO
    rw [← HMM.out.1] at h1
    exact Own.ents h1
   clear hO
   go_wp2
   go_ret2
   exact ⟨ao,cap,rfl,M,HMM.out.1,HF.out,HE.out⟩
theorem lohi_i32:∀ k,k < 6→∀ j,j < 3→-2147483648≤lo k j∧hi k j≤2147483647:=by decide
theorem rng_i32 {k j:Nat} {F:Nat→Int} (hk:k < 6) (hj:j < 3) (hs:stray k F=false) (ho:outside k F=false):I32 (F j):=by
 unfold stray at hs
 unfold outside at ho
 rw [List.any_eq_false] at hs ho
 by_cases c:cnt k≤j
 ·have:=hs j (List.mem_range.2 hj)
  simp [c] at this
  rw [this]
  exact ⟨by decide,by decide⟩
 ·have h1:=ho j (List.mem_range.2 (by omega))
  obtain ⟨b1,b2⟩:=lohi_i32 k hk j hj
  have h2:¬ (F j < lo k j)∧¬ (hi k j < F j):=by simpa using h1
  unfold I32
  omega
theorem cps_i32 {σ:Sto} (hσ:σ.Ok) {id:Nat} (hid:id∈σ.S.list):∀ q∈σ.cps id,q.k < 256∧I32 q.a∧I32 q.b:=by
 obtain ⟨r,C,hr,he,hC,_⟩:=hσ.ent (St.list_w hσ.s hid).1
 rw [Sto.cps_of hr he]
 intro q hq
 have hk:=((lst_ok hC).2 q hq).2
 have h6:=chk_k hk
 unfold Cp.chk chk at hk
 rw [if_neg (by omega)] at hk
 by_cases hs:stray q.k (f3 q.a q.b q.c)=true
 ·rw [if_pos hs] at hk;cases hk
 ·rw [if_neg hs] at hk
  by_cases ho:outside q.k (f3 q.a q.b q.c)=true
  ·rw [if_pos ho] at hk;cases hk
  ·have hs':stray q.k (f3 q.a q.b q.c)=false:=by simpa using hs
   have ho':outside q.k (f3 q.a q.b q.c)=false:=by simpa using ho
   exact ⟨by omega,rng_i32 (j:=0) h6 (by decide) hs' ho',rng_i32 (j:=1) h6 (by decide) hs' ho'⟩
def sids (σ:Sto) (on:Bool) (rx ry rr:Int) (L:List Nat):List Nat:=L.filter (fun id=>seeB on rx ry rr (σ.cps id))
theorem sids_take {σ:Sto} {on:Bool} {rx ry rr:Int} {L:List Nat} {i id:Nat} (h:L[i]? = some id):sids σ on rx ry rr (L.take (i+1))=sids σ on rx ry rr (L.take i)++(if seeB on rx ry rr (σ.cps id) then [id] else []):=by
 unfold sids
 rw [List.take_add_one,h,List.filter_append]
 congr 1
 simp [List.filter_cons]
theorem tks_app (σ:Sto) (A B:List Nat):tks σ (A++B)=tks σ A++tks σ B:=by simp [tks]
theorem direct_any (w0 w:World) (ht:Tab w0) (l:List Thing) (b K n:Nat) (x:Wd) (hσ:x.σ.Ok) (hK:K≤1000000) (on:Bool) (rx ry rr:Int) (h:Own w0 w (WdT b x K n::l)) :
  Calls Tryz.prog 32 #[.pointer (some ⟨b,0,none⟩),rgv on rx ry rr] w fun e w'=>∃ (ao:Option Addr) (cap:Nat) (M:List EnE),e=.returned (.slice ao M.length cap)∧M.Pairwise (fun a b=>a.id≤b.id)∧(evs M).Perm (tks x.σ (sids x.σ on rx ry rr x.σ.S.list))∧Own w0 w' (EntsT ao cap M::WdT b x K n::l):=by
 obtain ⟨i0,hi,hz0,hz1,hz2⟩:=info3w Tryz.infoEnt
 have HT:Hid (Tab w0):=ht
 have HOK:Hid (x.σ.Ok):=hσ
 obtain ⟨br,hbr⟩:∃ br,w.heap.size=br:=⟨_,rfl⟩
 have hA:=(h.allocC #[.bool on,.int .i64 rx,.int .i64 ry,.int .i64 rr] 71).two
 rw [hbr] at hA
 have HL:Hid (Calls _ _ _ _ _):=wlistT w0 _ _ b K n x hσ hK hA
 unfold rgv
 clear h ht hσ hA
 go_enter Tryz.func32,Tryz.ntmps32
 go_wp2_with fail
 refine HL.out.mono ?_
 rintro e w2 ⟨la,lc,L,rfl,hL,hO⟩
 obtain ⟨hl1,hx1⟩:=ents_ok HOK.out hL
 have HX1:Hid (∀ x∈L,x.id < 4294967296∧x.C.length≤6∧∀ c∈x.C,c.k < 256):=hx1
 have HLL:Hid (L.map (fun x=>(x.id,x.C))=x.σ.S.list.map (fun id=>(id,x.σ.cps id))):=hL
 have H2:Hid (Own w0 w2 (EntsT la lc L::Cells br #[.bool on,.int .i64 rx,.int .i64 ry,.int .i64 rr] 71::WdT b x K n::l)):=hO.in23
 obtain ⟨ln,hln⟩:∃ ln,L.length=ln:=⟨_,rfl⟩
 have HLN:Hid (L.length=ln):=hln
 rw [hln] at hl1 ⊢
 clear hO HL hL hx1 hln
 go_wp2
 refine wp_loop (fun a' wr=>∃ (i j cap:Nat) (ao:Option Addr) (M:List EnE),a'={ tmps:=#[gf a' 0,gf a' 1,gf a' 2,.pointer (some ⟨br,0,none⟩),gf a' 4,.slice ao j cap,gf a' 6,gf a' 7,gf a' 8,.slice la ln lc,.int .i64 (ln:Int),.int .i64 (i:Int),gf a' 12,gf a' 13,gf a' 14,gf a' 15,gf a' 16,gf a' 17,gf a' 18,gf a' 19,gf a' 20,gf a' 21,gf a' 22,gf a' 23,gf a' 24,gf a' 25,gf a' 26],defers:=[] }∧i≤ln∧j≤i∧M.length=j∧evs M=tks x.σ (sids x.σ on rx ry rr (x.σ.S.list.take i))∧Own w0 wr (Row 76 2 (.slice ao j cap) j (cat EnE.cs M)::(M.map erow++(EntsT la lc L::Cells br #[.bool on,.int .i64 rx,.int .i64 ry,.int .i64 rr] 71::WdT b x K n::l)))) (fun a' _=>ln - (intOf (a'.tmps.getD 11 undef)).toNat) ?_ ?_
 ·exact ⟨0,0,0,none,[],rfl,Nat.zero_le _,Nat.le_refl _,rfl,rfl,H2.out.nilRow _ _⟩
 ·intro a' wr hI
  obtain ⟨i,j,cap,ao,M,hact,hi',hji,hMl,hMv,hO⟩:=hI
  obtain ⟨u,hu⟩:∃ u:Nat→Value,∀ k,gf a' k=u k:=⟨_,fun _=>rfl⟩
  simp only [hu] at hact
  clear hu
  subst hact
  have HMM:Hid (M.length=j∧evs M=tks x.σ (sids x.σ on rx ry rr (x.σ.S.list.take i))):=⟨hMl,hMv⟩
  clear H2 hMl hMv
  have hO2:=Own.lift (l:=Row 76 2 (.slice ao j cap) j (cat EnE.cs M)::M.map erow) hO
  by_cases hlt:i < ln
  ·have hlt':(i:Int) < (ln:Int):=by omega
   obtain ⟨y,hy⟩:∃ y,L[i]? = some y:=⟨_,List.getElem?_eq_getElem (by rw [HLN.out];exact hlt)⟩
   obtain ⟨⟨g,hla,c0,c1⟩,hcs⟩:=hO2.entAt hy
   subst hla
   obtain ⟨hy32,hy6,hyk⟩:=HX1.out y (List.mem_of_getElem? hy)
   have hyin:y.id∈x.σ.S.list∧y.C=x.σ.cps y.id∧x.σ.S.list[i]? = some y.id:=by
    have h1:=congrArg (fun q=>q[i]?) HLL.out
    simp only [List.getElem?_map,hy,Option.map_some] at h1
    cases hq:x.σ.S.list[i]? with
    | none=>rw [hq] at h1;simp at h1
    | some id =>
     rw [hq] at h1
     simp only [Option.map_some,Option.some.injEq,Prod.mk.injEq] at h1
     have e:y.id=id:=h1.1
     exact ⟨by rw [e];exact List.mem_of_getElem? hq,by rw [e];exact h1.2,by rw [e]⟩
   obtain ⟨hin,hyC,hlid⟩:=hyin
   have hki:=cps_i32 HOK.out hin
   have hst:=sids_take (σ:=x.σ) (on:=on) (rx:=rx) (ry:=ry) (rr:=rr) hlid
   rw [← hyC] at hki hst
   have hB:=hO.allocC #[.int .u32 (y.id:Int),.slice y.ao y.C.length y.cap] 76
   obtain ⟨be,hbe⟩:∃ be,wr.heap.size=be:=⟨_,rfl⟩
   rw [hbe] at hB
   have hCSW:∀ W,Fr Nobody wr W→Cs W y.ao y.C:=fun W hf=>hcs.quiet hf
   have HCS:Hid (∀ W,Fr Nobody wr W→Cs W y.ao y.C):=hCSW
   have HF1:Hid (Fr Nobody wr (wr.alloc (.cells #[.int .u32 (y.id:Int),.slice y.ao y.C.length y.cap] 76))):=(Fr.refl _ _).alloc _
   have HS:Hid (Calls _ _ _ _ _):=seen_any (wr.alloc (.cells #[.int .u32 (y.id:Int),.slice y.ao y.C.length y.cap] 76)) y.id on rx ry rr y.ao y.C.length y.cap y.C rfl (hCSW _ HF1.out) hki (by omega)
   have HB:Hid (Own w0 _ _):=hB
   have HLC:Hid (∀ W,Own w0 W (Row 76 2 (.slice ao j cap) j (cat EnE.cs M)::(M.map erow++(EntsT (some ⟨g,0,none⟩) lc L::Cells br #[.bool on,.int .i64 rx,.int .i64 ry,.int .i64 rr] 71::WdT b x K n::l)))→Cs W y.ao y.C):=fun W hW=>(Own.lift (l:=Row 76 2 (.slice ao j cap) j (cat EnE.cs M)::M.map erow) hW).entAt hy |>.2
   have HYK:Hid (∀ c∈y.C,c.k < 256):=hyk
   have HST:Hid (sids x.σ on rx ry rr (x.σ.S.list.take (i+1))=sids x.σ on rx ry rr (x.σ.S.list.take i)++(if seeB on rx ry rr y.C then [y.id] else [])):=hst
   have HYC:Hid (y.C=x.σ.cps y.id):=hyC
   have r0:=(HB.out.sel 2 [0] (by decide)).cell 0
   clear hO hO2 hB hcs hy hin hyC hlid hki hst hCSW HCS HF1 r0 hyk
   obtain ⟨xi,xa,xc,C⟩:=y
   simp only at c0 c1 hy32 hy6 HS HB HLC HYK HST HYC
   obtain ⟨cl,hcl⟩:∃ cl,C.length=cl:=⟨_,rfl⟩
   have HCL:Hid (C.length=cl):=hcl
   rw [hcl] at c1 hy6 HS HB
   clear hcl
   have hrg:=Own.lift (l:=Cells be #[.int .u32 (xi:Int),.slice xa cl xc] 76::Row 76 2 (.slice ao j cap) j (cat EnE.cs M)::M.map erow) (Own.lift (l:=Cells be #[.int .u32 (xi:Int),.slice xa cl xc] 76::Row 76 2 (.slice ao j cap) j (cat EnE.cs M)::M.map erow) HB.out).tail
   have g0:=hrg.cell 0
   have g1:=hrg.cell 1
   have g2:=hrg.cell 2
   have g3:=hrg.cell 3
   have r0:=HB.out.cell 0
   have r1:=HB.out.cell 1
   simp at g0 g1 g2 g3 r0 r1
   clear hrg
   unfold rgv at HS
   go_wp2_with fail
   refine HS.out.mono ?_
   rintro e w4 ⟨rfl,hf⟩
   have HB4:Hid (Own w0 w4 _):=HB.out.quiet hf
   clear hf HS HB g0 g1 g2 g3 r0 r1 c0 c1
   cases hv:seeB on rx ry rr C with
   | false =>
    have HS2:Hid (evs M=tks x.σ (sids x.σ on rx ry rr (x.σ.S.list.take (i+1)))):=by
     show _=_
     rw [HST.out,hv,HMM.out.2];simp
    have H5:Hid (Own w0 w4 _):=HB4.out.tail
    clear hv HB4 HST
    go_wp2
    exact ⟨⟨i+1,j,cap,ao,M,rfl,by omega,by omega,HMM.out.1,HS2.out,H5.out⟩,by simp [intOf];omega⟩
   | true =>
    have HS2:Hid (∀ a c,evs (M++[⟨xi,a,c,toldL C⟩])=tks x.σ (sids x.σ on rx ry rr (x.σ.S.list.take (i+1)))):=fun a c=>by
     rw [HST.out,hv,if_pos rfl,tks_app,← HMM.out.2]
     simp [evs,tks,← HYC.out]
    have hB4:=HB4.out
    have r0:=hB4.cell 0
    have r1:=hB4.cell 1
    simp at r0 r1
    have htl:=toldL_le C
    have HTD:Hid (Calls _ _ _ _ _):=toldE_any w0 w4 HT.out _ hB4 xi xa cl xc C HCL.out (fun w' hw=>HLC.out w' hw.tail) HYK.out (by omega)
    rw [HCL.out] at htl
    generalize htl2:(toldL C).length=tl at *
    have HTL:Hid ((toldL C).length=tl):=htl2
    clear hv HB4 HST hB4 htl2
    go_wp2_with fail
    refine HTD.out.mono ?_
    rintro e w5 ⟨a3,c3,rfl,h4⟩
    have H4:Hid (Own w0 w5 (Row 76 2 (.slice ao j cap) j (cat EnE.cs M)::Row 46 4 (.slice a3 tl c3) tl (ccat (toldL C))::(M.map erow++(EntsT (some ⟨g,0,none⟩) lc L::Cells br #[.bool on,.int .i64 rx,.int .i64 ry,.int .i64 rr] 71::WdT b x K n::l)))):=h4.sel 3 [2,0] (by decide)
    clear h4 HTD r0 r1
    go_wp2_with (at_builtin;refine append1_own rfl _ _ 62 rfl 76 i0 (.agg #[.int .u32 0,.slice none 0 0]) 2 32 Tryz.underlying62 hi hz0 hz1 hz2 rfl (by decide) _ _ _ rfl H4.out _ #[.int .u32 (xi:Int),.slice a3 tl c3] (by simp) rfl rfl (by intro u hu;simp at hu;rcases hu with rfl | rfl <;> rfl) (by unfold maxLen;omega) (by omega) ?_)
    intro g6 c6 w6 hO6 hsz6
    have H7:Hid (Own w0 w6 (Row 76 2 (.slice (some ⟨g6,0,none⟩) (j+1) c6) (j+1) (cat EnE.cs (M++[EnE.mk xi a3 c3 (toldL C)]))::((M++[EnE.mk xi a3 c3 (toldL C)]).map erow++(EntsT (some ⟨g,0,none⟩) lc L::Cells br #[.bool on,.int .i64 rx,.int .i64 ry,.int .i64 rr] 71::WdT b x K n::l)))):=by
     have e1:cat EnE.cs (M++[EnE.mk xi a3 c3 (toldL C)])=cat EnE.cs M++[.int .u32 (xi:Int),.slice a3 tl c3]:=by
      rw [cat_append]
      congr 1
      simp [cat,EnE.cs,HTL.out]
     have e2:(M++[EnE.mk xi a3 c3 (toldL C)]).map erow++(EntsT (some ⟨g,0,none⟩) lc L::Cells br #[.bool on,.int .i64 rx,.int .i64 ry,.int .i64 rr] 71::WdT b x K n::l)=M.map erow++(Row 46 4 (.slice a3 tl c3) tl (ccat (toldL C))::(EntsT (some ⟨g,0,none⟩) lc L::Cells br #[.bool on,.int .i64 rx,.int .i64 ry,.int .i64 rr] 71::WdT b x K n::l)):=by
      simp [erow,HTL.out]
     show Own _ _ _
     rw [e1,e2]
     exact hO6.perm (List.Perm.cons _ List.perm_middle.symm)
    clear hO6 hsz6 H4
    go_wp2
    exact ⟨⟨i+1,j+1,c6,some ⟨g6,0,none⟩,M++[EnE.mk xi a3 c3 (toldL C)],rfl,by omega,by omega,by rw [List.length_append,HMM.out.1];rfl,HS2.out a3 c3,H7.out⟩,by simp [intOf];omega⟩
  ·have hlt':¬ (i:Int) < (ln:Int):=by omega
   have hMv:evs M=tks x.σ (sids x.σ on rx ry rr x.σ.S.list):=by
    have h1:=HMM.out.2
    have h2:x.σ.S.list.length≤i:=by
     have:=congrArg List.length HLL.out
     simp only [List.length_map] at this
     have:=HLN.out
     omega
    rw [List.take_of_length_le h2] at h1
    exact h1
   have HMV:Hid (evs M=tks x.σ (sids x.σ on rx ry rr x.σ.S.list)):=hMv
   have hml:=HMM.out.1
   subst hml
   have HSO:Hid (Calls _ _ _ _ _):=sort_dr w0 wr _ ao cap M hO (by omega)
   generalize hjm:M.length=j at *
   have HJM:Hid (M.length=j):=hjm
   clear hO hO2 HMM hMv hjm
   go_wp2_with fail
   refine HSO.out.mono ?_
   rintro e w4 ⟨rfl,M2,hp,hs,hO⟩
   have HF:Hid (Own w0 w4 (EntsT ao cap M2::WdT b x K n::l)):=by
    have hl2:M2.length=j:=by rw [hp.length_eq];exact HJM.out
    have h2:Own w0 w4 (Row 76 2 (.slice ao M2.length cap) M2.length (cat EnE.cs M2)::(M2.map erow++(EntsT la lc L::Cells br #[.bool on,.int .i64 rx,.int .i64 ry,.int .i64 rr] 71::WdT b x K n::l))):=by
     rw [hl2]
     exact hO.perm (List.Perm.cons _ ((hp.symm.map erow).append_right _))
    have h3:Own w0 w4 (EntsT ao cap M2::EntsT la lc L::Cells br #[.bool on,.int .i64 rx,.int .i64 ry,.int .i64 rr] 71::WdT b x K n::l):=Own.ents h2
    exact h3.sel 4 [0,3] (by decide)
   have HP2:Hid (M2.Pairwise (fun a b=>a.id≤b.id)∧(evs M2).Perm (tks x.σ (sids x.σ on rx ry rr x.σ.S.list))∧M2.length=j):=⟨hs,by rw [← HMV.out];exact hp.map _,by rw [hp.length_eq];exact HJM.out⟩
   clear hO hp hs HSO HJM
   go_wp2
   go_ret
   rw [← HP2.out.2.2]
   exact ⟨ao,cap,M2,rfl,HP2.out.1,HP2.out.2.1,HF.out⟩
def spC18:List Cp:=[⟨0,0,0,0⟩,⟨4,0,0,0⟩,⟨5,9,9,0⟩]
def o18:OrdE:=⟨1,0,0,spC18,none,0⟩
def s18:Sto:=(runs stq (Sto.new 5 1,0) [o18]).2.1.sys
theorem k18:o18.ck=0:=by kernel_rfl
theorem l18:s18.S.isLive 1024=true:=by kernel_rfl
theorem t18:tks s18 [1024]=[(1024,[⟨0,0,0,0⟩,⟨4,0,0,0⟩])]:=by kernel_rfl
theorem in18 (a:Option Addr) (c:Nat):OrdE.In ⟨1,0,0,spC18,a,c⟩:=⟨by show (1:Nat) < 256;decide,by show (0:Nat) < 4294967296;decide,by show (0:Nat) < 256;decide,by intro q hq;simp [spC18] at hq;rcases hq with rfl | rfl | rfl <;> decide,by show (3:Nat)≤1000000;decide⟩
theorem step18 (w0 w:World) (l:List Thing) (b:Nat) (ht:Tab w0) (a:Option Addr) (c:Nat) (h:Own w0 w (WdT b ⟨0,Sto.new 5 1,[⟨1,0,0,spC18,a,c⟩],no15,[]⟩ 0 0::l)) :
  Calls Tryz.prog 15 #[.pointer (some ⟨b,0,none⟩)] w fun e w'=>∃ (ra:Option Addr) (rc K' n':Nat) (S:Nat→Nat→Option SgE) (P:List PlE),e=.returned (.tuple #[.slice ra 1 rc,.int .i64 0])∧K'≤10000∧s18.Ok∧Own w0 w' (WdT b ⟨1,s18,[],S,P⟩ K' n'::l):=by
 have hr:runs stq (Sto.new 5 1,0) [⟨1,0,0,spC18,a,c⟩]=runs stq (Sto.new 5 1,0) [o18]:=runs_is _ _ _ rfl
 have hx:∀ P,(Wd.next ⟨0,Sto.new 5 1,[⟨1,0,0,spC18,a,c⟩],no15,[]⟩ 0 P)=⟨1,s18,[],mapOf no15 1 (allS s18),P⟩:=fun P=>by
  unfold Wd.next
  simp only [hr]
  rfl
 refine (wstep w0 w l b 0 0 _ ht (Sto.new_ok 5 1 (by decide) (by decide) (by decide) (by decide)) (by decide) (by decide) (by show (0:Nat) < 4294967295;decide) (by show (1:Nat)≤1000;decide) (fun o ho=>by
  have:o=⟨1,0,0,spC18,a,c⟩:=by simpa using ho
  rw [this];exact in18 a c) h).mono ?_
 rintro e w' ⟨ra,rc,K',n',P,rfl,hK,hn,hok,hP,hO⟩
 rw [hx P] at hok hP hO
 exact ⟨ra,rc,K',n',_,P,rfl,Nat.le_trans hK (by show 0+2*1+2048≤10000;decide),hok,hO.tail⟩
theorem awake18 (w:World) (ht:Tab w):Calls Tryz.prog 22 #[] w fun e w'=>e=.returned (.bool true)∧Fr Nobody w w':=by
 have HT:Hid (Tab w):=ht
 have HN:Hid (Calls _ _ _ _ _):=wnew w w [] 5 1 0 (Own.start w) (by decide) (by decide) (by decide) (by decide)
 clear ht
 go_enter Tryz.func22,Tryz.ntmps22
 go_wp2_with fail
 refine HN.out.mono ?_
 rintro e w1 ⟨b,rfl,h1⟩
 have h2:=h1.litRow #[.int .u8 0,.int .i32 0,.int .i32 0,.int .i32 0,.int .u8 4,.int .i32 0,.int .i32 0,.int .i32 0,.int .u8 5,.int .i32 9,.int .i32 9,.int .i32 0] 46 4 3 (by decide) rfl
 have HP:Hid (Calls _ _ _ _ _):=wpush w _ _ b 0 0 _ HT.out h2.two ⟨1,0,0,spC18,some ⟨w1.heap.size,0,none⟩,3⟩ (in18 _ _) (fun w' hw=>Own.rcs hw rfl)
 have hpc:pcode [] ⟨1,0,0,spC18,some ⟨w1.heap.size,0,none⟩,3⟩=0:=by kernel_rfl
 simp only [hpc] at HP
 have hov:OrdE.ag ⟨1,0,0,spC18,some ⟨w1.heap.size,0,none⟩,3⟩=.agg #[.int .u8 1,.int .u32 0,.int .u8 0,.slice (some ⟨w1.heap.size,0,none⟩) 3 3]:=rfl
 rw [hov] at HP
 clear h1 HN hpc hov h2
 go_wp2_with fail
 refine HP.out.mono ?_
 rintro e w3 ⟨E',rfl,hE,h3⟩
 have hE2:∃ a c,E'=[⟨1,0,0,spC18,a,c⟩]:=by
  unfold PushTo at hE
  rw [if_pos ⟨k18,by decide⟩] at hE
  obtain ⟨a,c,rfl⟩:=hE
  exact ⟨a,c,rfl⟩
 obtain ⟨a,c,rfl⟩:=hE2
 have H3:Hid (Calls _ _ _ _ _):=step18 w w3 _ b HT.out a c h3
 clear h3 hE HP
 go_wp2_with fail
 refine H3.out.mono ?_
 rintro e w4 ⟨ra,rc,K1,n1,S1,P1,rfl,hK1,hok1,h4⟩
 have h5:=h4.litRow #[.int .u32 1024] 38 1 1 (by decide) rfl
 have HTK:Hid (Calls _ _ _ _ _):=take_live w _ HT.out _ b K1 n1 _ hok1 (by omega) (some ⟨w4.heap.size,0,none⟩) 1 [1024] (fun w' hw=>Own.nums hw) (by decide) rfl (fun id hid=>by
  have:id=1024:=by simpa using hid
  rw [this];exact ⟨l18,by decide⟩) h5.two
 clear h4 h5 H3 hok1
 go_wp2_with fail
 refine HTK.out.mono ?_
 rintro e w5 ⟨ma,mc,rfl,M,hMl,hMv,h6⟩
 have hM1:∃ e:EnE,M=[e]∧e.C=[⟨0,0,0,0⟩,⟨4,0,0,0⟩]:=by
  match M,hMl with
  | [e],_ =>
   rw [t18] at hMv
   simp [evs] at hMv
   exact ⟨e,rfl,hMv.2⟩
 obtain ⟨e1,rfl,hec⟩:=hM1
 have h7:=h6.litRow #[.int .u32 1025,.int .u32 1024] 38 1 2 (by decide) rfl
 have HTF:Hid (Calls _ _ _ _ _):=take_fall w _ _ h7 (.pointer (some ⟨b,0,none⟩)) (.slice (some ⟨w5.heap.size,0,none⟩) 2 2) [1025,1024] (Own.nums h7) (by decide) rfl
 clear h6 h7 HTK hMl hMv
 go_wp2_with fail
 refine HTF.out.mono ?_
 rintro e w6 ⟨rfl,h8⟩
 have HF:Hid (Fr Nobody w w6):=h8.fr
 obtain ⟨⟨g,hg,q0,q1⟩,hcs⟩:=h8.two.entAt (j:=0) (x:=e1) rfl
 rw [hec] at hcs q1
 obtain ⟨gc,oc,hgc,hall,hat⟩:=hcs.at 1 ⟨4,0,0,0⟩ rfl
 rw [hgc] at q1
 subst hg
 have k0:=hat.1
 simp at q0 q1 k0
 clear h8 HTF hat hall hcs hgc hec
 go_wp2
 go_ret
 exact ⟨by simp,HF.out⟩
end Go.Proofs.YtogmdoiecpihdaaGreatDoor
