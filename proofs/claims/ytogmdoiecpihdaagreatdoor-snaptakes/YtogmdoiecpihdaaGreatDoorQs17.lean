/- A component more: what becomes of a store. -/
import Derived.Test.YtogmdoiecpihdaaGreatDoorQs16
import Derived.Test.YtogmdoiecpihdaaGreatDoorQs15
import Derived.Laws.ResultCell
import Derived.Test.YtogmdoiecpihdaaGreatDoorQs03
import Derived.Test.YtogmdoiecpihdaaGreatDoorQs06
namespace Go.Proofs.YtogmdoiecpihdaaGreatDoor
open Go.RowKit Go.Maps
set_option linter.unusedVariables false
set_option maxHeartbeats 8000000
set_option maxRecDepth 100000
theorem insw_cons (q:Cp) (t:List Cp) (c:Cp):insw (q::t) c=if q.k < c.k then q::insw t c else c::q::t:=by
 unfold insw
 by_cases h:q.k < c.k <;> simp [h]
theorem insw_mem {C:List Cp} {c x:Cp} (h:x∈insw C c):x∈C∨x=c:=by
 induction C with
 | nil=>simp [insw] at h;exact .inr h
 | cons q t ih =>
  rw [insw_cons] at h
  split at h
  ·rcases List.mem_cons.1 h with rfl | h
   ·exact .inl List.mem_cons_self
   ·rcases ih h with h | h
    ·exact .inl (List.mem_cons_of_mem _ h)
    ·exact .inr h
  ·rcases List.mem_cons.1 h with rfl | h
   ·exact .inr rfl
   ·exact .inl h
theorem insw_sorted {C:List Cp} {c:Cp} (h:C.Pairwise (fun x y=>x.k < y.k)) (hk:hasK C c.k=false):(insw C c).Pairwise (fun x y=>x.k < y.k):=by
 induction C with
 | nil=>simp [insw]
 | cons q t ih =>
  obtain ⟨h1,h2⟩:=List.pairwise_cons.1 h
  have hq:q.k≠c.k:=by
   intro e
   have:hasK (q::t) c.k=true:=(hasK_iff _ _).2 ⟨q,List.mem_cons_self,e⟩
   rw [hk] at this;cases this
  have ht:hasK t c.k=false:=by
   cases hh:hasK t c.k with
   | false=>rfl
   | true =>
    obtain ⟨x,hx,e⟩:=(hasK_iff _ _).1 hh
    have:hasK (q::t) c.k=true:=(hasK_iff _ _).2 ⟨x,List.mem_cons_of_mem _ hx,e⟩
    rw [hk] at this;cases this
  rw [insw_cons]
  split
  ·rename_i hlt
   refine List.pairwise_cons.2 ⟨fun x hx=>?_,ih h2 ht⟩
   rcases insw_mem hx with hx | hx
   ·exact h1 x hx
   ·rw [hx];exact hlt
  ·rename_i hlt
   refine List.pairwise_cons.2 ⟨fun x hx=>?_,h⟩
   rcases List.mem_cons.1 hx with rfl | hx
   ·omega
   ·have:=h1 x hx;omega
theorem insw_ok {C:List Cp} {c:Cp} (h:lst (-1) C=0) (hc:c.chk=0) (hk:hasK C c.k=false):lst (-1) (insw C c)=0:=by
 rw [lst_iff] at h ⊢
 refine ⟨insw_sorted h.1 hk,fun x hx=>?_⟩
 rcases insw_mem hx with hx | hx
 ·exact h.2 x hx
 ·rw [hx];exact hc
theorem insw_len (C:List Cp) (c:Cp):(insw C c).length=C.length+1:=by
 unfold insw
 have:=congrArg List.length (List.takeWhile_append_dropWhile (p:=fun q=>decide (q.k < c.k)) (l:=C))
 rw [List.length_append] at this
 rw [List.length_append,List.length_cons];omega
section
variable (w0 w:World) (l:List Thing) (b bs:Nat) (v:Value) (p:Nat→Option Nat) (σ:Sto) (K:Nat)
theorem homeFor_bad (ht:Tab w0) (h:Own w0 w (StoX b σ K (bs,v,p)::l)) (id:Nat) (c:Cp) (hk:c.k < 256) (hc:c.chk≠0) :
  Calls Tryz.prog 156 #[.pointer (some ⟨b,0,none⟩),.int .u32 (id:Int),c.ag] w fun e w'=>e=.returned (.tuple #[.pointer none,.int .i64 (c.chk:Int)])∧Own w0 w' (StoX b σ K (bs,v,p)::l):=by
 obtain ⟨ck,ca,cb,cc⟩:=c
 have hA:=h.alloc (.cells #[.int .u8 (ck:Int),.int .i32 ca,.int .i32 cb,.int .i32 cc] 46)
 have HC:Hid (Calls _ _ _ _ _):=check3 _ (ht.quiet hA.fr) ck hk ca cb cc
 have HA:Hid (Own w0 _ _):=hA
 have hx:¬ ((Cp.chk ⟨ck,ca,cb,cc⟩:Nat):Int)=0:=by omega
 show Calls _ _ #[_,_,.agg #[.int .u8 (ck:Int),.int .i32 ca,.int .i32 cb,.int .i32 cc]] _ _
 change Hid (Calls _ _ _ _ fun e w'=>e=.returned (.int .i64 ((Cp.chk ⟨ck,ca,cb,cc⟩:Nat):Int))∧_) at HC
 generalize Cp.chk ⟨ck,ca,cb,cc⟩=x at *
 clear h hA hc
 go_enter Tryz.func156,Tryz.ntmps156
 go_wp2_with fail
 refine HC.out.mono ?_
 rintro e w1 ⟨rfl,hf⟩
 go_wp2
 go_ret2
 exact ⟨rfl,HA.out.quiet hf⟩
theorem homeFor_of (ht:Tab w0) (h:Own w0 w (StoX b σ K (bs,v,p)::l)) (id:Nat) (c:Cp) (hk:c.k < 256) (hc:c.chk=0) (hp:Option Addr) (er:Int)
  (HH:∀ w',Own w0 w' (StoX b σ K (bs,v,p)::l)→Calls Tryz.prog 152 #[.pointer (some ⟨b,0,none⟩),.int .u32 (id:Int)] w' fun e w''=>e=.returned (.tuple #[.pointer hp,.int .i64 er])∧Own w0 w'' (StoX b σ K (bs,v,p)::l)) :
  Calls Tryz.prog 156 #[.pointer (some ⟨b,0,none⟩),.int .u32 (id:Int),c.ag] w fun e w'=>e=.returned (.tuple #[.pointer hp,.int .i64 er])∧Own w0 w' (StoX b σ K (bs,v,p)::l):=by
 obtain ⟨ck,ca,cb,cc⟩:=c
 have hA:=h.alloc (.cells #[.int .u8 (ck:Int),.int .i32 ca,.int .i32 cb,.int .i32 cc] 46)
 have HC:Hid (Calls _ _ _ _ _):=check3 _ (ht.quiet hA.fr) ck hk ca cb cc
 have HA:Hid (Own w0 _ _):=hA
 have HHH:Hid _:=HH
 show Calls _ _ #[_,_,.agg #[.int .u8 (ck:Int),.int .i32 ca,.int .i32 cb,.int .i32 cc]] _ _
 change Hid (Calls _ _ _ _ fun e w'=>e=.returned (.int .i64 ((Cp.chk ⟨ck,ca,cb,cc⟩:Nat):Int))∧_) at HC
 rw [hc] at HC
 clear h hA hc HH
 go_enter Tryz.func156,Tryz.ntmps156
 go_wp2_with fail
 refine HC.out.mono ?_
 rintro e w1 ⟨rfl,hf⟩
 have H1:Hid (Own w0 w1 _):=HA.out.quiet hf
 clear hf
 go_wp2_with fail
 refine (HHH.out _ H1.out).mono ?_
 rintro e w2 ⟨rfl,hO⟩
 have H2:Hid (Own w0 w2 _):=hO
 clear hO
 go_wp2
 go_ret2
 exact ⟨rfl,H2.out⟩
end
def Sto.cps (σ:Sto) (id:Nat):List Cp:=(((plc (σ.T (σ.hom id)) id).bind fun r=>(σ.T (σ.hom id))[r]?).map (·.2)).getD []
theorem Sto.cps_of {σ:Sto} {id r:Nat} {C:List Cp} (hr:plc (σ.T (σ.hom id)) id=some r) (he:(σ.T (σ.hom id))[r]? = some (id,C)):σ.cps id=C:=by
 unfold Sto.cps;rw [hr];simp [he]
def Sto.turn (σ:Sto) (id:Nat) (C:List Cp):Sto:=(σ.out (σ.hom id) ((plc (σ.T (σ.hom id)) id).getD 0)).put id C
def Sto.add (σ:Sto) (id:Nat) (c:Cp):Int × Sto :=
 if c.chk≠0 then ((c.chk:Int),σ) else if σ.S.isLive id=false then (7,σ) else if hasK (σ.cps id) c.k then (9,σ) else (0,σ.turn id (insw (σ.cps id) c))
theorem Sto.Ok.ent {σ:Sto} (h:σ.Ok) {id:Nat} (hl:σ.S.isLive id=true):∃ r C,plc (σ.T (σ.hom id)) id=some r∧(σ.T (σ.hom id))[r]? = some (id,C)∧lst (-1) C=0∧msk C=σ.hom id∧σ.hom id < 64:=by
 obtain ⟨h6,_,r,e,hr,he,hx⟩:=h.home hl
 obtain ⟨e1,e2⟩:=e
 simp only at hx
 subst hx
 obtain ⟨a,b⟩:=(h.t _ h6).ok _ (List.mem_of_getElem? he)
 exact ⟨r,e2,hr,he,a,b,h6⟩
theorem Sto.turn_ok {σ:Sto} (h:σ.Ok) {id:Nat} (hl:σ.S.isLive id=true) {C:List Cp} (hC:lst (-1) C=0):(σ.turn id C).Ok:=by
 obtain ⟨r,_,hr,_⟩:=h.ent hl
 unfold Sto.turn
 rw [hr]
 exact (h.out hl hr).put hC
end Go.Proofs.YtogmdoiecpihdaaGreatDoor
namespace Go.Proofs.YtogmdoiecpihdaaGreatDoor
open Go.RowKit
set_option linter.unusedVariables false
set_option maxHeartbeats 8000000
set_option maxRecDepth 100000
theorem pick_memW (l:List Nat) (m:List Bool) (y:Nat) (h:y∈pick l m):∃ i:Nat,l[i]? = some y∧m[i]? = some true:=by
 induction l generalizing m with
 | nil=>cases m <;> simp [pick] at h
 | cons x l ih=>cases m with
  | nil=>simp [pick] at h
  | cons u m =>
   cases u
   ·obtain ⟨i,a,b⟩:=ih m (by simpa [pick] using h)
    exact ⟨i+1,by simpa using a,by simpa using b⟩
   ·rw [pick,if_pos rfl] at h
    rcases List.mem_cons.1 h with rfl | h
    ·exact ⟨0,rfl,rfl⟩
    ·obtain ⟨i,a,b⟩:=ih m h
     exact ⟨i+1,by simpa using a,by simpa using b⟩
theorem St.list_w {S:St} (hS:S.Ok) {y:Nat} (h:y∈S.list):S.isLive y=true∧y < 4294967296:=by
 obtain ⟨i,a,b⟩:=pick_memW _ _ _ h
 have:=hS.id i y a
 rw [St.isLive_iff hS,this.1]
 exact ⟨⟨b,a⟩,this.2.2⟩
theorem wstored (w0 w:World) (l:List Thing) (b bs:Nat) (wc:Array Value) (h:Own w0 w (Cells b wc 102::l)) (hwc:wc[1]? = some (.pointer (some ⟨bs,0,none⟩))) :
  Calls Tryz.prog 66 #[.pointer (some ⟨b,0,none⟩)] w fun e w'=>e=.returned (.pointer (some ⟨bs,0,none⟩))∧w'=w:=by
 have q1:=h.cell 1
 rw [hwc] at q1
 clear h hwc
 go_enter Tryz.func66,Tryz.ntmps66
 go_wp2
 go_ret
 exact ⟨rfl,rfl⟩
theorem went (w0 w:World) (l:List Thing) (b bs:Nat) (wc:Array Value) (σ:Sto) (K:Nat) (h:Own w0 w (Store bs σ K::Cells b wc 102::l)) (hwc:wc[1]? = some (.pointer (some ⟨bs,0,none⟩))) (hσ:σ.Ok) (id:Nat) (hid:id < 4294967296) (hl:σ.S.isLive id=true) (hK:K≤1000000) :
  Calls Tryz.prog 63 #[.pointer (some ⟨b,0,none⟩),.int .u32 (id:Int)] w fun e w'=>∃ ao cap,e=.returned (.tuple #[.agg #[.int .u32 (id:Int),.slice ao (σ.cps id).length cap],.int .i64 0])∧Own w0 w' (Row 46 4 (.slice ao (σ.cps id).length cap) (σ.cps id).length (ccat (σ.cps id))::Store bs σ K::Cells b wc 102::l):=by
 obtain ⟨r,C,hr,he,_⟩:=hσ.ent hl
 rw [Sto.cps_of hr he]
 have hA:=h.allocC #[.int .u32 0,.slice none 0 0] 76
 have HS:Hid (Calls _ _ _ _ _):=wstored w0 _ _ b bs wc hA.three hwc
 have HE:Hid (Calls _ _ _ _ _):=sent w0 _ _ bs σ K hA.two hσ id hid hl r C he hK
 clear h hwc hσ hl he hr hid hK
 generalize hcl:C.length=cl at *
 clear hA hcl
 go_enter Tryz.func63,Tryz.ntmps63
 go_wp2_with fail
 refine HS.out.mono ?_
 rintro e w1 ⟨rfl,rfl⟩
 go_wp2_with fail
 refine HE.out.mono ?_
 rintro e w2 ⟨ao,cap,rfl,hO⟩
 have hB:=hO.three
 generalize w.heap.size=B at *
 have z0:=hB.cell 0
 have z1:=hB.cell 1
 simp at z0 z1
 have y0:=hB.froz 0
 have y1:=hB.froz 1
 have HF:Hid (Own w0 _ _):=(hB.setC 0 (.int .u32 (id:Int))).setC 1 (.slice ao cl cap)
 clear hO hB HS HE
 go_wp2
 (try simp only [Exit.inBlock,Exit.then])
 refine bodyPost_ret (v:=.tuple #[.agg #[.int .u32 (id:Int),.slice ao cl cap],.int .i64 0]) ?_ rfl ⟨ao,cap,rfl,?_⟩
 ·rw [results_cell_tmp rfl]
  have r0:=HF.out.cell 0
  have r1:=HF.out.cell 1
  simp at r0 r1
  go_simp
 ·exact HF.out.tail
structure EnE where
 id:Nat
 ao:Option Addr
 cap:Nat
 C:List Cp
def EnE.cs (x:EnE):List Value:=[.int .u32 (x.id:Int),.slice x.ao x.C.length x.cap]
def erow (x:EnE):Thing:=Row 46 4 (.slice x.ao x.C.length x.cap) x.C.length (ccat x.C)
theorem Tryz.infoEnt:(Tryz.prog.info? 76).map (fun i=>(i.zero,i.size,i.bytes))=some (some (.agg #[.int .u32 0,.slice none 0 0]),2,32):=by kernel_rfl
theorem info3w {P:Program} {t:TypeId} {z:Option Value} {s b:Nat} (h:(P.info? t).map (fun i=>(i.zero,i.size,i.bytes))=some (z,s,b)):∃ i,P.info? t=some i∧i.zero=z∧i.size=s∧i.bytes=b:=by
 cases hi:P.info? t with
 | none=>rw [hi] at h;simp at h
 | some i=>rw [hi] at h;simp at h;exact ⟨i,rfl,h.1,h.2.1,h.2.2⟩
theorem perm_w {A B C D E:Thing} {M l:List Thing}:(A::B::C::D::E::(M++l)).Perm (A::E::C::D::((M++[B])++l)):=by
 refine List.Perm.cons A ?_
 have h1:(E::C::D::((M++[B])++l)).Perm (B::E::C::D::(M++l)):=by
  have:=List.perm_middle (l₁:=E::C::D::M) (a:=B) (l₂:=l)
  simpa using this
 have h2:(C::D::E::(M++l)).Perm (E::C::D::(M++l)):=List.perm_middle (l₁:=[C,D]) (a:=E) (l₂:=M++l)
 exact (List.Perm.cons B h2).trans h1.symm
theorem list_lenW {S:St} (hS:S.Ok):S.list.length≤1024:=by
 rw [St.list_length hS,hS.live]
 have h1:=List.count_le_length (a:=true) (l:=S.used)
 have h2:=hS.ul
 have h3:=hS.le
 have h4:=hS.n2
 omega
theorem wlist (w0 w:World) (l:List Thing) (b bs:Nat) (wc:Array Value) (σ:Sto) (K:Nat) (h:Own w0 w (Store bs σ K::Cells b wc 102::l)) (hwc:wc[1]? = some (.pointer (some ⟨bs,0,none⟩))) (hσ:σ.Ok) (hK:K≤1000000) :
  Calls Tryz.prog 29 #[.pointer (some ⟨b,0,none⟩)] w fun e w'=>∃ (ao:Option Addr) (cap:Nat) (L:List EnE),e=.returned (.slice ao L.length cap)∧L.map (fun x=>(x.id,x.C))=σ.S.list.map (fun id=>(id,σ.cps id))∧Own w0 w' (Row 76 2 (.slice ao L.length cap) L.length (cat EnE.cs L)::Store bs σ K::Cells b wc 102::(L.map erow++l)):=by
 obtain ⟨i0,hi,hz0,hz1,hz2⟩:=info3w Tryz.infoEnt
 have HS:Hid (Calls _ _ _ _ _):=wstored w0 _ _ b bs wc h.two hwc
 have HL:Hid (Calls _ _ _ _ _):=slist w0 w _ bs σ K h hσ.s
 have HEN:Hid (∀ W l id,id < 4294967296→σ.S.isLive id=true→Own w0 W (Store bs σ K::Cells b wc 102::l)→Calls Tryz.prog 63 #[.pointer (some ⟨b,0,none⟩),.int .u32 (id:Int)] W fun e w'=>∃ x:EnE,x.id=id∧x.C=σ.cps id∧e=.returned (.tuple #[.agg #[.int .u32 (id:Int),.slice x.ao x.C.length x.cap],.int .i64 0])∧Own w0 w' (erow x::Store bs σ K::Cells b wc 102::l)):=fun W l id hid hl h2=>by
  refine (went w0 W l b bs wc σ K h2 hwc hσ id hid hl hK).mono ?_
  rintro e w' ⟨ao,cap,rfl,h3⟩
  exact ⟨⟨id,ao,cap,σ.cps id⟩,rfl,rfl,rfl,h3⟩
 have HLV:Hid (∀ y∈σ.S.list,σ.S.isLive y=true∧y < 4294967296):=fun y hy=>St.list_w hσ.s hy
 have hlen:=list_lenW hσ.s
 obtain ⟨ids,hids⟩:∃ ids,ids=σ.S.list:=⟨_,rfl⟩
 rw [← hids] at HL HLV hlen
 rw [← hids]
 obtain ⟨n,hn⟩:∃ n,n=ids.length:=⟨_,rfl⟩
 rw [← hn] at HL hlen
 have HN:Hid (n=ids.length):=hn
 clear h hwc hσ hK hn hids
 go_enter Tryz.func29,Tryz.ntmps29
 go_wp2_with fail
 refine HS.out.mono ?_
 rintro e w1 ⟨rfl,rfl⟩
 go_wp2_with fail
 refine HL.out.mono ?_
 rintro e w2 ⟨v,rfl,h2⟩
 obtain ⟨a2,c2,rfl⟩:=row_any h2.row
 have H2:Hid (Own w0 w2 (Row 38 1 (.slice a2 n c2) n (irow .u32 ids)::Store bs σ K::Cells b wc 102::l)):=h2
 clear h2 HS HL
 go_wp2
 go_loopw [3,12] (fun vo vi wr=>∃ (j:Nat) (L:List EnE) (m:Nat) (ao:Option Addr) (cap:Nat),j≤n∧vi=.int .i64 (j:Int)∧vo=.slice ao m cap∧m=L.length∧m=j∧L.map (fun x=>(x.id,x.C))=(ids.take j).map (fun id=>(id,σ.cps id))∧Own w0 wr (Row 76 2 (.slice ao m cap) m (cat EnE.cs L)::Row 38 1 (.slice a2 n c2) n (irow .u32 ids)::Store bs σ K::Cells b wc 102::(L.map erow++l))) (fun _ vi _=>n - (intOf vi).toNat)
 case atStart=>exact ⟨0,[],0,none,0,Nat.zero_le _,rfl,rfl,rfl,rfl,rfl,H2.out.nilRow _ _⟩
 case round =>
  obtain ⟨j,L,m,ao,cap,hj,rfl,rfl,hm,hmj,hL,hO⟩:=hrel
  have HM:Hid (m=L.length):=hm
  have HLL:Hid (L.map (fun x=>(x.id,x.C))=(ids.take j).map (fun id=>(id,σ.cps id))):=hL
  have hm1:m≤1024:=by omega
  clear H2 hm hL
  by_cases hlt:j < n
  ·have hlt':(j:Int) < (n:Int):=by omega
   obtain ⟨id,hid⟩:∃ id,ids[j]? = some id:=⟨_,List.getElem?_eq_getElem (by rw [← HN.out];exact hlt)⟩
   obtain ⟨hlv,hid32⟩:=HLV.out id (List.mem_of_getElem? hid)
   have c0:∃ g,a2=some ⟨g,0,none⟩∧wr.cell? ⟨g,j,none⟩=some (.int .u32 (id:Int)):=by
    obtain ⟨g,cp,hv,_⟩:=row_shape hO.two.row (by omega)
    have hva:=(Value.slice.inj hv).1
    subst hva
    refine ⟨g,rfl,?_⟩
    rw [hO.two.row.cellAt _ (by omega),getElem?_irow,hid]
    rfl
   obtain ⟨g,hg,c0⟩:=c0
   have HE:Hid (Calls _ _ _ _ _):=HEN.out wr _ id hid32 hlv hO.four.four
   have HLN:Hid (∀ x:EnE,x.id=id→x.C=σ.cps id→(L++[x]).map (fun x=>(x.id,x.C))=(ids.take (j+1)).map (fun id=>(id,σ.cps id))):=fun x h1 h2=>by
    rw [List.map_append,HLL.out,List.take_add_one,hid,List.map_append]
    simp [h1,h2]
   subst hg hmj
   clear hO hid hlv hid32 HLL
   go_wp2_with fail
   refine HE.out.mono ?_
   rintro e w3 ⟨x,hx1,hx2,rfl,h3⟩
   have HX:Hid (x.id=id∧x.C=σ.cps id):=⟨hx1,hx2⟩
   have hA:=h3.allocC #[.int .u32 (id:Int),.slice x.ao x.C.length x.cap] 76
   have hB:Own w0 (w3.alloc (.cells #[.int .u32 (id:Int),.slice x.ao x.C.length x.cap] 76)) (Row 76 2 (.slice ao m cap) m (cat EnE.cs L)::erow x::Store bs σ K::Cells b wc 102::Row 38 1 (.slice (some ⟨g,0,none⟩) n c2) n (irow .u32 ids)::(L.map erow++l)):=hA.tail.four
   have HB:Hid (Own w0 _ _):=hB
   clear hA hB h3 HE c0 hx1 hx2
   generalize hcl:x.C.length=cl at *
   have HCL:Hid (x.C.length=cl):=hcl
   clear hcl
   go_wp2_with (at_builtin;refine append1_own rfl _ _ 62 rfl 76 i0 (.agg #[.int .u32 0,.slice none 0 0]) 2 32 Tryz.underlying62 hi hz0 hz1 hz2 rfl (by decide) _ _ _ rfl HB.out _ #[.int .u32 (id:Int),.slice x.ao cl x.cap] (by simp) rfl rfl (by intro u hu;simp at hu;rcases hu with rfl | rfl <;> rfl) (by unfold maxLen;omega) (by omega) ?_)
   intro g2 cap2 w4 hO4 hsz
   have H4:Hid (Own w0 w4 (Row 76 2 (.slice (some ⟨g2,0,none⟩) (m+1) cap2) (m+1) (cat EnE.cs (L++[x]))::Row 38 1 (.slice (some ⟨g,0,none⟩) n c2) n (irow .u32 ids)::Store bs σ K::Cells b wc 102::((L++[x]).map erow++l))):=by
    have e1:cat EnE.cs (L++[x])=cat EnE.cs L++[.int .u32 (id:Int),.slice x.ao cl x.cap]:=by
     rw [cat_append]
     congr 1
     simp [cat,EnE.cs,HX.out.1,HCL.out]
    have e2:(L++[x]).map erow=L.map erow++[erow x]:=by simp
    show Own _ _ _
    rw [e1,e2]
    exact hO4.perm perm_w
   clear hO4 hsz HB
   go_wp2
   go_roundw
   case rel=>exact ⟨m+1,L++[x],m+1,some ⟨g2,0,none⟩,cap2,by omega,by go_num,rfl,by rw [List.length_append,← HM.out];rfl,rfl,HLN.out x HX.out.1 HX.out.2,H4.out⟩
   case measure=>simp [intOf];omega
  ·have hlt':¬ (j:Int) < (n:Int):=by omega
   have hjn:m=n:=by omega
   subst hmj
   have HF:Hid (Own w0 wr (Row 76 2 (.slice ao m cap) m (cat EnE.cs L)::Store bs σ K::Cells b wc 102::(L.map erow++l))):=hO.two.tail
   have HLE:Hid (L.map (fun x=>(x.id,x.C))=ids.map (fun id=>(id,σ.cps id))):=by
    have:=HLL.out
    rw [hjn,HN.out,List.take_length] at this
    exact this
   clear hO hjn
   go_wp2
   go_ret
   refine ⟨ao,cap,L,by rw [← HM.out];rfl,HLE.out,?_⟩
   rw [← HM.out]
   exact HF.out
end Go.Proofs.YtogmdoiecpihdaaGreatDoor
namespace Go.Proofs.YtogmdoiecpihdaaGreatDoor
open Go.RowKit Go.Maps
set_option linter.unusedVariables false
set_option maxHeartbeats 8000000
set_option maxRecDepth 100000
theorem lst_k {C:List Cp} (h:lst (-1) C=0):∀ q∈C,q.k < 256:=fun q hq=>by have:=chk_k (((lst_iff C).1 h).2 q hq);omega
theorem lst_len {C:List Cp} (h:lst (-1) C=0):C.length≤6:=by
 have e:=kinds_of h rfl
 have:=congrArg List.length e
 rw [List.length_map] at this
 rw [this]
 exact Nat.le_trans (List.length_filter_le _ _) (by simp)
theorem homeGet (w0 w:World) (l:List Thing) (b bs:Nat) (v:Value) (p:Nat→Option Nat) (σ:Sto) (K:Nat) (hσ:σ.Ok) (id:Nat) (hid:id < 4294967296) (hl:σ.S.isLive id=true) (bt0:Nat) (hp:p (σ.hom id)=some bt0) (h:Own w0 w (StoX b σ K (bs,v,p)::l)) (k:Nat) (hk:k < 256) :
  Calls Tryz.prog 153 #[.pointer (some ⟨bt0,0,none⟩),.int .u32 (id:Int),.int .u8 (k:Int)] w fun e w'=>e=.returned (.tuple #[(if hasK (σ.cps id) k then mkc k (fv (σ.cps id) k) else ⟨0,0,0,0⟩:Cp).ag,.int .i64 (if hasK (σ.cps id) k then 0 else 10)])∧Own w0 w' (StoX b σ K (bs,v,p)::l):=by
 obtain ⟨r,C,hr,he,hC,hm,h6⟩:=hσ.ent hl
 obtain ⟨c,hc,hne,hlen,h2⟩:=h.stoB h6 hp
 have hcps:=Sto.cps_of hr he
 have hbt:bt (σ.hom id) k=hasK C k:=by
  by_cases hk6:k < 6
  ·rw [← hm];exact bt_msk C k hk6
  ·cases hb:bt (σ.hom id) k with
   | true=>exact absurd (bt_lt h6 hb) hk6
   | false =>
    cases hh:hasK C k with
    | false=>rfl
    | true =>
     obtain ⟨q,hq,e⟩:=(hasK_iff _ _).1 hh
     have:=chk_k (((lst_iff C).1 hC).2 q hq)
     omega
 have hg:tget (σ.hom id) (σ.T (σ.hom id)) id k=(if hasK C k then 0 else 10,if hasK C k then mkc k (fv C k) else ⟨0,0,0,0⟩):=by
  unfold tget
  rw [hr]
  simp only [he,Option.map_some,Option.getD_some,hbt]
  split <;> rfl
 have k2:=tgetC w0 w _ bt0 _ _ c h2 (hσ.t _ h6) id hid k hk
 rw [hg] at k2
 rw [hcps]
 refine k2.mono ?_
 rintro e w' ⟨rfl,h3⟩
 refine ⟨?_,h3.stoT h6 hp hc hne hlen⟩
 split <;> rfl
theorem addC (w0 w:World) (l:List Thing) (b:Nat) (σ:Sto) (K:Nat) (ht:Tab w0) (h:Own w0 w (Store b σ K::l)) (hσ:σ.Ok) (id:Nat) (hid:id < 4294967296) (c:Cp) (hk:c.k < 256) (hK:K+1 < 1000000) :
  Calls Tryz.prog 191 #[.pointer (some ⟨b,0,none⟩),.int .u32 (id:Int),c.ag] w fun e w'=>e=.returned (.int .i64 (σ.add id c).1)∧Own w0 w' (Store b (σ.add id c).2 (K+2)::l):=by
 obtain ⟨bs,v,p,h⟩:=h.stoX
 have hA:=(h.allocC c.ar 46).two
 have HA:Hid (Own w0 _ _):=hA
 by_cases hc:c.chk=0
 ·cases hl:σ.S.isLive id with
  | false =>
   have HV:Hid (σ.add id c=(7,σ)):=by show _=_;unfold Sto.add;rw [if_neg (by simp [hc]),if_pos hl]
   have HH:Hid (Calls _ _ _ _ _):=homeFor_of w0 _ _ b bs v p σ K ht hA id c hk hc none 7 (fun w' h'=>home_dead w0 w' _ b bs v p σ K h' hσ.s id hid hl)
   obtain ⟨ck,ca,cb,cc⟩:=c
   unfold Cp.ag at HH ⊢
   unfold Cp.ar at HH
   clear h hA hσ hl hc HA
   go_enter Tryz.func191,Tryz.ntmps191
   go_wp2_with fail
   refine HH.out.mono ?_
   rintro e w1 ⟨rfl,hO⟩
   have H1:Hid (Own w0 w1 (StoX b σ K (bs,v,p)::l)):=hO.two.tail
   clear hO HH
   go_wp2
   go_ret
   rw [HV.out]
   exact ⟨rfl,H1.out.xSto.stoK (by omega)⟩
  | true =>
   obtain ⟨r,C,hr,he,hC,hm,h6⟩:=hσ.ent hl
   have hcps:=Sto.cps_of hr he
   obtain ⟨bt0,hp⟩:=stoP h h6 he
   have hn:=(hσ.home hl).2.1
   have HH:Hid (Calls _ _ _ _ _):=homeFor_of w0 _ _ b bs v p σ K ht hA id c hk hc (some ⟨bt0,0,none⟩) 0 (fun w' h'=>by
    have:=home_ok w0 w' _ b bs v p σ K h' hσ.s id hid hl hn h6
    rw [hp,pp_some] at this
    exact this)
   have HG:Hid (∀ w' l',Own w0 w' (StoX b σ K (bs,v,p)::l')→Calls Tryz.prog 153 #[.pointer (some ⟨bt0,0,none⟩),.int .u32 (id:Int),.int .u8 (c.k:Int)] w' fun e w''=>e=.returned (.tuple #[(if hasK C c.k then mkc c.k (fv C c.k) else ⟨0,0,0,0⟩:Cp).ag,.int .i64 (if hasK C c.k then 0 else 10)])∧Own w0 w'' (StoX b σ K (bs,v,p)::l')):=fun w' l' h'=>by
    have:=homeGet w0 w' l' b bs v p σ K hσ id hid hl bt0 hp h' c.k hk
    rw [hcps] at this
    exact this
   cases hhk:hasK C c.k with
   | true =>
    have HV:Hid (σ.add id c=(9,σ)):=by show _=_;unfold Sto.add;rw [if_neg (by simp [hc]),if_neg (by simp [hl]),hcps,if_pos hhk]
    rw [hhk] at HG
    simp only [if_true] at HG
    generalize mkc c.k (fv C c.k)=q at *
    obtain ⟨qk,qa,qb,qc⟩:=q
    obtain ⟨ck,ca,cb,cc⟩:=c
    unfold Cp.ag at HH HG ⊢
    unfold Cp.ar at HH
    simp only at HG HH
    clear h hA hσ hl hc HA hr he hC hm hcps hp hn hhk
    go_enter Tryz.func191,Tryz.ntmps191
    go_wp2_with fail
    refine HH.out.mono ?_
    rintro e w1 ⟨rfl,hO⟩
    have H1:Hid (Own w0 w1 _):=hO
    have q0:=hO.two.cell 0
    simp at q0
    clear hO HH
    go_wp2_with fail
    refine (HG.out _ _ H1.out).mono ?_
    rintro e w2 ⟨rfl,hO⟩
    have H2:Hid (Own w0 _ (StoX b σ K (bs,v,p)::l)):=hO.two.tail.alloc (.cells #[.int .u8 (qk:Int),.int .i32 qa,.int .i32 qb,.int .i32 qc] 46)
    clear hO
    go_wp2
    go_ret
    rw [HV.out]
    exact ⟨rfl,H2.out.xSto.stoK (by omega)⟩
   | false =>
    have HV:Hid (σ.add id c=(0,(σ.out (σ.hom id) r).put id (insw C c))):=by show _=_;unfold Sto.add;rw [if_neg (by simp [hc]),if_neg (by simp [hl]),hcps,if_neg (by simp [hhk])];unfold Sto.turn;rw [hr];rfl
    rw [hhk] at HG
    simp only [if_false,Bool.false_eq_true] at HG
    have hlen:=lst_len hC
    have hI:=insw_ok hC hc hhk
    have hLk:=hσ.out hl hr
    have HPL:Hid (∀ w' l',Own w0 w' (StoX b σ K (bs,v,p)::l')→Calls Tryz.prog 154 #[.pointer (some ⟨b,0,none⟩),.pointer (some ⟨bt0,0,none⟩),.int .u32 (id:Int)] w' fun out w''=>∃ ao cap,out=.returned (.slice ao C.length cap)∧Own w0 w'' (Row 46 4 (.slice ao C.length cap) C.length (ccat C)::Store b (σ.out (σ.hom id) r) (K+1)::l')):=fun w' l' h'=>pull_ok w0 w' l' b bs v p σ K h' (σ.hom id) h6 (some bt0) hp (hσ.t _ h6) id hid r (id,C) hr he (by omega)
    have HWI:Hid (∀ w' l' ao cap,Own w0 w' (Row 46 4 (.slice ao C.length cap) C.length (ccat C)::l')→Calls Tryz.prog 234 #[.slice ao C.length cap,c.ag] w' fun e w''=>∃ ao' cap',e=.returned (.slice ao' (C.length+1) cap')∧Own w0 w'' (Row 46 4 (.slice ao' (C.length+1) cap') (C.length+1) (ccat (insw C c))::l')):=fun w' l' ao cap h'=>with_ok w0 w' l' C c ao C.length cap rfl (by omega) h'
    have HPU:Hid (∀ w' l' ao cap,Own w0 w' (Row 46 4 (.slice ao (C.length+1) cap) (C.length+1) (ccat (insw C c))::Store b (σ.out (σ.hom id) r) (K+1)::l')→Calls Tryz.prog 203 #[.pointer (some ⟨b,0,none⟩),.int .u32 (id:Int),.slice ao (C.length+1) cap] w' fun e w''=>e=.returned (.tuple #[])∧Own w0 w'' (Store b ((σ.out (σ.hom id) r).put id (insw C c)) (K+2)::l')):=by
     intro w' l' ao cap h'
     obtain ⟨bs',v',p',h2⟩:=h'.two.stoX
     have hli:=St.live_lt hLk.s hLk.li
     refine (put_ok w0 w' _ b bs' v' p' _ (K+1) ht h2 id hid (by rw [hLk.ml];exact hli.2) ao (C.length+1) cap (insw C c) (insw_len C c) (fun w'' h''=>Own.rcs h'' (insw_len C c)) (lst_k hI) (by omega) hI (hLk.t _ (msk64 _)) (hLk.none (msk64 _)) (by omega)).mono ?_
     rintro e w'' ⟨rfl,h3⟩
     exact ⟨rfl,h3.two.tail⟩
    obtain ⟨ck,ca,cb,cc⟩:=c
    unfold Cp.ag at HH HG HWI ⊢
    unfold Cp.ar at HH
    simp only at HG HH HWI
    clear h hA hσ hl hc HA hr he hC hm hcps hp hn hhk hI hLk
    generalize C.length=n at *
    go_enter Tryz.func191,Tryz.ntmps191
    go_wp2_with fail
    refine HH.out.mono ?_
    rintro e w1 ⟨rfl,hO⟩
    have H1:Hid (Own w0 w1 _):=hO
    have q0:=hO.two.cell 0
    simp at q0
    clear hO HH
    go_wp2_with fail
    refine (HG.out _ _ H1.out).mono ?_
    rintro e w2 ⟨rfl,hO⟩
    have hO2:=hO.alloc (.cells #[.int .u8 0,.int .i32 0,.int .i32 0,.int .i32 0] 46)
    have H2:Hid (Own w0 _ _):=hO2
    have s0:=hO2.two.cell 0
    have s1:=hO2.two.cell 1
    have s2:=hO2.two.cell 2
    have s3:=hO2.two.cell 3
    simp at s0 s1 s2 s3
    clear hO hO2 H1 q0
    go_wp2_with fail
    go_region_with (first
     | (go_at_call 154
        refine (HPL.out _ _ H2.out.drew).mono ?_
        rintro e w3 ⟨a3,c3,rfl,hO⟩
        have t0:=hO.three.cell 0
        have t1:=hO.three.cell 1
        have t2:=hO.three.cell 2
        have t3:=hO.three.cell 3
        simp at t0 t1 t2 t3
        have H3:Hid (Own w0 w3 _):=hO
        clear hO)
     | (go_at_call 234
        refine (HWI.out _ _ _ _ H3.out).mono ?_
        rintro e w4 ⟨a4,c4,rfl,hO⟩
        have H4:Hid (Own w0 w4 _):=hO
        clear hO)
     | (go_at_call 203
        refine (HPU.out _ _ _ _ H4.out).mono ?_
        rintro e w5 ⟨rfl,hO⟩
        have H5:Hid (Own w0 w5 _):=hO
        clear hO))
    all_goals
     go_wp2
     go_ret
     rw [HV.out]
     exact ⟨rfl,H5.out.two.tail⟩
 ·have HV:Hid (σ.add id c=((c.chk:Int),σ)):=by show _=_;unfold Sto.add;rw [if_pos hc]
  have HH:Hid (Calls _ _ _ _ _):=homeFor_bad w0 _ _ b bs v p σ K ht hA id c hk hc
  have hx:¬ ((c.chk:Nat):Int)=0:=by omega
  generalize c.chk=x at *
  obtain ⟨ck,ca,cb,cc⟩:=c
  unfold Cp.ag at HH ⊢
  unfold Cp.ar at HH
  clear h hA hσ hc HA
  go_enter Tryz.func191,Tryz.ntmps191
  go_wp2_with fail
  refine HH.out.mono ?_
  rintro e w1 ⟨rfl,hO⟩
  have H1:Hid (Own w0 w1 (StoX b σ K (bs,v,p)::l)):=hO.two.tail
  clear hO HH
  go_wp2
  go_ret
  rw [HV.out]
  exact ⟨rfl,H1.out.xSto.stoK (by omega)⟩
end Go.Proofs.YtogmdoiecpihdaaGreatDoor
namespace Go.Proofs.YtogmdoiecpihdaaGreatDoor
open Go.RowKit
set_option linter.unusedVariables false
set_option maxHeartbeats 8000000
set_option maxRecDepth 100000
def FctW (p:Prop):Thing where
 is:=fun _ A=>p∧∀ k,¬ A k
 lt:=by rintro w A k ⟨_,h⟩ a;exact (h k a).elim
 keep:=by rintro w w' A B h _ _;exact h
theorem Own.fctIn {w0 w:World} {p:Prop} {l:List Thing} (h:Own w0 w (FctW p::l)):p:=by
 obtain ⟨A,⟨B,C,hB,_⟩,_⟩:=h
 exact hB.1
theorem Own.fct {w0 w:World} {p:Prop} {l:List Thing} (hp:p) (h:Own w0 w l):Own w0 w (FctW p::l) :=
 h.new (FctW p) (fun _=>False) ⟨hp,fun _ h=>h⟩ (Fr.refl _ _) (fun _ h=>h.elim)
def SMapO (mp:Option Nat) (n:Nat) (S:Nat→Nat→Option SgE):Thing:=match mp with
 | some ms=>SMap ms n (sgp S)
 | none=>FctW (∀ i k,S i k=none)
theorem sight_o (w0 w:World) (l:List Thing) (b:Nat) (wc:Array Value) (mp:Option Nat) (n T:Nat) (S:Nat→Nat→Option SgE) (hwc:wc[0]? = some (.int .u32 (T:Int))) (hwm:wc[3]? = some (.map mp)) (i k:Nat) (hi:i < 4294967296) (hk:k < 256) (ck:Nat) (ca cb cc:Int)
  (h:Own w0 w (SMapO mp n S::Cells b wc 102::l)) :
  Calls Tryz.prog 101 #[.pointer (some ⟨b,0,none⟩),spv i k,.agg #[.int .u8 (ck:Int),.int .i32 ca,.int .i32 cb,.int .i32 cc]] w fun e w'=>e=.returned (sgt (S i k) T ck ca cb cc).v∧Own w0 w' (SMapO mp n S::Cells b wc 102::l):=by
 cases mp with
 | some ms=>exact sight_ok w0 w l b wc ms n T S hwc hwm i k hi hk ck ca cb cc h
 | none =>
  have hS:=h.fctIn
  refine (sight_nil w0 w l b wc T hwc hwm i k hi hk ck ca cb cc h.tail).mono ?_
  rintro e w' ⟨rfl,h2⟩
  exact ⟨by rw [hS i k],Own.fct hS h2⟩
theorem left_o (w0 w:World) (l:List Thing) (b:Nat) (wc:Array Value) (mp:Option Nat) (n mn n':Nat) (S:Nat→Nat→Option SgE) (S':Nat→Nat→Option SgE) (hwc:wc[3]? = some (.map mp)) (hn:n≤1000000)
  (h:Own w0 w (SMapO mp n S::SMap mn n' (sgp S')::Cells b wc 102::l)) :
  Calls Tryz.prog 103 #[.pointer (some ⟨b,0,none⟩),.map (some mn)] w fun e w'=>∃ ao cap L,e=.returned (.slice ao L.length cap)∧L.length≤n∧LeftOf (sgp S) (sgp S') (fun _ _=>false) L∧Own w0 w' (Row 92 4 (.slice ao L.length cap) L.length (cat PlE.cs L)::SMapO mp n S::SMap mn n' (sgp S')::Cells b wc 102::l):=by
 cases mp with
 | some ms=>exact left_ok w0 w l b wc ms n mn n' (sgp S) (sgp S') hwc hn (fun i k v hv=>by
   unfold sgp at hv
   obtain ⟨s,_,rfl⟩:=Option.map_eq_some_iff.1 hv
   exact ⟨_,_,_,_,_,rfl⟩) h
 | none =>
  have hS:=h.fctIn
  refine (left_nil w0 w _ b wc mn hwc h.three).mono ?_
  rintro e w' ⟨rfl,h2⟩
  refine ⟨none,0,[],rfl,Nat.zero_le _,⟨by simp,(fun q hq=>(by cases hq)),fun i hi=>?_⟩,(h2.back3).nilRow _ _⟩
  unfold sgp
  rw [hS i 0]
  simp
def EntsT (ao:Option Addr) (cap:Nat) (L:List EnE):Thing:=Ex (fun _:Unit=>Row 76 2 (.slice ao L.length cap) L.length (cat EnE.cs L)::L.map erow)
theorem Own.ents {w0 w:World} {l:List Thing} {ao:Option Addr} {cap:Nat} {L:List EnE} (h:Own w0 w ((Row 76 2 (.slice ao L.length cap) L.length (cat EnE.cs L)::L.map erow)++l)):Own w0 w (EntsT ao cap L::l):=Own.ex_iff.2 ⟨(),h⟩
theorem Own.entAt {w0 w:World} {l:List Thing} {ao:Option Addr} {cap:Nat} {L:List EnE} (h:Own w0 w (EntsT ao cap L::l)) {j:Nat} {x:EnE} (hx:L[j]? = some x) :
  (∃ g,ao=some ⟨g,0,none⟩∧w.cell? ⟨g,j*2,none⟩=some (.int .u32 (x.id:Int))∧w.cell? ⟨g,j*2+1,none⟩=some (.slice x.ao x.C.length x.cap))∧Cs w x.ao x.C:=by
 obtain ⟨_,h1⟩:=Own.ex_iff.1 h
 have hj:=(List.getElem?_eq_some_iff.1 hx).1
 constructor
 ·obtain ⟨g,cp,hv,_⟩:=row_shape h1.row (by omega)
  have hva:=(Value.slice.inj hv).1
  subst hva
  have hr:=h1.row
  refine ⟨g,rfl,?_,?_⟩
  ·rw [hr.cellAt _ (by omega)]
   exact cat_at EnE.cs 2 (fun _=>rfl) L j 0 x hx (by decide)
  ·rw [hr.cellAt _ (by omega)]
   exact cat_at EnE.cs 2 (fun _=>rfl) L j 1 x hx (by decide)
 ·obtain ⟨L1,L2,rfl⟩:=List.append_of_mem (List.mem_of_getElem? hx)
  have h2:Own w0 w (erow x::(L1.map erow++(L2.map erow++l))):=by
   have h3:Own w0 w ((L1++x::L2).map erow++l):=h1.tail
   refine h3.perm ?_
   have e:(L1++x::L2).map erow++l=L1.map erow++(erow x::(L2.map erow++l)):=by simp
   rw [e]
   exact List.perm_middle
  exact Own.cs (h2.view (by decide)) rfl
theorem perm_ents {A B C:Thing} {M l:List Thing}:(A::B::C::(M++l)).Perm ((A::M)++(B::C::l)):=by
 refine List.Perm.cons A ?_
 have:=List.perm_append_comm_assoc [B,C] M l
 simpa using this
def stpW (S:Nat→Nat→Option SgE) (T:Nat) (p:Nat→Nat→Option SgE) (x:Nat × Cp):Nat→Nat→Option SgE:=fun i k=>if i=x.1∧k=x.2.k then some (sgt (S x.1 x.2.k) T x.2.k x.2.a x.2.b x.2.c) else p i k
def mapOf (S:Nat→Nat→Option SgE) (T:Nat) (A:List (Nat × Cp)):Nat→Nat→Option SgE:=A.foldl (stpW S T) (fun _ _=>none)
theorem mapOf_snoc (S:Nat→Nat→Option SgE) (T:Nat) (A:List (Nat × Cp)) (x:Nat × Cp):mapOf S T (A++[x])=stpW S T (mapOf S T A) x:=by
 unfold mapOf;rw [List.foldl_append];rfl
def allW (L:List EnE):List (Nat × Cp):=L.flatMap (fun e=>e.C.map (fun c=>(e.id,c)))
theorem allW_snoc (L:List EnE) (x:EnE):allW (L++[x])=allW L++x.C.map (fun c=>(x.id,c)):=by simp [allW]
theorem Own.smStp {w0 w:World} {l:List Thing} {b n:Nat} {S p:Nat→Nat→Option SgE} {T:Nat} (h:Own w0 w (SMap b n (sgp p)::l)) (x:Nat × Cp) (hi:x.1 < 4294967296) (hk:x.2.k < 256) (hn:n < maxLen) :
  ∃ w',(Instr.mapUpdate 100 (.map (some b)) (.agg #[.int .u32 (x.1:Int),.int .u8 (x.2.k:Int)]) (sgt (S x.1 x.2.k) T x.2.k x.2.a x.2.b x.2.c).v).run Tryz.prog w=.ok () w'∧Own w0 w' (SMap b (n+1) (sgp (stpW S T p x))::l):=by
 obtain ⟨w',hr,hO⟩:=h.smPut x.1 x.2.k (sgt (S x.1 x.2.k) T x.2.k x.2.a x.2.b x.2.c).v hi hk hn
 refine ⟨w',hr,?_⟩
 have e:(fun i k=>if i=x.1∧k=x.2.k then some (sgt (S x.1 x.2.k) T x.2.k x.2.a x.2.b x.2.c).v else sgp p i k)=sgp (stpW S T p x):=by
  funext i k
  unfold sgp stpW
  split <;> simp
 rw [← e]
 exact hO
end Go.Proofs.YtogmdoiecpihdaaGreatDoor
