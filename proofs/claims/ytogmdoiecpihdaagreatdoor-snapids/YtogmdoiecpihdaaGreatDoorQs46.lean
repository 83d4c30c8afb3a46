/- The document's world: what its lists of entities say; what a step makes of marks and places. -/
import Derived.Test.YtogmdoiecpihdaaGreatDoorQs39
import Derived.Test.YtogmdoiecpihdaaGreatDoorQs43
import Derived.Test.YtogmdoiecpihdaaGreatDoorQs44
import Derived.Test.YtogmdoiecpihdaaGreatDoorQs45
import Derived.Test.YtogmdoiecpihdaaGreatDoorQs36
import Derived.Test.YtogmdoiecpihdaaGreatDoorQs26
import Derived.Test.YtogmdoiecpihdaaGreatDoorQs22
import Derived.Test.YtogmdoiecpihdaaGreatDoorQs17
import Derived.Test.YtogmdoiecpihdaaGreatDoorQs10
import Derived.Test.YtogmdoiecpihdaaGreatDoorQs27
namespace Go.Proofs.YtogmdoiecpihdaaGreatDoor
open Go.RowKit Go.Maps
set_option linter.unusedVariables false
set_option maxHeartbeats 2000000
set_option maxRecDepth 100000
theorem rdo_allR (w0 w:World) (l:List Thing) (b:Nat) (s:Sto × Nat) (h:Own w0 w (RSto b s.1 s.2::l)) (hσ:s.1.Ok) (ao:Option Addr) (n cap:Nat) (L:List OrdE) (hn:L.length=n) (hn6:n≤1000) (hs:s.2≤800000) (hL:∀ o∈L,o.In) (hO:∀ w',Own w0 w' l→Ords w' ao L) :
  Calls Tryz.prog 54 #[.pointer (some ⟨b,0,none⟩),.slice ao n cap] w fun e w'=>∃ ra rc,e=.returned (.slice ra n rc)∧Own w0 w' (Row 89 2 (.slice ra n rc) n (cat rcel (runs stq s L).1)::RSto b (runs stq s L).2.1 (runs stq s L).2.2::l)∧(runs stq s L).2.1.Ok∧(runs stq s L).2.2=s.2+2*n:=by
 refine (rall_of (fun s:Sto × Nat=>RSto b s.1 s.2) (fun j t=>t.1.Ok∧t.2=s.2+2*j) stq w0 w l (some ⟨b,0,none⟩) s h ao n cap L hn (by omega) hO ⟨hσ,by omega⟩ ?_ ?_).mono ?_
 ·intro j t o w' l' ho hI h' hC
  have hj:=(List.getElem?_eq_some_iff.1 ho).1
  have hi:=hL o (List.mem_of_getElem? ho)
  exact rdo_any w0 w' l' b t h' hI.1 (by rw [hI.2];omega) o hi hC (fun hb=>rdo_bad w0 w' l' _ _ h' o hi (fun w'' h''=>hC _ h''.tail) hb)
 ·intro j t o ho hI
  obtain ⟨a,b⟩:=stq_ok t hI.1 o
  exact ⟨a,by rw [b,hI.2];omega⟩
 ·rintro e w' ⟨ra,rc,rfl,h1,h2,h3⟩
  exact ⟨ra,rc,rfl,h1,h2,h3⟩
def SeeT (ao:Option Addr) (cap b:Nat) (σ:Sto) (x:RX):Thing:=Ex (fun _:Unit=>[Row 76 2 (.slice ao σ.S.list.length cap) σ.S.list.length (cat rcells (σ.S.list.map (x.at σ))),RSX b σ.S x])
def seeL (σ:Sto) (x:RX):List EnE:=(σ.S.list.map (x.at σ)).map toE
theorem Own.seeS {w0 w:World} {l:List Thing} {ao:Option Addr} {cap b:Nat} {σ:Sto} {x:RX} (h:Own w0 w (Row 76 2 (.slice ao σ.S.list.length cap) σ.S.list.length (cat rcells (σ.S.list.map (x.at σ)))::RSX b σ.S x::l)):Own w0 w (SeeT ao cap b σ x::l):=Own.ex_iff.2 ⟨(),h⟩
theorem Own.seeO {w0 w:World} {l:List Thing} {ao:Option Addr} {cap b:Nat} {σ:Sto} {x:RX} (h:Own w0 w (SeeT ao cap b σ x::l)):Own w0 w (Row 76 2 (.slice ao σ.S.list.length cap) σ.S.list.length (cat rcells (σ.S.list.map (x.at σ)))::RSX b σ.S x::l):=by
 obtain ⟨_,h⟩:=Own.ex_iff.1 h
 exact h
theorem seeL_len (σ:Sto) (x:RX):(seeL σ x).length=σ.S.list.length:=by simp [seeL]
theorem seeL_at {σ:Sto} {x:RX} {K:Nat} (hx:RXok σ x K) (hσ:σ.Ok) {j id:Nat} (h:σ.S.list[j]? = some id):∃ y,(seeL σ x)[j]? = some y∧y.id=id∧y.C=σ.cps id∧y=toE (x.at σ id):=by
 have hl:=(St.list_w hσ.s (List.mem_of_getElem? h)).1
 obtain ⟨_,h1,h2,_⟩:=hx.at hσ hl
 exact ⟨toE (x.at σ id),by simp [seeL,h],h1,h2,rfl⟩
theorem seeL_in {σ:Sto} {x:RX} {K:Nat} (hx:RXok σ x K) (hσ:σ.Ok) {y:EnE} (h:y∈seeL σ x):y.id∈σ.S.list∧y.C=σ.cps y.id:=by
 obtain ⟨j,hj⟩:=List.getElem?_of_mem h
 have hlt:=(List.getElem?_eq_some_iff.1 hj).1
 rw [seeL_len] at hlt
 obtain ⟨id,hid⟩:∃ id,σ.S.list[j]? = some id:=⟨_,List.getElem?_eq_getElem hlt⟩
 obtain ⟨y2,h2,e1,e2,_⟩:=seeL_at hx hσ hid
 rw [hj] at h2
 cases h2
 rw [e1]
 exact ⟨List.mem_of_getElem? hid,e2⟩
theorem Own.see {w0 w:World} {l:List Thing} {ao:Option Addr} {cap b K:Nat} {σ:Sto} {x:RX} (h:Own w0 w (SeeT ao cap b σ x::l)) (hx:RXok σ x K) (hσ:σ.Ok):EntsAt w ao (seeL σ x):=by
 have h1:=h.seeO
 refine ⟨?_,fun y hy=>?_⟩
 ·rcases Nat.eq_zero_or_pos σ.S.list.length with h0 | h0
  ·exact .inl (List.eq_nil_of_length_eq_zero (by rw [seeL_len];exact h0))
  ·obtain ⟨g,c,hv,_⟩:=row_shape h1.row h0
   have ha:=(Value.slice.inj hv).1
   subst ha
   refine .inr ⟨g,0,rfl,fun j y hy=>?_⟩
   have hj:=(List.getElem?_eq_some_iff.1 hy).1
   rw [seeL_len] at hj
   have hl:∀ z:EnE,z.cs.length=2:=fun _=>rfl
   have hr:=h1.row
   rw [← cat_toE] at hr
   rw [Nat.zero_add]
   refine ⟨?_,?_⟩
   ·rw [hr.cellAt _ (by omega)];exact (cat_at EnE.cs 2 hl (seeL σ x) j 0 y hy (by decide)).trans rfl
   ·rw [hr.cellAt _ (by omega)];exact (cat_at EnE.cs 2 hl (seeL σ x) j 1 y hy (by decide)).trans rfl
 ·obtain ⟨d,hd,rfl⟩:=List.mem_map.1 hy
  obtain ⟨id,hid,rfl⟩:=List.mem_map.1 hd
  have hl:=(St.list_w hσ.s hid).1
  have:=hx.atCs hσ hl h1.two
  have e:=(hx.at hσ hl).2.2.1
  show Cs w (x.at σ id).2.2.1 (x.at σ id).2.1
  rw [e];exact this
def gcp (σ:Sto) (id k:Nat):Option Cp:=if id∈σ.S.list then fst (σ.cps id) k else none
theorem getE_of {L:List EnE} {f:Nat→List Cp} (h:∀ y∈L,y.C=f y.id) (id k:Nat):getE L id k=if (∃ y∈L,y.id=id) then fst (f id) k else none:=by
 induction L with
 | nil=>simp [getE]
 | cons y L ih =>
  have ih:=ih (fun z hz=>h z (List.mem_cons_of_mem _ hz))
  have hy:=h y List.mem_cons_self
  unfold getE at ih ⊢
  rw [List.findSome?_cons]
  by_cases c:y.id=id
  ·rw [if_pos c,hy,c]
   have he:∃ z∈y::L,z.id=id:=⟨y,List.mem_cons_self,c⟩
   rw [if_pos he]
   cases hf:fst (f id) k with
   | some q=>rfl
   | none =>
    simp only
    rw [ih,hf]
    split <;> rfl
  ·rw [if_neg c]
   simp only
   rw [ih]
   by_cases d:∃ z∈L,z.id=id
   ·obtain ⟨z,hz,hz2⟩:=d
    rw [if_pos ⟨z,hz,hz2⟩,if_pos ⟨z,List.mem_cons_of_mem _ hz,hz2⟩]
   ·rw [if_neg d,if_neg]
    rintro ⟨z,hz,hz2⟩
    rcases List.mem_cons.1 hz with rfl | hz
    ·exact c hz2
    ·exact d ⟨z,hz,hz2⟩
theorem getE_see {σ:Sto} {x:RX} {K:Nat} (hx:RXok σ x K) (hσ:σ.Ok) (id k:Nat):getE (seeL σ x) id k=gcp σ id k:=by
 rw [getE_of (f:=σ.cps) (fun y hy=>(seeL_in hx hσ hy).2)]
 unfold gcp
 by_cases c:id∈σ.S.list
 ·rw [if_pos c,if_pos]
  obtain ⟨j,hj⟩:=List.getElem?_of_mem c
  obtain ⟨y,hy,e,_⟩:=seeL_at hx hσ hj
  exact ⟨y,List.mem_of_getElem? hy,e⟩
 ·rw [if_neg c,if_neg]
  rintro ⟨y,hy,rfl⟩
  exact c (seeL_in hx hσ hy).1
theorem rget_see {w0 w:World} {l:List Thing} {ao:Option Addr} {cap b K n:Nat} {σ:Sto} {x:RX} (h:Own w0 w (SeeT ao cap b σ x::l)) (hx:RXok σ x K) (hσ:σ.Ok) (hn:n=σ.S.list.length) (id k:Nat) (hk:k < 256) :
  Calls Tryz.prog 58 #[.slice ao n cap,.int .u32 (id:Int),.int .u8 (k:Int)] w fun e w'=>e=.returned (gag (gcp σ id k))∧Fr Nobody w w':=by
 have hlen:=list_lenW hσ.s
 rw [← getE_see hx hσ]
 refine rget15 w ao n cap (seeL σ x) (by rw [seeL_len,hn]) (h.see hx hσ) (fun y hy=>?_) (fun y hy=>?_) (by omega) (fun y hy=>?_) id k hk
 ·obtain ⟨h1,h2⟩:=seeL_in hx hσ hy
  refine ⟨(St.list_w hσ.s h1).2,fun q hq=>?_⟩
  rw [h2] at hq
  have:=(cps_good hσ h1).2 q hq
  omega
 ·obtain ⟨h1,h2⟩:=seeL_in hx hσ hy
  rw [h2];exact (cps_good hσ h1).1
 ·obtain ⟨h1,h2⟩:=seeL_in hx hσ hy
  rw [h2]
  obtain ⟨r,C,hr,he,hC,_⟩:=hσ.ent (St.list_w hσ.s h1).1
  rw [Sto.cps_of hr he]
  exact Nat.le_trans (lst_len6 hC) (by decide)
def mkA (σ:Sto) (M:List MkE) (T:Nat) (x:Nat × Cp):MkE:=⟨x.1,x.2.k,if gcp σ x.1 x.2.k=some x.2 then chgM M x.1 x.2.k else T⟩
def plA (σ:Sto) (P:List PlE) (x:Nat × Cp):List PlE:=if gcp σ x.1 x.2.k=some x.2 then P else if x.2.k=0 then ins P ⟨x.1,true,x.2.a,x.2.b⟩ else P
def plB (σ σ':Sto) (P:List PlE) (id:Nat):List PlE:=if (gcp σ id 0).isNone=true then P else if (gcp σ' id 0).isNone=true then ins P ⟨id,false,0,0⟩ else P
theorem ins_len (P:List PlE) (p:PlE):(ins P p).length=P.length+1:=by
 have:=(ins_perm p P).length_eq
 simpa using this
theorem plA_len (σ:Sto) (A:List (Nat × Cp)):(A.foldl (plA σ) []).length≤A.length:=by
 have:∀ (A:List (Nat × Cp)) (P:List PlE),(A.foldl (plA σ) P).length≤P.length+A.length:=by
  intro A
  induction A with
  | nil=>intro P;simp
  | cons x A ih =>
   intro P
   rw [List.foldl_cons]
   have:=ih (plA σ P x)
   have h2:(plA σ P x).length≤P.length+1:=by
    unfold plA
    split
    ·omega
    ·split
     ·rw [ins_len];omega
     ·omega
   rw [List.length_cons];omega
 simpa using this A []
theorem plB_len (σ σ':Sto) (B:List Nat) (P:List PlE):(B.foldl (plB σ σ') P).length≤P.length+B.length:=by
 induction B generalizing P with
 | nil=>simp
 | cons x B ih =>
  rw [List.foldl_cons]
  have:=ih (plB σ σ' P x)
  have h2:(plB σ σ' P x).length≤P.length+1:=by
   unfold plB
   split
   ·omega
   ·split
    ·rw [ins_len];omega
    ·omega
  rw [List.length_cons];omega
def RWd.next (x:RWd) (K:Nat):RWd :=
 let σ':=(runs stq (x.σ,K) x.E).2.1.sys
 ⟨x.T+1,σ',[],(allS σ').map (mkA x.σ x.M (x.T+1)),x.σ.S.list.foldl (plB x.σ σ') ((allS σ').foldl (plA x.σ) [])⟩
theorem Tryz.infoMk:(Tryz.prog.info? 121).map (fun i=>(i.zero,i.size,i.bytes))=some (some (.agg #[.int .u32 0,.int .u8 0,.int .u32 0]),3,12):=by kernel_rfl
theorem cat_mk1 (L:List MkE) (p:MkE):cat MkE.cs (L++[p])=cat MkE.cs L++[.int .u32 (p.id:Int),.int .u8 (p.k:Int),.int .u32 (p.t:Int)]:=by rw [cat_append];rfl
end Go.Proofs.YtogmdoiecpihdaaGreatDoor
namespace Go.Proofs.YtogmdoiecpihdaaGreatDoor
open Go.ChangeShapes Go.WideShapes Go.ChangeAt Go.RowKit Go.Maps
set_option linter.unusedVariables false
set_option maxHeartbeats 2000000
set_option maxRecDepth 100000
def OrdE.bare (o:OrdE):OrdE:={ o with ao:=none,cap:=0 }
theorem runs_bare (E:List OrdE):∀ s,runs stq s E=runs stq s (E.map OrdE.bare):=by
 induction E with
 | nil=>intro s;rfl
 | cons o E ih =>
  intro s
  rw [List.map_cons,runs,runs,show stq s o.bare=stq s o from rfl,ih]
theorem runs_len2 (E:List OrdE):∀ s,(runs stq s E).1.length=E.length:=by
 induction E with
 | nil=>intro s;rfl
 | cons o E ih=>intro s;rw [runs];simp [ih]
def push1 (S:List OrdE) (o:OrdE):List OrdE:=if o.ck=0∧S.length < 256 then S++[o.bare] else S
theorem PushTo.bare {E E':List OrdE} {o:OrdE} (h:PushTo E o E'):E'.map OrdE.bare=push1 (E.map OrdE.bare) o:=by
 unfold PushTo at h
 unfold push1
 rw [List.length_map]
 by_cases c:o.ck=0∧E.length < 256
 ·rw [if_pos c] at h ⊢
  obtain ⟨a,cc,rfl⟩:=h
  rw [List.map_append];rfl
 ·rw [if_neg c] at h ⊢
  rw [h]
theorem PushTo.more {E E':List OrdE} {o:OrdE} (h:PushTo E o E') (hi:o.In) (hE:∀ x∈E,x.In):(∀ x∈E',x.In)∧E'.length≤E.length+1:=by
 unfold PushTo at h
 by_cases c:o.ck=0∧E.length < 256
 ·rw [if_pos c] at h
  obtain ⟨a,cc,rfl⟩:=h
  refine ⟨fun x hx=>?_,by simp⟩
  rcases List.mem_append.1 hx with hx | hx
  ·exact hE x hx
  ·simp at hx;subst hx;exact ⟨hi.d,hi.id,hi.k,hi.C,hi.len⟩
 ·rw [if_neg c] at h
  rw [h];exact ⟨hE,by omega⟩
theorem ord_cells {w0 w:World} {l:List Thing} {g n cap:Nat} {L:List OrdE} (h:Own w0 w (Row 41 4 (.slice (some ⟨g,0,none⟩) n cap) n (cat OrdE.cs L)::l)) (hn:L.length=n) (j:Nat) (o:OrdE) (ho:L[j]? = some o) :
  w.cell? ⟨g,j*4,none⟩=some (.int .u8 (o.d:Int))∧w.cell? ⟨g,j*4+1,none⟩=some (.int .u32 (o.id:Int))∧w.cell? ⟨g,j*4+2,none⟩=some (.int .u8 (o.k:Int))∧w.cell? ⟨g,j*4+3,none⟩=some (.slice o.ao o.C.length o.cap):=by
 subst hn
 have hj:=(List.getElem?_eq_some_iff.1 ho).1
 have hl:∀ x:OrdE,(OrdE.cs x).length=4:=fun _=>rfl
 refine ⟨?_,?_,?_,?_⟩
 ·rw [h.row.cellAt _ (by omega)];exact (cat_at OrdE.cs 4 hl L j 0 o ho (by decide)).trans rfl
 ·rw [h.row.cellAt _ (by omega)];exact (cat_at OrdE.cs 4 hl L j 1 o ho (by decide)).trans rfl
 ·rw [h.row.cellAt _ (by omega)];exact (cat_at OrdE.cs 4 hl L j 2 o ho (by decide)).trans rfl
 ·rw [h.row.cellAt _ (by omega)];exact (cat_at OrdE.cs 4 hl L j 3 o ho (by decide)).trans rfl
theorem wfu32w {n:Nat} (h:n < 4294967296):(Lit.int .u32 (n:Int)).wf=true:=by
 simp [Lit.wf,IntKind.min,IntKind.max,IntKind.signed,IntKind.bits];omega
def wdK:Keys Tryz.prog 38 Nat where
 law:=int_keyed Tryz.underlying38
 val:=fun n=>.int .u32 (n:Int)
 lit:=fun n=>.int .u32 (n:Int)
 ok:=fun n=>n < 4294967296
 of:=fun h=>keyOf_int_mk Tryz.underlying38 (wfu32w h)
 inv:=by
  intro v l h
  obtain ⟨n,rfl,rfl,hw⟩:=Maps.keyOf_int_inv Tryz.underlying38 h
  have r:0≤n∧n≤4294967295:=by simpa [Lit.wf,IntKind.min,IntKind.max,IntKind.signed,IntKind.bits] using hw
  obtain ⟨i,rfl⟩:=Int.eq_ofNat_of_zero_le r.1
  exact ⟨i,by omega,rfl,rfl⟩
 inj:=by
  intro x y hx hy h
  have:=(Lit.int.inj h).2
  omega
 key:=fun _=>trivial
theorem len_sub {A:List Nat} (hA:A.Nodup):∀ {B:List Nat},(∀ x∈A,x∈B)→A.length≤B.length:=by
 induction A with
 | nil=>intro B _;exact Nat.zero_le _
 | cons a A ih =>
  intro B h
  obtain ⟨h1,h2⟩:=List.nodup_cons.1 hA
  have ha:=h a List.mem_cons_self
  have:=ih h2 (B:=B.erase a) (fun x hx=>(List.mem_erase_of_ne (fun e=>h1 (by rw [← e];exact hx))).2 (h x (List.mem_cons_of_mem _ hx)))
  have h3:=List.length_erase_of_mem ha
  have h4:=List.length_pos_of_mem ha
  rw [List.length_cons];omega
theorem KeyN.le {α:Type} {A:Nat→Option α} {sz:Nat} (h:KeyN A sz) {L:List Nat} (hn:L.Nodup) (hl:∀ i∈L,i < 4294967296∧(A i).isSome=true):L.length≤sz:=by
 obtain ⟨K,kn,kl,km,rfl⟩:=h
 exact len_sub hn (fun x hx=>(km x (hl x hx).1).2 (hl x hx).2)
end Go.Proofs.YtogmdoiecpihdaaGreatDoor
namespace Go.Proofs.YtogmdoiecpihdaaGreatDoor
open Go.RowKit Go.Maps
set_option linter.unusedVariables false
set_option maxHeartbeats 2000000
set_option maxRecDepth 100000
theorem gcp_some {σ:Sto} (hσ:σ.Ok) {id k:Nat} {c:Cp} (h:gcp σ id k=some c):id∈σ.S.list∧c∈σ.cps id∧c.k=k:=by
 unfold gcp at h
 split at h
 ·rename_i hid
  exact ⟨hid,List.mem_of_find?_eq_some h,by have:=List.find?_some h;simpa using this⟩
 ·cases h
theorem gcp_of {σ:Sto} (hσ:σ.Ok) {id:Nat} {c:Cp} (hid:id∈σ.S.list) (hc:c∈σ.cps id):gcp σ id c.k=some c:=by
 unfold gcp
 rw [if_pos hid]
 exact fst_one (cps_good hσ hid).1 hc
theorem gcp_none {σ:Sto} {id k:Nat} (h:gcp σ id k=none):id∈σ.S.list→∀ c∈σ.cps id,c.k≠k:=by
 intro hid c hc e
 unfold gcp at h
 rw [if_pos hid] at h
 have:=List.find?_eq_none.1 h c hc
 simp [e] at this
def InvM (σ:Sto) (S:Nat→Nat→Option SgE) (M:List MkE):Prop:=∀ id k,S id k=(gcp σ id k).map (fun c=>⟨(c.k:Int),c.a,c.b,c.c,chgM M id k⟩)
theorem new_list {n f:Nat} (hσ:(Sto.new n f).Ok):(Sto.new n f).S.list=[]:=by
 rw [List.eq_nil_iff_forall_not_mem]
 intro id h
 have:=(St.list_w hσ.s h).1
 simp [Sto.new,St.isLive,St.new] at this
theorem invM_new {n f:Nat} (hσ:(Sto.new n f).Ok):InvM (Sto.new n f) (fun _ _=>none) []:=by
 intro id k
 have:gcp (Sto.new n f) id k=none:=by
  unfold gcp
  rw [if_neg (by rw [new_list hσ];simp)]
 rw [this];rfl
theorem chgM_map {σ σ':Sto} (hσ':σ'.Ok) (M:List MkE) (T:Nat) {id:Nat} {c:Cp} (hid:id∈σ'.S.list) (hc:c∈σ'.cps id):chgM ((allS σ').map (mkA σ M T)) id c.k=(mkA σ M T (id,c)).t:=by
 unfold chgM
 rw [List.find?_map]
 have hm:(id,c)∈allS σ':=allS_mem.2 ⟨hid,hc⟩
 cases hf:(allS σ').find? (mkB id c.k ∘ mkA σ M T) with
 | none =>
  have:=List.find?_eq_none.1 hf _ hm
  simp [mkB,mkA] at this
 | some y =>
  have h1:=List.find?_some hf
  have h2:=List.mem_of_find?_eq_some hf
  have h1:y.1=id∧y.2.k=c.k:=by
   simp only [Function.comp_apply,mkB,mkA,Bool.and_eq_true] at h1
   exact ⟨of_decide_eq_true h1.1,of_decide_eq_true h1.2⟩
  have h3:=allS_one hσ' hm h2 h1.1 h1.2
  obtain ⟨yi,yc⟩:=y
  simp only at h1 h3
  rw [h1.1,h3]
  rfl
theorem invM_next {σ σ':Sto} {S:Nat→Nat→Option SgE} {M:List MkE} (h:InvM σ S M) (hσ:σ.Ok) (hσ':σ'.Ok) (T:Nat):InvM σ' (mapOf S T (allS σ')) ((allS σ').map (mkA σ M T)):=by
 intro id k
 cases hg:gcp σ' id k with
 | none=>exact look_no (gcp_none hg)
 | some c =>
  obtain ⟨hid,hc,rfl⟩:=gcp_some hσ' hg
  rw [look_has hσ' hid hc,Option.map_some,chgM_map hσ' M T hid hc]
  have hS:=h id c.k
  unfold mkA
  simp only
  cases hd:gcp σ id c.k with
  | none =>
   rw [hd] at hS
   rw [hS,if_neg (by simp)]
   rfl
  | some d =>
   rw [hd] at hS
   rw [hS]
   obtain ⟨_,_,hk⟩:=gcp_some hσ hd
   obtain ⟨ck,ca,cb,cc⟩:=c
   obtain ⟨dk,da,db,dc⟩:=d
   simp only at hk
   subst hk
   by_cases e:da=ca∧db=cb∧dc=cc
   ·obtain ⟨rfl,rfl,rfl⟩:=e
    simp [sgt]
   ·rw [if_neg (by intro q;injection q with q;injection q with _ q1 q2 q3;exact e ⟨q1,q2,q3⟩)]
    simp only [Option.map_some,sgt]
    rw [if_neg]
    simp only [Bool.and_eq_true,beq_iff_eq]
    rintro ⟨_,⟨q1,q2⟩,q3⟩
    exact e ⟨q1,q2,q3⟩
theorem up_one {α:Type} (f:α→Nat):∀ {A B:List α},A.Pairwise (fun a b=>f a < f b)→B.Pairwise (fun a b=>f a < f b)→(∀ x,x∈A ↔ x∈B)→A=B
 | [],[],_,_,_=>rfl
 | [],b::B,_,_,h=>by have:=(h b).2 List.mem_cons_self;cases this
 | a::A,[],_,_,h=>by have:=(h a).1 List.mem_cons_self;cases this
 | a::A,b::B,hA,hB,h=>by
  obtain ⟨a1,a2⟩:=List.pairwise_cons.1 hA
  obtain ⟨b1,b2⟩:=List.pairwise_cons.1 hB
  have e:a=b:=by
   rcases List.mem_cons.1 ((h a).1 List.mem_cons_self) with e | ha
   ·exact e
   ·rcases List.mem_cons.1 ((h b).2 List.mem_cons_self) with e | hb
    ·exact e.symm
    ·have:=b1 a ha;have:=a1 b hb;omega
  subst e
  congr 1
  refine up_one f a2 b2 (fun x=>⟨fun hx=>?_,fun hx=>?_⟩)
  ·rcases List.mem_cons.1 ((h x).1 (List.mem_cons_of_mem _ hx)) with rfl | h2
   ·have:=a1 x hx;omega
   ·exact h2
  ·rcases List.mem_cons.1 ((h x).2 (List.mem_cons_of_mem _ hx)) with rfl | h2
   ·have:=b1 x hx;omega
   ·exact h2
def isR (σ:Sto) (x:Nat × Cp):Prop:=gcp σ x.1 x.2.k≠some x.2∧x.2.k=0
def plR (x:Nat × Cp):PlE:=⟨x.1,true,x.2.a,x.2.b⟩
theorem plA_eq (σ:Sto) (P:List PlE) (x:Nat × Cp):(isR σ x∧plA σ P x=ins P (plR x))∨(¬ isR σ x∧plA σ P x=P):=by
 unfold plA isR plR
 by_cases h:gcp σ x.1 x.2.k=some x.2
 ·rw [if_pos h];exact .inr ⟨fun q=>q.1 h,rfl⟩
 ·rw [if_neg h]
  by_cases k:x.2.k=0
  ·rw [if_pos k];exact .inl ⟨⟨h,k⟩,rfl⟩
  ·rw [if_neg k];exact .inr ⟨fun q=>k q.2,rfl⟩
theorem ins_mem {P:List PlE} {p q:PlE}:q∈ins P p ↔ q=p∨q∈P:=by
 rw [(ins_perm p P).mem_iff,List.mem_cons]
theorem plA_mem (σ:Sto) (A:List (Nat × Cp)):∀ (P:List PlE) (p:PlE),p∈A.foldl (plA σ) P ↔ p∈P∨∃ x∈A,isR σ x∧p=plR x:=by
 induction A with
 | nil=>intro P p;simp
 | cons x A ih =>
  intro P p
  rw [List.foldl_cons,ih]
  rcases plA_eq σ P x with ⟨h,e⟩ | ⟨h,e⟩
  ·rw [e,ins_mem]
   constructor
   ·rintro ((rfl | h1) | ⟨y,hy,h2,h3⟩)
    ·exact .inr ⟨x,List.mem_cons_self,h,rfl⟩
    ·exact .inl h1
    ·exact .inr ⟨y,List.mem_cons_of_mem _ hy,h2,h3⟩
   ·rintro (h1 | ⟨y,hy,h2,h3⟩)
    ·exact .inl (.inr h1)
    ·rcases List.mem_cons.1 hy with rfl | hy
     ·exact .inl (.inl h3)
     ·exact .inr ⟨y,hy,h2,h3⟩
  ·rw [e]
   constructor
   ·rintro (h1 | ⟨y,hy,h2,h3⟩)
    ·exact .inl h1
    ·exact .inr ⟨y,List.mem_cons_of_mem _ hy,h2,h3⟩
   ·rintro (h1 | ⟨y,hy,h2,h3⟩)
    ·exact .inl h1
    ·rcases List.mem_cons.1 hy with rfl | hy
     ·exact absurd h2 h
     ·exact .inr ⟨y,hy,h2,h3⟩
def UpP (P:List PlE):Prop:=P.Pairwise (fun a b=>a.id < b.id)
theorem plA_up (σ:Sto) (A:List (Nat × Cp)):∀ (P:List PlE),UpP P→(∀ x∈A,x.2.k=0→∀ p∈P,p.id≠x.1)→A.Pairwise (fun x y=>x.2.k=0→y.2.k=0→x.1≠y.1)→UpP (A.foldl (plA σ) P):=by
 induction A with
 | nil=>intro P h _ _;exact h
 | cons x A ih =>
  intro P h hn hp
  obtain ⟨p1,p2⟩:=List.pairwise_cons.1 hp
  rw [List.foldl_cons]
  rcases plA_eq σ P x with ⟨hr,e⟩ | ⟨hr,e⟩
  ·rw [e]
   refine ih _ (ins_up _ _ h (fun p hp=>hn x List.mem_cons_self hr.2 p hp)) (fun y hy hk p hp=>?_) p2
   rcases ins_mem.1 hp with rfl | hp
   ·exact p1 y hy hr.2 hk
   ·exact hn y (List.mem_cons_of_mem _ hy) hk p hp
  ·rw [e]
   exact ih _ h (fun y hy=>hn y (List.mem_cons_of_mem _ hy)) p2
def isL (σ σ':Sto) (id:Nat):Prop:=(gcp σ id 0).isNone=false∧(gcp σ' id 0).isNone=true
theorem plB_eq (σ σ':Sto) (P:List PlE) (id:Nat):(isL σ σ' id∧plB σ σ' P id=ins P ⟨id,false,0,0⟩)∨(¬ isL σ σ' id∧plB σ σ' P id=P):=by
 unfold plB isL
 by_cases h:(gcp σ id 0).isNone=true
 ·rw [if_pos h];exact .inr ⟨fun q=>(by rw [h] at q;cases q.1),rfl⟩
 ·rw [if_neg h]
  by_cases k:(gcp σ' id 0).isNone=true
  ·rw [if_pos k];exact .inl ⟨⟨by cases hq:(gcp σ id 0).isNone with | true=>exact absurd hq h | false=>rfl,k⟩,rfl⟩
  ·rw [if_neg k];exact .inr ⟨fun q=>k q.2,rfl⟩
theorem plB_mem (σ σ':Sto) (B:List Nat):∀ (P:List PlE) (p:PlE),p∈B.foldl (plB σ σ') P ↔ p∈P∨∃ id∈B,isL σ σ' id∧p=⟨id,false,0,0⟩:=by
 induction B with
 | nil=>intro P p;simp
 | cons x A ih =>
  intro P p
  rw [List.foldl_cons,ih]
  rcases plB_eq σ σ' P x with ⟨h,e⟩ | ⟨h,e⟩
  ·rw [e,ins_mem]
   constructor
   ·rintro ((rfl | h1) | ⟨y,hy,h2,h3⟩)
    ·exact .inr ⟨x,List.mem_cons_self,h,rfl⟩
    ·exact .inl h1
    ·exact .inr ⟨y,List.mem_cons_of_mem _ hy,h2,h3⟩
   ·rintro (h1 | ⟨y,hy,h2,h3⟩)
    ·exact .inl (.inr h1)
    ·rcases List.mem_cons.1 hy with rfl | hy
     ·exact .inl (.inl h3)
     ·exact .inr ⟨y,hy,h2,h3⟩
  ·rw [e]
   constructor
   ·rintro (h1 | ⟨y,hy,h2,h3⟩)
    ·exact .inl h1
    ·exact .inr ⟨y,List.mem_cons_of_mem _ hy,h2,h3⟩
   ·rintro (h1 | ⟨y,hy,h2,h3⟩)
    ·exact .inl h1
    ·rcases List.mem_cons.1 hy with rfl | hy
     ·exact absurd h2 h
     ·exact .inr ⟨y,hy,h2,h3⟩
theorem plB_up (σ σ':Sto) (B:List Nat):∀ (P:List PlE),UpP P→(∀ x∈B,isL σ σ' x→∀ p∈P,p.id≠x)→B.Nodup→UpP (B.foldl (plB σ σ') P):=by
 induction B with
 | nil=>intro P h _ _;exact h
 | cons x B ih =>
  intro P h hn hp
  obtain ⟨p1,p2⟩:=List.nodup_cons.1 hp
  rw [List.foldl_cons]
  rcases plB_eq σ σ' P x with ⟨hr,e⟩ | ⟨hr,e⟩
  ·rw [e]
   refine ih _ (ins_up _ _ h (fun p hp=>hn x List.mem_cons_self hr p hp)) (fun y hy hk p hp=>?_) p2
   rcases ins_mem.1 hp with rfl | hp
   ·rintro rfl;exact p1 hy
   ·exact hn y (List.mem_cons_of_mem _ hy) hk p hp
  ·rw [e]
   exact ih _ h (fun y hy=>hn y (List.mem_cons_of_mem _ hy)) p2
theorem allS_pos {σ:Sto} (hσ:σ.Ok):(allS σ).Pairwise (fun x y=>x.2.k=0→y.2.k=0→x.1≠y.1):=by
 unfold allS
 rw [List.pairwise_flatMap]
 refine ⟨fun id hid=>?_,?_⟩
 ·rw [List.pairwise_map]
  refine (cps_good hσ hid).1.imp ?_
  intro a b h h1 h2
  simp only at h1 h2
  omega
 ·refine (St.list_nodup hσ.s).imp ?_
  intro a b hab x hx y hy _ _
  obtain ⟨c,_,rfl⟩:=List.mem_map.1 hx
  obtain ⟨d,_,rfl⟩:=List.mem_map.1 hy
  exact hab
theorem places_same {σ σ':Sto} {S:Nat→Nat→Option SgE} {M:List MkE} {T:Nat} {P:List PlE} (h:InvM σ S M) (hσ:σ.Ok) (hσ':σ'.Ok) (hT:∀ i k s,S i k=some s→s.t≠T) (hP:PlOf S (mapOf S T (allS σ')) T P):P=σ.S.list.foldl (plB σ σ') ((allS σ').foldl (plA σ) []):=by
 obtain ⟨L1,L2,⟨n1,o1,m1⟩,⟨n2,o2,m2⟩,hp,hs⟩:=hP
 have hS':∀ i k,mapOf S T (allS σ') i k=(gcp σ' i k).map (fun c=>⟨(c.k:Int),c.a,c.b,c.c,chgM ((allS σ').map (mkA σ M T)) i k⟩):=invM_next h hσ hσ' T
 have hid':∀ {i k c},gcp σ' i k=some c→i < 4294967296:=fun hg=>(St.list_w hσ'.s (gcp_some hσ' hg).1).2
 have hid0:∀ {i k c},gcp σ i k=some c→i < 4294967296:=fun hg=>(St.list_w hσ.s (gcp_some hσ hg).1).2
 have hup:UpP P:=by
  have hnd:(P.map PlE.id).Nodup:=by
   rw [(hp.map PlE.id).nodup_iff,List.map_append,List.nodup_append]
   refine ⟨n1,n2,?_⟩
   rintro a ha b hb rfl
   obtain ⟨q,hq,e⟩:=List.mem_map.1 ha
   have hl:a < 4294967296:=by rw [← e];exact (o1 q hq).1
   have h1:=((m1 a hl).1 ha).2.2
   obtain ⟨_,s,h2,_⟩:=(m2 a hl).1 hb
   unfold sgp at h1
   rw [h2] at h1
   cases h1
  have hne:=List.pairwise_map.1 hnd
  exact (hs.and hne).imp (fun ⟨a,b⟩=>by omega)
 have hA:UpP ((allS σ').foldl (plA σ) []):=plA_up σ _ [] List.Pairwise.nil (fun _ _ _ _ h=>by cases h) (allS_pos hσ')
 have hB:UpP (σ.S.list.foldl (plB σ σ') ((allS σ').foldl (plA σ) [])):=by
  refine plB_up σ σ' _ _ hA (fun id hid hl p hp e=>?_) (St.list_nodup hσ.s)
  rcases (plA_mem σ _ _ _).1 hp with hp | ⟨x,hx,hr,rfl⟩
  ·cases hp
  ·obtain ⟨hx1,hx2⟩:=allS_mem.1 hx
   have:=gcp_of hσ' hx1 hx2
   rw [hr.2] at this
   have h2:=hl.2
   have e:x.1=id:=e
   rw [← e,this] at h2
   cases h2
 refine up_one PlE.id hup hB (fun p=>?_)
 rw [hp.mem_iff,List.mem_append,plB_mem,plA_mem]
 constructor
 ·rintro (hp1 | hp2)
  ·obtain ⟨b1,b2,b3,b4⟩:=o1 p hp1
   obtain ⟨_,c1,c2⟩:=(m1 p.id b1).1 (List.mem_map.2 ⟨p,hp1,rfl⟩)
   unfold sgp at c1 c2
   rw [h p.id 0] at c1
   rw [hS' p.id 0] at c2
   refine .inr ⟨p.id,?_,⟨?_,?_⟩,?_⟩
   ·cases hg:gcp σ p.id 0 with
    | none=>rw [hg] at c1;simp at c1
    | some c=>exact (gcp_some hσ hg).1
   ·cases hg:gcp σ p.id 0 with
    | none=>rw [hg] at c1;simp at c1
    | some c=>rfl
   ·cases hg:gcp σ' p.id 0 with
    | none=>rfl
    | some c=>rw [hg] at c2;simp at c2
   ·obtain ⟨pi,po,px,py⟩:=p
    simp only at b2 b3 b4
    rw [b2,b3,b4]
  ·obtain ⟨b1,b2,s,b3,b4,b5,b6⟩:=o2 p hp2
   refine .inl (.inr ?_)
   rw [hS' p.id 0] at b3
   cases hg:gcp σ' p.id 0 with
   | none=>rw [hg] at b3;simp at b3
   | some c =>
    obtain ⟨g1,g2,g3⟩:=gcp_some hσ' hg
    rw [hg] at b3
    simp only [Option.map_some,Option.some.injEq] at b3
    refine ⟨(p.id,c),allS_mem.2 ⟨g1,g2⟩,⟨?_,g3⟩,?_⟩
    ·intro he
     simp only at he
     have ht:s.t=(mkA σ M T (p.id,c)).t:=by
      rw [← b3]
      show chgM _ _ _=_
      rw [← g3]
      exact chgM_map hσ' M T g1 g2
     unfold mkA at ht
     simp only at ht
     rw [if_pos he] at ht
     have hh:=h p.id c.k
     rw [he] at hh
     exact hT _ _ _ hh (by show chgM M p.id c.k=T;rw [← ht];exact b4)
    ·obtain ⟨pi,po,px,py⟩:=p
     simp only at b2 b5 b6
     rw [b2,b5,b6,← b3]
     rfl
 ·rintro ((hp | ⟨x,hx,hr,rfl⟩) | ⟨id,hid,hl,rfl⟩)
  ·cases hp
  ·right
   obtain ⟨hx1,hx2⟩:=allS_mem.1 hx
   have hg:=gcp_of hσ' hx1 hx2
   have hlt:=hid' hg
   have ht:chgM ((allS σ').map (mkA σ M T)) x.1 x.2.k=T:=by
    rw [chgM_map hσ' M T hx1 hx2]
    unfold mkA
    simp only
    rw [if_neg hr.1]
   have hs':=hS' x.1 x.2.k
   rw [hg,Option.map_some,ht] at hs'
   rw [hr.2] at hs'
   obtain ⟨q,hq,e⟩:=List.mem_map.1 ((m2 x.1 hlt).2 ⟨rfl,_,hs',rfl⟩)
   obtain ⟨_,q2,s,q3,q4,q5,q6⟩:=o2 q hq
   rw [e,hs'] at q3
   injection q3 with q3
   rw [← q3] at q5 q6
   have:q=plR x:=by
    obtain ⟨qi,qo,qx,qy⟩:=q
    simp only at e q2 q5 q6
    unfold plR
    rw [e,q2,q5,q6]
   rw [← this];exact hq
  ·left
   obtain ⟨l1,l2⟩:=hl
   cases hg:gcp σ id 0 with
   | none=>rw [hg] at l1;cases l1
   | some c =>
    have hlt:=hid0 hg
    have h2:gcp σ' id 0=none:=by simpa using l2
    have a1:(sgp S id 0).isSome=true:=by unfold sgp;rw [h id 0,hg];rfl
    have a2:sgp (mapOf S T (allS σ')) id 0=none:=by unfold sgp;rw [hS' id 0,h2];rfl
    obtain ⟨q,hq,e⟩:=List.mem_map.1 ((m1 id hlt).2 ⟨rfl,a1,a2⟩)
    obtain ⟨_,q2,q3,q4⟩:=o1 q hq
    have:q=⟨id,false,0,0⟩:=by
     obtain ⟨qi,qo,qx,qy⟩:=q
     simp only at e q2 q3 q4
     rw [e,q2,q3,q4]
    rw [← this];exact hq
theorem ticks_next {σ:Sto} (hσ:σ.Ok) {S:Nat→Nat→Option SgE} {T:Nat} (h:∀ i k s,S i k=some s→s.t≤T):∀ i k s,mapOf S (T+1) (allS σ) i k=some s→s.t≤T+1:=by
 intro i k s hs
 by_cases e:s.t=T+1
 ·omega
 ·have:=h i k s (look_old hσ hs e)
  omega
def MkOf (σ:Sto) (M:List MkE):Prop:=M=(allS σ).map (fun x=>⟨x.1,x.2.k,chgM M x.1 x.2.k⟩)
theorem mkOf_next {σ σ':Sto} (hσ':σ'.Ok) (M:List MkE) (T:Nat):MkOf σ' ((allS σ').map (mkA σ M T)):=by
 unfold MkOf
 refine List.map_congr_left (fun x hx=>?_)
 obtain ⟨h1,h2⟩:=allS_mem.1 hx
 have:=chgM_map (σ:=σ) hσ' M T h1 h2
 show mkA σ M T x=⟨x.1,x.2.k,_⟩
 rw [this]
 rfl
def RWdL (la:Option Addr) (lc b:Nat) (y:RWd) (bs:Nat) (wv mv pv:Value) (xs:RX):List Thing:=[SeeT la lc bs y.σ xs,Cells b (rwcs bs wv y.T mv pv) 109,WtT wv y.E,Row 121 3 mv y.M.length (cat MkE.cs y.M),Row 126 4 pv y.P.length (cat PlE.cs y.P)]
theorem Own.rwC {w0 w:World} {l:List Thing} {la:Option Addr} {lc b bs K:Nat} {y:RWd} {wv mv pv:Value} {xs:RX} (h:Own w0 w (RWdL la lc b y bs wv mv pv xs++l)) (hx:RXok y.σ xs K):Own w0 w (RWdT b y K::l):=by
 have h1:Own w0 w (SeeT la lc bs y.σ xs::Cells b (rwcs bs wv y.T mv pv) 109::WtT wv y.E::Row 121 3 mv y.M.length (cat MkE.cs y.M)::Row 126 4 pv y.P.length (cat PlE.cs y.P)::l):=h
 exact Own.rwS (RSto.mk hx h1.seeO.tail)
theorem rlist15 (w0 w:World) (l:List Thing) (b K:Nat) (y:RWd) (h:Own w0 w (RWdT b y K::l)) (hσ:y.σ.Ok) (hK:K≤1000000) :
  Calls Tryz.prog 61 #[.pointer (some ⟨b,0,none⟩)] w fun e w'=>∃ la lc bs wv mv pv xs,e=.returned (.slice la y.σ.S.list.length lc)∧RXok y.σ xs K∧Own w0 w' (RWdL la lc b y bs wv mv pv xs++l):=by
 obtain ⟨bs,wv,mv,pv,h⟩:=h.rwO
 obtain ⟨xs,hxs,h1⟩:=RSto.opn h
 have q0:=h1.two.cell 0
 simp [rwcs] at q0
 have HX:Hid (RXok y.σ xs K):=hxs
 have HL:Hid (Calls _ _ _ _ _):=rlistS w0 w _ bs y.σ K xs h1 hxs hσ (by omega) (fun id hid=>(St.list_w hσ.s hid).1)
 clear h h1 hxs hσ
 go_enter Tryz.func61,Tryz.ntmps61
 go_wp2_with fail
 refine HL.out.mono ?_
 rintro e w1 ⟨la,lc,rfl,hO⟩
 have HS:Hid (Own w0 w1 _):=hO.seeS
 clear hO HL
 go_wp2
 go_ret
 exact ⟨la,lc,bs,wv,mv,pv,xs,rfl,HX.out,HS.out⟩
def RLT (la:Option Addr) (lc b:Nat) (y:RWd) (bs:Nat) (wv mv pv:Value) (xs:RX):Thing:=Ex (fun _:Unit=>RWdL la lc b y bs wv mv pv xs)
theorem Own.rlO {w0 w:World} {l:List Thing} {la:Option Addr} {lc b bs:Nat} {y:RWd} {wv mv pv:Value} {xs:RX} (h:Own w0 w (RLT la lc b y bs wv mv pv xs::l)):Own w0 w (SeeT la lc bs y.σ xs::Cells b (rwcs bs wv y.T mv pv) 109::WtT wv y.E::Row 121 3 mv y.M.length (cat MkE.cs y.M)::Row 126 4 pv y.P.length (cat PlE.cs y.P)::l):=by
 obtain ⟨_,h⟩:=Own.ex_iff.1 h
 exact h
theorem Own.rlS {w0 w:World} {l:List Thing} {la:Option Addr} {lc b bs:Nat} {y:RWd} {wv mv pv:Value} {xs:RX} (h:Own w0 w (RWdL la lc b y bs wv mv pv xs++l)):Own w0 w (RLT la lc b y bs wv mv pv xs::l):=Own.ex_iff.2 ⟨(),h⟩
theorem csz_six {L:List EnE} (h:∀ x∈L,x.C.length≤6):csz L≤6*L.length:=by
 induction L with
 | nil=>simp [csz]
 | cons x L ih =>
  have h1:=h x List.mem_cons_self
  have h2:=ih (fun z hz=>h z (List.mem_cons_of_mem _ hz))
  unfold csz
  rw [List.length_cons]
  omega
end Go.Proofs.YtogmdoiecpihdaaGreatDoor
