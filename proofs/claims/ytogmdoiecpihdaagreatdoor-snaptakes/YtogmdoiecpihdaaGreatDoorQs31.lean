/- The document's store in memory: its numbers, and its 64 tables within one block. -/
import Derived.Test.YtogmdoiecpihdaaGreatDoorQs28
import Derived.Test.YtogmdoiecpihdaaGreatDoorQs15
import Derived.Test.YtogmdoiecpihdaaGreatDoorQs30
import Derived.Test.YtogmdoiecpihdaaGreatDoorQs14
import Derived.Deep.RegionLaw
namespace Go.Proofs.YtogmdoiecpihdaaGreatDoor
open Go.RowKit Go.Maps
set_option linter.unusedVariables false
set_option maxHeartbeats 4000000
set_option maxRecDepth 100000
def rpair (v:Nat→Value) (k:Nat):Value:=if k % 2=0 then .int .u8 ((k / 2:Nat):Int) else v (k / 2)
def rscells (bs:Nat) (v:Nat→Value):Array Value:=(Value.pointer (some ⟨bs,0,none⟩)::(List.range 128).map (rpair v)).toArray
theorem rscells_size (bs:Nat) (v:Nat→Value):(rscells bs v).size=129:=by simp [rscells]
theorem rscells_ids (bs:Nat) (v:Nat→Value):(rscells bs v)[0]? = some (.pointer (some ⟨bs,0,none⟩)):=by simp [rscells]
theorem rscells_at (bs:Nat) (v:Nat→Value) (k:Nat) (hk:k < 128):(rscells bs v)[k+1]? = some (rpair v k):=by simp [rscells,hk]
theorem rscells_m (bs:Nat) (v:Nat→Value) (k:Nat) (hk:k < 64):(rscells bs v)[1+k*2]? = some (.int .u8 (k:Int)):=by
 rw [Nat.add_comm,rscells_at _ _ _ (by omega)]
 unfold rpair
 rw [if_pos (by omega),show k*2 / 2=k by omega]
theorem rscells_v (bs:Nat) (v:Nat→Value) (k:Nat) (hk:k < 64):(rscells bs v)[1+k*2+1]? = some (v k):=by
 rw [show 1+k*2+1=(k*2+1)+1 by omega,rscells_at _ _ _ (by omega)]
 unfold rpair
 rw [if_neg (by omega),show (k*2+1) / 2=k by omega]
theorem rscells_set (bs:Nat) (v:Nat→Value) (k:Nat) (hk:k < 64) (u:Value):(rscells bs v).setIfInBounds (1+k*2+1) u=rscells bs (upd v k u):=by
 rw [show 1+k*2+1=(k*2+1)+1 by omega]
 unfold rscells
 rw [List.setIfInBounds_toArray,List.set_cons_succ]
 have:((List.range 128).map (rpair v)).set (k*2+1) u=(List.range 128).map (rpair (upd v k u)):=by
  apply List.ext_getElem?
  intro i
  rw [List.getElem?_set]
  simp only [List.length_map,List.length_range,List.getElem?_map]
  by_cases c:k*2+1=i
  ·subst c
   rw [if_pos rfl,if_pos (by omega),List.getElem?_range (by omega)]
   show some u=some (rpair _ _)
   unfold rpair
   rw [if_neg (by omega),show (k*2+1) / 2=k by omega,upd_same]
  ·rw [if_neg c]
   by_cases d:i < 128
   ·rw [List.getElem?_range d]
    show some (rpair _ _)=some (rpair _ _)
    unfold rpair
    by_cases e:i % 2=0
    ·rw [if_pos e,if_pos e]
    ·rw [if_neg e,if_neg e,upd_other _ _ _ (by omega)]
   ·rw [List.getElem?_eq_none (by simp;omega)];rfl
 rw [this]
def RTE (v:Value) (E:List REnt):Thing:=Ex (fun _:Unit=>Row 76 2 v E.length (cat rcells E)::E.map rrow)
structure RX where
 bs:Nat
 v:Nat→Value
 f:Nat→Nat
 ck:Nat
 E:Nat→List REnt
def RTabsOn (is:List Nat) (v:Nat→Value) (E:Nat→List REnt):Thing:=Ex (fun _:Unit=>is.map (fun m=>RTE (v m) (E m)))
def RSX (b:Nat) (S:St) (x:RX):Thing:=Ex (fun _:Unit=>[Cells b (rscells x.bs x.v) 186,RSlots x.bs S x.f x.ck,RTabsOn (List.range 64) x.v x.E])
structure RXok (σ:Sto) (x:RX) (K:Nat):Prop where
 st:Stamp σ.S x.f x.ck
 ck:x.ck≤K
 E:∀ m,m < 64→(x.E m).map REnt.e=σ.T m
 len:∀ m,m < 64→(σ.T m).length≤K
def RSto (b:Nat) (σ:Sto) (K:Nat):Thing:=Ex (fun x:RX=>[Fact (RXok σ x K),RSX b σ.S x])
section
variable {w0 w:World} {l:List Thing} {b k K:Nat} {v:Value} {E:List REnt} {L:List Ent} {S:St} {x:RX} {σ:Sto} {is:List Nat} {vv vv':Nat→Value} {EE EE':Nat→List REnt}
theorem RTE.iff:Own w0 w (RTE v E::l) ↔ Own w0 w (Row 76 2 v E.length (cat rcells E)::(E.map rrow++l)) :=
 ⟨fun h=>by obtain ⟨_,h⟩:=Own.ex_iff.1 h;exact h,fun h=>Own.ex_iff.2 ⟨(),h⟩⟩
theorem RTabsOn.pull (hk:k∈is):Own w0 w (RTabsOn is vv EE::l) ↔ Own w0 w (RTE (vv k) (EE k)::RTabsOn (is.erase k) vv EE::l):=by
 have hp:(is.map (fun m=>RTE (vv m) (EE m))).Perm (RTE (vv k) (EE k)::(is.erase k).map (fun m=>RTE (vv m) (EE m))):=(List.perm_cons_erase hk).map (fun m=>RTE (vv m) (EE m))
 constructor
 ·intro h
  obtain ⟨_,h⟩:=Own.ex_iff.1 h
  exact Own.ex2.2 ⟨(),h.perm (hp.append_right l)⟩
 ·intro h
  obtain ⟨_,h⟩:=Own.ex2.1 h
  exact Own.ex_iff.2 ⟨(),h.perm (hp.append_right l).symm⟩
theorem RTabsOn.congr (h:∀ m∈is,vv m=vv' m∧EE m=EE' m):RTabsOn is vv EE=RTabsOn is vv' EE':=by
 unfold RTabsOn
 have:is.map (fun m=>RTE (vv m) (EE m))=is.map (fun m=>RTE (vv' m) (EE' m)):=List.map_congr_left (fun m hm=>by rw [(h m hm).1,(h m hm).2])
 rw [this]
theorem RSX.iff:Own w0 w (RSX b S x::l) ↔ Own w0 w (Cells b (rscells x.bs x.v) 186::RSlots x.bs S x.f x.ck::RTabsOn (List.range 64) x.v x.E::l) :=
 ⟨fun h=>by obtain ⟨_,h⟩:=Own.ex_iff.1 h;exact h,fun h=>Own.ex_iff.2 ⟨(),h⟩⟩
theorem RSto.opn (h:Own w0 w (RSto b σ K::l)):∃ x,RXok σ x K∧Own w0 w (RSX b σ.S x::l):=by
 obtain ⟨x,h⟩:=Own.ex_iff.1 h
 have h':Own w0 w (Fact (RXok σ x K)::RSX b σ.S x::l):=h
 exact ⟨x,(Own.fact.1 h').1,(Own.fact.1 h').2⟩
theorem RSto.mk (hx:RXok σ x K) (h:Own w0 w (RSX b σ.S x::l)):Own w0 w (RSto b σ K::l):=Own.ex_iff.2 ⟨x,Own.fact.2 ⟨hx,h⟩⟩
theorem RSX.out (h:Own w0 w (RSX b S x::l)) (hk:k < 64):Own w0 w (RTab b (1+k*2) (rscells x.bs x.v) k ((x.E k).map REnt.e)::RSlots x.bs S x.f x.ck::RTabsOn ((List.range 64).erase k) x.v x.E::l):=by
 have h3:=RSX.iff.1 h
 have h4:=(RTabsOn.pull (k:=k) (by simpa using hk)).1 h3.three
 have h5:=RTE.iff.1 h4
 have e:(rscells x.bs x.v).setIfInBounds (1+k*2+1) (x.v k)=rscells x.bs x.v:=by
  rw [rscells_set _ _ _ hk]
  congr 1
  funext i
  by_cases c:i=k
  ·subst c;exact upd_same _ _ _
  ·exact upd_other _ _ _ c
 refine RTab.shut (v:=x.v k) (E:=x.E k) rfl ⟨rscells_m _ _ _ hk,by rw [rscells_size];omega⟩ ?_
 rw [e]
 refine h5.perm ?_
 refine List.Perm.trans ?_ (List.Perm.swap _ _ _)
 refine List.Perm.cons _ ?_
 have:((x.E k).map rrow++RTabsOn ((List.range 64).erase k) x.v x.E::Cells b (rscells x.bs x.v) 186::RSlots x.bs S x.f x.ck::l).Perm (Cells b (rscells x.bs x.v) 186::((x.E k).map rrow++RTabsOn ((List.range 64).erase k) x.v x.E::RSlots x.bs S x.f x.ck::l)):=by
  have:=List.perm_middle (a:=Cells b (rscells x.bs x.v) 186) (l₁:=(x.E k).map rrow++[RTabsOn ((List.range 64).erase k) x.v x.E]) (l₂:=RSlots x.bs S x.f x.ck::l)
  simpa using this
 refine this.trans (List.Perm.cons _ ((List.Perm.swap _ _ _).append_left _))
theorem RSX.into {bs ck:Nat} {f:Nat→Nat} (hk:k < 64) (h:Own w0 w (RTab b (1+k*2) (rscells bs vv) k L::RSlots bs S f ck::RTabsOn ((List.range 64).erase k) vv EE::l)) :
  ∃ v' E',E'.map REnt.e=L∧Own w0 w (RSX b S ⟨bs,upd vv k v',f,ck,upd EE k E'⟩::l):=by
 obtain ⟨v',E',hE,h1⟩:=RTab.open h
 refine ⟨v',E',hE,RSX.iff.2 ?_⟩
 rw [rscells_set _ _ _ hk] at h1
 have h2:Own w0 w (RTE v' E'::RTabsOn ((List.range 64).erase k) vv EE::Cells b (rscells bs (upd vv k v')) 186::RSlots bs S f ck::l):=by
  refine RTE.iff.2 (h1.perm ?_)
  refine (List.Perm.swap _ _ _).trans ?_
  refine List.Perm.cons _ ?_
  have:=List.perm_middle (a:=Cells b (rscells bs (upd vv k v')) 186) (l₁:=E'.map rrow++[RTabsOn ((List.range 64).erase k) vv EE]) (l₂:=RSlots bs S f ck::l)
  have h3:(E'.map rrow++RTabsOn ((List.range 64).erase k) vv EE::Cells b (rscells bs (upd vv k v')) 186::RSlots bs S f ck::l).Perm (Cells b (rscells bs (upd vv k v')) 186::(E'.map rrow++RTabsOn ((List.range 64).erase k) vv EE::RSlots bs S f ck::l)):=by simpa using this
  refine List.Perm.trans (List.Perm.cons _ ((List.Perm.swap _ _ _).append_left _)) h3.symm
 have e1:RTabsOn ((List.range 64).erase k) vv EE=RTabsOn ((List.range 64).erase k) (upd vv k v') (upd EE k E'):=RTabsOn.congr (fun m hm=>⟨(upd_other _ _ _ (but_mem hm)).symm,(upd_other _ _ _ (but_mem hm)).symm⟩)
 rw [e1] at h2
 have h4:Own w0 w (RTE (upd vv k v' k) (upd EE k E' k)::RTabsOn ((List.range 64).erase k) (upd vv k v') (upd EE k E')::Cells b (rscells bs (upd vv k v')) 186::RSlots bs S f ck::l):=by rw [upd_same,upd_same];exact h2
 have h5:=(RTabsOn.pull (k:=k) (by simpa using hk)).2 h4
 refine h5.perm ?_
 exact (List.Perm.swap _ _ _).trans ((List.Perm.swap _ _ _).cons _)
theorem RXok.upd {v':Value} {E':List REnt} {mks:List Nat} (hx:RXok σ x K) (hk:k < 64) (hE:E'.map REnt.e=L) (hL:L.length≤K):RXok ⟨σ.S,mks,Go.Proofs.YtogmdoiecpihdaaGreatDoor.upd σ.T k L⟩ ⟨x.bs,Go.Proofs.YtogmdoiecpihdaaGreatDoor.upd x.v k v',x.f,x.ck,Go.Proofs.YtogmdoiecpihdaaGreatDoor.upd x.E k E'⟩ K:=by
 refine ⟨hx.st,hx.ck,fun m hm=>?_,fun m hm=>?_⟩
 ·by_cases c:m=k
  ·subst c;simp only [upd_same];exact hE
  ·simp only [upd_other _ _ _ c];exact hx.E m hm
 ·by_cases c:m=k
  ·subst c;simp only [upd_same];exact hL
  ·simp only [upd_other _ _ _ c];exact hx.len m hm
theorem RXok.mono {K':Nat} (hx:RXok σ x K) (h:K≤K'):RXok σ x K':=⟨hx.st,Nat.le_trans hx.ck h,hx.E,fun m hm=>Nat.le_trans (hx.len m hm) h⟩
theorem Own.rstoK {K':Nat} (h:K≤K') (hO:Own w0 w (RSto b σ K::l)):Own w0 w (RSto b σ K'::l):=by
 obtain ⟨x,hx,hO⟩:=RSto.opn hO
 exact RSto.mk (hx.mono h) hO
end
def Whr (σ:Sto) (id m0:Nat):Prop:=m0≤64∧(∀ j,j < m0→plc (σ.T j) id=none)∧(m0 < 64→∃ r,plc (σ.T m0) id=some r)
theorem whr_dead {σ:Sto} (h:σ.Ok) {id:Nat} (hl:σ.S.isLive id=false):Whr σ id 64:=by
 refine ⟨Nat.le_refl _,fun j hj=>(plc_none _ _).2 (fun e he q=>?_),fun h=>by omega⟩
 have:=(h.lv j hj e he).1
 rw [q,hl] at this
 cases this
theorem whr_live {σ:Sto} (h:σ.Ok) {id:Nat} (hl:σ.S.isLive id=true):Whr σ id (σ.hom id)∧σ.hom id < 64:=by
 obtain ⟨m,hm,h1,r,h2⟩:=h.hm id hl
 have e:σ.hom id=m:=gd_some h1
 rw [e]
 refine ⟨⟨by omega,fun j hj=>(plc_none _ _).2 (fun d hd q=>?_),fun _=>⟨r,h2⟩⟩,hm⟩
 have:=(h.lv j (by omega) d hd).2
 rw [q,h1] at this
 have:=Option.some.inj this
 omega
section
variable (w0 w:World) (l:List Thing) (b:Nat) (σ:Sto) (x:RX) (K:Nat)
theorem RSX.row (h:Own w0 w (RSX b σ.S x::l)) (hx:RXok σ x K) (hT:∀ m,m < 64→TOk m (σ.T m)) (hK:K≤1000000) (id j:Nat) (hj:j < 64) :
  Calls Tryz.prog 164 #[.pointer (some ⟨b,1+j*2,none⟩),.int .u32 (id:Int)] w fun e w'=>e=.returned (.int .i64 (pl1 (plc (σ.T j) id)))∧Fr Nobody w w':=by
 have h':=RSX.out h hj
 rw [hx.E j hj] at h'
 exact rtrow w0 w _ b _ _ j _ h' (hT j hj).ap (Nat.le_trans (hx.len j hj) hK) id
theorem RSX.ids (h:Own w0 w (RSX b σ.S x::l)):w.cell? ⟨b,0,none⟩=some (.pointer (some ⟨x.bs,0,none⟩)):=by
 have:=(RSX.iff.1 h).cell 0
 rw [rscells_ids] at this
 exact this
theorem RSX.ent (h:Own w0 w (RSX b σ.S x::l)) (m r:Nat) (hm:m < 64) (d:REnt) (hd:(x.E m)[r]? = some d) :
  ∃ g cap,r < (x.E m).length∧w.cell? ⟨b,1+m*2+1,none⟩=some (.slice (some ⟨g,0,none⟩) (x.E m).length cap)∧w.cell? ⟨g,r*2,none⟩=some (.int .u32 (d.1:Int))∧w.cell? ⟨g,r*2+1,none⟩=some (.slice d.2.2.1 d.2.1.length d.2.2.2)∧Cs w d.2.2.1 d.2.1:=by
 have h3:=RSX.iff.1 h
 have q:=h3.cell (1+m*2+1)
 rw [rscells_v _ _ _ hm] at q
 have h4:=RTE.iff.1 ((RTabsOn.pull (k:=m) (by simpa using hm)).1 h3.three)
 have hr:=(List.getElem?_eq_some_iff.1 hd).1
 obtain ⟨g,cap,hv,_⟩:=row_shape h4.row (by omega)
 rw [hv] at q h4
 obtain ⟨c0,c1⟩:=ecell h4 r d hd
 have h5:Own w0 w (rrow d::(Row 76 2 (.slice (some ⟨g,0,none⟩) (x.E m).length cap) (x.E m).length (cat rcells (x.E m))::(((x.E m).eraseIdx r).map rrow++RTabsOn ((List.range 64).erase m) x.v x.E::Cells b (rscells x.bs x.v) 186::RSlots x.bs σ.S x.f x.ck::l))):=by
  refine h4.perm ?_
  have:=((map_pick rrow (x.E m) r d hd).append_right (RTabsOn ((List.range 64).erase m) x.v x.E::Cells b (rscells x.bs x.v) 186::RSlots x.bs σ.S x.f x.ck::l)).cons (Row 76 2 (.slice (some ⟨g,0,none⟩) (x.E m).length cap) (x.E m).length (cat rcells (x.E m)))
  exact this.trans (List.Perm.swap _ _ _)
 exact ⟨g,cap,hr,q,c0,c1,Own.rcs h5 rfl⟩
theorem rfind (h:Own w0 w (RSX b σ.S x::l)) (hx:RXok σ x K) (hT:∀ m,m < 64→TOk m (σ.T m)) (hK:K≤1000000) (id m0:Nat) (hm:Whr σ id m0) :
  Calls Tryz.prog 163 #[.pointer (some ⟨b,0,none⟩),.int .u32 (id:Int)] w fun e w'=>e=.returned (.pointer (if m0 < 64 then some ⟨b,1+m0*2,none⟩ else none))∧Fr Nobody w w':=by
 have HR:Hid (∀ w' j,j < 64→Fr Nobody w w'→Calls Tryz.prog 164 #[.pointer (some ⟨b,1+j*2,none⟩),.int .u32 (id:Int)] w' fun e w''=>e=.returned (.int .i64 (pl1 (plc (σ.T j) id)))∧Fr Nobody w' w''):=fun w' j hj hf=>RSX.row w0 w' l b σ x K (h.quiet hf) hx hT hK id j hj
 obtain ⟨hm6,hno,hyes⟩:=hm
 have HNO:Hid (∀ j,j < m0→plc (σ.T j) id=none):=hno
 have HYES:Hid (m0 < 64→∃ r,plc (σ.T m0) id=some r):=hyes
 clear h hx hT hK hno hyes
 go_enter Tryz.func163,Tryz.ntmps163
 go_wp2
 go_loopw [6] (fun cv wr=>∃ j:Nat,j≤m0∧cv=.int .i64 j∧Fr Nobody w wr) (fun cv _=>64 - (intOf cv).toNat)
 case atStart=>exact ⟨0,Nat.zero_le _,rfl,Fr.refl _ _⟩
 case round =>
  obtain ⟨j,hj,rfl,hf⟩:=hrel
  have HF:Hid (Fr Nobody w wr):=hf
  by_cases hlt:j < 64
  ·have hlt':(j:Int) < 64:=by omega
   have HC:Hid (Calls _ _ _ _ _):=HR.out wr j hlt hf
   clear hf
   by_cases hjm:j < m0
   ·rw [HNO.out j hjm] at HC
    simp only [pl1] at HC
    go_wp2_with fail
    refine HC.out.mono ?_
    rintro e w1 ⟨rfl,hf1⟩
    have H1:Hid (Fr Nobody w w1):=HF.out.trans hf1
    clear hf1
    go_wp2
    go_roundw
    case rel=>exact ⟨j+1,by omega,by go_num,H1.out⟩
    case measure=>simp [intOf];omega
   ·have hjm':j=m0:=by omega
    subst hjm'
    obtain ⟨r,hr⟩:=HYES.out hlt
    rw [hr] at HC
    simp only [pl1] at HC
    have hr0:(0:Int)≤(r:Int):=by omega
    go_wp2_with fail
    refine HC.out.mono ?_
    rintro e w1 ⟨rfl,hf1⟩
    have H1:Hid (Fr Nobody w w1):=HF.out.trans hf1
    clear hf1
    go_wp2
    go_ret
    exact ⟨rfl,H1.out⟩
  ·have hlt':¬ (j:Int) < 64:=by omega
   have hm64:¬ m0 < 64:=by omega
   clear hf
   go_wp2
   go_ret
   exact ⟨rfl,HF.out⟩
theorem rentNo (h:Own w0 w (RSX b σ.S x::l)) (hx:RXok σ x K) (hσ:σ.Ok) (hK:K≤1000000) (id:Nat) (hl:σ.S.isLive id=false) :
  Calls Tryz.prog 108 #[.pointer (some ⟨b,0,none⟩),.int .u32 (id:Int)] w fun e w'=>e=.returned (.tuple #[.agg #[.int .u32 0,.slice none 0 0],.int .i64 7])∧Own w0 w' (RSX b σ.S x::l):=by
 have hA:=h.allocC #[.int .u32 0,.slice none 0 0] 76
 have HFD:Hid (Calls _ _ _ _ _):=rfind w0 _ _ b σ x K hA.two hx hσ.t hK id 64 (whr_dead hσ hl)
 rw [if_neg (by decide)] at HFD
 have HA:Hid (Own w0 _ _):=hA
 clear h hA hx hσ hl
 go_enter Tryz.func108,Tryz.ntmps108
 go_wp2_with fail
 refine HFD.out.mono ?_
 rintro e w1 ⟨rfl,hf⟩
 have hO:=HA.out.quiet hf
 have z0:=hO.cell 0
 have z1:=hO.cell 1
 simp at z0 z1
 have y0:=hO.froz 0
 have y1:=hO.froz 1
 have HF:Hid (Own w0 _ _):=(hO.setC 0 (.int .u32 0)).setC 1 (.slice none 0 0)
 clear hO hf HFD HA
 go_wp2
 (try simp only [Exit.inBlock,Exit.then])
 refine bodyPost_ret (v:=.tuple #[.agg #[.int .u32 0,.slice none 0 0],.int .i64 7]) ?_ rfl ⟨rfl,HF.out.tail⟩
 rw [results_cell_tmp rfl]
 have r0:=HF.out.cell 0
 have r1:=HF.out.cell 1
 simp at r0 r1
 go_simp
theorem rent (h:Own w0 w (RSX b σ.S x::l)) (hx:RXok σ x K) (hσ:σ.Ok) (hK:K≤1000000) (id:Nat) (hl:σ.S.isLive id=true) (r:Nat) (hp:plc (σ.T (σ.hom id)) id=some r) (d:REnt) (hd:(x.E (σ.hom id))[r]? = some d) :
  Calls Tryz.prog 108 #[.pointer (some ⟨b,0,none⟩),.int .u32 (id:Int)] w fun e w'=>e=.returned (.tuple #[.agg #[.int .u32 (d.1:Int),.slice d.2.2.1 d.2.1.length d.2.2.2],.int .i64 0])∧Own w0 w' (RSX b σ.S x::l):=by
 have hA:=h.allocC #[.int .u32 0,.slice none 0 0] 76
 obtain ⟨hw,h6⟩:=whr_live hσ hl
 have HFD:Hid (Calls _ _ _ _ _):=rfind w0 _ _ b σ x K hA.two hx hσ.t hK id _ hw
 rw [if_pos h6] at HFD
 have HRW:Hid (∀ w' l',Own w0 w' (RSX b σ.S x::l')→Calls Tryz.prog 164 #[.pointer (some ⟨b,1+σ.hom id*2,none⟩),.int .u32 (id:Int)] w' fun e w''=>e=.returned (.int .i64 (r:Int))∧Fr Nobody w' w''):=by
  intro w' l' h'
  have:=RSX.row w0 w' l' b σ x K h' hx hσ.t hK id _ h6
  rw [hp] at this
  exact this
 have HEN:Hid (∀ w' l',Own w0 w' (RSX b σ.S x::l')→∃ g cap,r < (x.E (σ.hom id)).length∧w'.cell? ⟨b,1+σ.hom id*2+1,none⟩=some (.slice (some ⟨g,0,none⟩) (x.E (σ.hom id)).length cap)∧w'.cell? ⟨g,r*2,none⟩=some (.int .u32 (d.1:Int))∧w'.cell? ⟨g,r*2+1,none⟩=some (.slice d.2.2.1 d.2.1.length d.2.2.2)∧Cs w' d.2.2.1 d.2.1):=fun w' l' h'=>RSX.ent w0 w' l' b σ x h' _ r h6 d hd
 have HA:Hid (Own w0 _ _):=hA
 clear h hA hx hσ hl hw hp hd h6
 generalize σ.hom id=m at *
 generalize (x.E m).length=en at *
 obtain ⟨d1,d2,d3,d4⟩:=d
 simp only at HEN ⊢
 generalize d2.length=dl at *
 go_enter Tryz.func108,Tryz.ntmps108
 go_wp2_with fail
 refine HFD.out.mono ?_
 rintro e w1 ⟨rfl,hf⟩
 have hO:=(HA.out.quiet hf).drew
 obtain ⟨g,cap,hrn,q1,q2,q3,_⟩:=HEN.out _ _ hO.two
 have hrn':(r:Int) < (en:Int):=by omega
 have hr0:¬ (r:Int) < 0:=by omega
 have HO:Hid (Own w0 w1.drew _):=hO
 clear hf HFD HA hO
 go_wp2_with fail
 go_region_with (
  go_at_call 164
  refine (HRW.out _ _ HO.out.two).mono ?_
  rintro e w3 ⟨rfl,hf3⟩
  have hO3:=HO.out.quiet hf3
  have hb1:=World.block_lt_of_cell? w1.drew _ q1
  have hb2:=World.block_lt_of_cell? w1.drew _ q2
  have p1:=(hf3.cell (p:=⟨b,1+m*2+1,none⟩) hb1 (fun h=>h)).trans q1
  have p2:=(hf3.cell (p:=⟨g,r*2,none⟩) hb2 (fun h=>h)).trans q2
  have p3:=(hf3.cell (p:=⟨g,r*2+1,none⟩) hb2 (fun h=>h)).trans q3
  have z0:=hO3.cell 0
  have z1:=hO3.cell 1
  simp at z0 z1
  have y0:=hO3.froz 0
  have y1:=hO3.froz 1
  have HF:Hid (Own w0 _ _):=(hO3.setC 0 (.int .u32 (d1:Int))).setC 1 (.slice d3 dl d4)
  clear hO3 hf3 hb1 hb2)
 all_goals
  go_wp2
  (try simp only [Exit.inBlock,Exit.then])
  refine bodyPost_ret (v:=.tuple #[.agg #[.int .u32 (d1:Int),.slice d3 dl d4],.int .i64 0]) ?_ rfl ⟨rfl,HF.out.tail⟩
  rw [results_cell_tmp rfl]
  have r0:=HF.out.cell 0
  have r1:=HF.out.cell 1
  simp at r0 r1
  go_simp
end
theorem step_twin {ops:Array Oper} {o:Oper} {a:Act} {w:World} {K:Act→World→Prop} {Q:Exit→Act→World→Prop} {E:Prop}
  (hg:o.guard=none) (x:Operand) (t:TypeId) (hop:o.op=Op.call { callee:=Callee.value (Operand.func 42),args:=#[x],argTypes:=#[t] })
  (vx:Value) (hx:a.eval x=vx) (G:Value→World→Prop) (hcall:Calls Tryz.prog 42 #[vx] w fun e w'=>∃ v',e=.returned v'∧G v' w')
  (hK:∀ v' w',G v' w'→K (a.put o.dst v') w') :
  if Region.wanted o (yielded ops a.tmps)=true then Oper.wp Tryz.prog o a w K Q else E:=by
 have hw:Region.wanted o (yielded ops a.tmps)=true:=by simp [Region.wanted,hg]
 rw [if_pos hw]
 unfold Oper.wp
 have hfn:a.eval (Operand.func 42)=.func (.func 42) #[] #[]:=rfl
 simp [execOp,hop,resolve,invoke,hx,hfn,Deferred.ofValue]
 go_simp
 refine hcall.mono ?_
 rintro e w' ⟨v',rfl,h⟩
 exact hK v' w' h
theorem rtaddC (w0 w:World) (l:List Thing) (b o:Nat) (cur:Array Value) (m:Nat) (L:List Ent) (h:Own w0 w (RTab b o cur m L::l)) (hT:TOk m L) (id:Nat) (hid:id < 4294967296) (ao:Option Addr) (len cap:Nat) (C:List Cp) (hCl:C.length=len) (hCs:∀ w',Own w0 w' l→Cs w' ao C) (hCk:∀ q∈C,q.k < 256) (hlen:len≤1000000) (hL:L.length≤1000000) :
  Calls Tryz.prog 217 #[.pointer (some ⟨b,o,none⟩),.int .u32 (id:Int),.slice ao len cap] w fun e w'=>e=.returned (.int .i64 ((tadd m L id C).1:Int))∧Own w0 w' (RTab b o cur m (tadd m L id C).2::l):=by
 have HCU:Hid (cur[o]? = some (.int .u8 (m:Int))∧o+1 < cur.size):=RTab.facts h
 obtain ⟨i0,hi,hz0,hz1,hz2⟩:=info_parts Tryz.infoEnt
 have hm:=hT.m64
 have H:Hid (Own w0 w (RTab b o cur m L::l)):=h
 have HT:Hid (TOk m L):=hT
 have HCS:Hid (C.length=len∧(∀ w',Own w0 w' l→Cs w' ao C)∧∀ q∈C,q.k < 256):=⟨hCl,hCs,hCk⟩
 have HLS:Hid (Calls _ _ _ _ _):=rlist_any w ao len cap C hCl (hCs w h.tail) hCk hlen
 clear h hT hCl hCs hCk
 obtain ⟨x,hx⟩:∃ x,lst (-1) C=x:=⟨_,rfl⟩
 rw [hx] at HLS
 by_cases hx0:x=0
 ·subst hx0
  have HLST:Hid (lst (-1) C=0):=hx
  have HR:Hid (∀ w',Own w0 w' (RTab b o cur m L::l)→Calls Tryz.prog 164 #[.pointer (some ⟨b,o,none⟩),.int .u32 (id:Int)] w' fun e w''=>e=.returned (.int .i64 (pl1 (plc L id)))∧Fr Nobody w' w''):=fun w' h'=>rtrow w0 w' _ b o cur m L h' HT.out.ap hL id
  have HMK:Hid (∀ w',Own w0 w' (RTab b o cur m L::l)→Calls Tryz.prog 218 #[.slice ao len cap] w' fun e w''=>e=.returned (.int .u8 ((msk C:Nat):Int))∧Fr Nobody w' w''):=fun w' h'=>rmask_any w' ao len cap C HCS.out.1 (HCS.out.2.1 w' h'.tail) HCS.out.2.2 hlen
  have HMC:Hid (∀ w',Own w0 w' (RTab b o cur m L::l)→w'.cell? ⟨b,o,none⟩=some (.int .u8 (m:Int))):=by
   intro w' h'
   obtain ⟨v,E,_,h'⟩:=RTab.open h'
   have q:=h'.cell o
   rw [tcur_m,HCU.out.1] at q
   exact q
  have hm64:=msk_lt C
  by_cases hmk:msk C=m
  ·rw [hmk] at HMK hm64
   cases hp:plc L id with
   | some r =>
    have HV:Hid (tadd m L id C=(9,L)):=by show _=_;unfold tadd;rw [if_neg (by simp [hx]),if_neg (by simp [hmk]),if_pos (by rw [hp];rfl)]
    rw [hp] at HR
    simp only [pl1] at HR
    have hr0:¬ (r:Int) < 0:=by omega
    have hr1:(0:Int)≤(r:Int):=by omega
    clear hp hx hmk
    go_enter Tryz.func217,Tryz.ntmps217
    go_wp2_with fail
    refine HLS.out.mono ?_
    rintro e w1 ⟨rfl,hf⟩
    have H1:Hid (Own w0 w1 (RTab b o cur m L::l)):=H.out.quiet hf
    clear hf HLS H
    have q0:=HMC.out _ H1.out
    go_wp2_with fail
    go_region_with (
     go_at_call 218
     refine (HMK.out _ H1.out.drew).mono ?_
     rintro e w3 ⟨rfl,hf3⟩
     have H3:Hid (Own w0 w3 (RTab b o cur m L::l)):=H1.out.drew.quiet hf3
     have q3:=HMC.out _ H3.out
     clear hf3)
    all_goals
     go_wp2_with fail
     refine (HR.out _ H3.out).mono ?_
     rintro e w4 ⟨rfl,hf4⟩
     have H4:Hid (Own w0 w4 (RTab b o cur m L::l)):=H3.out.quiet hf4
     clear hf4
     go_wp2
     go_ret
     rw [HV.out]
     exact ⟨rfl,H4.out⟩
   | none =>
    have HV:Hid (tadd m L id C=(0,L++[(id,C)])):=by show _=_;unfold tadd;rw [if_neg (by simp [hx]),if_neg (by simp [hmk]),if_neg (by rw [hp];simp)]
    rw [hp] at HR
    simp only [pl1] at HR
    clear hp hx hmk
    go_enter Tryz.func217,Tryz.ntmps217
    go_wp2_with fail
    refine HLS.out.mono ?_
    rintro e w1 ⟨rfl,hf⟩
    have H1:Hid (Own w0 w1 (RTab b o cur m L::l)):=H.out.quiet hf
    clear hf HLS H
    have q0:=HMC.out _ H1.out
    go_wp2_with fail
    go_region_with (
     go_at_call 218
     refine (HMK.out _ H1.out.drew).mono ?_
     rintro e w3 ⟨rfl,hf3⟩
     have H3:Hid (Own w0 w3 (RTab b o cur m L::l)):=H1.out.drew.quiet hf3
     have q3:=HMC.out _ H3.out
     clear hf3)
    all_goals
     clear q0 q3 HMK H1
     go_wp2_with fail
     refine (HR.out _ H3.out).mono ?_
     rintro e w4 ⟨rfl,hf4⟩
     obtain ⟨v,E,hE,hO4⟩:=RTab.open (H3.out.quiet hf4)
     obtain ⟨ae,ce,rfl⟩:=row_any hO4.two.row
     have q1:=hO4.cell (o+1)
     rw [tcur_at HCU.out.2] at q1
     have HEL:Hid (E.map REnt.e=L∧E.length=L.length):=⟨hE,by rw [← hE,List.length_map]⟩
     have hen:E.length≤1000000:=by rw [HEL.out.2];exact hL
     have HTW:Hid (Calls _ _ _ _ _):=twin_any w0 w4.drew _ hO4.drew ao len cap C HCS.out.1 (HCS.out.2.1 _ ((H3.out.quiet hf4).drew.tail)) hlen
     clear hf4 hE HR H3
     generalize hEn:E.length=en at *
     have HEN:Hid (E.length=en):=hEn
     clear hEn hO4
     go_wp2_with fail
     go_region_law (first
      | (refine step_twin rfl (.tmp 32) 39 rfl _ (by first | (simp [Act.eval];done) | simp [Act.eval,Act.put]) (fun v' w'=>∃ a2 c2,v'=.slice a2 len c2∧Own w0 w' (Row 46 4 (.slice a2 len c2) len (ccat C)::Cells b (cur.setIfInBounds (o+1) (.slice ae en ce)) 186::Row 76 2 (.slice ae en ce) en (cat rcells E)::(E.map rrow++l))) (HTW.out.mono fun e w' ⟨a2,c2,h1,h2⟩=>⟨_,h1,a2,c2,rfl,h2⟩) ?_
         rintro v5 w5 ⟨a2,c2,rfl,hO5⟩
         have q5:=hO5.two.cell (o+1)
         rw [tcur_at HCU.out.2] at q5
         obtain ⟨g6,c6,w6,hrun,hO6⟩:=run1_own (P:=Tryz.prog) 62 62 76 i0 (.agg #[.int .u32 0,.slice none 0 0]) 2 32 Tryz.underlying62 hi hz0 hz1 hz2 rfl (by decide) _ en _ hO5.three #[.int .u32 (id:Int),.slice a2 len c2] rfl (by intro u hu;simp at hu;rcases hu with rfl | rfl <;> rfl) (by unfold maxLen;omega) (by omega)
         have hbw:=hO5.two.lt
         have hbn:b≠w5.heap.size:=by omega
         have hbn':w5.heap.size≠b:=by omega
         have HRUN:Hid _:=hrun
         have q6:=hO6.three.cell (o+1)
         have z6:=hO6.three.froz (o+1)
         rw [tcur_at HCU.out.2] at q6
         have HO6:Hid (Own w0 w6 _):=hO6
         clear hO5 hO6 hrun)
      | (refine step_run rfl (.tmp 30) (.tmp 35) 62 62 62 rfl rfl (.slice ae en ce) (.slice (some ⟨w5.heap.size,0,none⟩) 1 1) (.slice (some ⟨g6,0,none⟩) (en+1) c6) w6 (by first | (simp [Act.eval];done) | simp [Act.eval,Act.put]) (by first | (simp [Act.eval];done) | simp [Act.eval,Act.put]) HRUN.out ?_))
     all_goals
      have HFIN:Hid (Own w0 (w6.setCell ⟨b,o+1,none⟩ (.slice (some ⟨g6,0,none⟩) (en+1) c6)) (RTab b o cur m (L++[(id,C)])::l)):=by
       have h7:=HO6.out.three.setC (o+1) (.slice (some ⟨g6,0,none⟩) (en+1) c6)
       rw [Array.setIfInBounds_setIfInBounds] at h7
       refine RTab.shut (v:=.slice (some ⟨g6,0,none⟩) (en+1) c6) (E:=E++[(id,C,a2,c2)]) (by rw [List.map_append,HEL.out.1];rfl) HCU.out ?_
       rw [List.length_append,HEN.out,cat_append,List.map_append,List.append_assoc]
       have hcl:=HCS.out.1
       have e2:cat rcells [(id,C,a2,c2)]=[.int .u32 (id:Int),.slice a2 len c2]:=by
        show [Value.int .u32 (id:Int),Value.slice a2 C.length c2]=_
        rw [hcl]
       rw [e2]
       refine h7.perm (List.Perm.cons _ (List.Perm.cons _ ?_))
       have e1:rrow (id,C,a2,c2)=Row 46 4 (.slice a2 len c2) len (ccat C):=by unfold rrow REnt.v;simp only;rw [hcl]
       show (_::(E.map rrow++l)).Perm (E.map rrow++(rrow (id,C,a2,c2)::l))
       rw [e1]
       exact List.perm_middle.symm
      clear HO6
      go_wp2
      go_ret
      rw [HV.out]
      exact ⟨rfl,HFIN.out⟩
  ·have HV:Hid (tadd m L id C=(4,L)):=by show _=_;unfold tadd;rw [if_neg (by simp [hx]),if_pos hmk]
   have hne:((msk C:Int) != (m:Int))=true:=by simp;omega
   clear hx
   generalize msk C=mc at *
   go_enter Tryz.func217,Tryz.ntmps217
   go_wp2_with fail
   refine HLS.out.mono ?_
   rintro e w1 ⟨rfl,hf⟩
   have H1:Hid (Own w0 w1 (RTab b o cur m L::l)):=H.out.quiet hf
   clear hf HLS H
   have q0:=HMC.out _ H1.out
   go_wp2_with fail
   go_region_with (
    go_at_call 218
    refine (HMK.out _ H1.out.drew).mono ?_
    rintro e w3 ⟨rfl,hf3⟩
    have H3:Hid (Own w0 w3 (RTab b o cur m L::l)):=H1.out.drew.quiet hf3
    have q3:=HMC.out _ H3.out
    clear hf3)
   all_goals
    go_wp2
    go_ret
    rw [HV.out]
    exact ⟨rfl,H3.out⟩
 ·have HV:Hid (tadd m L id C=(x,L)):=by show _=_;unfold tadd;rw [if_pos (by rw [hx];exact hx0),hx]
  have hx1:((x:Int) != 0)=true:=by simpa using hx0
  clear hx
  go_enter Tryz.func217,Tryz.ntmps217
  go_wp2_with fail
  refine HLS.out.mono ?_
  rintro e w1 ⟨rfl,hf⟩
  have H1:Hid (Own w0 w1 (RTab b o cur m L::l)):=H.out.quiet hf
  clear hf HLS H
  go_wp2
  go_ret
  rw [HV.out]
  exact ⟨rfl,H1.out⟩
end Go.Proofs.YtogmdoiecpihdaaGreatDoor
