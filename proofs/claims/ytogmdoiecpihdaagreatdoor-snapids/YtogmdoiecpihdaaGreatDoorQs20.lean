/- Orders: Do of an order that is wrong, and of one that is told to the store. -/
import Derived.Test.YtogmdoiecpihdaaGreatDoorQs19
import Derived.Test.YtogmdoiecpihdaaGreatDoorQs15
import Derived.Test.YtogmdoiecpihdaaGreatDoorQs12
namespace Go.Proofs.YtogmdoiecpihdaaGreatDoor
open Go.RowKit
set_option linter.unusedVariables false
set_option maxHeartbeats 2000000
set_option maxRecDepth 100000
structure OrdE where
 d:Nat
 id:Nat
 k:Nat
 C:List Cp
 ao:Option Addr
 cap:Nat
def OrdE.ag (o:OrdE):Value:=.agg #[.int .u8 (o.d:Int),.int .u32 (o.id:Int),.int .u8 (o.k:Int),.slice o.ao o.C.length o.cap]
def OrdE.cs (o:OrdE):List Value:=[.int .u8 (o.d:Int),.int .u32 (o.id:Int),.int .u8 (o.k:Int),.slice o.ao o.C.length o.cap]
structure OrdE.In (o:OrdE):Prop where
 d:o.d < 256
 id:o.id < 4294967296
 k:o.k < 256
 C:∀ q∈o.C,q.k < 256
 len:o.C.length≤1000000
def OrdE.ck (o:OrdE):Nat:=ock o.d o.k o.C
theorem OrdE.check (o:OrdE) (w:World) (ht:Tab w) (hi:o.In) (hs:Cs w o.ao o.C):Calls Tryz.prog 90 #[o.ag] w fun e w'=>e=.returned (.int .i64 ((o.ck:Nat):Int))∧Fr Nobody w w' :=
 ocheck w ht o.d o.id o.k hi.k o.ao o.C.length o.cap o.C rfl hs hi.C hi.len
theorem OrdE.rcheck (o:OrdE) (w:World) (hi:o.In) (hs:Cs w o.ao o.C):Calls Tryz.prog 44 #[o.ag] w fun e w'=>e=.returned (.int .i64 ((o.ck:Nat):Int))∧Fr Nobody w w' :=
 rocheck w o.d o.id o.k hi.k o.ao o.C.length o.cap o.C rfl hs hi.C hi.len
def rag (r:Int × Nat):Value:=.agg #[.int .i64 r.1,.int .u32 (r.2:Int)]
def rcel (r:Int × Nat):List Value:=[.int .i64 r.1,.int .u32 (r.2:Int)]
def res (e:Int) (id:Nat):Int × Nat:=if e=0 then (0,id) else (e,0)
theorem do_bad (w0 w:World) (l:List Thing) (h:Own w0 w l) (ht:Tab w0) (p:Option Addr) (o:OrdE) (hi:o.In) (hCs:∀ w',Own w0 w' l→Cs w' o.ao o.C) (hb:o.ck≠0) :
  Calls Tryz.prog 94 #[.pointer p,o.ag] w fun e w'=>e=.returned (rag ((o.ck:Int),0))∧Own w0 w' l:=by
 have hA:=(h.allocC #[.int .u8 (o.d:Int),.int .u32 (o.id:Int),.int .u8 (o.k:Int),.slice o.ao o.C.length o.cap] 41).allocC #[.int .i64 0,.int .u32 0] 89
 have e1:(w.alloc (.cells #[.int .u8 (o.d:Int),.int .u32 (o.id:Int),.int .u8 (o.k:Int),.slice o.ao o.C.length o.cap] 41)).heap.size=w.heap.size+1:=by simp
 rw [e1] at hA
 have HC:Hid (Calls _ _ _ _ _):=o.check _ (ht.quiet hA.fr) hi (hCs _ hA.tail.tail)
 have HA:Hid (Own w0 _ _):=hA
 have hx:¬ ((o.ck:Nat):Int)=0:=by omega
 unfold OrdE.ag at HC ⊢
 unfold rag
 obtain ⟨d,id,k,C,ao,cap⟩:=o
 generalize OrdE.ck ⟨d,id,k,C,ao,cap⟩=x at *
 simp only at HC HA ⊢
 clear h hA hb e1 hCs hi
 go_enter Tryz.func94,Tryz.ntmps94
 go_wp2_with fail
 refine HC.out.mono ?_
 rintro e w1 ⟨rfl,hf⟩
 have hB:=HA.out.quiet hf
 have z0:=hB.cell 0
 have z1:=hB.cell 1
 simp at z0 z1
 have y0:=hB.froz 0
 have y1:=hB.froz 1
 have HF:Hid (Own w0 _ _):=(hB.setC 0 (.int .i64 (x:Int))).setC 1 (.int .u32 0)
 clear hB hf HC HA
 go_wp2
 (try simp only [Exit.inBlock,Exit.then])
 refine bodyPost_ret (v:=.agg #[.int .i64 (x:Int),.int .u32 0]) ?_ rfl ⟨rfl,HF.out.tail.tail⟩
 have r0:=HF.out.cell 0
 have r1:=HF.out.cell 1
 simp at r0 r1
 simp only [results]
 go_simp
theorem do_of (w0 w:World) (P P':Thing) (l:List Thing) (h:Own w0 w (P::l)) (ht:Tab w0) (p:Option Addr) (o:OrdE) (hi:o.In) (hCs:∀ w',Own w0 w' l→Cs w' o.ao o.C) (hb:o.ck=0) (id:Nat) (er:Int)
  (HT:∀ w' l',Own w0 w' (P::l')→(∀ w'',Own w0 w'' l'→Cs w'' o.ao o.C)→Calls Tryz.prog 149 #[.pointer p,o.ag] w' fun e w''=>e=.returned (.tuple #[.int .u32 (id:Int),.int .i64 er])∧Own w0 w'' (P'::l')) :
  Calls Tryz.prog 94 #[.pointer p,o.ag] w fun e w'=>e=.returned (rag (res er id))∧Own w0 w' (P'::l):=by
 have hA:=(h.allocC #[.int .u8 (o.d:Int),.int .u32 (o.id:Int),.int .u8 (o.k:Int),.slice o.ao o.C.length o.cap] 41).allocC #[.int .i64 0,.int .u32 0] 89
 have e1:(w.alloc (.cells #[.int .u8 (o.d:Int),.int .u32 (o.id:Int),.int .u8 (o.k:Int),.slice o.ao o.C.length o.cap] 41)).heap.size=w.heap.size+1:=by simp
 rw [e1] at hA
 have HC:Hid (Calls _ _ _ _ _):=o.check _ (ht.quiet hA.fr) hi (hCs _ hA.tail.tail.tail)
 rw [hb] at HC
 have HA:Hid (Own w0 _ _):=hA
 have HTT:Hid (∀ w',Own w0 w' (Cells (w.heap.size+1) #[.int .i64 0,.int .u32 0] 89::Cells w.heap.size #[.int .u8 (o.d:Int),.int .u32 (o.id:Int),.int .u8 (o.k:Int),.slice o.ao o.C.length o.cap] 41::P::l)→Calls Tryz.prog 149 #[.pointer p,o.ag] w' fun e w''=>e=.returned (.tuple #[.int .u32 (id:Int),.int .i64 er])∧Own w0 w'' (Cells (w.heap.size+1) #[.int .i64 0,.int .u32 0] 89::P'::l)):=by
  intro w' h'
  refine (HT w' _ h'.three (fun w'' h''=>hCs _ h''.tail.tail)).mono ?_
  rintro e w'' ⟨rfl,h2⟩
  exact ⟨rfl,h2.three.tail.two⟩
 unfold OrdE.ag at HC HTT ⊢
 obtain ⟨d,oid,k,C,ao,cap⟩:=o
 simp only at HC HA HTT ⊢
 clear h hA hb e1 hCs hi HT
 have hres:∀ e id,rag (res e id)=if e=0 then .agg #[.int .i64 0,.int .u32 (id:Int)] else .agg #[.int .i64 e,.int .u32 0]:=by
  intro e id
  unfold rag res
  split <;> rfl
 rw [hres]
 clear hres
 by_cases hx:er=0
 ·subst hx
  rw [if_pos rfl]
  go_enter Tryz.func94,Tryz.ntmps94
  go_wp2_with fail
  refine HC.out.mono ?_
  rintro e w1 ⟨rfl,hf⟩
  have hB:=HA.out.quiet hf
  have HB:Hid (Own w0 w1 _):=hB
  have q0:=hB.two.cell 0
  have q1:=hB.two.cell 1
  have q2:=hB.two.cell 2
  have q3:=hB.two.cell 3
  simp at q0 q1 q2 q3
  clear hB hf HC HA
  go_wp2_with fail
  refine (HTT.out _ HB.out).mono ?_
  rintro e w2 ⟨rfl,hB⟩
  have z0:=hB.cell 0
  have z1:=hB.cell 1
  simp at z0 z1
  have y0:=hB.froz 0
  have y1:=hB.froz 1
  have HF:Hid (Own w0 _ _):=(hB.setC 0 (.int .i64 0)).setC 1 (.int .u32 (id:Int))
  clear hB HTT q0 q1 q2 q3 HB
  go_wp2
  (try simp only [Exit.inBlock,Exit.then])
  refine bodyPost_ret (v:=.agg #[.int .i64 0,.int .u32 (id:Int)]) ?_ rfl ⟨rfl,HF.out.tail⟩
  have r0:=HF.out.cell 0
  have r1:=HF.out.cell 1
  simp at r0 r1
  simp only [results]
  go_simp
 ·rw [if_neg hx]
  go_enter Tryz.func94,Tryz.ntmps94
  go_wp2_with fail
  refine HC.out.mono ?_
  rintro e w1 ⟨rfl,hf⟩
  have hB:=HA.out.quiet hf
  have HB:Hid (Own w0 w1 _):=hB
  have q0:=hB.two.cell 0
  have q1:=hB.two.cell 1
  have q2:=hB.two.cell 2
  have q3:=hB.two.cell 3
  simp at q0 q1 q2 q3
  clear hB hf HC HA
  go_wp2_with fail
  refine (HTT.out _ HB.out).mono ?_
  rintro e w2 ⟨rfl,hB⟩
  have z0:=hB.cell 0
  have z1:=hB.cell 1
  simp at z0 z1
  have y0:=hB.froz 0
  have y1:=hB.froz 1
  have HF:Hid (Own w0 _ _):=(hB.setC 0 (.int .i64 er)).setC 1 (.int .u32 0)
  clear hB HTT q0 q1 q2 q3 HB
  go_wp2
  (try simp only [Exit.inBlock,Exit.then])
  refine bodyPost_ret (v:=.agg #[.int .i64 er,.int .u32 0]) ?_ rfl ⟨rfl,HF.out.tail⟩
  have r0:=HF.out.cell 0
  have r1:=HF.out.cell 1
  simp at r0 r1
  simp only [results]
  go_simp
theorem tell_spawn (w0 w:World) (l:List Thing) (b:Nat) (σ:Sto) (K:Nat) (ht:Tab w0) (h:Own w0 w (Store b σ K::l)) (hσ:σ.Ok) (o:OrdE) (hi:o.In) (hd:o.d=1) (hCs:∀ w',Own w0 w' l→Cs w' o.ao o.C) (hK:K < 1000000) :
  Calls Tryz.prog 149 #[.pointer (some ⟨b,0,none⟩),o.ag] w fun e w'=>e=.returned (.tuple #[.int .u32 ((σ.spawn o.C).1:Int),.int .i64 (σ.spawn o.C).2.1])∧Own w0 w' (Store b (σ.spawn o.C).2.2 (K+1)::l):=by
 have HS:Hid (Calls _ _ _ _ _):=spawnC w0 _ l b σ K ht (h.alloc (.cells #[.int .u8 (o.d:Int),.int .u32 (o.id:Int),.int .u8 (o.k:Int),.slice o.ao o.C.length o.cap] 41)) hσ o.ao o.C.length o.cap o.C rfl hCs hi.C hi.len hK
 unfold OrdE.ag
 obtain ⟨d,oid,k,C,ao,cap⟩:=o
 simp only at HS hd ⊢
 subst hd
 generalize σ.spawn C=r at *
 clear h hσ hi hCs
 go_enter Tryz.func149,Tryz.ntmps149
 go_wp2_with fail
 refine HS.out.mono ?_
 rintro e w1 ⟨rfl,hO⟩
 have H1:Hid (Own w0 w1 _):=hO
 clear hO HS
 go_wp2
 go_ret2
 exact ⟨rfl,H1.out⟩
theorem tell_despawn (w0 w:World) (l:List Thing) (b:Nat) (σ:Sto) (K:Nat) (h:Own w0 w (Store b σ K::l)) (hσ:σ.Ok) (o:OrdE) (hi:o.In) (hd:o.d=2) (hK:K < 1000000) :
  Calls Tryz.prog 149 #[.pointer (some ⟨b,0,none⟩),o.ag] w fun e w'=>e=.returned (.tuple #[.int .u32 (o.id:Int),.int .i64 (σ.despawn o.id).1])∧Own w0 w' (Store b (σ.despawn o.id).2 (K+1)::l):=by
 have hA:=(h.allocC #[.int .u8 (o.d:Int),.int .u32 (o.id:Int),.int .u8 (o.k:Int),.slice o.ao o.C.length o.cap] 41).two
 have HS:Hid (Calls _ _ _ _ _):=despawnC w0 _ _ b σ K hA.drew hσ o.id hi.id hK
 unfold OrdE.ag
 obtain ⟨d,oid,k,C,ao,cap⟩:=o
 simp only at HS hd hA ⊢
 subst hd
 generalize σ.despawn oid=r at *
 clear h hσ hi hA
 go_enter Tryz.func149,Tryz.ntmps149
 go_wp2_with fail
 go_region_with (
  go_at_call 98
  refine HS.out.mono ?_
  rintro e w1 ⟨rfl,hO⟩
  have q1:=hO.two.cell 1
  simp at q1
  have H1:Hid (Own w0 w1 _):=hO
  clear hO)
 all_goals
  go_wp2
  go_ret2
  exact ⟨rfl,H1.out.two.tail⟩
def O4 (w:World) (g p:Nat) (x:OrdE):Prop:=w.cell? ⟨g,p,none⟩=some (.int .u8 (x.d:Int))∧w.cell? ⟨g,p+1,none⟩=some (.int .u32 (x.id:Int))∧w.cell? ⟨g,p+2,none⟩=some (.int .u8 (x.k:Int))∧w.cell? ⟨g,p+3,none⟩=some (.slice x.ao x.C.length x.cap)
def Ords (w:World) (ao:Option Addr) (L:List OrdE):Prop:=(L=[]∨∃ g o,ao=some ⟨g,o,none⟩∧∀ (j:Nat) x,L[j]? = some x→O4 w g (o+j*4) x)∧∀ x∈L,Cs w x.ao x.C
theorem Ords.at {w:World} {ao:Option Addr} {L:List OrdE} (h:Ords w ao L) (j:Nat) (x:OrdE) (hx:L[j]? = some x):∃ g o,ao=some ⟨g,o,none⟩∧O4 w g (o+j*4) x:=by
 rcases h.1 with h | ⟨g,o,ha,hc⟩
 ·subst h;simp at hx
 ·exact ⟨g,o,ha,hc j x hx⟩
theorem O4.quiet {w w':World} {g p:Nat} {x:OrdE} (h:O4 w g p x) (hf:Fr Nobody w w'):O4 w' g p x:=by
 obtain ⟨h0,h1,h2,h3⟩:=h
 have hb:=World.block_lt_of_cell? w _ h0
 exact ⟨(hf.cell (p:=⟨g,p,none⟩) hb id).trans h0,(hf.cell (p:=⟨g,p+1,none⟩) hb id).trans h1,(hf.cell (p:=⟨g,p+2,none⟩) hb id).trans h2,(hf.cell (p:=⟨g,p+3,none⟩) hb id).trans h3⟩
theorem Ords.quiet {w w':World} {ao:Option Addr} {L:List OrdE} (h:Ords w ao L) (hf:Fr Nobody w w'):Ords w' ao L:=by
 refine ⟨?_,fun x hx=>(h.2 x hx).quiet hf⟩
 rcases h.1 with h | ⟨g,o,ha,hc⟩
 ·exact .inl h
 ·exact .inr ⟨g,o,ha,fun j x hx=>(hc j x hx).quiet hf⟩
def runs {α:Type} (step:α→OrdE→(Int × Nat) × α):α→List OrdE→List (Int × Nat) × α
 | s,[]=>([],s)
 | s,o::L=>((step s o).1::(runs step (step s o).2 L).1,(runs step (step s o).2 L).2)
theorem runs_snoc {α:Type} (step:α→OrdE→(Int × Nat) × α) (L:List OrdE) (o:OrdE):∀ s,runs step s (L++[o])=((runs step s L).1++[(step (runs step s L).2 o).1],(step (runs step s L).2 o).2):=by
 induction L with
 | nil=>intro s;rfl
 | cons x L ih=>intro s;simp [runs,ih]
theorem Tryz.infoRes:(Tryz.prog.info? 89).map (fun i=>(i.zero,i.size,i.bytes))=some (some (.agg #[.int .i64 0,.int .u32 0]),2,16):=by kernel_rfl
theorem all_of {α:Type} (P:α→Thing) (Inv:Nat→α→Prop) (step:α→OrdE→(Int × Nat) × α) (w0 w:World) (l:List Thing) (p:Option Addr) (s0:α) (h:Own w0 w (P s0::l)) (ao:Option Addr) (n cap:Nat) (L:List OrdE) (hn:L.length=n) (hL:n≤100000) (hOrds:∀ w',Own w0 w' l→Ords w' ao L) (hInv:Inv 0 s0)
  (HD:∀ j s o w' l',L[j]? = some o→Inv j s→Own w0 w' (P s::l')→(∀ w'',Own w0 w'' l'→Cs w'' o.ao o.C)→Calls Tryz.prog 94 #[.pointer p,o.ag] w' fun e w''=>e=.returned (rag (step s o).1)∧Own w0 w'' (P (step s o).2::l'))
  (HI:∀ j s o,L[j]? = some o→Inv j s→Inv (j+1) (step s o).2) :
  Calls Tryz.prog 46 #[.pointer p,.slice ao n cap] w fun e w'=>∃ ra rc,e=.returned (.slice ra n rc)∧Own w0 w' (Row 89 2 (.slice ra n rc) n (cat rcel (runs step s0 L).1)::P (runs step s0 L).2::l)∧Inv n (runs step s0 L).2:=by
 obtain ⟨i0,hi,hz0,hz1,hz2⟩:=info_parts Tryz.infoRes
 obtain ⟨w1,hmk,hO,hf⟩:=make_own (P:=Tryz.prog) h 47 89 i0 (.agg #[.int .i64 0,.int .u32 0]) 2 Tryz.underlying47 hi hz0 hz1 n (by rw [hz2];omega) (by unfold maxLen;omega)
 have H1:Hid (Own w0 w1 (Row 89 2 (.slice (some ⟨w.heap.size,0,none⟩) 0 n) 0 (cat rcel (runs step s0 (L.take 0)).1)::P (runs step s0 (L.take 0)).2::l)):=hO
 have HV:Hid (Inv 0 (runs step s0 (L.take 0)).2):=hInv
 have HN:Hid (L.length=n):=hn
 have HDD:Hid _:=HD
 have HII:Hid _:=HI
 have HOS:Hid _:=hOrds
 clear h hO hf hInv hn HD HI hOrds
 go_enter Tryz.func46,Tryz.ntmps46
 go_wp2
 go_loopw [5,13] (fun rv cc wr=>∃ j:Nat,j≤n∧cc=.int .i64 j∧∃ ra rc,rv=.slice ra j rc∧Own w0 wr (Row 89 2 (.slice ra j rc) j (cat rcel (runs step s0 (L.take j)).1)::P (runs step s0 (L.take j)).2::l)∧Inv j (runs step s0 (L.take j)).2) (fun _ cc _=>n - (intOf cc).toNat)
 case atStart=>exact ⟨0,Nat.zero_le _,rfl,_,_,rfl,H1.out,HV.out⟩
 case round =>
  obtain ⟨j,hj,rfl,ra,rc,rfl,hO,hI⟩:=hrel
  have HO:Hid (Own w0 wr _):=hO
  clear H1 HV
  by_cases hlt:j < n
  ·obtain ⟨o,ho⟩:∃ o,L[j]? = some o:=⟨_,List.getElem?_eq_getElem (by rw [HN.out];exact hlt)⟩
   obtain ⟨g,off,hao,c0,c1,c2,c3⟩:=(HOS.out wr hO.tail.tail).at j o ho
   have hlt':(j:Int) < (n:Int):=by omega
   have hst:runs step s0 (L.take (j+1))=((runs step s0 (L.take j)).1++[(step (runs step s0 (L.take j)).2 o).1],(step (runs step s0 (L.take j)).2 o).2):=by
    rw [List.take_add_one,ho];exact runs_snoc step _ _ _
   have HDO:Hid (∀ w',Own w0 w' (Row 89 2 (.slice ra j rc) j (cat rcel (runs step s0 (L.take j)).1)::P (runs step s0 (L.take j)).2::l)→Calls Tryz.prog 94 #[.pointer p,o.ag] w' fun e w''=>e=.returned (rag (step (runs step s0 (L.take j)).2 o).1)∧Own w0 w'' (Row 89 2 (.slice ra j rc) j (cat rcel (runs step s0 (L.take j)).1)::P (runs step s0 (L.take (j+1))).2::l)):=by
    intro w' h'
    refine (HDD.out j _ o w' _ ho hI h'.two (fun w'' h''=>(HOS.out _ h''.tail).2 o (List.mem_of_getElem? ho))).mono ?_
    rintro e w'' ⟨rfl,h2⟩
    rw [hst]
    exact ⟨rfl,h2.two⟩
   have HI2:Hid (Inv (j+1) (runs step s0 (L.take (j+1))).2):=by
    show Inv _ _
    rw [hst];exact HII.out j _ o ho hI
   have HST:Hid (cat rcel (runs step s0 (L.take (j+1))).1=cat rcel (runs step s0 (L.take j)).1++rcel (step (runs step s0 (L.take j)).2 o).1):=by
    show _=_
    rw [hst,cat_append];simp [cat]
   clear hst hO hI ho HDD HII
   subst hao
   unfold OrdE.ag at HDO
   obtain ⟨d,oid,k,C,oa,oc⟩:=o
   simp only at c0 c1 c2 c3 HDO
   generalize hr:(step (runs step s0 (L.take j)).2 ⟨d,oid,k,C,oa,oc⟩).1=r at *
   obtain ⟨r1,r2⟩:=r
   unfold rag at HDO
   simp only at HDO
   clear hr
   go_wp2_with fail
   refine (HDO.out _ (HO.out.alloc _)).mono ?_
   rintro e w2 ⟨rfl,hO2⟩
   have H2:Hid (Own w0 w2 _):=hO2
   clear hO2 HDO HO c0 c1 c2 c3
   go_wp2_with (at_builtin;refine append1_own rfl _ _ 47 rfl 89 i0 (.agg #[.int .i64 0,.int .u32 0]) 2 16 Tryz.underlying47 hi hz0 hz1 hz2 rfl (by decide) _ _ _ rfl H2.out _ #[.int .i64 r1,.int .u32 (r2:Int)] (by simp) rfl rfl (by intro u hu;simp at hu;rcases hu with rfl | rfl <;> rfl) (by unfold maxLen;omega) (by omega) ?_)
   intro g3 cap3 w3 hO3 hsz3
   have H3:Hid (Own w0 w3 (Row 89 2 (.slice (some ⟨g3,0,none⟩) (j+1) cap3) (j+1) (cat rcel (runs step s0 (L.take (j+1))).1)::P (runs step s0 (L.take (j+1))).2::l)):=by
    show Own _ _ _
    rw [HST.out];exact hO3
   clear hO3 hsz3 H2
   go_wp2
   go_roundw
   case rel=>exact ⟨j+1,by omega,by go_num,_,_,rfl,H3.out,HI2.out⟩
   case measure=>simp [intOf];omega
  ·have hlt':¬ (j:Int) < (n:Int):=by omega
   have hjn:j=n:=by omega
   subst hjn
   have hT:L.take j=L:=List.take_of_length_le (by rw [HN.out];exact Nat.le_refl _)
   rw [hT] at hI
   have HI2:Hid (Inv j _):=hI
   have H2:Hid (Own w0 wr _):=hO
   rw [hT] at H2
   clear hT hO hI HO
   go_wp2
   go_ret
   exact ⟨_,_,rfl,H2.out,HI2.out⟩
def Rs (w:World) (ao:Option Addr) (L:List (Int × Nat)):Prop:=L=[]∨∃ g o,ao=some ⟨g,o,none⟩∧∀ (j:Nat) x,L[j]? = some x→w.cell? ⟨g,o+j*2,none⟩=some (.int .i64 x.1)∧w.cell? ⟨g,o+j*2+1,none⟩=some (.int .u32 (x.2:Int))
theorem Rs.quiet {w w':World} {ao:Option Addr} {L:List (Int × Nat)} (h:Rs w ao L) (hf:Fr Nobody w w'):Rs w' ao L:=by
 rcases h with h | ⟨g,o,ha,hc⟩
 ·exact .inl h
 ·refine .inr ⟨g,o,ha,fun j x hx=>?_⟩
  obtain ⟨h0,h1⟩:=hc j x hx
  have hb:=World.block_lt_of_cell? w _ h0
  exact ⟨(hf.cell (p:=⟨g,o+j*2,none⟩) hb id).trans h0,(hf.cell (p:=⟨g,o+j*2+1,none⟩) hb id).trans h1⟩
theorem rcel_len (x:Int × Nat):(rcel x).length=2:=rfl
theorem Own.rs {w0 w:World} {l:List Thing} {ao:Option Addr} {n cap:Nat} {L:List (Int × Nat)} (h:Own w0 w (Row 89 2 (.slice ao n cap) n (cat rcel L)::l)) (hn:L.length=n):Rs w ao L:=by
 have r:=h.row
 rcases Nat.eq_zero_or_pos n with h0 | h0
 ·exact .inl (List.eq_nil_of_length_eq_zero (by omega))
 ·obtain ⟨g,c,hv,_⟩:=row_shape r h0
  have ha:=(Value.slice.inj hv).1
  subst ha
  refine .inr ⟨g,0,rfl,fun j x hx=>?_⟩
  have hj:=(List.getElem?_eq_some_iff.1 hx).1
  have e0:=cat_at rcel 2 rcel_len L j 0 x hx (by decide)
  have e1:=cat_at rcel 2 rcel_len L j 1 x hx (by decide)
  exact ⟨by rw [show 0+j*2=j*2+0 by omega,r.cellAt _ (by omega),e0];rfl,by rw [show 0+j*2+1=j*2+1 by omega,r.cellAt _ (by omega),e1];rfl⟩
def orow (x:OrdE):Thing:=Row 46 4 (.slice x.ao x.C.length x.cap) x.C.length (ccat x.C)
def Buf (b:Nat) (E:List OrdE):Thing:=Ex (fun v:Value=>Cells b #[v] 178::Row 41 4 v E.length (cat OrdE.cs E)::E.map orow)
theorem Tryz.infoOrd:(Tryz.prog.info? 41).map (fun i=>(i.zero,i.size,i.bytes))=some (some (.agg #[.int .u8 0,.int .u32 0,.int .u8 0,.slice none 0 0]),4,40):=by kernel_rfl
theorem onew (w0 w:World) (l:List Thing) (h:Own w0 w l):Calls Tryz.prog 40 #[] w fun e w'=>∃ b,e=.returned (.pointer (some ⟨b,0,none⟩))∧Own w0 w' (Buf b []::l):=by
 have H:Hid (Own w0 w l):=h
 clear h
 go_enter Tryz.func40,Tryz.ntmps40
 go_wp2
 go_ret
 refine ⟨_,rfl,Own.ex_iff.2 ⟨.slice none 0 0,?_⟩⟩
 exact ((H.out.nilRow 41 4).allocC #[.slice none 0 0] 178)
theorem push_bad (w0 w:World) (l:List Thing) (b:Nat) (ht:Tab w0) (h:Own w0 w l) (o:OrdE) (hi:o.In) (hCs:∀ w',Own w0 w' l→Cs w' o.ao o.C) (hb:o.ck≠0) :
  Calls Tryz.prog 43 #[.pointer (some ⟨b,0,none⟩),o.ag] w fun e w'=>e=.returned (.int .i64 (o.ck:Int))∧Own w0 w' l:=by
 have hA:=h.alloc (.cells #[.int .u8 (o.d:Int),.int .u32 (o.id:Int),.int .u8 (o.k:Int),.slice o.ao o.C.length o.cap] 41)
 have HC:Hid (Calls _ _ _ _ _):=o.check _ (ht.quiet hA.fr) hi (hCs _ hA)
 have HA:Hid (Own w0 _ _):=hA
 have hx:¬ ((o.ck:Nat):Int)=0:=by omega
 unfold OrdE.ag at HC ⊢
 obtain ⟨d,id,k,C,ao,cap⟩:=o
 generalize OrdE.ck ⟨d,id,k,C,ao,cap⟩=x at *
 simp only at HC HA ⊢
 clear h hA hb hCs hi
 go_enter Tryz.func43,Tryz.ntmps43
 go_wp2_with fail
 refine HC.out.mono ?_
 rintro e w1 ⟨rfl,hf⟩
 go_wp2
 go_ret
 exact ⟨rfl,HA.out.quiet hf⟩
theorem clone_cs (w0 w:World) (l:List Thing) (h:Own w0 w l) (ao:Option Addr) (len cap:Nat) (C:List Cp) (hl:C.length=len) (hs:Cs w ao C) (hm:len≤1000000) :
  Calls Tryz.prog 91 #[.slice ao len cap] w fun e w'=>∃ ao' cap',e=.returned (.slice ao' len cap')∧Own w0 w' (Row 46 4 (.slice ao' len cap') len (ccat C)::l):=by
 obtain ⟨i0,hi,hz0,hz1,hz2⟩:=info_parts Tryz.infoComp
 have qn:∀ (w:World) (a:Option Addr) (n c n' c':Nat),(binOp .eql 39 (.slice a n c) (.slice none n' c')).run Tryz.prog w=.ok (.bool a.isNone) w:=fun w a n c n' c'=>Lib.run_eql_slice_nil w _ _ a n c n' c' Tryz.underlying39
 have H:Hid (Own w0 w l):=h
 cases ao with
 | none =>
  have hC:C=[]:=by
   rcases hs with hs | ⟨g,o,ha,_⟩
   ·exact hs
   ·cases ha
  subst hC
  simp at hl
  subst hl
  clear h hs
  go_enter Tryz.func91,Tryz.ntmps91
  go_wp2
  go_ret
  exact ⟨none,0,rfl,H.out.nilRow _ _⟩
 | some a =>
  have HL:Hid (C.length=len∧Cs w (some a) C):=⟨hl,hs⟩
  clear h hl hs
  go_enter Tryz.func91,Tryz.ntmps91
  go_wp2_with (at_builtin;refine append_cs rfl _ _ rfl i0 hi _ hz0 hz1 hz2 rfl _ 0 [] rfl (some a) len cap C rfl HL.out.1 (HL.out.2.quiet ((Fr.refl _ _).alloc _)) (H.out.litRow #[] 46 4 0 (by decide) rfl) (by unfold maxLen;omega) (by omega) ?_)
  intro a1 c1 w1 hO1 hsz1
  have H1:Hid (Own w0 w1 (Row 46 4 (.slice a1 len c1) len (ccat C)::l)):=by
   show Own _ _ _
   simpa using hO1
  clear hO1 H hsz1
  go_wp2
  go_ret
  exact ⟨_,_,rfl,H1.out⟩
theorem Own.bufO {w0 w:World} {l:List Thing} {b:Nat} {E:List OrdE} (h:Own w0 w (Buf b E::l)):∃ ao cap,Own w0 w (Cells b #[.slice ao E.length cap] 178::Row 41 4 (.slice ao E.length cap) E.length (cat OrdE.cs E)::(E.map orow++l)):=by
 obtain ⟨v,h⟩:=Own.ex_iff.1 h
 obtain ⟨ao,cap,rfl⟩:=row_any h.two.row
 exact ⟨ao,cap,h⟩
theorem Own.bufS {w0 w:World} {l:List Thing} {b:Nat} {E:List OrdE} {v:Value} (h:Own w0 w (Cells b #[v] 178::Row 41 4 v E.length (cat OrdE.cs E)::(E.map orow++l))):Own w0 w (Buf b E::l):=Own.ex_iff.2 ⟨v,h⟩
theorem push_full (w0 w:World) (l:List Thing) (b:Nat) (E:List OrdE) (ht:Tab w0) (h:Own w0 w (Buf b E::l)) (o:OrdE) (hi:o.In) (hCs:∀ w',Own w0 w' l→Cs w' o.ao o.C) (hb:o.ck=0) (hE:256≤E.length) :
  Calls Tryz.prog 43 #[.pointer (some ⟨b,0,none⟩),o.ag] w fun e w'=>e=.returned (.int .i64 8)∧Own w0 w' (Buf b E::l):=by
 have hA:=h.alloc (.cells #[.int .u8 (o.d:Int),.int .u32 (o.id:Int),.int .u8 (o.k:Int),.slice o.ao o.C.length o.cap] 41)
 have HC:Hid (Calls _ _ _ _ _):=o.check _ (ht.quiet hA.fr) hi (hCs _ hA.tail)
 rw [hb] at HC
 have HA:Hid (Own w0 _ _):=hA
 have hE':(256:Int)≤(E.length:Int):=by omega
 unfold OrdE.ag at HC ⊢
 obtain ⟨d,id,k,C,ao,cap⟩:=o
 simp only at HC HA ⊢
 clear h hA hb hCs hi
 go_enter Tryz.func43,Tryz.ntmps43
 go_wp2_with fail
 refine HC.out.mono ?_
 rintro e w1 ⟨rfl,hf⟩
 have hB:=HA.out.quiet hf
 have HB:Hid (Own w0 w1 _):=hB
 obtain ⟨ea,ec,hO⟩:=hB.bufO
 have q0:=hO.cell 0
 simp at q0
 clear hB hO hf HC HA
 go_wp2
 go_ret
 exact ⟨rfl,HB.out⟩
theorem push_ok (w0 w:World) (l:List Thing) (b:Nat) (E:List OrdE) (ht:Tab w0) (h:Own w0 w (Buf b E::l)) (o:OrdE) (hi:o.In) (hCs:∀ w',Own w0 w' l→Cs w' o.ao o.C) (hb:o.ck=0) (hE:E.length < 256) :
  Calls Tryz.prog 43 #[.pointer (some ⟨b,0,none⟩),o.ag] w fun e w'=>e=.returned (.int .i64 0)∧∃ a c,Own w0 w' (Buf b (E++[{ o with ao:=a,cap:=c }])::l):=by
 obtain ⟨i0,hi0,hz0,hz1,hz2⟩:=info_parts Tryz.infoOrd
 have hA:=h.allocC #[.int .u8 (o.d:Int),.int .u32 (o.id:Int),.int .u8 (o.k:Int),.slice o.ao o.C.length o.cap] 41
 have HC:Hid (Calls _ _ _ _ _):=o.check _ (ht.quiet hA.fr) hi (hCs _ hA.tail.tail)
 rw [hb] at HC
 have HA:Hid (Own w0 _ _):=hA
 have hE':(E.length:Int) < 256:=by omega
 have HCL:Hid (∀ w',Own w0 w' (Cells w.heap.size #[.int .u8 (o.d:Int),.int .u32 (o.id:Int),.int .u8 (o.k:Int),.slice o.ao o.C.length o.cap] 41::Buf b E::l)→Calls Tryz.prog 91 #[.slice o.ao o.C.length o.cap] w' fun e w''=>∃ a c,e=.returned (.slice a o.C.length c)∧Own w0 w'' (Row 46 4 (.slice a o.C.length c) o.C.length (ccat o.C)::Cells w.heap.size #[.int .u8 (o.d:Int),.int .u32 (o.id:Int),.int .u8 (o.k:Int),.slice o.ao o.C.length o.cap] 41::Buf b E::l)):=fun w' h'=>clone_cs w0 w' _ h' o.ao o.C.length o.cap o.C rfl (hCs _ h'.tail.tail) hi.len
 have HEND:Hid (∀ w' a c v,Own w0 w' (Cells b #[v] 178::Row 41 4 v (E.length+1) (cat OrdE.cs E++[.int .u8 (o.d:Int),.int .u32 (o.id:Int),.int .u8 (o.k:Int),.slice a o.C.length c])::Row 46 4 (.slice a o.C.length c) o.C.length (ccat o.C)::(E.map orow++l))→Own w0 w' (Buf b (E++[{ o with ao:=a,cap:=c }])::l)):=by
  intro w' a c v h'
  refine Own.bufS (v:=v) ?_
  rw [List.length_append,List.length_singleton,cat_append,List.map_append]
  have hp:List.Perm (Cells b #[v] 178::Row 41 4 v (E.length+1) (cat OrdE.cs E++[.int .u8 (o.d:Int),.int .u32 (o.id:Int),.int .u8 (o.k:Int),.slice a o.C.length c])::Row 46 4 (.slice a o.C.length c) o.C.length (ccat o.C)::(E.map orow++l)) (Cells b #[v] 178::Row 41 4 v (E.length+1) (cat OrdE.cs E++[.int .u8 (o.d:Int),.int .u32 (o.id:Int),.int .u8 (o.k:Int),.slice a o.C.length c])::((E.map orow++[Row 46 4 (.slice a o.C.length c) o.C.length (ccat o.C)])++l)):=by
   refine List.Perm.cons _ (List.Perm.cons _ ?_)
   rw [List.append_assoc]
   exact List.perm_middle.symm
  have:=h'.perm hp
  simpa [cat,OrdE.cs,orow] using this
 unfold OrdE.ag at HC ⊢
 obtain ⟨d,id,k,C,ao,cap⟩:=o
 simp only at HC HA HCL HEND ⊢
 clear h hA hb hCs hi
 go_enter Tryz.func43,Tryz.ntmps43
 go_wp2_with fail
 refine HC.out.mono ?_
 rintro e w1 ⟨rfl,hf⟩
 have hB:=HA.out.quiet hf
 have HB:Hid (Own w0 w1 _):=hB
 obtain ⟨ea,ec,hO⟩:=hB.two.bufO
 have q0:=hO.cell 0
 have p0:=hB.cell 3
 simp at q0 p0
 clear hB hO hf HC HA
 go_wp2_with fail
 refine (HCL.out _ HB.out).mono ?_
 rintro e w2 ⟨a,c,rfl,hO⟩
 clear HCL HB q0 p0
 have hO:=hO.two
 have s3:=hO.cell 3
 have z3:=hO.froz 3
 simp at s3
 have HO2:Hid (Own w0 w2 _):=hO
 clear hO
 go_wp2_with fail
 have hO3:=HO2.out.setC 3 (.slice a C.length c)
 generalize hw3:w2.setCell ⟨w.heap.size,3,none⟩ (.slice a C.length c)=w3 at *
 have c0:=hO3.cell 0
 have c1:=hO3.cell 1
 have c2:=hO3.cell 2
 have c3:=hO3.cell 3
 simp at c0 c1 c2 c3
 obtain ⟨ea,ec,hB⟩:=hO3.three.bufO
 have q0:=hB.cell 0
 simp at q0
 have hbw:=hB.lt
 have hBw:=hO3.lt
 have n1:b≠w3.heap.size:=by omega
 have n2:w3.heap.size≠b:=by omega
 have n3:w.heap.size≠w3.heap.size:=by omega
 have n4:w3.heap.size≠w.heap.size:=by omega
 obtain ⟨g',c',w4,hrun,hO4⟩:=run1_own (P:=Tryz.prog) 32 32 41 i0 (.agg #[.int .u8 0,.int .u32 0,.int .u8 0,.slice none 0 0]) 4 40 Tryz.underlying32 hi0 hz0 hz1 hz2 rfl (by decide) _ E.length _ hB.two.drew #[.int .u8 (d:Int),.int .u32 (id:Int),.int .u8 (k:Int),.slice a C.length c] rfl (by intro u hu;simp at hu;rcases hu with rfl | rfl | rfl | rfl <;> rfl) (by unfold maxLen;omega) (by omega)
 have hszz:w3.drew.heap.size=w3.heap.size:=rfl
 rw [hszz] at hrun
 have HRUN:Hid _:=hrun
 clear hrun hszz
 have k2:=hO4.two.cell 0
 have z2:=hO4.two.froz 0
 simp at k2
 have HF:Hid (Own w0 (w4.setCell ⟨b,0,none⟩ (.slice (some ⟨g',0,none⟩) (E.length+1) c')) (Buf b (E++[⟨d,id,k,C,a,c⟩])::l)):=by
  refine HEND.out _ a c (.slice (some ⟨g',0,none⟩) (E.length+1) c') ?_
  have h5:=hO4.two.setC 0 (.slice (some ⟨g',0,none⟩) (E.length+1) c')
  have h6:=(h5.perm (List.Perm.cons _ (List.Perm.cons _ (List.perm_middle.trans (List.perm_middle.cons _))))).three.tail
  exact h6
 clear hO3 hB hO4 HEND s3 z3 hw3 HO2
 go_region_law (refine step_run rfl (.tmp 27) (.tmp 29) 32 32 32 rfl rfl (.slice ea E.length ec) (.slice (some ⟨w3.heap.size,0,none⟩) 1 1) (.slice (some ⟨g',0,none⟩) (E.length+1) c') w4 (by simp [Act.eval]) (by simp [Act.eval]) HRUN.out ?_)
 all_goals
  go_wp2
  go_ret
  exact ⟨rfl,a,c,HF.out⟩
theorem otake (w0 w:World) (l:List Thing) (b:Nat) (E:List OrdE) (h:Own w0 w (Buf b E::l)):Calls Tryz.prog 47 #[.pointer (some ⟨b,0,none⟩)] w fun e w'=>∃ ao cap,e=.returned (.slice ao E.length cap)∧Own w0 w' (Buf b []::Row 41 4 (.slice ao E.length cap) E.length (cat OrdE.cs E)::(E.map orow++l)):=by
 obtain ⟨ea,ec,hO⟩:=h.bufO
 have q0:=hO.cell 0
 have z0:=hO.froz 0
 simp at q0
 have HF:Hid (Own w0 (w.setCell ⟨b,0,none⟩ (.slice none 0 0)) (Buf b []::Row 41 4 (.slice ea E.length ec) E.length (cat OrdE.cs E)::(E.map orow++l))):=Own.bufS (E:=[]) (((hO.setC 0 (.slice none 0 0)).nilRow 41 4).two)
 clear h hO
 go_enter Tryz.func47,Tryz.ntmps47
 go_wp2
 go_ret
 exact ⟨_,_,rfl,HF.out⟩
def o1:OrdE:=⟨1,0,0,[],none,0⟩
def o2:OrdE:=⟨2,1024,0,[],none,0⟩
def ol:List OrdE:=[o1,o2,o2]
end Go.Proofs.YtogmdoiecpihdaaGreatDoor
namespace Go.Proofs.YtogmdoiecpihdaaGreatDoor
open Go.ChangeShapes Go.WideShapes Go.ChangeAt Go.RowKit Go.Deep
set_option linter.unusedVariables false
set_option maxHeartbeats 2000000
set_option maxRecDepth 100000
theorem cellsOrd:Tryz.prog.cellsOf 41=4:=by kernel_rfl
theorem cellsOB:Tryz.prog.cellsOf 5=1:=by kernel_rfl
theorem cellsOU:Tryz.prog.cellsOf 38=1:=by kernel_rfl
theorem cellsOC:Tryz.prog.cellsOf 39=1:=by kernel_rfl
theorem lst4 {β:Type} {l:List β} (h:l.length=4):∃ a b c d,l=[a,b,c,d]:=by
 match l,h with
 | [a,b,c,d],_=>exact ⟨a,b,c,d,rfl⟩
def OrdT (W:World) (cs:List Value) (o:OrdE):Prop:=cs=o.cs∧o.d < 256∧o.id < 4294967296∧o.k < 256∧IsComps W o.ao o.C.length o.cap o.C
theorem ord_is {H:Type} {enc:TypeId × Value→H} {W:World} (fuel:Nat) (cs:List Value) (x:DataW H × List MemPlace)
  (h:DataW.trod enc Tryz.prog W 0 (fun _=>true) true fuel 41 cs=some x):∃ o,OrdT W cs o:=by
 obtain ⟨xs,n,_,hx,hl,hlen,hf⟩:=DataW.trod_struct Tryz.underlying41 h
 rw [cellsOrd] at hl
 obtain ⟨c0,c1,c2,c3,rfl⟩:=lst4 hl
 obtain ⟨y0,y1,y2,y3,rfl⟩:=lst4 hlen
 have h0:=hf 0 _ rfl
 have h1:=hf 1 _ rfl
 have h2:=hf 2 _ rfl
 have h3:=hf 3 _ rfl
 simp [cellsOB,cellsOU,cellsOC] at h0 h1 h2 h3
 obtain ⟨a,a0,_,wa⟩:=DataW.trod_int Tryz.underlying5 h0
 obtain ⟨b,b0,_,wb⟩:=DataW.trod_int Tryz.underlying38 h1
 obtain ⟨c,e0,_,wc⟩:=DataW.trod_int Tryz.underlying5 h2
 simp at a0 b0 e0
 subst a0 b0 e0
 have ha:0≤a∧a≤255:=by simpa [Lit.wf,IntKind.min,IntKind.max,IntKind.signed,IntKind.bits] using wa
 have hb:0≤b∧b≤4294967295:=by simpa [Lit.wf,IntKind.min,IntKind.max,IntKind.signed,IntKind.bits] using wb
 have hc:0≤c∧c≤255:=by simpa [Lit.wf,IntKind.min,IntKind.max,IntKind.signed,IntKind.bits] using wc
 obtain ⟨an,rfl⟩:=Int.eq_ofNat_of_zero_le ha.1
 obtain ⟨bn,rfl⟩:=Int.eq_ofNat_of_zero_le hb.1
 obtain ⟨cn,rfl⟩:=Int.eq_ofNat_of_zero_le hc.1
 obtain ⟨ao,len,cap,hv⟩:∃ ao len cap,c3=.slice ao len cap:=by
  rcases open_slice Tryz.underlying39 h3 with ⟨hc,_⟩ | ⟨a,l,c,m,n,D,Pl,hc,_⟩
  ·simp at hc;exact ⟨_,_,_,hc⟩
  ·simp at hc;exact ⟨_,_,_,hc⟩
 subst hv
 obtain ⟨d,p⟩:=y3
 obtain ⟨Q,hQ⟩:∃ Q,IsComps W ao len cap Q:=open_rows 4 Tryz.underlying39 cellsComp (by decide) CompIs (fun fuel cs x hx=>by
  obtain ⟨k,a,b,c,h1,h2,h3,h4,hcs,_⟩:=comp_cells hx
  obtain ⟨n,rfl,hn⟩:=ok8_nat h1
  exact ⟨⟨n,a,b,c⟩,hcs,hn⟩) ⟨_,h3⟩
 have hql:=hQ.1
 subst hql
 exact ⟨⟨an,bn,cn,Q,ao,cap⟩,rfl,by show an < _;omega,by show bn < _;omega,by show cn < _;omega,hQ⟩
theorem ock_one {d k:Nat} {C:List Cp} (hd:d=3∨d=4) (h:ock d k C=0):C.length=1:=by
 unfold ock at h
 rw [if_neg (by omega),if_neg (by omega),if_pos hd] at h
 split at h
 ·assumption
 ·cases h
theorem ock_ways {d k:Nat} {C:List Cp} (h:ock d k C=0):d=1∨d=2∨d=3∨d=4∨d=5:=by
 rcases Nat.lt_or_ge d 1 with c | c
 ·rw [ock_bad d k C (.inl c)] at h;cases h
 ·rcases Nat.lt_or_ge 5 d with e | e
  ·rw [ock_bad d k C (.inr e)] at h;cases h
  ·omega
end Go.Proofs.YtogmdoiecpihdaaGreatDoor
namespace Go.Proofs.YtogmdoiecpihdaaGreatDoor
open Go.RowKit
set_option linter.unusedVariables false
set_option maxHeartbeats 2000000
set_option maxRecDepth 100000
def OrdE.is (o:OrdE):Nat × Nat × Nat × List Cp:=(o.d,o.id,o.k,o.C)
def OrdE.cut (o:OrdE):OrdE:={ o with C:=o.C.take 20 }
theorem cat_one (o:OrdE):cat OrdE.cs [o]=o.cs:=by simp [cat]
end Go.Proofs.YtogmdoiecpihdaaGreatDoor
