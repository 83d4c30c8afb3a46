/- The world and the document's, there or not. -/
import Derived.Test.YtogmdoiecpihdaaGreatDoorQs49
import Derived.Test.YtogmdoiecpihdaaGreatDoorQs46
import Derived.Test.YtogmdoiecpihdaaGreatDoorQs18
import Derived.Test.YtogmdoiecpihdaaGreatDoorQs26
import Derived.Test.YtogmdoiecpihdaaGreatDoorQs39
import Derived.Test.YtogmdoiecpihdaaGreatDoorQs22
import Derived.Test.YtogmdoiecpihdaaGreatDoorQs20
import Derived.Deep.CutBlock
namespace Go.Proofs.YtogmdoiecpihdaaGreatDoor
open Go.RowKit Go.Maps
set_option linter.unusedVariables false
set_option maxHeartbeats 32000000
set_option maxRecDepth 100000
theorem wstep_nil (w:World):Calls Tryz.prog 15 #[.pointer none] w fun e w'=>e=.returned (.tuple #[.slice none 0 0,.int .i64 10])∧w'=w:=by
 go_enter Tryz.func15,Tryz.ntmps15
 go_wp2
 go_ret2
 exact ⟨rfl,rfl⟩
theorem rstep15_nil (w:World):Calls Tryz.prog 16 #[.pointer none] w fun e w'=>e=.returned (.tuple #[.slice none 0 0,.int .i64 10])∧w'=w:=by
 go_enter Tryz.func16,Tryz.ntmps16
 go_wp2
 go_ret2
 exact ⟨rfl,rfl⟩
theorem rstep15_end (w0 w:World) (l:List Thing) (b K:Nat) (y:RWd) (hT:y.T=4294967295) (h:Own w0 w (RWdT b y K::l)):Calls Tryz.prog 16 #[.pointer (some ⟨b,0,none⟩)] w fun e w'=>e=.returned (.tuple #[.slice none 0 0,.int .i64 11])∧w'=w:=by
 obtain ⟨bs,wv,mv,pv,h⟩:=h.rwO
 have q2:=h.two.cell 2
 simp [rwcs] at q2
 rw [hT] at q2
 clear h hT
 go_enter Tryz.func16,Tryz.ntmps16
 go_wp2
 go_ret2
 exact ⟨rfl,rfl⟩
theorem wpush_nil (w:World) (o:OrdE):Calls Tryz.prog 12 #[.pointer none,o.ag] w fun e w'=>e=.returned (.int .i64 10)∧Fr Nobody w w':=by
 unfold OrdE.ag
 go_enter Tryz.func12,Tryz.ntmps12
 go_wp2
 go_ret
 exact ⟨rfl,(Fr.refl _ _).alloc _⟩
theorem rpush15_nil (w:World) (o:OrdE):Calls Tryz.prog 13 #[.pointer none,o.ag] w fun e w'=>e=.returned (.int .i64 10)∧Fr Nobody w w':=by
 unfold OrdE.ag
 go_enter Tryz.func13,Tryz.ntmps13
 go_wp2
 go_ret
 exact ⟨rfl,(Fr.refl _ _).alloc _⟩
structure JW (x:Wd) (y:RWd):Prop where
 T:y.T=x.T
 max:x.T≤4294967295
 σ:y.σ=x.σ
 ok:x.σ.Ok
 E:y.E.map OrdE.bare=x.E.map OrdE.bare
 ix:∀ o∈x.E,o.In
 iy:∀ o∈y.E,o.In
 le:x.E.length≤256
 P:y.P=x.P
 pl:x.P.length≤10000
 M:InvM x.σ x.S y.M
 mko:MkOf x.σ y.M
 ml:y.M.length≤10000
 tk:∀ i k s,x.S i k=some s→s.t≤x.T
theorem JW.len {x:Wd} {y:RWd} (h:JW x y):y.E.length=x.E.length:=by
 have:=congrArg List.length h.E
 simpa using this
theorem jw_new (n f T:Nat) (h1:1≤n) (h2:n≤1024) (h3:1≤f) (h4:f≤4194303) (hT:T≤4294967295):JW ⟨T,Sto.new n f,[],fun _ _=>none,[]⟩ ⟨T,Sto.new n f,[],[],[]⟩ where
 T:=rfl
 max:=hT
 σ:=rfl
 ok:=Sto.new_ok n f h1 h2 h3 h4
 E:=rfl
 ix:=fun _ h=>by cases h
 iy:=fun _ h=>by cases h
 le:=by simp
 P:=rfl
 pl:=by simp
 M:=invM_new (Sto.new_ok n f h1 h2 h3 h4)
 mko:=by
  unfold MkOf allS
  rw [new_list (Sto.new_ok n f h1 h2 h3 h4)]
  rfl
 ml:=by simp
 tk:=fun _ _ _ h=>by cases h
def WO (p:Option Nat) (x:Wd) (K n:Nat):Thing:=match p with
 | some b=>WdT b x K n
 | none=>FctW True
def RO (p:Option Nat) (y:RWd) (K:Nat):Thing:=match p with
 | some b=>RWdT b y K
 | none=>FctW True
def pw (p:Option Nat):Option Addr:=p.map (fun b=>⟨b,0,none⟩)
def pco (p:Option Nat) (E:List OrdE) (o:OrdE):Int:=if p.isNone=true then 10 else pcode E o
def PushO (p:Option Nat) (E:List OrdE) (o:OrdE) (E':List OrdE):Prop:=if p.isNone=true then E'=E else PushTo E o E'
theorem wpush_o (w0 w:World) (l:List Thing) (p:Option Nat) (K n:Nat) (x:Wd) (ht:Tab w0) (h:Own w0 w (WO p x K n::l)) (o:OrdE) (hi:o.In) (hCs:∀ w',Own w0 w' l→Cs w' o.ao o.C) :
  Calls Tryz.prog 12 #[.pointer (pw p),o.ag] w fun e w'=>∃ E',e=.returned (.int .i64 (pco p x.E o))∧PushO p x.E o E'∧Own w0 w' (WO p { x with E:=E' } K n::l):=by
 cases p with
 | none =>
  refine (wpush_nil w o).mono ?_
  rintro e w' ⟨rfl,hf⟩
  exact ⟨x.E,rfl,rfl,h.quiet hf⟩
 | some b=>exact wpush w0 w l b K n x ht h o hi hCs
theorem rpush_o (w0 w:World) (l:List Thing) (p:Option Nat) (K:Nat) (y:RWd) (h:Own w0 w (RO p y K::l)) (o:OrdE) (hi:o.In) (hCs:∀ w',Own w0 w' l→Cs w' o.ao o.C) (hE:y.E.length≤256) :
  Calls Tryz.prog 13 #[.pointer (pw p),o.ag] w fun e w'=>∃ E',e=.returned (.int .i64 (pco p y.E o))∧PushO p y.E o E'∧Own w0 w' (RO p { y with E:=E' } K::l):=by
 cases p with
 | none =>
  refine (rpush15_nil w o).mono ?_
  rintro e w' ⟨rfl,hf⟩
  exact ⟨y.E,rfl,rfl,h.quiet hf⟩
 | some b=>exact rpush15 w0 w l b K y h o hi hCs hE
def Both (p q:Option Nat):Prop:=p.isNone=q.isNone
theorem jw_push {p q:Option Nat} (hb:Both p q) {x:Wd} {y:RWd} (h:JW x y) {o o2:OrdE} (ho:o.is=o2.is) (hi:o.In) (hi2:o2.In):pco p x.E o=pco q y.E o2∧∀ E E2,PushO p x.E o E→PushO q y.E o2 E2→JW { x with E:=E } { y with E:=E2 }:=by
 have hck:o.ck=o2.ck:=by
  unfold OrdE.is at ho
  simp only [Prod.mk.injEq] at ho
  unfold OrdE.ck
  rw [ho.1,ho.2.2.1,ho.2.2.2]
 have hbare:o.bare=o2.bare:=by
  unfold OrdE.is at ho
  simp only [Prod.mk.injEq] at ho
  obtain ⟨d,id,k,C,a,c⟩:=o
  obtain ⟨d2,id2,k2,C2,a2,c2⟩:=o2
  simp only at ho
  obtain ⟨rfl,rfl,rfl,rfl⟩:=ho
  rfl
 have hl:=h.len
 unfold Both at hb
 refine ⟨?_,fun E E2 hE hE2=>?_⟩
 ·unfold pco pcode
  rw [hb,hck,hl]
 ·unfold PushO at hE hE2
  rw [← hb] at hE2
  by_cases c:p.isNone=true
  ·rw [if_pos c] at hE hE2
   subst hE;subst hE2
   exact h
  ·rw [if_neg c] at hE hE2
   have b1:=hE.bare
   have b2:=hE2.bare
   have m1:=hE.more hi h.ix
   have m2:=hE2.more hi2 h.iy
   refine ⟨h.T,h.max,h.σ,h.ok,?_,m1.1,m2.1,?_,h.P,h.pl,h.M,h.mko,h.ml,h.tk⟩
   ·show E2.map OrdE.bare=E.map OrdE.bare
    rw [b1,b2,h.E]
    unfold push1
    rw [hck,hbare]
   ·show E.length≤256
    have hle:=h.le
    unfold PushTo at hE
    split at hE
    ·rename_i cc
     obtain ⟨a,c,rfl⟩:=hE
     simp;omega
    ·rw [hE];exact hle
def SStep (p:Option Nat) (x x':Wd) (R:List (Int × Nat)) (code:Int):Prop :=
 (p.isNone=true∧x'=x∧R=[]∧code=10)∨(p.isNone=false∧x.T=4294967295∧x'=x∧R=[]∧code=11)∨(p.isNone=false∧x.T≠4294967295∧code=0∧R=(runs stq (x.σ,0) x.E).1∧∃ P,PlOf x.S (x.next 0 P).S (x.T+1) P∧x'=x.next 0 P)
def RStep (p:Option Nat) (y y':RWd) (R:List (Int × Nat)) (code:Int):Prop :=
 (p.isNone=true∧y'=y∧R=[]∧code=10)∨(p.isNone=false∧y.T=4294967295∧y'=y∧R=[]∧code=11)∨(p.isNone=false∧y.T≠4294967295∧code=0∧R=(runs stq (y.σ,0) y.E).1∧y'=y.next 0)
theorem next_K (x:Wd) (K:Nat) (P:List PlE):x.next K P=x.next 0 P:=by
 unfold Wd.next
 rw [(runs_K x.E x.σ K 0).2]
theorem rnext_K (y:RWd) (K:Nat):y.next K=y.next 0:=by
 unfold RWd.next
 simp only
 rw [(runs_K y.E y.σ K 0).2]
theorem wstep_o (w0 w:World) (l:List Thing) (p:Option Nat) (K n:Nat) (x:Wd) (y:RWd) (ht:Tab w0) (hj:JW x y) (hK:K≤700000) (hn:n≤100000) (h:Own w0 w (WO p x K n::l)) :
  Calls Tryz.prog 15 #[.pointer (pw p)] w fun e w'=>∃ (ra:Option Addr) (rc:Nat) (R:List (Int × Nat)) (code:Int) (x':Wd) (K' n':Nat),e=.returned (.tuple #[.slice ra R.length rc,.int .i64 code])∧SStep p x x' R code∧R.length≤256∧K'≤K+2560∧n'≤100000∧Own w0 w' (Row 89 2 (.slice ra R.length rc) R.length (cat rcel R)::WO p x' K' n'::l):=by
 cases p with
 | none =>
  refine (wstep_nil w).mono ?_
  rintro e w' ⟨rfl,rfl⟩
  exact ⟨none,0,[],10,x,K,n,rfl,.inl ⟨rfl,rfl,rfl,rfl⟩,by simp,by omega,hn,h.nilRow 89 2⟩
 | some b =>
  by_cases hT:x.T=4294967295
  ·refine (wstep_end w0 w l b K n x hT h).mono ?_
   rintro e w' ⟨rfl,rfl⟩
   exact ⟨none,0,[],11,x,K,n,rfl,.inr (.inl ⟨rfl,hT,rfl,rfl,rfl⟩),by simp,by omega,hn,h.nilRow 89 2⟩
  ·have hmax:=hj.max
   have hle:=hj.le
   refine (wstep w0 w l b K n x ht hj.ok hK hn (by omega) (by omega) hj.ix h).mono ?_
   rintro e w' ⟨ra,rc,K',n',P,rfl,hK',hn',hok,hPl,hO⟩
   rw [next_K] at hok hPl hO
   have hl:(runs stq (x.σ,K) x.E).1.length=x.E.length:=runs_len2 x.E _
   have e1:(runs stq (x.σ,K) x.E).1=(runs stq (x.σ,0) x.E).1:=(runs_K x.E x.σ K 0).1
   rw [e1] at hl hO
   refine ⟨ra,rc,(runs stq (x.σ,0) x.E).1,0,x.next 0 P,K',n',by rw [hl],.inr (.inr ⟨rfl,hT,rfl,rfl,P,hPl,rfl⟩),by omega,by omega,by omega,?_⟩
   rw [hl]
   exact hO
theorem rstep_o (w0 w:World) (l:List Thing) (p:Option Nat) (K:Nat) (x:Wd) (y:RWd) (hj:JW x y) (hK:K≤90000) (h:Own w0 w (RO p y K::l)) :
  Calls Tryz.prog 16 #[.pointer (pw p)] w fun e w'=>∃ (ra:Option Addr) (rc:Nat) (R:List (Int × Nat)) (code:Int) (y':RWd) (K':Nat),e=.returned (.tuple #[.slice ra R.length rc,.int .i64 code])∧RStep p y y' R code∧K'≤K+3584∧Own w0 w' (Row 89 2 (.slice ra R.length rc) R.length (cat rcel R)::RO p y' K'::l):=by
 cases p with
 | none =>
  refine (rstep15_nil w).mono ?_
  rintro e w' ⟨rfl,rfl⟩
  exact ⟨none,0,[],10,y,K,rfl,.inl ⟨rfl,rfl,rfl,rfl⟩,by omega,h.nilRow 89 2⟩
 | some b =>
  by_cases hT:y.T=4294967295
  ·refine (rstep15_end w0 w l b K y hT h).mono ?_
   rintro e w' ⟨rfl,rfl⟩
   exact ⟨none,0,[],11,y,K,rfl,.inr (.inl ⟨rfl,hT,rfl,rfl,rfl⟩),by omega,h.nilRow 89 2⟩
  ·have hmax:=hj.max
   have hTT:=hj.T
   have hle:=hj.le
   have hlen:=hj.len
   refine (rstep15 w0 w l b K y h (by rw [hj.σ];exact hj.ok) hK (by omega) (by omega) hj.iy hj.ml).mono ?_
   rintro e w' ⟨ra,rc,rfl,hok,hO⟩
   rw [rnext_K] at hO
   have hl:(runs stq (y.σ,K) y.E).1.length=y.E.length:=runs_len2 y.E _
   have e1:(runs stq (y.σ,K) y.E).1=(runs stq (y.σ,0) y.E).1:=(runs_K y.E y.σ K 0).1
   rw [e1] at hl hO
   refine ⟨ra,rc,(runs stq (y.σ,0) y.E).1,0,y.next 0,K+2*y.E.length+3072,by rw [hl],.inr (.inr ⟨rfl,hT,rfl,rfl,rfl⟩),by omega,?_⟩
   rw [hl]
   exact hO
theorem jw_step {p q:Option Nat} (hb:Both p q) {x x':Wd} {y y':RWd} {R R':List (Int × Nat)} {c c':Int} (h:JW x y) (hs:SStep p x x' R c) (hr:RStep q y y' R' c'):R'=R∧c'=c∧JW x' y':=by
 have hT:=h.T
 unfold Both at hb
 rcases hs with ⟨p1,rfl,rfl,rfl⟩ | ⟨p1,p2,rfl,rfl,rfl⟩ | ⟨p1,p2,rfl,rfl,P,hP,rfl⟩
 ·rcases hr with ⟨q1,rfl,rfl,rfl⟩ | ⟨q1,_⟩ | ⟨q1,_⟩
  ·exact ⟨rfl,rfl,h⟩
  ·rw [← hb,p1] at q1;cases q1
  ·rw [← hb,p1] at q1;cases q1
 ·rcases hr with ⟨q1,_⟩ | ⟨q1,q2,rfl,rfl,rfl⟩ | ⟨q1,q2,_⟩
  ·rw [← hb,p1] at q1;cases q1
  ·exact ⟨rfl,rfl,h⟩
  ·rw [hT] at q2;exact absurd p2 q2
 ·rcases hr with ⟨q1,_⟩ | ⟨q1,q2,_⟩ | ⟨q1,q2,rfl,rfl,rfl⟩
  ·rw [← hb,p1] at q1;cases q1
  ·rw [hT] at q2;exact absurd q2 p2
  ·have e0:runs stq (y.σ,0) y.E=runs stq (x.σ,0) x.E:=by
    rw [runs_bare y.E,h.E,← runs_bare,h.σ]
   have hok:(runs stq (x.σ,0) x.E).2.1.Ok:=runs_ok x.E (x.σ,0) h.ok
   have hok2:=sys_ok hok
   have hmax:=h.max
   have hR:(runs stq (y.σ,0) y.E).1=(runs stq (x.σ,0) x.E).1:=by rw [e0]
   obtain ⟨σ',hσ'⟩:∃ σ',(runs stq (x.σ,0) x.E).2.1.sys=σ':=⟨_,rfl⟩
   have ex:x.next 0 P=⟨x.T+1,σ',[],mapOf x.S (x.T+1) (allS σ'),P⟩:=by unfold Wd.next;rw [hσ']
   have ey:y.next 0=⟨x.T+1,σ',[],(allS σ').map (mkA x.σ y.M (x.T+1)),x.σ.S.list.foldl (plB x.σ σ') ((allS σ').foldl (plA x.σ) [])⟩:=by
    unfold RWd.next
    rw [e0,h.σ,hT,hσ']
   rw [hσ'] at hok2
   rw [ex] at hP
   simp only at hP
   rw [ex,ey]
   have hp:P=x.σ.S.list.foldl (plB x.σ σ') ((allS σ').foldl (plA x.σ) []):=places_same h.M h.ok hok2 (fun i k s hs=>by have:=h.tk i k s hs;omega) hP
   have hpl:P.length≤10000:=by
    rw [hp]
    refine Nat.le_trans (plB_len _ _ _ _) ?_
    have h1:=plA_len x.σ (allS σ')
    have h2:=allS_len hok2
    have h3:=list_lenW h.ok.s
    omega
   refine ⟨hR,rfl,⟨rfl,(by show x.T+1≤_;omega),rfl,hok2,rfl,(fun o ho=>by cases ho),(fun o ho=>by cases ho),(Nat.zero_le _),hp.symm,hpl,invM_next h.M h.ok hok2 (x.T+1),mkOf_next hok2 _ _,?_,ticks_next hok2 h.tk⟩⟩
   show (List.map _ _).length≤_
   rw [List.length_map]
   have:=allS_len hok2
   omega
end Go.Proofs.YtogmdoiecpihdaaGreatDoor
namespace Go.Proofs.YtogmdoiecpihdaaGreatDoor
open Go.RowKit
set_option linter.unusedVariables false
set_option maxHeartbeats 32000000
set_option maxRecDepth 100000
def few12 (Q:List OrdE):List OrdE:=(Q.take 12).map OrdE.cut
theorem few12_len (Q:List OrdE):(few12 Q).length≤12:=by simp [few12];omega
theorem few12_succ (Q:List OrdE) (j:Nat) (o:OrdE) (ho:Q[j]? = some o):few12 (Q.take (j+1))=if j < 12 then few12 (Q.take j)++[o.cut] else few12 (Q.take j):=by
 unfold few12
 rw [List.take_take,List.take_take]
 split
 ·rename_i h
  rw [Nat.min_eq_right (by omega),Nat.min_eq_right (by omega),List.take_add_one,ho]
  simp
 ·rw [Nat.min_eq_left (by omega),Nat.min_eq_left (by omega)]
theorem few12_ok (w0 w:World) (l:List Thing) (h:Own w0 w l) (ao:Option Addr) (n cap:Nat) (Q:List OrdE) (hn:Q.length=n) (hn6:n≤9223372036854775807) (hQ:∀ w',Own w0 w' l→Ords w' ao Q) (hw:∀ o∈Q,o.C.length≤o.cap∧o.cap≤9223372036854775807) :
  Calls Tryz.prog 10 #[.slice ao n cap,.int .i64 12] w fun e w'=>∃ ra rc,e=.returned (.slice ra (few12 Q).length rc)∧Own w0 w' (Row 41 4 (.slice ra (few12 Q).length rc) (few12 Q).length (cat OrdE.cs (few12 Q))::l):=by
 obtain ⟨i0,hi0,hz0,hz1,hz2⟩:=info_parts Tryz.infoOrd
 have H:Hid (Own w0 w l):=h
 have HN:Hid (Q.length=n):=hn
 have HQ:Hid (∀ w',Own w0 w' l→Ords w' ao Q):=hQ
 have HW:Hid (∀ o∈Q,o.C.length≤o.cap∧o.cap≤9223372036854775807):=hw
 clear h hn hQ hw
 go_enter Tryz.func10,Tryz.ntmps10
 go_wp2
 go_loopw [5,10] (fun ov jv wr=>∃ (j:Nat) (ra:Option Addr) (rc:Nat),j≤n∧jv=.int .i64 j∧ov=.slice ra (few12 (Q.take j)).length rc∧Own w0 wr (Row 41 4 (.slice ra (few12 (Q.take j)).length rc) (few12 (Q.take j)).length (cat OrdE.cs (few12 (Q.take j)))::l)) (fun _ jv _=>n - (intOf jv).toNat)
 case atStart=>exact ⟨0,none,0,Nat.zero_le _,rfl,rfl,H.out.nilRow 41 4⟩
 case round =>
  obtain ⟨j,ra,rc,hj,rfl,rfl,hO⟩:=hrel
  have HO:Hid (Own w0 wr _):=hO
  clear H
  by_cases hlt:j < n
  ·obtain ⟨o,ho⟩:∃ o,Q[j]? = some o:=⟨_,List.getElem?_eq_getElem (by rw [HN.out];exact hlt)⟩
   obtain ⟨g,off,hao,c0,c1,c2,c3⟩:=(HQ.out wr hO.tail).at j o ho
   have hlt':(j:Int) < (n:Int):=by omega
   obtain ⟨hw1,hw2⟩:=HW.out o (List.mem_of_getElem? ho)
   have HS:Hid (few12 (Q.take (j+1))=if j < 12 then few12 (Q.take j)++[o.cut] else few12 (Q.take j)):=few12_succ Q j o ho
   have hfl:=few12_len (Q.take j)
   subst hao
   by_cases h60:j < 12
   ·have h60':(j:Int) < 12:=by omega
    obtain ⟨k,hk⟩:∃ k,k=min o.C.length 20:=⟨_,rfl⟩
    have hmin:min (o.C.length:Int) 20=(k:Int):=by omega
    have hk1:k≤o.C.length:=by omega
    have hk2:k≤o.cap:=by omega
    have H5:Hid (Own w0 _ _):=hO.alloc (.cells #[.int .u8 (o.d:Int),.int .u32 (o.id:Int),.int .u8 (o.k:Int),.slice o.ao k o.cap] 41)
    have HCS:Hid (o.cut.cs=[.int .u8 (o.d:Int),.int .u32 (o.id:Int),.int .u8 (o.k:Int),.slice o.ao k o.cap]):=by
     show _=_
     unfold OrdE.cut OrdE.cs
     simp only [List.length_take,hk,Nat.min_comm]
    have HS2:Hid (few12 (Q.take (j+1))=few12 (Q.take j)++[o.cut]):=by have:=HS.out;rw [if_pos h60] at this;exact this
    obtain ⟨d,oid,ok,C,oa,oc⟩:=o
    simp only at c0 c1 c2 c3 hmin hk1 hk2 hw1 hw2 H5 HCS
    clear hO HO ho hk HS
    go_wp2_with (at_builtin;refine append1_own rfl _ _ 32 rfl 41 i0 (.agg #[.int .u8 0,.int .u32 0,.int .u8 0,.slice none 0 0]) 4 40 Tryz.underlying32 hi0 hz0 hz1 hz2 rfl (by decide) _ (few12 (Q.take j)).length (cat OrdE.cs (few12 (Q.take j))) rfl H5.out _ #[.int .u8 (d:Int),.int .u32 (oid:Int),.int .u8 (ok:Int),.slice oa k oc] (by simp) rfl rfl (by intro u hu;simp at hu;rcases hu with rfl | rfl | rfl | rfl <;> rfl) (by unfold maxLen;omega) (by omega) ?_)
    intro g6 c6 w6 hO6 hsz6
    have H6:Hid (Own w0 w6 (Row 41 4 (.slice (some ⟨g6,0,none⟩) (few12 (Q.take (j+1))).length c6) (few12 (Q.take (j+1))).length (cat OrdE.cs (few12 (Q.take (j+1))))::l)):=by
     show Own _ _ _
     rw [HS2.out,List.length_append,cat_append,cat_one,HCS.out];exact hO6
    have HL6:Hid ((few12 (Q.take j)).length+1=(few12 (Q.take (j+1))).length):=by show _=_;rw [HS2.out,List.length_append];rfl
    clear hO6 hsz6 H5 c0 c1 c2 c3
    go_wp2
    go_roundw
    case rel=>exact ⟨j+1,_,_,by omega,by go_num,by rw [HL6.out],H6.out⟩
    case measure=>simp [intOf];omega
   ·have h60':¬ (j:Int) < 12:=by omega
    have HS2:Hid (few12 (Q.take (j+1))=few12 (Q.take j)):=by have:=HS.out;rw [if_neg h60] at this;exact this
    have HA:Hid (Own w0 _ _):=hO.alloc (.cells #[.int .u8 (o.d:Int),.int .u32 (o.id:Int),.int .u8 (o.k:Int),.slice o.ao o.C.length o.cap] 41)
    obtain ⟨d,oid,ok,C,oa,oc⟩:=o
    simp only at c0 c1 c2 c3 HA
    clear hO HO ho HS
    go_wp2
    go_roundw
    case rel =>
     refine ⟨j+1,ra,rc,by omega,by go_num,by rw [HS2.out],?_⟩
     rw [HS2.out];exact HA.out
    case measure=>simp [intOf];omega
  ·have hlt':¬ (j:Int) < (n:Int):=by omega
   have hT:Q.take j=Q:=List.take_of_length_le (by rw [HN.out];omega)
   rw [hT] at HO ⊢
   clear hO hT
   go_wp2
   go_ret
   exact ⟨_,_,rfl,HO.out⟩
end Go.Proofs.YtogmdoiecpihdaaGreatDoor
namespace Go.Proofs.YtogmdoiecpihdaaGreatDoor
open Go.ChangeShapes Go.WideShapes Go.ChangeAt Go.RowKit Go.Maps Go.Deep
set_option linter.unusedVariables false
set_option maxHeartbeats 32000000
set_option maxRecDepth 100000
structure LsoE where
 ao:Option Addr
 len:Nat
 cap:Nat
 Q:List OrdE
theorem cellsLsO:Tryz.prog.cellsOf 32=1:=by kernel_rfl
def LsoIs (W:World) (cs:List Value) (t:LsoE):Prop:=cs=[.slice t.ao t.len t.cap]∧IsOrds W t.ao t.len t.cap t.Q
theorem lso_is {H:Type} {enc:TypeId × Value→H} {W:World} (fuel:Nat) (cs:List Value) (x:DataW H × List MemPlace)
  (h:DataW.trod enc Tryz.prog W 0 (fun _=>true) true fuel 32 cs=some x):∃ o,LsoIs W cs o:=by
 obtain ⟨ao,len,cap,hv⟩:∃ ao len cap,cs=[.slice ao len cap]:=by
  rcases open_slice Tryz.underlying32 h with ⟨hc,_⟩ | ⟨a,l,c,m,n,D,Pl,hc,_⟩
  ·exact ⟨_,_,_,hc⟩
  ·exact ⟨_,_,_,hc⟩
 subst hv
 obtain ⟨d,p⟩:=x
 haveI:Inhabited OrdE:=⟨⟨0,0,0,[],none,0⟩⟩
 obtain ⟨Q,hQ⟩:∃ Q,IsOrds W ao len cap Q:=open_rows 4 Tryz.underlying32 cellsOrd (by decide) (OrdT W) (fun fuel cs x hx=>ord_is fuel cs x hx) (d:=d) (p:=p) ⟨_,h⟩
 exact ⟨⟨ao,len,cap,Q⟩,rfl,hQ⟩
def IsLsos (w:World) (ao:Option Addr) (len cap:Nat) (Q:List LsoE):Prop:=Q.length=len∧len≤cap∧cap≤maxLen∧RowsAt (LsoIs w) 1 w ao Q
theorem open_lsos {H:Type} {enc:TypeId × Value→H} {W:World} {base:Nat} {ao:Option Addr} {len cap:Nat} {d:DataW H} {p:List MemPlace}
  (hv:Value.okWide Tryz.prog W .any base 59 (.slice ao len cap)) (h:DataW.Trod enc Tryz.prog W 0 (fun _=>true) true 59 (.slice ao len cap) d p):∃ Q,IsLsos W ao len cap Q:=by
 haveI:Inhabited LsoE:=⟨⟨none,0,0,[]⟩⟩
 exact open_rows 1 Tryz.underlying59 cellsLsO (by decide) (LsoIs W) (fun fuel cs x hx=>lso_is fuel cs x hx) h
theorem lso_at {W w:World} {ao:Option Addr} {Q:List LsoE} (h:RowsAt (LsoIs W) 1 w ao Q) (k:Nat) (hk:k < Q.length):∃ (g o:Nat) (q:LsoE),ao=some ⟨g,o,none⟩∧IsOrds W q.ao q.len q.cap q.Q∧w.cell? ⟨g,o+k,none⟩=some (.slice q.ao q.len q.cap):=by
 obtain ⟨q,hq⟩:∃ q,Q[k]? = some q:=⟨_,List.getElem?_eq_getElem hk⟩
 rcases h with h | ⟨g,o,ha,hc⟩
 ·subst h;simp at hq
 ·obtain ⟨cs,⟨rfl,h5⟩,_,h3⟩:=hc k q hq
  have h6:=h3 0 (by decide)
  rw [Nat.mul_one,Nat.add_zero] at h6
  exact ⟨g,o,q,ha,h5,h6⟩
theorem run18 (w:World) (ht:Tab w) (w1:World) (hf:Fr Nobody w w1) (ao:Option Addr) (len cap:Nat) (Q:List LsoE) (hQ:IsLsos w ao len cap Q) :
  Calls Tryz.prog 23 #[.slice ao len cap] w1 fun e w'=>∃ (ba bb:Nat) (x:Wd) (y:RWd) (K n K2:Nat),e=.returned (.tuple #[.pointer (some ⟨ba,0,none⟩),.pointer (some ⟨bb,0,none⟩)])∧JW x y∧K≤40000∧n≤100000∧K2≤40000∧Own w w' [WdT ba x K n,RWdT bb y K2]:=by
 obtain ⟨hQl,hlc,hcm,hQa⟩:=hQ
 unfold maxLen at hcm
 have HT:Hid (Tab w):=ht
 have HQ:Hid (Q.length=len∧RowsAt (LsoIs w) 1 w ao Q):=⟨hQl,hQa⟩
 have HC:Hid (Calls _ _ _ _ _):=wnew w w1 [] 30 1 0 (Own.of_fr hf) (by decide) (by decide) (by decide) (by decide)
 clear hQl hQa ht hf
 go_enter Tryz.func23,Tryz.ntmps23
 go_wp2_with fail
 refine HC.out.mono ?_
 rintro e w2 ⟨ba,rfl,hO⟩
 have HC2:Hid (Calls _ _ _ _ _):=rnew15 w w2 _ 30 1 0 hO (by decide) (by decide) (by decide) (by decide)
 clear HC hO
 go_wp2_with fail
 refine HC2.out.mono ?_
 rintro e w3 ⟨bb,rfl,hO⟩
 have H3:Hid (Own w w3 [WdT ba ⟨0,Sto.new 30 1,[],fun _ _=>none,[]⟩ 0 0,RWdT bb ⟨0,Sto.new 30 1,[],[],[]⟩ 0]):=hO.two
 have HJ0:Hid (JW _ _):=jw_new 30 1 0 (by decide) (by decide) (by decide) (by decide) (by decide)
 clear HC2 hO
 go_wp2
 refine wp_loop (fun a' wr=>∃ (k:Nat) (x:Wd) (y:RWd) (K n2 K2:Nat),a'={ tmps:=#[gf a' 0,gf a' 1,gf a' 2,gf a' 3,.pointer (some ⟨ba,0,none⟩),gf a' 5,.pointer (some ⟨bb,0,none⟩),gf a' 7,gf a' 8,gf a' 9,gf a' 10,gf a' 11,gf a' 12,gf a' 13,gf a' 14,gf a' 15,gf a' 16,gf a' 17,gf a' 18,gf a' 19,.slice ao len cap,.int .i64 (len:Int),.int .i64 (k:Int),gf a' 23,gf a' 24,gf a' 25,gf a' 26,gf a' 27,gf a' 28,gf a' 29,gf a' 30,gf a' 31,gf a' 32,gf a' 33,gf a' 34,gf a' 35,gf a' 36,gf a' 37,gf a' 38,gf a' 39,gf a' 40,gf a' 41,gf a' 42,gf a' 43,gf a' 44,gf a' 45,gf a' 46,gf a' 47,gf a' 48,gf a' 49],defers:=[] }∧k≤len∧k≤8∧JW x y∧K≤4000*k∧n2≤100000∧K2≤4000*k∧Own w wr [WdT ba x K n2,RWdT bb y K2]) (fun a' _=>len - (intOf (a'.tmps.getD 22 undef)).toNat) ?_ ?_
 ·exact ⟨0,_,_,0,0,0,rfl,Nat.zero_le _,Nat.zero_le _,HJ0.out,Nat.le_refl _,Nat.zero_le _,Nat.le_refl _,H3.out⟩
 ·intro a' wr hI
  obtain ⟨k,x,y,K,n2,K2,hact,hk,hk12,hj,hK,hn2,hK2,hO⟩:=hI
  obtain ⟨u,hu⟩:∃ u:Nat→Value,∀ k,gf a' k=u k:=⟨_,fun _=>rfl⟩
  simp only [hu] at hact
  clear hu
  subst hact
  have HJ:Hid (JW x y):=hj
  clear H3 HJ0 hj
  by_cases hlt:k < len
  ·have hlt':(k:Int) < (len:Int):=by omega
   obtain ⟨g,o,qq,hao,hIO,p0⟩:=lso_at (HQ.out.2.quiet hO.fr) k (by rw [HQ.out.1];exact hlt)
   subst hao
   obtain ⟨qa,ql,qc,qQ⟩:=qq
   simp only at hIO p0
   by_cases h12:k < 8
   ·have h12':¬ (8:Int)≤(k:Int):=by omega
    obtain ⟨hql,hqc,hqm,_⟩:=id hIO
    obtain ⟨hOr,hw⟩:=hIO.ords
    unfold maxLen at hqm
    obtain ⟨L,hL⟩:∃ L,few12 qQ=L:=⟨_,rfl⟩
    obtain ⟨m,hm⟩:∃ m,L.length=m:=⟨_,rfl⟩
    have hm12:m≤12:=by rw [← hm,← hL];exact few12_len qQ
    have HLI:Hid (∀ x∈L,Cs w x.ao x.C∧x.In∧x.C.length≤20):=by
     intro x hx
     rw [← hL] at hx
     obtain ⟨o,ho,rfl⟩:=List.mem_map.1 hx
     have ho:=List.mem_of_mem_take ho
     obtain ⟨h1,h2,h3,h4⟩:=hw o ho
     have hl:(o.C.take 20).length≤20:=by rw [List.length_take];exact Nat.min_le_left _ _
     exact ⟨(hOr.2 o ho).take 20,⟨h1,h2,h3,fun q hq=>h4.cs.2 q (List.mem_of_mem_take hq),Nat.le_trans hl (by decide)⟩,hl⟩
    have HFW:Hid (Calls _ _ _ _ _):=few12_ok w _ _ hO qa ql qc qQ hql (by omega) (fun w'' h''=>hOr.quiet h''.fr) (fun o ho=>⟨(hw o ho).2.2.2.2.1,(hw o ho).2.2.2.2.2.1⟩)
    rw [hL,hm] at HFW
    have HN:Hid (L.length=m):=hm
    clear hO hOr hw hIO hL hm hql
    go_wp2_with fail
    refine HFW.out.mono ?_
    rintro e w4 ⟨fa,fc,rfl,hO⟩
    have H5:Hid (Own w w4 [WdT ba x K n2,RWdT bb y K2,Row 41 4 (.slice fa m fc) m (cat OrdE.cs L)]):=hO.sel 3 [1,2,0] (by decide)
    clear HFW hO p0
    go_upto_block 2 with (fail)
    refine wp_cut (fun a' wc=>∃ (x':Wd) (y':RWd),a'={ tmps:=#[gf a' 0,gf a' 1,gf a' 2,gf a' 3,.pointer (some ⟨ba,0,none⟩),gf a' 5,.pointer (some ⟨bb,0,none⟩),gf a' 7,gf a' 8,gf a' 9,gf a' 10,gf a' 11,gf a' 12,gf a' 13,gf a' 14,gf a' 15,gf a' 16,gf a' 17,gf a' 18,gf a' 19,.slice (some ⟨g,o,none⟩) len cap,.int .i64 (len:Int),.int .i64 (k:Int),gf a' 23,gf a' 24,gf a' 25,gf a' 26,gf a' 27,gf a' 28,gf a' 29,gf a' 30,gf a' 31,gf a' 32,gf a' 33,gf a' 34,gf a' 35,gf a' 36,gf a' 37,gf a' 38,gf a' 39,gf a' 40,gf a' 41,gf a' 42,gf a' 43,gf a' 44,gf a' 45,gf a' 46,gf a' 47,gf a' 48,gf a' 49],defers:=[] }∧JW x' y'∧Own w wc [WdT ba x' K n2,RWdT bb y' K2]) ?rest ?first
    case first =>
     intro J K' hJ hK'
     have HJJ:Hid _:=hJ
     clear hJ
     go_wp2
     refine wp_loop (fun a' wr=>∃ (j:Nat) (x':Wd) (y':RWd),a'={ tmps:=#[gf a' 0,gf a' 1,gf a' 2,gf a' 3,.pointer (some ⟨ba,0,none⟩),gf a' 5,.pointer (some ⟨bb,0,none⟩),gf a' 7,gf a' 8,gf a' 9,gf a' 10,gf a' 11,gf a' 12,gf a' 13,gf a' 14,gf a' 15,gf a' 16,gf a' 17,gf a' 18,gf a' 19,.slice (some ⟨g,o,none⟩) len cap,.int .i64 (len:Int),.int .i64 (k:Int),gf a' 23,gf a' 24,gf a' 25,gf a' 26,gf a' 27,gf a' 28,gf a' 29,.slice fa m fc,.int .i64 (m:Int),.int .i64 (j:Int),gf a' 33,gf a' 34,gf a' 35,gf a' 36,gf a' 37,gf a' 38,gf a' 39,gf a' 40,gf a' 41,gf a' 42,gf a' 43,gf a' 44,gf a' 45,gf a' 46,gf a' 47,gf a' 48,gf a' 49],defers:=[] }∧j≤m∧JW x' y'∧Own w wr [WdT ba x' K n2,RWdT bb y' K2,Row 41 4 (.slice fa m fc) m (cat OrdE.cs L)]) (fun a' _=>m - (intOf (a'.tmps.getD 32 undef)).toNat) ?_ ?_
     ·exact ⟨0,x,y,rfl,Nat.zero_le _,HJ.out,H5.out⟩
     ·intro a' wr hI
      obtain ⟨j,x',y',hact,hjm,hj',hO⟩:=hI
      obtain ⟨u2,hu⟩:∃ u2:Nat→Value,∀ k,gf a' k=u2 k:=⟨_,fun _=>rfl⟩
      simp only [hu] at hact
      clear hu
      subst hact
      clear H5 HJ
      have HJ:Hid (JW x' y'):=hj'
      clear hj'
      by_cases hjn:j < m
      ·have hjn':(j:Int) < (m:Int):=by omega
       obtain ⟨o2,ho2⟩:∃ o2,L[j]? = some o2:=⟨_,List.getElem?_eq_getElem (by rw [HN.out];exact hjn)⟩
       obtain ⟨cs2,in2,l20⟩:=HLI.out o2 (List.mem_of_getElem? ho2)
       obtain ⟨gF,fc',hv2,_⟩:=row_shape hO.three.row (by omega)
       have hfa:=(Value.slice.inj hv2).1
       subst hfa
       obtain ⟨l0,l1,l2,l3⟩:=ord_cells hO.three HN.out j o2 ho2
       have hgf:gF < wr.heap.size:=(hO.three.row.lt gF rfl).2
       have hA:=hO.allocC #[.int .u8 (o2.d:Int),.int .u32 (o2.id:Int),.int .u8 (o2.k:Int),.slice o2.ao o2.C.length o2.cap] 41
       obtain ⟨bo,hbo⟩:∃ bo,wr.heap.size=bo:=⟨_,rfl⟩
       rw [hbo] at hA hgf
       have n1:wr.heap.size≠gF:=by omega
       have hP1:=wpush_o w _ _ (some ba) K n2 x' HT.out hA.two o2 in2 (fun w' hw'=>cs2.quiet hw'.fr)
       have HPB:Hid (∀ W x'',Own w W [WdT ba x'' K n2,Cells bo #[.int .u8 (o2.d:Int),.int .u32 (o2.id:Int),.int .u8 (o2.k:Int),.slice o2.ao o2.C.length o2.cap] 41,RWdT bb y' K2,Row 41 4 (.slice (some ⟨gF,0,none⟩) m fc) m (cat OrdE.cs L)]→Calls Tryz.prog 13 #[.pointer (some ⟨bb,0,none⟩),o2.ag] W fun e w'=>∃ E',e=.returned (.int .i64 (pco (some bb) y'.E o2))∧PushO (some bb) y'.E o2 E'∧Own w w' [RWdT bb { y' with E:=E' } K2,WdT ba x'' K n2,Cells bo #[.int .u8 (o2.d:Int),.int .u32 (o2.id:Int),.int .u8 (o2.k:Int),.slice o2.ao o2.C.length o2.cap] 41,Row 41 4 (.slice (some ⟨gF,0,none⟩) m fc) m (cat OrdE.cs L)]):=fun W x'' hW=>rpush_o w W _ (some bb) K2 y' (hW.sel 4 [2,0,1,3] (by decide)) o2 in2 (fun w' hw'=>cs2.quiet hw'.fr) (by rw [HJ.out.len];exact HJ.out.le)
       have HJW:Hid (∀ E' E2,PushO (some ba) x'.E o2 E'→PushO (some bb) y'.E o2 E2→JW { x' with E:=E' } { y' with E:=E2 }):=(jw_push (p:=some ba) (q:=some bb) rfl HJ.out rfl in2 in2).2
       have HP1:Hid (Calls Tryz.prog 12 #[.pointer (some ⟨ba,0,none⟩),o2.ag] _ _):=hP1
       unfold OrdE.ag at HP1 HPB
       clear hO hA hP1 cs2 in2 hv2 ho2 l20
       obtain ⟨d2,i2,k2,C2,a2,c2⟩:=o2
       simp only at l0 l1 l2 l3 HP1 HPB HJW
       generalize hol:C2.length=ol2 at *
       clear hol
       go_wp2_with fail
       refine HP1.out.mono ?_
       rintro e w6 ⟨EA,rfl,hPA,hO⟩
       have hO:=(show Own w w6 [WdT ba { x' with E:=EA } K n2,Cells bo #[.int .u8 (d2:Int),.int .u32 (i2:Int),.int .u8 (k2:Int),.slice a2 ol2 c2] 41,RWdT bb y' K2,Row 41 4 (.slice (some ⟨gF,0,none⟩) m fc) m (cat OrdE.cs L)] from hO)
       have b0:=hO.two.cell 0
       have b1:=hO.two.cell 1
       have b2:=hO.two.cell 2
       have b3:=hO.two.cell 3
       simp at b0 b1 b2 b3
       have HP2:Hid (Calls _ _ _ _ _):=HPB.out w6 _ hO
       have HPA:Hid (PushO (some ba) x'.E ⟨d2,i2,k2,C2,a2,c2⟩ EA):=hPA
       clear hO hPA HP1 HPB l0 l1 l2 l3
       go_wp2_with fail
       refine HP2.out.mono ?_
       rintro e w7 ⟨EB,rfl,hPB,hO⟩
       have H7:Hid (Own w w7 [WdT ba { x' with E:=EA } K n2,RWdT bb { y' with E:=EB } K2,Row 41 4 (.slice (some ⟨gF,0,none⟩) m fc) m (cat OrdE.cs L)]):=hO.sel 4 [1,0,3] (by decide)
       have HPB:Hid (PushO (some bb) y'.E ⟨d2,i2,k2,C2,a2,c2⟩ EB):=hPB
       clear hO hPB HP2 b0 b1 b2 b3
       go_wp2
       exact ⟨⟨j+1,_,_,rfl,by omega,HJW.out EA EB HPA.out HPB.out,H7.out⟩,by simp [intOf];omega⟩
      ·have hjn':¬ (j:Int) < (m:Int):=by omega
       have H6:Hid (Own w wr [WdT ba x' K n2,RWdT bb y' K2]):=hO.sel 3 [0,1] (by decide)
       clear hO
       go_wp2
       exact Met.intro (HJJ.out _ _ ⟨x',y',rfl,HJ.out,H6.out⟩)
    case rest =>
     intro a' wc hcut
     obtain ⟨x',y',hact,hj',hO⟩:=hcut
     obtain ⟨u4,hu⟩:∃ u4:Nat→Value,∀ k,gf a' k=u4 k:=⟨_,fun _=>rfl⟩
     simp only [hu] at hact
     clear hu
     subst hact
     have HJ1:Hid (JW x' y'):=hj'
     have HS1:Hid (Calls Tryz.prog 15 #[.pointer (some ⟨ba,0,none⟩)] _ _):=wstep_o w wc _ (some ba) K n2 x' y' HT.out hj' (by omega) (by omega) hO
     clear hj' hO H5 HLI HN HJ
     go_wp2_with fail
     refine HS1.out.mono ?_
     rintro e w6 ⟨ra1,rc1,R,code,x2,K3,n3,rfl,hss,hRl,hK3,hn3,hO⟩
     have HS2:Hid (Calls Tryz.prog 16 #[.pointer (some ⟨bb,0,none⟩)] _ _):=rstep_o w w6 _ (some bb) K2 x' y' HJ1.out (by omega) hO.three
     have HSS:Hid (SStep (some ba) x' x2 R code):=hss
     clear HS1 hO hss
     go_wp2_with fail
     refine HS2.out.mono ?_
     rintro e w7 ⟨ra2,rc2,R2,code2,y2,K4,rfl,hrs,hK4,hO⟩
     obtain ⟨hR2,hc2,hj2⟩:=jw_step (p:=some ba) (q:=some bb) rfl HJ1.out HSS.out hrs
     have HJ2:Hid (JW x2 y2):=hj2
     have H7:Hid (Own w w7 [WdT ba x2 K3 n3,RWdT bb y2 K4]):=hO.sel 4 [3,1] (by decide)
     clear HS2 hO hrs hj2 HSS HJ1 hR2 hc2 hRl
     go_wp2
     exact ⟨⟨k+1,x2,y2,K3,n3,K4,rfl,by omega,by omega,HJ2.out,by omega,by omega,by omega,H7.out⟩,by simp [intOf];omega⟩
   ·have h12':(8:Int)≤(k:Int):=by omega
    have H6:Hid (Own w wr _):=hO
    clear hO hIO
    go_wp2
    go_ret2
    exact ⟨ba,bb,x,y,K,n2,K2,rfl,HJ.out,by omega,by omega,by omega,H6.out⟩
  ·have hlt':¬ (k:Int) < (len:Int):=by omega
   have H6:Hid (Own w wr _):=hO
   clear hO
   go_wp2
   go_ret2
   exact ⟨ba,bb,rfl,x,y,HJ.out,K,by omega,n2,by omega,K2,by omega,H6.out⟩
end Go.Proofs.YtogmdoiecpihdaaGreatDoor
