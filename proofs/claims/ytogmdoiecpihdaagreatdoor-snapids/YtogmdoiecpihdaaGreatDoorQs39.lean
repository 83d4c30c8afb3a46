/- The document's All; a store and the document's that are alike. -/
import Derived.Test.YtogmdoiecpihdaaGreatDoorQs38
import Derived.Deep.AppendLies
import Derived.Deep.RegionHeld3
import Derived.Test.YtogmdoiecpihdaaGreatDoorQs37
import Derived.Test.YtogmdoiecpihdaaGreatDoorQs26
import Derived.Test.YtogmdoiecpihdaaGreatDoorQs33
namespace Go.Proofs.YtogmdoiecpihdaaGreatDoor
open Go.RowKit Go.Maps
set_option linter.unusedVariables false
set_option maxHeartbeats 8000000
set_option maxRecDepth 100000
theorem rall_of {α:Type} (P:α→Thing) (Inv:Nat→α→Prop) (step:α→OrdE→(Int × Nat) × α) (w0 w:World) (l:List Thing) (p:Option Addr) (s0:α) (h:Own w0 w (P s0::l)) (ao:Option Addr) (n cap:Nat) (L:List OrdE) (hn:L.length=n) (hL:n≤100000) (hOrds:∀ w',Own w0 w' l→Ords w' ao L) (hInv:Inv 0 s0)
  (HD:∀ j s o w' l',L[j]? = some o→Inv j s→Own w0 w' (P s::l')→(∀ w'',Own w0 w'' l'→Cs w'' o.ao o.C)→Calls Tryz.prog 111 #[.pointer p,o.ag] w' fun e w''=>e=.returned (rag (step s o).1)∧Own w0 w'' (P (step s o).2::l'))
  (HI:∀ j s o,L[j]? = some o→Inv j s→Inv (j+1) (step s o).2) :
  Calls Tryz.prog 54 #[.pointer p,.slice ao n cap] w fun e w'=>∃ ra rc,e=.returned (.slice ra n rc)∧Own w0 w' (Row 89 2 (.slice ra n rc) n (cat rcel (runs step s0 L).1)::P (runs step s0 L).2::l)∧Inv n (runs step s0 L).2:=by
 obtain ⟨i0,hi,hz0,hz1,hz2⟩:=info_parts Tryz.infoRes
 have H1:Hid (Own w0 w (Row 89 2 (.slice none 0 0) 0 (cat rcel (runs step s0 (L.take 0)).1)::P (runs step s0 (L.take 0)).2::l)):=h.nilRow 89 2
 have HV:Hid (Inv 0 (runs step s0 (L.take 0)).2):=hInv
 have HN:Hid (L.length=n):=hn
 have HDD:Hid _:=HD
 have HII:Hid _:=HI
 have HOS:Hid _:=hOrds
 clear h hInv hn HD HI hOrds
 go_enter Tryz.func54,Tryz.ntmps54
 go_wp2
 go_loopw [5,11] (fun rv cc wr=>∃ j:Nat,j≤n∧cc=.int .i64 j∧∃ ra rc,rv=.slice ra j rc∧Own w0 wr (Row 89 2 (.slice ra j rc) j (cat rcel (runs step s0 (L.take j)).1)::P (runs step s0 (L.take j)).2::l)∧Inv j (runs step s0 (L.take j)).2) (fun _ cc _=>n - (intOf cc).toNat)
 case atStart=>exact ⟨0,Nat.zero_le _,rfl,_,_,rfl,H1.out,HV.out⟩
 case round =>
  obtain ⟨j,hj,rfl,ra,rc,rfl,hO,hI⟩:=hrel
  have HO:Hid (Own w0 wr _):=hO
  clear H1 HV
  by_cases hlt:j < n
  ·obtain ⟨o,ho⟩:∃ o,L[j]? = some o:=⟨_,List.getElem?_eq_getElem (by rw [HN.out];exact hlt)⟩
   obtain ⟨g,off,hao,c0,c1,c2,c3⟩:=(HOS.out wr hO.tail.tail).at j o ho
   have hlt':(j:Int) < (n:Int):=by omega
   have hst:runs step s0 (L.take (j+1))=((runs step s0 (L.take j)).1++[(step (runs step s0 (L.take j)).2 o).1],(step (runs step s0 (L.take j)).2 o).2):=by
    rw [List.take_add_one,ho];exact runs_snoc step _ _ _
   have HDO:Hid (∀ w',Own w0 w' (Row 89 2 (.slice ra j rc) j (cat rcel (runs step s0 (L.take j)).1)::P (runs step s0 (L.take j)).2::l)→Calls Tryz.prog 111 #[.pointer p,o.ag] w' fun e w''=>e=.returned (rag (step (runs step s0 (L.take j)).2 o).1)∧Own w0 w'' (Row 89 2 (.slice ra j rc) j (cat rcel (runs step s0 (L.take j)).1)::P (runs step s0 (L.take (j+1))).2::l)):=by
    intro w' h'
    refine (HDD.out j _ o w' _ ho hI h'.two (fun w'' h''=>(HOS.out _ h''.tail).2 o (List.mem_of_getElem? ho))).mono ?_
    rintro e w'' ⟨rfl,h2⟩
    rw [hst]
    exact ⟨rfl,h2.two⟩
   have HI2:Hid (Inv (j+1) (runs step s0 (L.take (j+1))).2):=by
    show Inv _ _
    rw [hst];exact HII.out j _ o ho hI
   have HST:Hid (cat rcel (runs step s0 (L.take (j+1))).1=cat rcel (runs step s0 (L.take j)).1++rcel (step (runs step s0 (L.take j)).2 o).1):=by
    show _=_
    rw [hst,cat_append];simp [cat]
   clear hst hO hI ho HDD HII
   subst hao
   unfold OrdE.ag at HDO
   obtain ⟨d,oid,k,C,oa,oc⟩:=o
   simp only at c0 c1 c2 c3 HDO
   generalize hr:(step (runs step s0 (L.take j)).2 ⟨d,oid,k,C,oa,oc⟩).1=r at *
   obtain ⟨r1,r2⟩:=r
   unfold rag at HDO
   simp only at HDO
   clear hr
   go_wp2_with fail
   refine (HDO.out _ (HO.out.alloc _)).mono ?_
   rintro e w2 ⟨rfl,hO2⟩
   have H2:Hid (Own w0 _ _):=hO2.alloc (.cells #[.int .i64 r1,.int .u32 (r2:Int)] 89)
   clear hO2 HDO HO c0 c1 c2 c3
   go_wp2_with (at_builtin;refine append1_own rfl _ _ 47 rfl 89 i0 (.agg #[.int .i64 0,.int .u32 0]) 2 16 Tryz.underlying47 hi hz0 hz1 hz2 rfl (by decide) _ _ _ rfl H2.out _ #[.int .i64 r1,.int .u32 (r2:Int)] (by simp) rfl rfl (by intro u hu;simp at hu;rcases hu with rfl | rfl <;> rfl) (by unfold maxLen;omega) (by omega) ?_)
   intro g3 cap3 w3 hO3 hsz3
   have H3:Hid (Own w0 w3 (Row 89 2 (.slice (some ⟨g3,0,none⟩) (j+1) cap3) (j+1) (cat rcel (runs step s0 (L.take (j+1))).1)::P (runs step s0 (L.take (j+1))).2::l)):=by
    show Own _ _ _
    rw [HST.out];exact hO3
   clear hO3 hsz3 H2
   go_wp2
   go_roundw
   case rel=>exact ⟨j+1,by omega,by go_num,_,_,rfl,H3.out,HI2.out⟩
   case measure=>simp [intOf];omega
  ·have hlt':¬ (j:Int) < (n:Int):=by omega
   have hjn:j=n:=by omega
   subst hjn
   have hT:L.take j=L:=List.take_of_length_le (by rw [HN.out];exact Nat.le_refl _)
   rw [hT] at hI
   have HI2:Hid (Inv j _):=hI
   have H2:Hid (Own w0 wr _):=hO
   rw [hT] at H2
   clear hT hO hI HO
   go_wp2
   go_ret
   exact ⟨_,_,rfl,H2.out,HI2.out⟩
structure MkE where
 id:Nat
 k:Nat
 t:Nat
def MkE.cs (m:MkE):List Value:=[.int .u32 (m.id:Int),.int .u8 (m.k:Int),.int .u32 (m.t:Int)]
def MksAt (w:World) (ao:Option Addr) (L:List MkE):Prop:=L=[]∨∃ g o,ao=some ⟨g,o,none⟩∧∀ (j:Nat) x,L[j]? = some x→w.cell? ⟨g,o+j*3,none⟩=some (.int .u32 (x.id:Int))∧w.cell? ⟨g,o+j*3+1,none⟩=some (.int .u8 (x.k:Int))∧w.cell? ⟨g,o+j*3+2,none⟩=some (.int .u32 (x.t:Int))
theorem MksAt.quiet {w w':World} {ao:Option Addr} {L:List MkE} (h:MksAt w ao L) (hf:Fr Nobody w w'):MksAt w' ao L:=by
 rcases h with h | ⟨g,o,ha,hc⟩
 ·exact .inl h
 ·refine .inr ⟨g,o,ha,fun j x hx=>?_⟩
  obtain ⟨h0,h1,h2⟩:=hc j x hx
  have hb:=World.block_lt_of_cell? w _ h0
  exact ⟨(hf.cell (p:=⟨g,o+j*3,none⟩) hb id).trans h0,(hf.cell (p:=⟨g,o+j*3+1,none⟩) hb id).trans h1,(hf.cell (p:=⟨g,o+j*3+2,none⟩) hb id).trans h2⟩
theorem MksAt.at {w:World} {ao:Option Addr} {L:List MkE} (h:MksAt w ao L) {j:Nat} {x:MkE} (hx:L[j]? = some x):∃ g o,ao=some ⟨g,o,none⟩∧w.cell? ⟨g,o+j*3,none⟩=some (.int .u32 (x.id:Int))∧w.cell? ⟨g,o+j*3+1,none⟩=some (.int .u8 (x.k:Int))∧w.cell? ⟨g,o+j*3+2,none⟩=some (.int .u32 (x.t:Int)):=by
 rcases h with h | ⟨g,o,ha,hc⟩
 ·subst h;simp at hx
 ·exact ⟨g,o,ha,hc j x hx⟩
theorem mks_row {w:World} {e:TypeId} {ao:Option Addr} {n cap:Nat} {L:List MkE} (h:w.ownsRow 0 e 3 (.slice ao n cap) n (cat MkE.cs L)) (hn:L.length=n):MksAt w ao L:=by
 subst hn
 rcases Nat.eq_zero_or_pos L.length with h0 | h0
 ·exact .inl (List.eq_nil_of_length_eq_zero h0)
 ·obtain ⟨g,c,hv,_⟩:=row_shape h h0
  have ha:=(Value.slice.inj hv).1
  subst ha
  have hl:∀ x:MkE,(MkE.cs x).length=3:=fun _=>rfl
  refine .inr ⟨g,0,rfl,fun j p hp=>?_⟩
  have hj:=(List.getElem?_eq_some_iff.1 hp).1
  rw [Nat.zero_add]
  refine ⟨?_,?_,?_⟩
  ·rw [h.cellAt _ (by omega)];exact (cat_at MkE.cs 3 hl L j 0 p hp (by decide)).trans rfl
  ·rw [h.cellAt _ (by omega)];exact (cat_at MkE.cs 3 hl L j 1 p hp (by decide)).trans rfl
  ·rw [h.cellAt _ (by omega)];exact (cat_at MkE.cs 3 hl L j 2 p hp (by decide)).trans rfl
def mkB (id k:Nat) (m:MkE):Bool:=decide (m.id=id) && decide (m.k=k)
def chgM (M:List MkE) (id k:Nat):Nat:=((M.find? (mkB id k)).map MkE.t).getD 0
theorem chgM_hit {M:List MkE} {id k j:Nat} {m:MkE} (hm:M[j]? = some m) (hn:(M.take j).find? (mkB id k)=none) (hb:mkB id k m=true):chgM M id k=m.t:=by
 unfold chgM
 have e:M=M.take j++m::M.drop (j+1):=by
  have h1:=List.take_append_drop j M
  rw [List.drop_eq_getElem_cons (List.getElem?_eq_some_iff.1 hm).1,(List.getElem?_eq_some_iff.1 hm).2] at h1
  exact h1.symm
 rw [e,List.find?_append,hn,List.find?_cons,hb]
 rfl
theorem find_miss {M:List MkE} {id k j:Nat} {m:MkE} (hm:M[j]? = some m) (hn:(M.take j).find? (mkB id k)=none) (hb:mkB id k m=false):(M.take (j+1)).find? (mkB id k)=none:=by
 rw [List.take_add_one,hm,List.find?_append,hn]
 simp [hb]
theorem rchanged15 (w:World) (b:Nat) (ma:Option Addr) (n mc:Nat) (M:List MkE) (q3:w.cell? ⟨b,3,none⟩=some (.slice ma n mc)) (hM:MksAt w ma M) (hn:M.length=n) (hn2:n≤100000) (id k:Nat) :
  Calls Tryz.prog 59 #[.pointer (some ⟨b,0,none⟩),.int .u32 (id:Int),.int .u8 (k:Int)] w fun e w'=>e=.returned (.int .u32 (chgM M id k:Int))∧Fr Nobody w w':=by
 have HM:Hid (MksAt w ma M∧M.length=n):=⟨hM,hn⟩
 clear hM hn
 go_enter Tryz.func59,Tryz.ntmps59
 go_wp2
 refine wp_loop (fun a' wr=>∃ (j:Nat),a'={ tmps:=#[gf a' 0,.int .u32 (id:Int),.int .u8 (k:Int),gf a' 3,gf a' 4,gf a' 5,gf a' 6,gf a' 7,gf a' 8,gf a' 9,gf a' 10,gf a' 11,.slice ma n mc,.int .i64 (n:Int),.int .i64 (j:Int),gf a' 15,gf a' 16,gf a' 17,gf a' 18,gf a' 19,gf a' 20,gf a' 21,gf a' 22,gf a' 23,gf a' 24,gf a' 25,gf a' 26,gf a' 27,gf a' 28,gf a' 29,gf a' 30],defers:=[] }∧j≤n∧(M.take j).find? (mkB id k)=none∧Fr Nobody w wr) (fun a' _=>n - (intOf (a'.tmps.getD 14 undef)).toNat) ?_ ?_
 ·exact ⟨0,rfl,Nat.zero_le _,rfl,Fr.refl _ _⟩
 ·intro a' wr hI
  obtain ⟨j,hact,hj,hno,hf⟩:=hI
  obtain ⟨u,hu⟩:∃ u:Nat→Value,∀ k,gf a' k=u k:=⟨_,fun _=>rfl⟩
  simp only [hu] at hact
  clear hu
  subst hact
  have HN:Hid ((M.take j).find? (mkB id k)=none):=hno
  have HF:Hid (Fr Nobody w wr):=hf
  clear hno hf
  by_cases hlt:j < n
  ·have hlt':(j:Int) < (n:Int):=by omega
   obtain ⟨m,hm⟩:∃ m,M[j]? = some m:=⟨_,List.getElem?_eq_getElem (by rw [HM.out.2];exact hlt)⟩
   obtain ⟨g,o,hma,c0,c1,c2⟩:=(HM.out.1.quiet HF.out).at hm
   subst hma
   by_cases hid:m.id=id
   ·have h1:((m.id:Int) == (id:Int))=true:=by simp [hid]
    by_cases hk:m.k=k
    ·have h2:((m.k:Int) == (k:Int))=true:=by simp [hk]
     have HV:Hid (chgM M id k=m.t):=chgM_hit hm HN.out (by simp [mkB,hid,hk])
     clear hm hid hk
     obtain ⟨mi,mk,mt⟩:=m
     simp only at c0 c1 c2 h1 h2 HV
     go_wp2
     go_ret
     exact ⟨by rw [HV.out];try rfl,HF.out.alloc _⟩
    ·have h2:((m.k:Int) == (k:Int))=false:=by rw [beq_eq_false_iff_ne];omega
     have HN2:Hid ((M.take (j+1)).find? (mkB id k)=none):=find_miss hm HN.out (by simp [mkB,hk])
     clear hm hid hk
     obtain ⟨mi,mk,mt⟩:=m
     simp only at c0 c1 c2 h1 h2
     go_wp2
     exact ⟨⟨j+1,rfl,by omega,HN2.out,HF.out.alloc _⟩,by simp [intOf];omega⟩
   ·have h1:((m.id:Int) == (id:Int))=false:=by rw [beq_eq_false_iff_ne];omega
    have HN2:Hid ((M.take (j+1)).find? (mkB id k)=none):=find_miss hm HN.out (by simp [mkB,hid])
    clear hm hid
    obtain ⟨mi,mk,mt⟩:=m
    simp only at c0 c1 c2 h1
    go_wp2
    exact ⟨⟨j+1,rfl,by omega,HN2.out,HF.out.alloc _⟩,by simp [intOf];omega⟩
  ·have hlt':¬ (j:Int) < (n:Int):=by omega
   have HV:Hid (chgM M id k=0):=by
    have:=HN.out
    rw [List.take_of_length_le (by rw [HM.out.2];omega)] at this
    show _=_
    unfold chgM
    rw [this];rfl
   go_wp2
   go_ret
   exact ⟨by rw [HV.out];rfl,HF.out⟩
structure RWd where
 T:Nat
 σ:Sto
 E:List OrdE
 M:List MkE
 P:List PlE
def WtT (v:Value) (E:List OrdE):Thing:=Ex (fun _:Unit=>Row 41 4 v E.length (cat OrdE.cs E)::E.map orow)
def rwcs (bs:Nat) (wv:Value) (T:Nat) (mv pv:Value):Array Value:=#[.pointer (some ⟨bs,0,none⟩),wv,.int .u32 (T:Int),mv,pv]
def RWdX (b:Nat) (x:RWd) (K:Nat) (y:Nat × Value × Value × Value):List Thing:=[RSto y.1 x.σ K,Cells b (rwcs y.1 y.2.1 x.T y.2.2.1 y.2.2.2) 109,WtT y.2.1 x.E,Row 121 3 y.2.2.1 x.M.length (cat MkE.cs x.M),Row 126 4 y.2.2.2 x.P.length (cat PlE.cs x.P)]
def RWdT (b:Nat) (x:RWd) (K:Nat):Thing:=Ex (RWdX b x K)
theorem Own.rwO {w0 w:World} {l:List Thing} {b K:Nat} {x:RWd} (h:Own w0 w (RWdT b x K::l)):∃ bs wv mv pv,Own w0 w (RSto bs x.σ K::Cells b (rwcs bs wv x.T mv pv) 109::WtT wv x.E::Row 121 3 mv x.M.length (cat MkE.cs x.M)::Row 126 4 pv x.P.length (cat PlE.cs x.P)::l):=by
 obtain ⟨y,hy⟩:=Own.ex_iff.1 h
 exact ⟨y.1,y.2.1,y.2.2.1,y.2.2.2,hy⟩
theorem Own.rwS {w0 w:World} {l:List Thing} {b K bs:Nat} {wv mv pv:Value} {x:RWd} (h:Own w0 w (RSto bs x.σ K::Cells b (rwcs bs wv x.T mv pv) 109::WtT wv x.E::Row 121 3 mv x.M.length (cat MkE.cs x.M)::Row 126 4 pv x.P.length (cat PlE.cs x.P)::l)):Own w0 w (RWdT b x K::l):=Own.ex_iff.2 ⟨(bs,wv,mv,pv),h⟩
theorem Own.wtO {w0 w:World} {l:List Thing} {v:Value} {E:List OrdE} (h:Own w0 w (WtT v E::l)):Own w0 w (Row 41 4 v E.length (cat OrdE.cs E)::(E.map orow++l)):=by
 obtain ⟨_,h⟩:=Own.ex_iff.1 h
 exact h
theorem Own.wtS {w0 w:World} {l:List Thing} {v:Value} {E:List OrdE} (h:Own w0 w (Row 41 4 v E.length (cat OrdE.cs E)::(E.map orow++l))):Own w0 w (WtT v E::l):=Own.ex_iff.2 ⟨(),h⟩
theorem rnew15 (w0 w:World) (l:List Thing) (k f T:Nat) (h:Own w0 w l) (h1:1≤k) (h2:k≤1024) (h3:1≤f) (h4:f≤4194303) :
  Calls Tryz.prog 9 #[.int .i64 (k:Int),.int .i64 (f:Int),.int .u32 (T:Int)] w fun e w'=>∃ b,e=.returned (.tuple #[.pointer (some ⟨b,0,none⟩),.int .i64 0])∧Own w0 w' (RWdT b ⟨T,Sto.new k f,[],[],[]⟩ 0::l):=by
 have HS:Hid (Calls _ _ _ _ _):=rnewS w0 w l h k f h1 h2 h3 h4
 clear h h1 h2 h3 h4
 go_enter Tryz.func9,Tryz.ntmps9
 go_wp2_with fail
 refine HS.out.mono ?_
 rintro e w1 ⟨bs,rfl,h1⟩
 have hA:=h1.allocC (rwcs bs (.slice none 0 0) T (.slice none 0 0) (.slice none 0 0)) 109
 have hB:Own w0 _ (WtT (.slice none 0 0) []::Row 121 3 (.slice none 0 0) 0 (cat MkE.cs [])::Row 126 4 (.slice none 0 0) 0 (cat PlE.cs [])::Cells w1.heap.size (rwcs bs (.slice none 0 0) T (.slice none 0 0) (.slice none 0 0)) 109::RSto bs (Sto.new k f) 0::l):=Own.wtS (((hA.nilRow 126 4).nilRow 121 3).nilRow 41 4)
 have HB:Hid (Own w0 _ _):=Own.rwS (x:=⟨T,Sto.new k f,[],[],[]⟩) (hB.sel 5 [4,3,0,1,2] (by decide))
 clear hA hB h1 HS
 unfold rwcs at HB
 go_wp2
 go_ret2
 exact ⟨_,rfl,HB.out⟩
theorem cat_ord1 (L:List OrdE) (p:OrdE):cat OrdE.cs (L++[p])=cat OrdE.cs L++p.cs:=by rw [cat_append];simp [cat]
theorem rpush15 (w0 w:World) (l:List Thing) (b K:Nat) (x:RWd) (h:Own w0 w (RWdT b x K::l)) (o:OrdE) (hi:o.In) (hCs:∀ w',Own w0 w' l→Cs w' o.ao o.C) (hE:x.E.length≤256) :
  Calls Tryz.prog 13 #[.pointer (some ⟨b,0,none⟩),o.ag] w fun e w'=>∃ E',e=.returned (.int .i64 (pcode x.E o))∧PushTo x.E o E'∧Own w0 w' (RWdT b { x with E:=E' } K::l):=by
 obtain ⟨i0,hi0,hz0,hz1,hz2⟩:=info3w Tryz.infoOrd
 obtain ⟨bs,wv,mv,pv,h⟩:=h.rwO
 have hw:=(h.three.wtO)
 obtain ⟨wa,wc,hwv⟩:=row_any hw.row
 subst hwv
 have hA:=h.allocC #[.int .u8 (o.d:Int),.int .u32 (o.id:Int),.int .u8 (o.k:Int),.slice o.ao o.C.length o.cap] 41
 have HA:Hid (Own w0 _ _):=hA
 have HCS:Hid (∀ W,Own w0 W l→Cs W o.ao o.C):=hCs
 have HCK:Hid (∀ W,Own w0 W l→Calls Tryz.prog 44 #[o.ag] W fun e w'=>e=.returned (.int .i64 ((o.ck:Nat):Int))∧Fr Nobody W w'):=fun W hW=>o.rcheck W hi (hCs W hW)
 have HCL:Hid (∀ W l',Own w0 W (l'++l)→Calls Tryz.prog 42 #[.slice o.ao o.C.length o.cap] W fun e w'=>∃ a c,e=.returned (.slice a o.C.length c)∧Own w0 w' (Row 46 4 (.slice a o.C.length c) o.C.length (ccat o.C)::(l'++l))):=fun W l' hW=>twin_any w0 W _ hW o.ao o.C.length o.cap o.C rfl (hCs W (by
  have h2:Own w0 W (l++l'):=hW.perm List.perm_append_comm
  exact h2.dropL)) hi.len
 have hlen:o.C.length≤1000000:=hi.len
 have HPC:Hid (pcode x.E o=if o.ck≠0 then (o.ck:Int) else if 256≤x.E.length then 8 else 0):=rfl
 have HPT:Hid (∀ E',PushTo x.E o E' ↔ if o.ck=0∧x.E.length < 256 then ∃ a c,E'=x.E++[{ o with ao:=a,cap:=c }] else E'=x.E):=fun E'=>Iff.rfl
 have HSH:Hid (∀ W E' wv',Own w0 W (RSto bs x.σ K::Cells b (rwcs bs wv' x.T mv pv) 109::WtT wv' E'::Row 121 3 mv x.M.length (cat MkE.cs x.M)::Row 126 4 pv x.P.length (cat PlE.cs x.P)::l)→Own w0 W (RWdT b { x with E:=E' } K::l)):=fun W E' wv' hW=>Own.rwS (x:={ x with E:=E' }) hW
 unfold OrdE.ag at HCK ⊢
 obtain ⟨en,hen⟩:∃ en,x.E.length=en:=⟨_,rfl⟩
 have HEN:Hid (x.E.length=en):=hen
 rw [hen] at hE HA
 generalize hpc:pcode x.E o=pc at *
 obtain ⟨d,id,k,C,ao,oc⟩:=o
 simp only at HCK HCS HCL HPC HPT HA hlen ⊢
 have hcl:C.length=C.length:=rfl
 obtain ⟨ol,hol⟩:∃ ol,C.length=ol:=⟨_,rfl⟩
 rw [hol] at HCK HCL HA hlen ⊢
 have HOL:Hid (C.length=ol):=hol
 clear h hA hw hi hCs hen hol hcl hpc
 obtain ⟨bo,hbo⟩:∃ bo,w.heap.size=bo:=⟨_,rfl⟩
 rw [hbo] at HA
 go_enter Tryz.func13,Tryz.ntmps13
 go_wp2_with fail
 refine (HCK.out _ (HA.out.sel 6 [] (by decide))).mono ?_
 rintro e w1 ⟨rfl,hf⟩
 have hO:=HA.out.quiet hf
 have hbW:=hO.three.cell 1
 simp [rwcs] at hbW
 have p0:=hO.cell 0
 have p1:=hO.cell 1
 have p2:=hO.cell 2
 have p3:=hO.cell 3
 simp at p0 p1 p2 p3
 have HO:Hid (Own w0 w1 _):=hO
 clear hO hf HA HCK hbo
 generalize hck:OrdE.ck ⟨d,id,k,C,ao,oc⟩=ck at *
 by_cases hc0:ck=0
 ·subst hc0
  by_cases h256:en=256
  ·subst h256
   have HP:Hid (pc=8∧PushTo x.E ⟨d,id,k,C,ao,oc⟩ x.E):=by
    refine ⟨?_,(HPT.out _).2 ?_⟩
    ·rw [HPC.out,if_neg (by decide),if_pos (by rw [HEN.out];decide)]
    ·rw [if_neg (by rw [HEN.out];decide)]
   go_wp2
   go_ret
   exact ⟨x.E,by rw [HP.out.1];rfl,HP.out.2,HSH.out _ _ _ (HO.out.sel 6 [1,2,3,4,5] (by decide))⟩
  ·have h256':((en:Int) == 256)=false:=by rw [beq_eq_false_iff_ne];omega
   have hlt:en < 256:=by omega
   have HP:Hid (pc=0∧∀ a c,PushTo x.E ⟨d,id,k,C,ao,oc⟩ (x.E++[⟨d,id,k,C,a,c⟩])):=by
    refine ⟨?_,fun a c=>(HPT.out _).2 ?_⟩
    ·rw [HPC.out,if_neg (by decide),if_neg (by rw [HEN.out];omega)]
    ·rw [if_pos ⟨rfl,by rw [HEN.out];omega⟩];exact ⟨a,c,rfl⟩
   clear h256
   go_wp2_with fail
   refine (HCL.out _ [_,_,_,_,_,_] HO.out).mono ?_
   rintro e w2 ⟨a2,c2,rfl,hO2⟩
   have hO2:=hO2.two
   have s3:=hO2.cell 3
   have z3:=hO2.froz 3
   simp at s3
   have HO2:Hid (Own w0 w2 _):=hO2
   clear hO2 HCL HO p0 p1 p2 p3 hbW
   go_wp2_with fail
   have hO3:=HO2.out.setC 3 (.slice a2 ol c2)
   generalize hw3:w2.setCell ⟨bo,3,none⟩ (.slice a2 ol c2)=w3 at *
   have c0:=hO3.cell 0
   have c1:=hO3.cell 1
   have c2':=hO3.cell 2
   have c3:=hO3.cell 3
   simp at c0 c1 c2' c3
   have hB0:=hO3.sel 7 [4,3,0,1,2,5,6] (by decide)
   have hB1:Own w0 w3 (WtT (.slice wa en wc) x.E::(Cells b (rwcs bs (.slice wa en wc) x.T mv pv) 109::Cells bo #[.int .u8 (d:Int),.int .u32 (id:Int),.int .u8 (k:Int),.slice a2 ol c2] 41::Row 46 4 (.slice a2 ol c2) ol (ccat C)::RSto bs x.σ K::Row 121 3 mv x.M.length (cat MkE.cs x.M)::Row 126 4 pv x.P.length (cat PlE.cs x.P)::l)):=hB0
   have hB2:=hB1.wtO
   rw [HEN.out] at hB2
   have hcb:=hB1.two
   have q1:=hcb.cell 1
   simp [rwcs] at q1
   have hbw:=hcb.lt
   have hBw:=hO3.lt
   have n1:b≠w3.heap.size:=by omega
   have n2:w3.heap.size≠b:=by omega
   have n3:bo≠w3.heap.size:=by omega
   have n4:w3.heap.size≠bo:=by omega
   obtain ⟨g',c',w4,hrun,hO4⟩:=run1_own (P:=Tryz.prog) 32 32 41 i0 (.agg #[.int .u8 0,.int .u32 0,.int .u8 0,.slice none 0 0]) 4 40 Tryz.underlying32 hi0 hz0 hz1 hz2 rfl (by decide) _ en _ hB2.drew #[.int .u8 (d:Int),.int .u32 (id:Int),.int .u8 (k:Int),.slice a2 ol c2] rfl (by intro u hu;simp at hu;rcases hu with rfl | rfl | rfl | rfl <;> rfl) (by unfold maxLen;omega) (by omega)
   have hszz:w3.drew.heap.size=w3.heap.size:=rfl
   rw [hszz] at hrun
   have HRUN:Hid _:=hrun
   have hO5:Own w0 w4 (Cells b (rwcs bs (.slice wa en wc) x.T mv pv) 109::Row 41 4 (.slice (some ⟨g',0,none⟩) (en+1) c') (en+1) (cat OrdE.cs x.E++[.int .u8 (d:Int),.int .u32 (id:Int),.int .u8 (k:Int),.slice a2 ol c2])::(x.E.map orow++(Cells bo #[.int .u8 (d:Int),.int .u32 (id:Int),.int .u8 (k:Int),.slice a2 ol c2] 41::Row 46 4 (.slice a2 ol c2) ol (ccat C)::RSto bs x.σ K::Row 121 3 mv x.M.length (cat MkE.cs x.M)::Row 126 4 pv x.P.length (cat PlE.cs x.P)::l))):=(hO4.perm (List.Perm.cons _ List.perm_middle)).two
   have k2:=hO5.cell 1
   have z2:=hO5.froz 1
   simp [rwcs] at k2
   have hO6:=hO5.setC 1 (.slice (some ⟨g',0,none⟩) (en+1) c')
   have HF:Hid (Own w0 (w4.setCell ⟨b,1,none⟩ (.slice (some ⟨g',0,none⟩) (en+1) c')) (RWdT b { x with E:=x.E++[⟨d,id,k,C,a2,c2⟩] } K::l)):=by
    refine HSH.out _ _ (.slice (some ⟨g',0,none⟩) (en+1) c') ?_
    have hcells:(rwcs bs (.slice wa en wc) x.T mv pv).setIfInBounds 1 (.slice (some ⟨g',0,none⟩) (en+1) c')=rwcs bs (.slice (some ⟨g',0,none⟩) (en+1) c') x.T mv pv:=by simp [rwcs]
    rw [hcells] at hO6
    have h7:Own w0 (w4.setCell ⟨b,1,none⟩ (.slice (some ⟨g',0,none⟩) (en+1) c')) (Row 41 4 (.slice (some ⟨g',0,none⟩) (en+1) c') (x.E++[(⟨d,id,k,C,a2,c2⟩:OrdE)]).length (cat OrdE.cs (x.E++[⟨d,id,k,C,a2,c2⟩]))::((x.E++[(⟨d,id,k,C,a2,c2⟩:OrdE)]).map orow++(Cells b (rwcs bs (.slice (some ⟨g',0,none⟩) (en+1) c') x.T mv pv) 109::Cells bo #[.int .u8 (d:Int),.int .u32 (id:Int),.int .u8 (k:Int),.slice a2 ol c2] 41::RSto bs x.σ K::Row 121 3 mv x.M.length (cat MkE.cs x.M)::Row 126 4 pv x.P.length (cat PlE.cs x.P)::l))):=by
     rw [cat_ord1,List.length_append,HEN.out,List.map_append]
     have e1:(OrdE.mk d id k C a2 c2).cs=[.int .u8 (d:Int),.int .u32 (id:Int),.int .u8 (k:Int),.slice a2 ol c2]:=by show [_,_,_,Value.slice a2 C.length c2]=_;rw [HOL.out]
     have e2:[(⟨d,id,k,C,a2,c2⟩:OrdE)].map orow=[Row 46 4 (.slice a2 ol c2) ol (ccat C)]:=by show [Row 46 4 (.slice a2 C.length c2) C.length (ccat C)]=_;rw [HOL.out]
     rw [e1,e2]
     refine hO6.perm ?_
     refine (List.Perm.swap _ _ _).trans (List.Perm.cons _ ?_)
     rw [List.append_assoc]
     refine List.perm_middle.symm.trans (List.Perm.append_left _ ?_)
     exact ((List.Perm.swap _ _ _).cons _).trans (List.Perm.swap _ _ _)
    exact (h7.wtS).sel 6 [3,1,0,4,5] (by decide)
   clear hO3 hB0 hB1 hB2 hcb hO4 hO5 hO6 hw3 HO2 s3 z3 hrun hszz
   go_region_law (refine step_run rfl (.tmp 27) (.tmp 29) 32 32 32 rfl rfl (.slice wa en wc) (.slice (some ⟨w3.heap.size,0,none⟩) 1 1) (.slice (some ⟨g',0,none⟩) (en+1) c') w4 (by simp [Act.eval]) (by simp [Act.eval]) HRUN.out ?_)
   all_goals
    go_wp2
    go_ret
    exact ⟨_,by rw [HP.out.1];rfl,HP.out.2 a2 c2,HF.out⟩
 ·have hck0:((ck:Int) == 0)=false:=by rw [beq_eq_false_iff_ne];omega
  have HP:Hid (pc=(ck:Int)∧PushTo x.E ⟨d,id,k,C,ao,oc⟩ x.E):=by
   refine ⟨?_,(HPT.out _).2 ?_⟩
   ·rw [HPC.out,if_pos hc0]
   ·rw [if_neg (fun q=>hc0 q.1)]
  clear hc0
  go_wp2
  go_ret
  exact ⟨x.E,by rw [HP.out.1];try rfl,HP.out.2,HSH.out _ _ _ (HO.out.sel 6 [1,2,3,4,5] (by decide))⟩
def RTG (G:List REnt) (v:Value) (L:List Ent):Thing:=Ex (fun E:List REnt=>Fact (E.map REnt.e=L∧∀ d∈G,d∈E)::Row 76 2 v E.length (cat rcells E)::E.map rrow)
def RTaG (G:List REnt) (b o:Nat) (cur:Array Value) (m:Nat) (L:List Ent):Thing :=
 Ex (fun v:Value=>[Fact (cur[o]? = some (.int .u8 (m:Int))∧o+1 < cur.size),Cells b (cur.setIfInBounds (o+1) v) 186,RTG G v L])
section
variable {w0 w:World} {l:List Thing} {b o m:Nat} {cur:Array Value} {L:List Ent} {G:List REnt}
theorem RTG.open {v:Value} (h:Own w0 w (RTG G v L::l)):∃ E,E.map REnt.e=L∧(∀ d∈G,d∈E)∧Own w0 w (Row 76 2 v E.length (cat rcells E)::(E.map rrow++l)):=by
 obtain ⟨E,h⟩:=Own.ex_iff.1 h
 have h':Own w0 w (Fact (E.map REnt.e=L∧∀ d∈G,d∈E)::Row 76 2 v E.length (cat rcells E)::(E.map rrow++l)):=h
 exact ⟨E,(Own.fact.1 h').1.1,(Own.fact.1 h').1.2,(Own.fact.1 h').2⟩
theorem RTG.shut {v:Value} {E:List REnt} (hE:E.map REnt.e=L) (hG:∀ d∈G,d∈E) (h:Own w0 w (Row 76 2 v E.length (cat rcells E)::(E.map rrow++l))):Own w0 w (RTG G v L::l) :=
 Own.ex_iff.2 ⟨E,Own.fact.2 ⟨⟨hE,hG⟩,h⟩⟩
theorem RTaG.open (h:Own w0 w (RTaG G b o cur m L::l)):∃ v E,E.map REnt.e=L∧(∀ d∈G,d∈E)∧Own w0 w (Cells b (cur.setIfInBounds (o+1) v) 186::Row 76 2 v E.length (cat rcells E)::(E.map rrow++l)):=by
 obtain ⟨v,h⟩:=Own.ex_iff.1 h
 have h':Own w0 w (Fact (cur[o]? = some (.int .u8 (m:Int))∧o+1 < cur.size)::Cells b (cur.setIfInBounds (o+1) v) 186::RTG G v L::l):=h
 obtain ⟨E,hE,hG,h2⟩:=RTG.open (Own.fact.1 h').2.two
 refine ⟨v,E,hE,hG,h2.perm ?_⟩
 exact (List.perm_middle (l₁:=Row 76 2 v E.length (cat rcells E)::E.map rrow)).trans (List.Perm.refl _)
theorem RTaG.facts (h:Own w0 w (RTaG G b o cur m L::l)):cur[o]? = some (.int .u8 (m:Int))∧o+1 < cur.size:=by
 obtain ⟨v,h⟩:=Own.ex_iff.1 h
 have h':Own w0 w (Fact (cur[o]? = some (.int .u8 (m:Int))∧o+1 < cur.size)::Cells b (cur.setIfInBounds (o+1) v) 186::RTG G v L::l):=h
 exact (Own.fact.1 h').1
theorem RTaG.shut {v:Value} {E:List REnt} (hE:E.map REnt.e=L) (hG:∀ d∈G,d∈E) (hc:cur[o]? = some (.int .u8 (m:Int))∧o+1 < cur.size) (h:Own w0 w (Cells b (cur.setIfInBounds (o+1) v) 186::Row 76 2 v E.length (cat rcells E)::(E.map rrow++l))):Own w0 w (RTaG G b o cur m L::l):=by
 refine Own.ex_iff.2 ⟨v,Own.fact.2 ⟨hc,?_⟩⟩
 have h2:Own w0 w (RTG G v L::Cells b (cur.setIfInBounds (o+1) v) 186::l):=by
  refine RTG.shut hE hG (h.perm ?_)
  exact (List.perm_middle (l₁:=Row 76 2 v E.length (cat rcells E)::E.map rrow)).symm
 exact h2.two
theorem RTaG.less (h:Own w0 w (RTaG G b o cur m L::l)):Own w0 w (RTab b o cur m L::l):=by
 have hf:=RTaG.facts h
 obtain ⟨v,E,hE,_,h2⟩:=RTaG.open h
 exact RTab.shut hE hf h2
end
theorem rtrowG (w0 w:World) (l:List Thing) (b o:Nat) (cur:Array Value) (m:Nat) (L:List Ent) {G:List REnt} (h:Own w0 w (RTaG G b o cur m L::l)) (hA:Apart L) (hL:L.length≤1000000) (id:Nat) :
  Calls Tryz.prog 164 #[.pointer (some ⟨b,o,none⟩),.int .u32 (id:Int)] w fun e w'=>e=.returned (.int .i64 (pl1 (plc L id)))∧Fr Nobody w w':=rtrow w0 w l b o cur m L (RTaG.less h) hA hL id
theorem mem_set2 {α:Type} {L:List α} {r:Nat} {e x y:α} (he:L[r]? = some e) (hx:x∈L) (hne:x≠e):x∈L.set r y:=by
 obtain ⟨i,hi⟩:=List.mem_iff_getElem?.1 hx
 have hir:r≠i:=by
  intro h
  subst h
  rw [he] at hi
  exact hne (Option.some.inj hi).symm
 exact List.mem_of_getElem? (i:=i) (by rw [List.getElem?_set,if_neg hir];exact hi)
theorem mem_outr3 {α:Type} {L:List α} {r:Nat} {e x:α} (he:L[r]? = some e) (hx:x∈L) (hne:x≠e):x∈outr L r:=by
 rcases List.mem_cons.1 ((outr_perm L r e he).mem_iff.1 hx) with h | h
 ·exact (hne h).elim
 ·exact h
end Go.Proofs.YtogmdoiecpihdaaGreatDoor
