/- What a region sees of the entities: seen, Direct's own. -/
import Derived.Test.YtogmdoiecpihdaaGreatDoorQs26
import Derived.Test.YtogmdoiecpihdaaGreatDoorQs27
import Derived.Test.YtogmdoiecpihdaaGreatDoorQs46
import Derived.Test.YtogmdoiecpihdaaGreatDoorQs02
import Derived.Test.YtogmdoiecpihdaaGreatDoorQs03
import Derived.Shelf.SlGeneric
namespace Go.Proofs.YtogmdoiecpihdaaGreatDoor
open Go.RowKit
set_option linter.unusedVariables false
set_option maxHeartbeats 4000000
set_option maxRecDepth 100000
def seeQ (on:Bool) (x y r:Int) (q:Cp):Bool:=decide (q.k=0) && hasC on x y r (cel q.a) (cel q.b)
def seeB (on:Bool) (x y r:Int) (C:List Cp):Bool:=C.any (seeQ on x y r)
theorem seeB_snoc (on:Bool) (x y r:Int) (C:List Cp) (q:Cp):seeB on x y r (C++[q])=(seeB on x y r C || seeQ on x y r q):=by simp [seeB]
def RgAt (w:World) (b:Nat) (on:Bool) (x y r:Int):Prop:=w.cell? ⟨b,0,none⟩=some (.bool on)∧w.cell? ⟨b,1,none⟩=some (.int .i64 x)∧w.cell? ⟨b,2,none⟩=some (.int .i64 y)∧w.cell? ⟨b,3,none⟩=some (.int .i64 r)
theorem RgAt.quiet {w w':World} {b:Nat} {on:Bool} {x y r:Int} (h:RgAt w b on x y r) (hf:Fr Nobody w w'):RgAt w' b on x y r:=by
 obtain ⟨h0,h1,h2,h3⟩:=h
 have hb:=World.block_lt_of_cell? w _ h0
 exact ⟨(hf.cell (p:=⟨b,0,none⟩) hb id).trans h0,(hf.cell (p:=⟨b,1,none⟩) hb id).trans h1,(hf.cell (p:=⟨b,2,none⟩) hb id).trans h2,(hf.cell (p:=⟨b,3,none⟩) hb id).trans h3⟩
theorem seen1_any (w:World) (b:Nat) (on:Bool) (x y r:Int) (hr:RgAt w b on x y r) (q:Cp) (hk:q.k < 256) (ha:I32 q.a) (hb:I32 q.b) :
  Calls Tryz.prog 132 #[q.ag,.pointer (some ⟨b,0,none⟩)] w fun e w'=>e=.returned (.bool (seeQ on x y r q))∧Fr Nobody w w':=by
 have hbl:=World.block_lt_of_cell? w _ hr.1
 simp only at hbl
 obtain ⟨h0,h1,h2,h3⟩:=hr
 have HF:Hid (Fr Nobody w (w.alloc (.cells #[.int .u8 (q.k:Int),.int .i32 q.a,.int .i32 q.b,.int .i32 q.c] 46))):=(Fr.refl _ _).alloc _
 have HS:Hid (Calls _ _ _ _ _):=sees_ok (w.alloc (.cells #[.int .u8 (q.k:Int),.int .i32 q.a,.int .i32 q.b,.int .i32 q.c] 46)) on x y r q.a q.b ha hb
 unfold rgv at HS
 have hne:w.heap.size≠b:=by omega
 unfold seeQ Cp.ag
 generalize hasC on x y r (cel q.a) (cel q.b)=v at *
 obtain ⟨qk,qa,qb,qc⟩:=q
 simp only at HF HS hk ⊢
 clear ha hb
 by_cases hk0:qk=0
 ·subst hk0
  go_enter Tryz.func132,Tryz.ntmps132
  go_wp2_with fail
  refine HS.out.mono ?_
  rintro e w1 ⟨rfl,hf⟩
  have HF1:Hid (Fr Nobody w w1):=HF.out.trans hf
  clear hf HS HF
  go_wp2
  go_ret
  exact ⟨by simp,HF1.out⟩
 ·have hk1:((qk:Int) == 0)=false:=by rw [beq_eq_false_iff_ne];omega
  clear HS
  go_enter Tryz.func132,Tryz.ntmps132
  go_wp2
  go_ret
  exact ⟨by simp [hk0],HF.out⟩
theorem idxSee_any (w:World) (b:Nat) (on:Bool) (x y r:Int) (hr:RgAt w b on x y r) (ao:Option Addr) (n cap:Nat) (C:List Cp) (hn:C.length=n) (hs:Cs w ao C) (hk:∀ q∈C,q.k < 256∧I32 q.a∧I32 q.b) (hm:n≤2097152) :
  Calls Tryz.prog 128 #[.slice ao n cap,.func (.func 132) #[] #[.pointer (some ⟨b,0,none⟩)]] w fun e w'=>∃ i:Int,e=.returned (.int .i64 i)∧Fr Nobody w w'∧((i = -1∧seeB on x y r C=false)∨(0≤i∧seeB on x y r C=true)):=by
 have HL:Hid (C.length=n∧Cs w ao C∧(∀ q∈C,q.k < 256∧I32 q.a∧I32 q.b)∧RgAt w b on x y r):=⟨hn,hs,hk,hr⟩
 clear hn hs hk hr
 go_enter Tryz.func128,Tryz.ntmps128
 go_wp2
 go_loopw [8] (fun cc wr=>∃ j:Nat,j≤n∧cc=.int .i64 j∧Fr Nobody w wr∧seeB on x y r (C.take j)=false) (fun cc _=>n - (intOf cc).toNat)
 case atStart=>exact ⟨0,Nat.zero_le _,rfl,Fr.refl _ _,by simp [seeB]⟩
 case round =>
  obtain ⟨j,hj,rfl,hf,hno⟩:=hrel
  have HF:Hid (Fr Nobody w wr):=hf
  have HN:Hid (seeB on x y r (C.take j)=false):=hno
  clear hf hno
  by_cases hlt:j < n
  ·obtain ⟨q,hq⟩:∃ q,C[j]? = some q:=⟨_,List.getElem?_eq_getElem (by rw [HL.out.1];exact hlt)⟩
   obtain ⟨g,o,hao,_,c0,c1,c2,c3⟩:=(HL.out.2.1.quiet HF.out).at j q hq
   subst hao
   have hlt':(j:Int) < (n:Int):=by omega
   obtain ⟨hk1,hk2,hk3⟩:=HL.out.2.2.1 q (List.mem_of_getElem? hq)
   have HP:Hid (Calls _ _ _ _ _):=seen1_any wr b on x y r (HL.out.2.2.2.quiet HF.out) q hk1 hk2 hk3
   have HU1:Hid (seeQ on x y r q=true→seeB on x y r C=true):=fun e=>by
    unfold seeB
    rw [List.any_eq_true]
    exact ⟨q,List.mem_of_getElem? hq,e⟩
   have HU2:Hid (seeQ on x y r q=false→seeB on x y r (C.take (j+1))=false):=fun e=>by rw [take_snoc C j q hq,seeB_snoc,HN.out,e];rfl
   clear hq hk1 hk2 hk3
   generalize seeQ on x y r q=v at *
   unfold Cp.ag at HP
   obtain ⟨qk,qa,qb,qc⟩:=q
   simp only at c0 c1 c2 c3 HP
   go_wp2_with fail
   refine HP.out.mono ?_
   rintro e w2 ⟨rfl,hf⟩
   have HF2:Hid (Fr Nobody w w2):=HF.out.trans hf
   clear hf HP
   cases v
   ·have HU:Hid (seeB on x y r (C.take (j+1))=false):=HU2.out rfl
    go_wp2
    go_roundw
    case rel=>exact ⟨j+1,by omega,by go_num,HF2.out,HU.out⟩
    case measure=>simp [intOf];omega
   ·have HU:Hid (seeB on x y r C=true):=HU1.out rfl
    go_wp2
    go_ret
    exact ⟨(j:Int),rfl,HF2.out,.inr ⟨by omega,HU.out⟩⟩
  ·have hlt':¬ (j:Int) < (n:Int):=by omega
   have HU:Hid (seeB on x y r C=false):=by have:=HN.out;rw [List.take_of_length_le (by rw [HL.out.1];omega)] at this;exact this
   go_wp2
   go_ret
   exact ⟨-1,rfl,HF.out,.inl ⟨rfl,HU.out⟩⟩
theorem hasSee_any (w:World) (b:Nat) (on:Bool) (x y r:Int) (hr:RgAt w b on x y r) (ao:Option Addr) (n cap:Nat) (C:List Cp) (hn:C.length=n) (hs:Cs w ao C) (hk:∀ q∈C,q.k < 256∧I32 q.a∧I32 q.b) (hm:n≤2097152) :
  Calls Tryz.prog 75 #[.slice ao n cap,.func (.func 132) #[] #[.pointer (some ⟨b,0,none⟩)]] w fun e w'=>e=.returned (.bool (seeB on x y r C))∧Fr Nobody w w':=by
 have HI:Hid (Calls _ _ _ _ _):=idxSee_any w b on x y r hr ao n cap C hn hs hk hm
 clear hr hn hs hk
 generalize seeB on x y r C=u at *
 go_enter Tryz.func75,Tryz.ntmps75
 go_wp2_with fail
 refine HI.out.mono ?_
 rintro e w2 ⟨i,rfl,hf,hr⟩
 have HF:Hid (Fr Nobody w w2):=hf
 clear hf HI
 rcases hr with ⟨rfl,rfl⟩ | ⟨h0,rfl⟩
 ·go_wp2
  go_ret
  exact ⟨rfl,HF.out⟩
 ·go_wp2
  go_ret
  exact ⟨by simp,HF.out⟩
theorem seen_any (w:World) (id:Nat) (on:Bool) (x y r:Int) (ao:Option Addr) (n cap:Nat) (C:List Cp) (hn:C.length=n) (hs:Cs w ao C) (hk:∀ q∈C,q.k < 256∧I32 q.a∧I32 q.b) (hm:n≤2097152) :
  Calls Tryz.prog 80 #[.agg #[.int .u32 (id:Int),.slice ao n cap],rgv on x y r] w fun e w'=>e=.returned (.bool (seeB on x y r C))∧Fr Nobody w w':=by
 have hA:=((Own.start w).allocC #[.int .u32 (id:Int),.slice ao n cap] 76).allocC #[.bool on,.int .i64 x,.int .i64 y,.int .i64 r] 71
 have HF:Hid (Fr Nobody w _):=hA.fr
 have hrg:RgAt _ _ on x y r:=⟨(hA.cell 0).trans rfl,(hA.cell 1).trans rfl,(hA.cell 2).trans rfl,(hA.cell 3).trans rfl⟩
 have HC:Hid (Calls _ _ _ _ _):=hasSee_any _ _ on x y r hrg ao n cap C hn (hs.quiet HF.out) hk hm
 have e1:=hA.two.cell 1
 simp at e1
 unfold rgv
 simp only [World.size_alloc] at HC
 clear hA hrg hn hs hk
 generalize seeB on x y r C=u at *
 go_enter Tryz.func80,Tryz.ntmps80
 go_wp2_with fail
 refine HC.out.mono ?_
 rintro e w2 ⟨rfl,hf⟩
 have HF2:Hid (Fr Nobody w w2):=HF.out.trans hf
 clear hf HC HF
 go_wp2
 go_ret
 exact ⟨rfl,HF2.out⟩
end Go.Proofs.YtogmdoiecpihdaaGreatDoor
namespace Go.Proofs.YtogmdoiecpihdaaGreatDoor
open Go.RowKit Go.Sort Go.Shelf
set_option linter.unusedVariables false
set_option maxHeartbeats 4000000
set_option maxRecDepth 100000
def sortDr_ren:Go.Shelf.Ren:=⟨fun | 6=>81 | 15=>135 | 14=>134 | 28=>186 | 29=>187 | 20=>178 | 21=>179 | 22=>180 | 23=>181 | 24=>182 | 25=>183 | 26=>184 | 27=>185 | 46=>220 | 47=>221 | 48=>222 | 49=>223 | 50=>224 | 57=>247 | n=>n,fun | 22=>62 | 24=>76 | 25=>157 | 3=>3 | 39=>224 | 0=>0 | 53=>22 | 55=>290 | 4=>4 | 46=>283 | 45=>282 | 50=>269 | 5=>5 | 9=>9 | 66=>325 | 70=>329 | 76=>344 | 77=>345 | n=>n,fun | n=>n⟩
theorem sortDr:Go.Proofs.SlLaysF0.n6 Tryz.prog sortDr_ren:={
 mixed:=by kernel_rfl
 f6:=⟨Tryz.f81.name,by decide,Tryz.func81.trans (congrArg some (by kernel_rfl))⟩
 f14:=⟨Tryz.f134.name,by decide,Tryz.func134.trans (congrArg some (by kernel_rfl))⟩
 f15:=Tryz.func135.trans (congrArg some (by kernel_rfl))
 f20:=⟨Tryz.f178.name,by decide,Tryz.func178.trans (congrArg some (by kernel_rfl))⟩
 f21:=⟨Tryz.f179.name,by decide,Tryz.func179.trans (congrArg some (by kernel_rfl))⟩
 f22:=⟨Tryz.f180.name,by decide,Tryz.func180.trans (congrArg some (by kernel_rfl))⟩
 f23:=⟨Tryz.f181.name,by decide,Tryz.func181.trans (congrArg some (by kernel_rfl))⟩
 f24:=⟨Tryz.f182.name,by decide,Tryz.func182.trans (congrArg some (by kernel_rfl))⟩
 f25:=⟨Tryz.f183.name,by decide,Tryz.func183.trans (congrArg some (by kernel_rfl))⟩
 f26:=⟨Tryz.f184.name,by decide,Tryz.func184.trans (congrArg some (by kernel_rfl))⟩
 f27:=⟨Tryz.f185.name,by decide,Tryz.func185.trans (congrArg some (by kernel_rfl))⟩
 f28:=Tryz.func186.trans (congrArg some (by kernel_rfl))
 f29:=Tryz.func187.trans (congrArg some (by kernel_rfl))
 f46:=⟨Tryz.f220.name,by decide,Tryz.func220.trans (congrArg some (by kernel_rfl))⟩
 f47:=Tryz.func221.trans (congrArg some (by kernel_rfl))
 f48:=Tryz.func222.trans (congrArg some (by kernel_rfl))
 f49:=⟨Tryz.f223.name,by decide,Tryz.func223.trans (congrArg some (by kernel_rfl))⟩
 f50:=⟨Tryz.f224.name,by decide,Tryz.func224.trans (congrArg some (by kernel_rfl))⟩
 f57:=⟨Tryz.f247.name,by decide,Tryz.func247.trans (congrArg some (by kernel_rfl))⟩
 t0:=Tryz.underlying0
 a0:=Tryz.isAgg0
 z0:=Tryz.sizeOf0
 v0:=Tryz.zeroValue0
 t3:=Tryz.underlying3
 a3:=Tryz.isAgg3
 z3:=Tryz.sizeOf3
 v3:=Tryz.zeroValue3
 t4:=Tryz.underlying4
 a4:=Tryz.isAgg4
 z4:=Tryz.sizeOf4
 v4:=Tryz.zeroValue4
 t5:=Tryz.underlying5
 a5:=Tryz.isAgg5
 z5:=Tryz.sizeOf5
 v5:=Tryz.zeroValue5
 t9:=Tryz.underlying9
 a9:=Tryz.isAgg9
 z9:=Tryz.sizeOf9
 v9:=Tryz.zeroValue9
 t22:=Tryz.underlying62
 a22:=Tryz.isAgg62
 z22:=Tryz.sizeOf62
 v22:=Tryz.zeroValue62
 t25:=Tryz.underlying157
 a25:=Tryz.isAgg157
 z25:=Tryz.sizeOf157
 v25:=Tryz.zeroValue157
 t39:=Tryz.underlying224
 a39:=Tryz.isAgg224
 z39:=Tryz.sizeOf224
 v39:=Tryz.zeroValue224
 t45:=Tryz.underlying282
 a45:=Tryz.isAgg282
 z45:=Tryz.sizeOf282
 v45:=Tryz.zeroValue282
 t46:=Tryz.underlying283
 a46:=Tryz.isAgg283
 z46:=Tryz.sizeOf283
 v46:=Tryz.zeroValue283
 t50:=Tryz.underlying269
 a50:=Tryz.isAgg269
 z50:=Tryz.sizeOf269
 v50:=Tryz.zeroValue269
 t53:=Tryz.underlying22
 a53:=Tryz.isAgg22
 z53:=Tryz.sizeOf22
 v53:=Tryz.zeroValue22
 t55:=Tryz.underlying290
 a55:=Tryz.isAgg290
 z55:=Tryz.sizeOf290
 v55:=Tryz.zeroValue290
 t66:=Tryz.underlying325
 a66:=Tryz.isAgg325
 z66:=Tryz.sizeOf325
 v66:=Tryz.zeroValue325
 t70:=Tryz.underlying329
 a70:=Tryz.isAgg329
 z70:=Tryz.sizeOf329
 v70:=Tryz.zeroValue329
 t76:=Tryz.underlying344
 a76:=Tryz.isAgg344
 z76:=Tryz.sizeOf344
 v76:=Tryz.zeroValue344
 t77:=Tryz.underlying345
 a77:=Tryz.isAgg345
 z77:=Tryz.sizeOf345
 v77:=Tryz.zeroValue345 }
instance:Inhabited EnE:=⟨⟨0,none,0,[]⟩⟩
theorem isNaN_dr (x:Int) (w:World):Calls Tryz.prog 136 #[.int .u32 x] w fun e w'=>e=.returned (.bool false)∧w'=w:=by
 go_enter Tryz.func136,Tryz.ntmps136
 go_wp2
 go_ret
 exact ⟨by simp,rfl⟩
theorem cmp_dr (a b:Nat) (w:World):Calls Tryz.prog 83 #[.int .u32 (a:Int),.int .u32 (b:Int)] w fun e w'=>e=.returned (.int .i64 (cmpI a b))∧w'=w:=by
 have HN:Hid (∀ (x:Int) W,Calls Tryz.prog 136 #[.int .u32 x] W fun e w'=>e=.returned (.bool false)∧w'=W):=fun x W=>isNaN_dr x W
 go_enter Tryz.func83,Tryz.ntmps83
 go_wp2_with fail
 refine (HN.out _ _).mono ?_
 rintro e w1 ⟨rfl,rfl⟩
 go_wp2_with fail
 refine (HN.out _ _).mono ?_
 rintro e w1 ⟨rfl,rfl⟩
 by_cases h1:a < b
 ·have h1':(a:Int) < (b:Int):=by omega
  go_wp2
  go_ret
  exact ⟨by simp [cmpI,h1],rfl⟩
 ·have h1':¬ (a:Int) < (b:Int):=by omega
  by_cases h2:b < a
  ·have h2':(b:Int) < (a:Int):=by omega
   go_wp2
   go_ret
   exact ⟨by simp [cmpI,h1,h2],rfl⟩
  ·have h2':¬ (b:Int) < (a:Int):=by omega
   go_wp2
   go_ret
   exact ⟨by simp [cmpI,h1,h2],rfl⟩
theorem cls_dr (x y:EnE) (W:World):Calls Tryz.prog 82 #[.agg x.cs.toArray,.agg y.cs.toArray] W fun e w'=>e=.returned (.int .i64 (cmpI x.id y.id))∧∃ q os',w'=grow (W.drewN q) os':=by
 obtain ⟨xi,xa,xc,xC⟩:=x
 obtain ⟨yi,ya,yc,yC⟩:=y
 have HC:Hid (∀ W,Calls Tryz.prog 83 #[.int .u32 (xi:Int),.int .u32 (yi:Int)] W fun e w'=>e=.returned (.int .i64 (cmpI xi yi))∧w'=W):=fun W=>cmp_dr xi yi W
 show Calls Tryz.prog 82 #[.agg #[.int .u32 (xi:Int),.slice xa xC.length xc],.agg #[.int .u32 (yi:Int),.slice ya yC.length yc]] W fun e w'=>e=.returned (.int .i64 (cmpI xi yi))∧∃ q os',w'=grow (W.drewN q) os'
 generalize cmpI xi yi=r at *
 go_enter Tryz.func82,Tryz.ntmps82
 go_wp2_with fail
 refine (HC.out _).mono ?_
 rintro e w1 ⟨rfl,rfl⟩
 go_wp2
 go_ret
 exact ⟨rfl,0,_,by rw [alloc_eq_grow,alloc_eq_grow,grow_grow];rfl⟩
theorem lt_dr (x y:EnE):ltOf (fun x y:EnE=>cmpI x.id y.id) x y=decide (x.id < y.id):=by
 unfold ltOf cmpI
 by_cases h1:x.id < y.id
 ·simp [h1]
 ·by_cases h2:y.id < x.id <;> simp [h1,h2]
theorem swo_dr:SWO (ltOf fun x y:EnE=>cmpI x.id y.id) where
 irrefl x:=by rw [lt_dr];simp
 trans x y z h1 h2:=by rw [lt_dr] at *;simp at *;omega
 ntrans x y z h1 h2:=by rw [lt_dr] at *;simp at *;omega
theorem sorts_dr (w0 w:World) (l:List Thing) (g cap:Nat) (L:List EnE) (h:Own w0 w (Row 76 2 (.slice (some ⟨g,0,none⟩) L.length cap) L.length (cat EnE.cs L)::l)) (hsz:L.length < 1000000000) :
  Calls Tryz.prog 81 #[.slice (some ⟨g,0,none⟩) L.length cap,.func (.func 82) #[] #[]] w fun e w'=>e=.returned (.tuple #[])∧∃ L',L'.Perm L∧L'.Pairwise (fun a b=>a.id≤b.id)∧Own w0 w' (Row 76 2 (.slice (some ⟨g,0,none⟩) L.length cap) L.length (cat EnE.cs L')::l):=by
 have eg:∀ args w,(callFunc 82 args).run Tryz.prog w=.ok (.enter 82 args) w:=enters_of Tryz.func82 (by kernel_rfl) rfl
 have hH:=Own.holdsK (enc:=EnE.cs) (k:=2) (fun _=>rfl) (by decide) h
 have hblk:g < w.heap.size:=by
  obtain ⟨h1,h2⟩:=h.row
  rcases h2 with ⟨hv,_⟩ | ⟨g',cap',cur,hv,hb,hgg,_⟩
  ·cases hv
  ·simp only [Value.slice.injEq,Option.some.injEq,Addr.mk.injEq] at hv
   rw [hv.1.1]
   exact (Array.getElem?_eq_some_iff.1 hgg).1
 have hcon:=AnyQ.slices_SortFunc sortDr 2 Tryz.isAgg76 Tryz.sizeOf76 EnE.cs (fun _=>rfl) (fun x v hv=>by simp [EnE.cs] at hv;rcases hv with rfl | rfl <;> rfl) (fun x y=>cmpI x.id y.id) swo_dr 82 #[] g 0 cap L.toArray w eg (fun _ _ _ _ x y=>cls_dr x y _) hH hblk (by simp;omega)
 change Calls Tryz.prog 81 _ _ _ at hcon
 rw [show L.toArray.size=L.length by simp] at hcon
 refine hcon.mono ?_
 rintro e w' ⟨rfl,d',n,os,hp,hs,rfl⟩
 obtain ⟨hsz1,_,hp3⟩:=hp
 have hd:d'.size=L.length:=by rw [hsz1];simp
 have hperm:d'.toList.Perm L:=by
  have e1:(d'.extract 0 L.length).toList=d'.toList:=by rw [← hd];simp
  have e2:(L.toArray.extract 0 L.length).toList=L:=by simp
  rw [e1,e2] at hp3
  exact hp3
 refine ⟨rfl,d'.toList,hperm,?_,?_⟩
 ·rw [List.pairwise_iff_getElem]
  intro i j hi hj hij
  have hi':i < d'.size:=by simpa using hi
  have hj':j < d'.size:=by simpa using hj
  have a:=hs i j (Nat.zero_le _) hij (by omega)
  rw [lt_dr,getElem!_pos d' i hi',getElem!_pos d' j hj'] at a
  simp at a
  simpa using a
 ·have hl:d'.toList.length=L.length:=by simpa using hd
  have:=h.sortK (enc:=EnE.cs) (k:=2) (fun _=>rfl) (by decide) hl n os
  rw [hl] at this
  simpa using this
theorem ins_dr (w:World) (f:Value):Calls Tryz.prog 178 #[.slice none 0 0,.int .i64 0,.int .i64 0,f] w fun e w'=>e=.returned (.tuple #[])∧w'=w:=by
 go_enter Tryz.func178,Tryz.ntmps178
 go_wp2
 go_loopw [8] (fun v wr=>v=.int .i64 1∧wr=w) (fun _ _=>0)
 case atStart=>exact ⟨rfl,rfl⟩
 case round =>
  obtain ⟨rfl,rfl⟩:=hrel
  go_wp2
  go_end0
  exact ⟨rfl,rfl⟩
theorem pdq_dr (w:World) (lim:Nat) (f:Value):Calls Tryz.prog 134 #[.slice none 0 0,.int .i64 0,.int .i64 0,.int .i64 (lim:Int),f] w fun e w'=>e=.returned (.tuple #[])∧w'=w:=by
 have H:Hid (Calls _ _ _ _ _):=ins_dr w f
 go_enter Tryz.func134,Tryz.ntmps134
 go_wp2
 go_loopw [1,2,3,10,11] (fun v1 v2 v3 v8 v9 wr=>v1=.int .i64 0∧v2=.int .i64 0∧wr=w) (fun _ _ _ _ _ _=>0)
 case atStart=>exact ⟨rfl,rfl,rfl⟩
 case round =>
  obtain ⟨rfl,rfl,rfl⟩:=hrel
  go_wp2_with fail
  refine H.out.mono ?_
  rintro e w1 ⟨rfl,rfl⟩
  go_wp2
  refine bodyPost_ret (results_none rfl _ _ _) rfl ?_
  exact ⟨rfl,rfl⟩
theorem nilS_dr (w:World) (f:Value):Calls Tryz.prog 81 #[.slice none 0 0,f] w fun e w'=>e=.returned (.tuple #[])∧w'=w:=by
 have HB:Hid (Calls Tryz.prog 135 #[.int .u64 0] w fun e w'=>e=.returned (.int .i64 ((Lib.bitLen 0:Nat):Int))∧w'=w):=by
  have h:=Any.bits_Len (SlLaysF0.n15.bits (P:=Tryz.prog) (ρ:=sortDr_ren) { sortDr with }) (0:Int) w (by omega) (by omega)
  exact h
 have HP:Hid (Calls _ _ _ _ _):=pdq_dr w (Lib.bitLen 0) f
 generalize Lib.bitLen 0=lim at *
 go_enter Tryz.func81,Tryz.ntmps81
 go_wp2_with fail
 refine HB.out.mono ?_
 rintro e w1 ⟨rfl,rfl⟩
 go_wp2_with fail
 refine HP.out.mono ?_
 rintro e w1 ⟨rfl,rfl⟩
 go_wp2
 go_end0
 exact ⟨rfl,rfl⟩
theorem sort_dr (w0 w:World) (l:List Thing) (ao:Option Addr) (cap:Nat) (L:List EnE) (h:Own w0 w (Row 76 2 (.slice ao L.length cap) L.length (cat EnE.cs L)::l)) (hsz:L.length < 1000000000) :
  Calls Tryz.prog 81 #[.slice ao L.length cap,.func (.func 82) #[] #[]] w fun e w'=>e=.returned (.tuple #[])∧∃ L',L'.Perm L∧L'.Pairwise (fun a b=>a.id≤b.id)∧Own w0 w' (Row 76 2 (.slice ao L.length cap) L.length (cat EnE.cs L')::l):=by
 rcases h.row.2 with ⟨hv,hn⟩ | ⟨g,cap',cur,hv,_⟩
 ·have hL:L=[]:=List.eq_nil_of_length_eq_zero hn
  subst hL
  simp only [List.length_nil,Value.slice.injEq] at hv
  obtain ⟨rfl,_,rfl⟩:=hv
  refine (nilS_dr w _).mono ?_
  rintro e w' ⟨rfl,rfl⟩
  exact ⟨rfl,[],List.Perm.refl _,List.Pairwise.nil,h⟩
 ·have hva:=(Value.slice.inj hv).1
  subst hva
  exact sorts_dr w0 w l g cap L h hsz
end Go.Proofs.YtogmdoiecpihdaaGreatDoor
namespace Go.Proofs.YtogmdoiecpihdaaGreatDoor
open Go.RowKit
set_option linter.unusedVariables false
set_option maxHeartbeats 4000000
set_option maxRecDepth 100000
def toldL (C:List Cp):List Cp:=C.filter (fun c=>ktold c.k)
theorem told_snoc (C:List Cp) (q:Cp):toldL (C++[q])=toldL C++(if ktold q.k=true then [q] else []):=by
 unfold toldL
 rw [List.filter_append]
 cases h:ktold q.k <;> simp [h]
theorem toldL_le (C:List Cp):(toldL C).length≤C.length:=List.length_filter_le _ _
theorem told_l (w0 w:World) (ht:Tab w0) (l:List Thing) (h:Own w0 w l) (ao:Option Addr) (len cap:Nat) (C:List Cp) (hCl:C.length=len) (hCs:∀ w',Own w0 w' l→Cs w' ao C) (hCk:∀ q∈C,q.k < 256) (hlen:len≤1000000) :
  Calls Tryz.prog 123 #[.slice ao len cap] w fun e w'=>∃ ao' cap',e=.returned (.slice ao' (toldL C).length cap')∧Own w0 w' (Row 46 4 (.slice ao' (toldL C).length cap') (toldL C).length (ccat (toldL C))::l):=by
 obtain ⟨i0,hi,hz0,hz1,hz2⟩:=info_parts Tryz.infoComp
 have HCS:Hid (C.length=len∧(∀ w',Own w0 w' l→Cs w' ao C)∧∀ q∈C,q.k < 256):=⟨hCl,hCs,hCk⟩
 have H:Hid (Own w0 w l):=h
 have HT:Hid (Tab w0):=ht
 clear ht
 clear h hCl hCs hCk
 go_enter Tryz.func123,Tryz.ntmps123
 go_wp2
 go_loopw [3,8] (fun v3 v8 wr=>∃ j:Nat,j≤len∧v8=.int .i64 j∧∃ (S:List Cp) (a1:Option Addr) (c1 n:Nat),toldL (C.take j)=S∧n=S.length∧n≤j∧v3=.slice a1 n c1∧Own w0 wr (Row 46 4 (.slice a1 n c1) n (ccat S)::l)) (fun _ v8 _=>len - (intOf v8).toNat)
 case atStart=>exact ⟨0,Nat.zero_le _,rfl,[],none,0,0,rfl,rfl,Nat.le_refl _,rfl,H.out.nilRow _ _⟩
 case round =>
  obtain ⟨j,hj,rfl,S,a1,c1,n,hS,hn,hnj,rfl,hO⟩:=hrel
  have HS:Hid (toldL (C.take j)=S∧n=S.length):=⟨hS,hn⟩
  clear H hS hn
  by_cases hlt:j < len
  ·obtain ⟨q,hq⟩:∃ q,C[j]? = some q:=⟨_,List.getElem?_eq_getElem (by rw [HCS.out.1];exact hlt)⟩
   obtain ⟨gg,o0,hao,_,y0,y1,y2,y3⟩:=(HCS.out.2.1 wr hO.tail).at j q hq
   subst hao
   have hq8:=HCS.out.2.2 q (List.mem_of_getElem? hq)
   have HST:Hid (toldL (C.take (j+1))=S++(if ktold q.k=true then [q] else [])):=by show _=_;rw [take_snoc C j q hq,told_snoc,HS.out.1]
   have hlt':(j:Int) < (len:Int):=by omega
   have hA:=hO.allocC #[.int .u8 (q.k:Int),.int .i32 q.a,.int .i32 q.b,.int .i32 q.c] 46
   have HU:Hid (Calls _ _ _ _ _):=untold_any _ (HT.out.quiet hA.fr) q hq8
   have HA:Hid (Own w0 _ _):=hA
   clear hq hO
   generalize ktold q.k=r at *
   obtain ⟨qk,qa,qb,qc⟩:=q
   simp only at y0 y1 y2 y3 hq8 HST HA HU
   clear hA
   go_wp2_with fail
   refine HU.out.mono ?_
   rintro e w2 ⟨rfl,hf2⟩
   have hA2:=HA.out.quiet hf2
   have t0:=hA2.cell 0
   have t1:=hA2.cell 1
   have t2:=hA2.cell 2
   have t3:=hA2.cell 3
   simp at t0 t1 t2 t3
   generalize wr.heap.size=b7 at *
   have HA2:Hid (Own w0 w2 _):=hA2.two
   clear hf2 hA2 HA HU y0 y1 y2 y3
   cases r
   ·have HST2:Hid (toldL (C.take (j+1))=S):=by show _=_;have:=HST.out;simpa using this
    have HE:Hid (Own w0 w2 (Row 46 4 (.slice a1 n c1) n (ccat S)::l)):=HA2.out.two.tail
    go_wp2
    go_roundw
    case rel=>exact ⟨j+1,by omega,by go_num,S,_,_,n,HST2.out,HS.out.2,by omega,rfl,HE.out⟩
    case measure=>simp [intOf];omega
   ·have HST2:Hid (toldL (C.take (j+1))=S++[⟨qk,qa,qb,qc⟩]):=by show _=_;have:=HST.out;simpa using this
    go_wp2_with (at_builtin;refine append1_own rfl _ _ 39 rfl 46 i0 _ 4 16 Tryz.underlying39 hi hz0 hz1 hz2 rfl (by decide) _ _ _ rfl HA2.out _ #[.int .u8 (qk:Int),.int .i32 qa,.int .i32 qb,.int .i32 qc] (by simp) rfl rfl (by intro u hu;simp at hu;rcases hu with rfl | rfl | rfl | rfl <;> rfl) (by unfold maxLen;omega) (by omega) ?_)
    intro g6 c6 w6 hO6 hsz6
    have HE:Hid (Own w0 w6 (Row 46 4 (.slice (some ⟨g6,0,none⟩) (n+1) c6) (n+1) (ccat (S++[⟨qk,qa,qb,qc⟩]))::l)):=by
     have e2:ccat (S++[⟨qk,qa,qb,qc⟩])=ccat S++[.int .u8 (qk:Int),.int .i32 qa,.int .i32 qb,.int .i32 qc]:=by simp [ccat,cat,Cp.cs]
     show Own _ _ _
     rw [e2]
     exact hO6.two.tail
    have HL6:Hid (n+1=(S++[(⟨qk,qa,qb,qc⟩:Cp)]).length):=by show _=_;rw [List.length_append,HS.out.2];rfl
    clear hO6 hsz6 HA2 t0 t1 t2 t3
    go_wp2
    go_roundw
    case rel=>exact ⟨j+1,by omega,by go_num,_,_,_,n+1,HST2.out,HL6.out,by omega,rfl,HE.out⟩
    case measure=>simp [intOf];omega
  ·have hlt':¬ (j:Int) < (len:Int):=by omega
   have HF:Hid (toldL C=S∧n=S.length):=by
    have:=HS.out
    rw [List.take_of_length_le (by rw [HCS.out.1];omega)] at this
    exact this
   have HO:Hid (Own w0 wr _):=hO
   clear hO HS
   go_wp2
   go_ret
   refine ⟨a1,c1,?_,?_⟩
   ·rw [HF.out.1,← HF.out.2];rfl
   ·rw [HF.out.1,← HF.out.2];exact HO.out
theorem rtold_l (w0 w:World) (l:List Thing) (h:Own w0 w l) (ao:Option Addr) (len cap:Nat) (C:List Cp) (hCl:C.length=len) (hCs:∀ w',Own w0 w' l→Cs w' ao C) (hCk:∀ q∈C,q.k < 256) (hlen:len≤1000000) :
  Calls Tryz.prog 72 #[.slice ao len cap] w fun e w'=>∃ ao' cap',e=.returned (.slice ao' (toldL C).length cap')∧Own w0 w' (Row 46 4 (.slice ao' (toldL C).length cap') (toldL C).length (ccat (toldL C))::l):=by
 obtain ⟨i0,hi,hz0,hz1,hz2⟩:=info_parts Tryz.infoComp
 have HCS:Hid (C.length=len∧(∀ w',Own w0 w' l→Cs w' ao C)∧∀ q∈C,q.k < 256):=⟨hCl,hCs,hCk⟩
 have H:Hid (Own w0 w l):=h
 clear h hCl hCs hCk
 go_enter Tryz.func72,Tryz.ntmps72
 go_wp2
 go_loopw [3,8] (fun v3 v8 wr=>∃ j:Nat,j≤len∧v8=.int .i64 j∧∃ (S:List Cp) (a1:Option Addr) (c1 n:Nat),toldL (C.take j)=S∧n=S.length∧n≤j∧v3=.slice a1 n c1∧Own w0 wr (Row 46 4 (.slice a1 n c1) n (ccat S)::l)) (fun _ v8 _=>len - (intOf v8).toNat)
 case atStart=>exact ⟨0,Nat.zero_le _,rfl,[],none,0,0,rfl,rfl,Nat.le_refl _,rfl,H.out.nilRow _ _⟩
 case round =>
  obtain ⟨j,hj,rfl,S,a1,c1,n,hS,hn,hnj,rfl,hO⟩:=hrel
  have HS:Hid (toldL (C.take j)=S∧n=S.length):=⟨hS,hn⟩
  clear H hS hn
  by_cases hlt:j < len
  ·obtain ⟨q,hq⟩:∃ q,C[j]? = some q:=⟨_,List.getElem?_eq_getElem (by rw [HCS.out.1];exact hlt)⟩
   obtain ⟨gg,o0,hao,_,y0,y1,y2,y3⟩:=(HCS.out.2.1 wr hO.tail).at j q hq
   subst hao
   have hq8:=HCS.out.2.2 q (List.mem_of_getElem? hq)
   have HST:Hid (toldL (C.take (j+1))=S++(if ktold q.k=true then [q] else [])):=by show _=_;rw [take_snoc C j q hq,told_snoc,HS.out.1]
   have hlt':(j:Int) < (len:Int):=by omega
   have hA:=hO.allocC #[.int .u8 (q.k:Int),.int .i32 q.a,.int .i32 q.b,.int .i32 q.c] 46
   have HU:Hid (Calls _ _ _ _ _):=rtold_any (wr.alloc (.cells #[.int .u8 (q.k:Int),.int .i32 q.a,.int .i32 q.b,.int .i32 q.c] 46)) q.k hq8
   have HA:Hid (Own w0 _ _):=hA
   clear hq hO
   generalize ktold q.k=r at *
   obtain ⟨qk,qa,qb,qc⟩:=q
   simp only at y0 y1 y2 y3 hq8 HST HA HU
   clear hA
   go_wp2_with fail
   refine HU.out.mono ?_
   rintro e w2 ⟨rfl,hf2⟩
   have hA2:=HA.out.quiet hf2
   have t0:=hA2.cell 0
   have t1:=hA2.cell 1
   have t2:=hA2.cell 2
   have t3:=hA2.cell 3
   simp at t0 t1 t2 t3
   generalize wr.heap.size=b7 at *
   have HA2:Hid (Own w0 w2 _):=hA2.two
   clear hf2 hA2 HA HU y0 y1 y2 y3
   cases r
   ·have HST2:Hid (toldL (C.take (j+1))=S):=by show _=_;have:=HST.out;simpa using this
    have HE:Hid (Own w0 w2 (Row 46 4 (.slice a1 n c1) n (ccat S)::l)):=HA2.out.two.tail
    go_wp2
    go_roundw
    case rel=>exact ⟨j+1,by omega,by go_num,S,_,_,n,HST2.out,HS.out.2,by omega,rfl,HE.out⟩
    case measure=>simp [intOf];omega
   ·have HST2:Hid (toldL (C.take (j+1))=S++[⟨qk,qa,qb,qc⟩]):=by show _=_;have:=HST.out;simpa using this
    go_wp2_with (at_builtin;refine append1_own rfl _ _ 39 rfl 46 i0 _ 4 16 Tryz.underlying39 hi hz0 hz1 hz2 rfl (by decide) _ _ _ rfl HA2.out _ #[.int .u8 (qk:Int),.int .i32 qa,.int .i32 qb,.int .i32 qc] (by simp) rfl rfl (by intro u hu;simp at hu;rcases hu with rfl | rfl | rfl | rfl <;> rfl) (by unfold maxLen;omega) (by omega) ?_)
    intro g6 c6 w6 hO6 hsz6
    have HE:Hid (Own w0 w6 (Row 46 4 (.slice (some ⟨g6,0,none⟩) (n+1) c6) (n+1) (ccat (S++[⟨qk,qa,qb,qc⟩]))::l)):=by
     have e2:ccat (S++[⟨qk,qa,qb,qc⟩])=ccat S++[.int .u8 (qk:Int),.int .i32 qa,.int .i32 qb,.int .i32 qc]:=by simp [ccat,cat,Cp.cs]
     show Own _ _ _
     rw [e2]
     exact hO6.two.tail
    have HL6:Hid (n+1=(S++[(⟨qk,qa,qb,qc⟩:Cp)]).length):=by show _=_;rw [List.length_append,HS.out.2];rfl
    clear hO6 hsz6 HA2 t0 t1 t2 t3
    go_wp2
    go_roundw
    case rel=>exact ⟨j+1,by omega,by go_num,_,_,_,n+1,HST2.out,HL6.out,by omega,rfl,HE.out⟩
    case measure=>simp [intOf];omega
  ·have hlt':¬ (j:Int) < (len:Int):=by omega
   have HF:Hid (toldL C=S∧n=S.length):=by
    have:=HS.out
    rw [List.take_of_length_le (by rw [HCS.out.1];omega)] at this
    exact this
   have HO:Hid (Own w0 wr _):=hO
   clear hO HS
   go_wp2
   go_ret
   refine ⟨a1,c1,?_,?_⟩
   ·rw [HF.out.1,← HF.out.2];rfl
   ·rw [HF.out.1,← HF.out.2];exact HO.out
end Go.Proofs.YtogmdoiecpihdaaGreatDoor
