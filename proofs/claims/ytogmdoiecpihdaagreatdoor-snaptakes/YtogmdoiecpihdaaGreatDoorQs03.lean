/- Whose place was left, whose was reached. -/
import Derived.Test.YtogmdoiecpihdaaGreatDoorQs02
import Derived.Test.YtogmdoiecpihdaaGreatDoorQs01
import Derived.Deep.RegionHeld3
import Derived.Shelf.SlGeneric
import Derived.Lib.AppendZerosOnto
import Derived.Lib.Overlaps
namespace Go.Proofs.YtogmdoiecpihdaaGreatDoor
open Go.RowKit Go.Maps
set_option linter.unusedVariables false
set_option maxHeartbeats 8000000
set_option maxRecDepth 100000
structure PlE where
 id:Nat
 on:Bool
 x:Int
 y:Int
def PlE.cs (q:PlE):List Value:=[.int .u32 (q.id:Int),.bool q.on,.int .i32 q.x,.int .i32 q.y]
theorem Tryz.infoPl:(Tryz.prog.info? 92).map (fun i=>(i.zero,i.size,i.bytes))=some (some (.agg #[.int .u32 0,.bool false,.int .i32 0,.int .i32 0]),4,16):=by kernel_rfl
theorem Own.siCnt {w0 w:World} {l:List Thing} {b r n cnt:Nat} {p:Nat→Nat→Option Value} {left:Nat→Nat→Bool} (h:Own w0 w (SIter b r n p left cnt::l)):w.rangeLeft b r=cnt:=by
 obtain ⟨A,⟨⟨D,lf,hR,_⟩,_⟩,_⟩:=h.act
 exact hR.left_eq
def LeftOf (p p':Nat→Nat→Option Value) (left:Nat→Nat→Bool) (L:List PlE):Prop :=
 (L.map PlE.id).Nodup∧(∀ q∈L,q.id < 4294967296∧q.on=false∧q.x=0∧q.y=0)∧∀ i,i < 4294967296→(i∈L.map PlE.id ↔ left i 0=false∧(p i 0).isSome=true∧p' i 0=none)
theorem LeftOf.skip {p p':Nat→Nat→Option Value} {left:Nat→Nat→Bool} {L:List PlE} (h:LeftOf p p' left L) {i k:Nat} (hk:k≠0∨p' i 0≠none):LeftOf p p' (strk left i k) L:=by
 obtain ⟨h1,h2,h3⟩:=h
 refine ⟨h1,h2,fun x hx=>?_⟩
 rw [h3 x hx]
 unfold strk
 simp only [Bool.and_eq_false_iff,Bool.not_eq_false',decide_eq_true_iff]
 constructor
 ·rintro ⟨a,b,c⟩
  exact ⟨.inl a,b,c⟩
 ·rintro ⟨a | a,b,c⟩
  ·exact ⟨a,b,c⟩
  ·obtain ⟨rfl,hk0⟩:=a
   rcases hk with hk | hk
   ·exact absurd hk0.symm hk
   ·exact absurd c hk
theorem LeftOf.more {p p':Nat→Nat→Option Value} {left:Nat→Nat→Bool} {L:List PlE} (h:LeftOf p p' left L) {i:Nat} (hi:i < 4294967296) (hl:left i 0=true) (hp:(p i 0).isSome=true) (hp':p' i 0=none):LeftOf p p' (strk left i 0) (L++[⟨i,false,0,0⟩]):=by
 obtain ⟨h1,h2,h3⟩:=h
 have hni:i ∉ L.map PlE.id:=fun hm=>by have:=((h3 i hi).1 hm).1;rw [hl] at this;cases this
 refine ⟨?_,?_,fun x hx=>?_⟩
 ·rw [List.map_append,List.nodup_append]
  exact ⟨h1,by simp,fun a ha b hb e=>by simp at hb;subst hb;exact hni (e ▸ ha)⟩
 ·intro q hq
  rcases List.mem_append.1 hq with hq | hq
  ·exact h2 q hq
  ·rw [List.mem_singleton.1 hq];exact ⟨hi,rfl,rfl,rfl⟩
 ·rw [List.map_append,List.mem_append,h3 x hx]
  unfold strk
  simp only [List.map_cons,List.map_nil,List.mem_singleton,Bool.and_eq_false_iff,Bool.not_eq_false',decide_eq_true_iff]
  constructor
  ·rintro (⟨a,b,c⟩ | rfl)
   ·exact ⟨.inl a,b,c⟩
   ·exact ⟨.inr (by simp),hp,hp'⟩
  ·rintro ⟨a | ⟨rfl,_⟩,b,c⟩
   ·exact .inl ⟨a,b,c⟩
   ·exact .inr rfl
theorem left_ok (w0 w:World) (l:List Thing) (b:Nat) (wc:Array Value) (ms n mn n':Nat) (p p':Nat→Nat→Option Value) (hwc:wc[3]? = some (.map (some ms))) (hn:n≤1000000) (hz:∀ i k v,p' i k=some v→∃ a0 a1 a2 a3 a4,v=.agg #[.int .u8 a0,.int .i32 a1,.int .i32 a2,.int .i32 a3,.int .u32 a4])
  (h:Own w0 w (SMap ms n p::SMap mn n' p'::Cells b wc 102::l)) :
  Calls Tryz.prog 103 #[.pointer (some ⟨b,0,none⟩),.map (some mn)] w fun e w'=>∃ ao cap L,e=.returned (.slice ao L.length cap)∧L.length≤n∧LeftOf p p' (fun _ _=>false) L∧Own w0 w' (Row 92 4 (.slice ao L.length cap) L.length (cat PlE.cs L)::SMap ms n p::SMap mn n' p'::Cells b wc 102::l):=by
 obtain ⟨i0,hi,hz0,hz1,hz2⟩:=info_parts Tryz.infoPl
 have c3:=h.three.cell 3
 rw [hwc] at c3
 obtain ⟨w1,cnt,hcn,hrun,hO1⟩:=h.smRange
 have H1:Hid (Own w0 w1 _):=hO1.nilRow 92 4
 clear h hO1
 obtain ⟨r,hr⟩:∃ r,r=w.heap.size:=⟨_,rfl⟩
 rw [← hr] at hrun H1
 clear hr
 go_enter Tryz.func103,Tryz.ntmps103
 go_wp2
 clear hrun c3
 go_loopw [5] (fun v5 wr=>∃ (L:List PlE) (left:Nat→Nat→Bool) (cn:Nat) (a1:Option Addr) (c1:Nat),v5=.slice a1 L.length c1∧L.length+cn≤n∧LeftOf p p' left L∧Own w0 wr (Row 92 4 (.slice a1 L.length c1) L.length (cat PlE.cs L)::SIter ms r n p left cn::SMap mn n' p'::Cells b wc 102::l)) (fun _ wr=>wr.rangeLeft ms r)
 case atStart =>
  refine ⟨[],_,cnt,none,0,rfl,by simpa using hcn,⟨by simp,fun q hq=>by simp at hq,fun i hi=>?_⟩,H1.out⟩
  simp only [List.map_nil,List.not_mem_nil,false_iff]
  rintro ⟨a,c,_⟩
  rw [a] at c
  cases c
 case round =>
  obtain ⟨L,left,cn,a1,c1,rfl,hLn,hLf,hO⟩:=hrel
  have HLf:Hid (LeftOf p p' left L):=hLf
  have HM0:Hid (World.rangeLeft wr ms r=cn):=hO.two.siCnt
  clear H1 hLf
  generalize hll:L.length=ll at *
  have HLL:Hid (L.length=ll):=hll
  clear hll
  rcases hO.two.smNext 0 with ⟨h0,hall,hnx⟩ | ⟨i,k,v,w2,cn',hi',hk',hlf,hpv,hnx,hent,hlt,hO2⟩
  ·have HO:Hid (Own w0 wr _):=hO.two.siMap.two
   have HE:Hid (LeftOf p p' (fun _ _=>false) L):=by
    obtain ⟨h1,h2,h3⟩:=HLf.out
    refine ⟨h1,h2,fun i hi=>?_⟩
    rw [h3 i hi]
    simp [hall i 0 hi (by decide)]
   clear hO
   go_wp2
   go_ret
   exact ⟨a1,c1,L,by rw [HLL.out];rfl,by rw [HLL.out];omega,HE.out,by rw [HLL.out];exact HO.out⟩
  ·simp only [spv] at hnx hent
   have hO3:=hO2.allocC #[.int .u32 (i:Int),.int .u8 (k:Int)] 166
   have hlk:=Own.smLook hO3.four i k hi' hk'
   simp only [spv] at hlk
   have x0:=hO3.cell 0
   have x1:=hO3.cell 1
   simp at x0 x1
   cases hp':p' i k with
   | some v' =>
    obtain ⟨a0,a1',a2,a3,a4,hv'⟩:=hz i k v' hp'
    rw [hp',hv'] at hlk
    simp only [lkS] at hlk
    have hO4:=hO3.allocC #[.int .u8 a0,.int .i32 a1',.int .i32 a2,.int .i32 a3,.int .u32 a4] 163
    have hne:k≠0∨p' i 0≠none:=by
     by_cases hk0:k=0
     ·subst hk0;exact .inr (by rw [hp'];simp)
     ·exact .inl hk0
    have HS:Hid (LeftOf p p' (strk left i k) L):=HLf.out.skip hne
    have H4:Hid (Own w0 _ _):=hO4.tail.tail.two
    clear hO2 hO3 hO4 hlf hpv
    go_wp2
    go_roundw
    case rel=>exact ⟨L,_,cn',a1,c1,by rw [HLL.out],by rw [HLL.out];omega,HS.out,by rw [HLL.out];exact H4.out⟩
    case measure=>rw [HM0.out,H4.out.two.siCnt];exact hlt
   | none =>
    rw [hp'] at hlk
    simp only [lkS,zSight] at hlk
    have hO4:=hO3.allocC #[.int .u8 0,.int .i32 0,.int .i32 0,.int .i32 0,.int .u32 0] 163
    by_cases hk0:k=0
    ·have hk00:((k:Int) == 0)=true:=by rw [beq_iff_eq];omega
     have HS:Hid (LeftOf p p' (strk left i k) (L++[⟨i,false,0,0⟩])):=by
      subst hk0
      exact HLf.out.more hi' hlf (by rw [hpv];rfl) hp'
     clear hk0
     have H4:Hid (Own w0 _ _):=hO4.four
     clear hO2 hO3 hO4 hlf hpv
     go_wp2_with (at_builtin;refine append1_own rfl _ _ 86 rfl 92 i0 (.agg #[.int .u32 0,.bool false,.int .i32 0,.int .i32 0]) 4 16 Tryz.underlying86 hi hz0 hz1 hz2 rfl (by decide) _ _ _ rfl H4.out _ _ (by simp) rfl rfl (fun u hu=>by simp at hu;rcases hu with rfl | rfl | rfl | rfl <;> rfl) (by unfold maxLen;omega) (by omega) ?_)
     intro g6 c6 w6 hO6 hsz6
     have H6:Hid (Own w0 w6 (Row 92 4 (.slice (some ⟨g6,0,none⟩) (ll+1) c6) (ll+1) (cat PlE.cs (L++[⟨i,false,0,0⟩]))::SIter ms r n p (strk left i k) cn'::SMap mn n' p'::Cells b wc 102::l)):=by
      show Own _ _ _
      rw [cat_append]
      exact hO6.two.tail.two.tail
     have HL6:Hid ((L++[(⟨i,false,0,0⟩:PlE)]).length=ll+1):=by show _=_;rw [List.length_append,HLL.out];rfl
     clear hO6 hsz6 H4
     go_wp2
     go_roundw
     case rel=>exact ⟨L++[⟨i,false,0,0⟩],_,cn',_,_,by rw [HL6.out],by rw [HL6.out];omega,HS.out,by rw [HL6.out];exact H6.out⟩
     case measure=>rw [HM0.out,H6.out.two.siCnt];exact hlt
    ·have hk00:((k:Int) == 0)=false:=by rw [beq_eq_false_iff_ne];omega
     have HS:Hid (LeftOf p p' (strk left i k) L):=HLf.out.skip (.inl hk0)
     have H4:Hid (Own w0 _ _):=hO4.tail.tail.two
     clear hO2 hO3 hO4 hlf hpv
     go_wp2
     go_roundw
     case rel=>exact ⟨L,_,cn',a1,c1,by rw [HLL.out],by rw [HLL.out];omega,HS.out,by rw [HLL.out];exact H4.out⟩
     case measure=>rw [HM0.out,H4.out.two.siCnt];exact hlt
end Go.Proofs.YtogmdoiecpihdaaGreatDoor
namespace Go.Proofs.YtogmdoiecpihdaaGreatDoor
open Go.RowKit Go.Sort Go.Shelf
set_option linter.unusedVariables false
set_option maxHeartbeats 8000000
set_option maxRecDepth 100000
def sortPl_ren:Go.Shelf.Ren:=⟨fun | 6=>105 | 15=>135 | 14=>161 | 28=>186 | 29=>187 | 20=>204 | 21=>205 | 22=>206 | 23=>207 | 24=>208 | 25=>209 | 26=>210 | 27=>211 | 46=>243 | 47=>221 | 48=>222 | 49=>244 | 50=>245 | 57=>256 | n=>n,fun | 22=>86 | 24=>92 | 25=>201 | 3=>3 | 39=>224 | 0=>0 | 53=>22 | 55=>290 | 4=>4 | 46=>283 | 45=>282 | 50=>269 | 5=>5 | 9=>9 | 66=>325 | 70=>329 | 76=>344 | 77=>345 | n=>n,fun | n=>n⟩
theorem sortPl:Go.Proofs.SlLaysF0.n6 Tryz.prog sortPl_ren:={
 mixed:=by kernel_rfl
 f6:=⟨Tryz.f105.name,by decide,Tryz.func105.trans (congrArg some (by kernel_rfl))⟩
 f14:=⟨Tryz.f161.name,by decide,Tryz.func161.trans (congrArg some (by kernel_rfl))⟩
 f15:=Tryz.func135.trans (congrArg some (by kernel_rfl))
 f20:=⟨Tryz.f204.name,by decide,Tryz.func204.trans (congrArg some (by kernel_rfl))⟩
 f21:=⟨Tryz.f205.name,by decide,Tryz.func205.trans (congrArg some (by kernel_rfl))⟩
 f22:=⟨Tryz.f206.name,by decide,Tryz.func206.trans (congrArg some (by kernel_rfl))⟩
 f23:=⟨Tryz.f207.name,by decide,Tryz.func207.trans (congrArg some (by kernel_rfl))⟩
 f24:=⟨Tryz.f208.name,by decide,Tryz.func208.trans (congrArg some (by kernel_rfl))⟩
 f25:=⟨Tryz.f209.name,by decide,Tryz.func209.trans (congrArg some (by kernel_rfl))⟩
 f26:=⟨Tryz.f210.name,by decide,Tryz.func210.trans (congrArg some (by kernel_rfl))⟩
 f27:=⟨Tryz.f211.name,by decide,Tryz.func211.trans (congrArg some (by kernel_rfl))⟩
 f28:=Tryz.func186.trans (congrArg some (by kernel_rfl))
 f29:=Tryz.func187.trans (congrArg some (by kernel_rfl))
 f46:=⟨Tryz.f243.name,by decide,Tryz.func243.trans (congrArg some (by kernel_rfl))⟩
 f47:=Tryz.func221.trans (congrArg some (by kernel_rfl))
 f48:=Tryz.func222.trans (congrArg some (by kernel_rfl))
 f49:=⟨Tryz.f244.name,by decide,Tryz.func244.trans (congrArg some (by kernel_rfl))⟩
 f50:=⟨Tryz.f245.name,by decide,Tryz.func245.trans (congrArg some (by kernel_rfl))⟩
 f57:=⟨Tryz.f256.name,by decide,Tryz.func256.trans (congrArg some (by kernel_rfl))⟩
 t0:=Tryz.underlying0
 a0:=Tryz.isAgg0
 z0:=Tryz.sizeOf0
 v0:=Tryz.zeroValue0
 t3:=Tryz.underlying3
 a3:=Tryz.isAgg3
 z3:=Tryz.sizeOf3
 v3:=Tryz.zeroValue3
 t4:=Tryz.underlying4
 a4:=Tryz.isAgg4
 z4:=Tryz.sizeOf4
 v4:=Tryz.zeroValue4
 t5:=Tryz.underlying5
 a5:=Tryz.isAgg5
 z5:=Tryz.sizeOf5
 v5:=Tryz.zeroValue5
 t9:=Tryz.underlying9
 a9:=Tryz.isAgg9
 z9:=Tryz.sizeOf9
 v9:=Tryz.zeroValue9
 t22:=Tryz.underlying86
 a22:=Tryz.isAgg86
 z22:=Tryz.sizeOf86
 v22:=Tryz.zeroValue86
 t25:=Tryz.underlying201
 a25:=Tryz.isAgg201
 z25:=Tryz.sizeOf201
 v25:=Tryz.zeroValue201
 t39:=Tryz.underlying224
 a39:=Tryz.isAgg224
 z39:=Tryz.sizeOf224
 v39:=Tryz.zeroValue224
 t45:=Tryz.underlying282
 a45:=Tryz.isAgg282
 z45:=Tryz.sizeOf282
 v45:=Tryz.zeroValue282
 t46:=Tryz.underlying283
 a46:=Tryz.isAgg283
 z46:=Tryz.sizeOf283
 v46:=Tryz.zeroValue283
 t50:=Tryz.underlying269
 a50:=Tryz.isAgg269
 z50:=Tryz.sizeOf269
 v50:=Tryz.zeroValue269
 t53:=Tryz.underlying22
 a53:=Tryz.isAgg22
 z53:=Tryz.sizeOf22
 v53:=Tryz.zeroValue22
 t55:=Tryz.underlying290
 a55:=Tryz.isAgg290
 z55:=Tryz.sizeOf290
 v55:=Tryz.zeroValue290
 t66:=Tryz.underlying325
 a66:=Tryz.isAgg325
 z66:=Tryz.sizeOf325
 v66:=Tryz.zeroValue325
 t70:=Tryz.underlying329
 a70:=Tryz.isAgg329
 z70:=Tryz.sizeOf329
 v70:=Tryz.zeroValue329
 t76:=Tryz.underlying344
 a76:=Tryz.isAgg344
 z76:=Tryz.sizeOf344
 v76:=Tryz.zeroValue344
 t77:=Tryz.underlying345
 a77:=Tryz.isAgg345
 z77:=Tryz.sizeOf345
 v77:=Tryz.zeroValue345 }
instance:Inhabited PlE:=⟨⟨0,false,0,0⟩⟩
def cmpI (a b:Nat):Int:=if a < b then -1 else if b < a then 1 else 0
theorem isNaN_id (x:Int) (w:World):Calls Tryz.prog 136 #[.int .u32 x] w fun e w'=>e=.returned (.bool false)∧w'=w:=by
 go_enter Tryz.func136,Tryz.ntmps136
 go_wp2
 go_ret
 exact ⟨by simp,rfl⟩
theorem cmp_id (a b:Nat) (w:World):Calls Tryz.prog 83 #[.int .u32 (a:Int),.int .u32 (b:Int)] w fun e w'=>e=.returned (.int .i64 (cmpI a b))∧w'=w:=by
 have HN:Hid (∀ (x:Int) W,Calls Tryz.prog 136 #[.int .u32 x] W fun e w'=>e=.returned (.bool false)∧w'=W):=fun x W=>isNaN_id x W
 go_enter Tryz.func83,Tryz.ntmps83
 go_wp2_with fail
 refine (HN.out _ _).mono ?_
 rintro e w1 ⟨rfl,rfl⟩
 go_wp2_with fail
 refine (HN.out _ _).mono ?_
 rintro e w1 ⟨rfl,rfl⟩
 by_cases h1:a < b
 ·have h1':(a:Int) < (b:Int):=by omega
  go_wp2
  go_ret
  exact ⟨by simp [cmpI,h1],rfl⟩
 ·have h1':¬ (a:Int) < (b:Int):=by omega
  by_cases h2:b < a
  ·have h2':(b:Int) < (a:Int):=by omega
   go_wp2
   go_ret
   exact ⟨by simp [cmpI,h1,h2],rfl⟩
  ·have h2':¬ (b:Int) < (a:Int):=by omega
   go_wp2
   go_ret
   exact ⟨by simp [cmpI,h1,h2],rfl⟩
theorem cls_ok (x y:PlE) (W:World):Calls Tryz.prog 106 #[.agg x.cs.toArray,.agg y.cs.toArray] W fun e w'=>e=.returned (.int .i64 (cmpI x.id y.id))∧∃ q os',w'=grow (W.drewN q) os':=by
 obtain ⟨xi,xo,xx,xy⟩:=x
 obtain ⟨yi,yo,yx,yy⟩:=y
 have HC:Hid (∀ W,Calls Tryz.prog 83 #[.int .u32 (xi:Int),.int .u32 (yi:Int)] W fun e w'=>e=.returned (.int .i64 (cmpI xi yi))∧w'=W):=fun W=>cmp_id xi yi W
 show Calls Tryz.prog 106 #[.agg #[.int .u32 (xi:Int),.bool xo,.int .i32 xx,.int .i32 xy],.agg #[.int .u32 (yi:Int),.bool yo,.int .i32 yx,.int .i32 yy]] W fun e w'=>e=.returned (.int .i64 (cmpI xi yi))∧∃ q os',w'=grow (W.drewN q) os'
 generalize cmpI xi yi=r at *
 go_enter Tryz.func106,Tryz.ntmps106
 go_wp2_with fail
 refine (HC.out _).mono ?_
 rintro e w1 ⟨rfl,rfl⟩
 go_wp2
 go_ret
 exact ⟨rfl,0,_,by rw [alloc_eq_grow,alloc_eq_grow,grow_grow];rfl⟩
theorem ltPl (x y:PlE):ltOf (fun x y:PlE=>cmpI x.id y.id) x y=decide (x.id < y.id):=by
 unfold ltOf cmpI
 by_cases h1:x.id < y.id
 ·simp [h1]
 ·by_cases h2:y.id < x.id <;> simp [h1,h2]
theorem swoPl:SWO (ltOf fun x y:PlE=>cmpI x.id y.id) where
 irrefl x:=by rw [ltPl];simp
 trans x y z h1 h2:=by rw [ltPl] at *;simp at *;omega
 ntrans x y z h1 h2:=by rw [ltPl] at *;simp at *;omega
theorem sortPl_ok (w0 w:World) (l:List Thing) (g cap:Nat) (L:List PlE) (h:Own w0 w (Row 92 4 (.slice (some ⟨g,0,none⟩) L.length cap) L.length (cat PlE.cs L)::l)) (hsz:L.length < 1000000000) :
  Calls Tryz.prog 105 #[.slice (some ⟨g,0,none⟩) L.length cap,.func (.func 106) #[] #[]] w fun e w'=>e=.returned (.tuple #[])∧∃ L',L'.Perm L∧L'.Pairwise (fun a b=>a.id≤b.id)∧Own w0 w' (Row 92 4 (.slice (some ⟨g,0,none⟩) L.length cap) L.length (cat PlE.cs L')::l):=by
 have eg:∀ args w,(callFunc 106 args).run Tryz.prog w=.ok (.enter 106 args) w:=enters_of Tryz.func106 (by kernel_rfl) rfl
 have hH:=Own.holdsK (enc:=PlE.cs) (k:=4) (fun _=>rfl) (by decide) h
 have hblk:g < w.heap.size:=by
  obtain ⟨h1,h2⟩:=h.row
  rcases h2 with ⟨hv,_⟩ | ⟨g',cap',cur,hv,hb,hgg,_⟩
  ·cases hv
  ·simp only [Value.slice.injEq,Option.some.injEq,Addr.mk.injEq] at hv
   rw [hv.1.1]
   exact (Array.getElem?_eq_some_iff.1 hgg).1
 have hcon:=AnyQ.slices_SortFunc sortPl 4 Tryz.isAgg92 Tryz.sizeOf92 PlE.cs (fun _=>rfl) (fun x v hv=>by simp [PlE.cs] at hv;rcases hv with rfl | rfl | rfl | rfl <;> rfl) (fun x y=>cmpI x.id y.id) swoPl 106 #[] g 0 cap L.toArray w eg (fun _ _ _ _ x y=>cls_ok x y _) hH hblk (by simp;omega)
 change Calls Tryz.prog 105 _ _ _ at hcon
 rw [show L.toArray.size=L.length by simp] at hcon
 refine hcon.mono ?_
 rintro e w' ⟨rfl,d',n,os,hp,hs,rfl⟩
 obtain ⟨hsz1,_,hp3⟩:=hp
 have hd:d'.size=L.length:=by rw [hsz1];simp
 have hperm:d'.toList.Perm L:=by
  have e1:(d'.extract 0 L.length).toList=d'.toList:=by rw [← hd];simp
  have e2:(L.toArray.extract 0 L.length).toList=L:=by simp
  rw [e1,e2] at hp3
  exact hp3
 refine ⟨rfl,d'.toList,hperm,?_,?_⟩
 ·rw [List.pairwise_iff_getElem]
  intro i j hi hj hij
  have hi':i < d'.size:=by simpa using hi
  have hj':j < d'.size:=by simpa using hj
  have a:=hs i j (Nat.zero_le _) hij (by omega)
  rw [ltPl,getElem!_pos d' i hi',getElem!_pos d' j hj'] at a
  simp at a
  simpa using a
 ·have hl:d'.toList.length=L.length:=by simpa using hd
  have:=h.sortK (enc:=PlE.cs) (k:=4) (fun _=>rfl) (by decide) hl n os
  rw [hl] at this
  simpa using this
end Go.Proofs.YtogmdoiecpihdaaGreatDoor
namespace Go.Proofs.YtogmdoiecpihdaaGreatDoor
open Go.RowKit
set_option linter.unusedVariables false
set_option maxHeartbeats 8000000
def View (s:Nat) (v:Value) (n:Nat) (xs:List Value):Thing where
 is:=fun w A=>xs.length=n*s∧∃ ao cap,v=.slice ao n cap∧n≤cap∧cap≤maxLen∧((n=0∧∀ k,¬ A k)∨(0 < n*s∧∃ g o,ao=some ⟨g,o,none⟩∧(∀ k,A k ↔ k=g)∧∀ j u,xs[j]? = some u→w.cell? ⟨g,o+j,none⟩=some u))
 lt:=by
  rintro w A k ⟨hl,ao,cap,rfl,_,_,⟨_,h⟩ | ⟨h0,g,o,_,hA,hc⟩⟩ a
  ·exact (h k a).elim
  ·rw [(hA k).1 a]
   have hx:xs[0]? = some xs[0]:=List.getElem?_eq_getElem (by omega)
   exact World.block_lt_of_cell? w _ (hc 0 _ hx)
 keep:=by
  rintro w w' A B ⟨hl,ao,cap,rfl,h1,h2,⟨h3,h⟩ | ⟨h0,g,o,ha,hA,hc⟩⟩ hf hn
  ·exact ⟨hl,ao,cap,rfl,h1,h2,.inl ⟨h3,h⟩⟩
  ·refine ⟨hl,ao,cap,rfl,h1,h2,.inr ⟨h0,g,o,ha,hA,fun j u hu=>?_⟩⟩
   have h4:=hc j u hu
   exact (hf.cell (p:=⟨g,o+j,none⟩) (World.block_lt_of_cell? w _ h4) (hn g ((hA g).2 rfl))).trans h4
section
variable {w0 w w':World} {l:List Thing} {t e:TypeId} {s n m cap g:Nat} {v u:Value} {xs ys:List Value}
theorem Own.view (h:Own w0 w (Row e s v n xs::l)) (hs:0 < s):Own w0 w (View s v n xs::l):=by
 obtain ⟨A,⟨B,C,hB,hC,hbc,hA⟩,hF,hlo⟩:=h
 have hr:=hB.1
 rcases hr.2 with ⟨rfl,rfl⟩ | ⟨g,cap,cur,rfl,_,hgg,h1,h2,h3,h4⟩
 ·refine ⟨C,⟨fun _=>False,C,⟨hr.1,none,0,rfl,Nat.le_refl _,Nat.zero_le _,.inl ⟨rfl,fun _ h=>h⟩⟩,hC,fun _ h=>h.elim,fun k=>by simp⟩,hF,fun k c=>hlo k ((hA k).2 (.inr c))⟩
 ·rcases Nat.eq_zero_or_pos n with h0 | h0
  ·refine ⟨C,⟨fun _=>False,C,⟨hr.1,_,_,rfl,h1,h2,.inl ⟨h0,fun _ h=>h⟩⟩,hC,fun _ h=>h.elim,fun k=>by simp⟩,hF,fun k c=>hlo k ((hA k).2 (.inr c))⟩
  ·refine ⟨A,⟨B,C,⟨hr.1,_,_,rfl,h1,h2,.inr ⟨Nat.mul_pos h0 hs,g,0,rfl,fun k=>?_,fun j u hu=>?_⟩⟩,hC,hbc,hA⟩,hF,hlo⟩
   ·rw [hB.2 k];simp [Value.ownBlock];exact eq_comm
   ·have hj:=(List.getElem?_eq_some_iff.1 hu).1
    rw [Nat.zero_add,hr.cellAt j (by rw [← hr.1];exact hj)];exact hu
theorem Own.vshape (h:Own w0 w (View s v n xs::l)):∃ ao cap,v=.slice ao n cap∧n≤cap∧cap≤maxLen:=by
 obtain ⟨A,⟨B,C,⟨_,ao,cap,h1,h2,h3,_⟩,_⟩,_⟩:=h
 exact ⟨ao,cap,h1,h2,h3⟩
theorem Own.vlen (h:Own w0 w (View s v n xs::l)):xs.length=n*s:=by
 obtain ⟨A,⟨B,C,⟨hl,_⟩,_⟩,_⟩:=h
 exact hl
theorem Own.vcell (h:Own w0 w (View s v n xs::l)) (hn:0 < n):∃ g o cap,v=.slice (some ⟨g,o,none⟩) n cap∧n≤cap∧cap≤maxLen∧∀ j u,xs[j]? = some u→w.cell? ⟨g,o+j,none⟩=some u:=by
 obtain ⟨A,⟨B,C,⟨hl,ao,cap,rfl,h1,h2,⟨h3,_⟩ | ⟨h0,g,o,rfl,hA,hc⟩⟩,_⟩,_⟩:=h
 ·omega
 ·exact ⟨g,o,cap,rfl,h1,h2,hc⟩
theorem Own.litRow (h:Own w0 w l) (cs:Array Value) (e:TypeId) (s n:Nat) (hm:n≤maxLen) (hs:cs.size=n*s):Own w0 (w.alloc (.cells cs e)) (Row e s (.slice (some ⟨w.heap.size,0,none⟩) n n) n cs.toList::l) :=
 h.new (Row e s (.slice (some ⟨w.heap.size,0,none⟩) n n) n cs.toList) (fun k=>k=w.heap.size) ⟨World.ownsRow_lit (base:=0) w cs n (Nat.zero_le _) hm hs,fun k=>by simp [Value.ownBlock];exact eq_comm⟩ ((Fr.refl _ _).alloc _) (fun k hk=>by omega)
end
theorem run_append_empty {P:Program} (w:World) (base:Nat) (t ty e:TypeId) (i:TypeInfo) (size:Nat) (ht:P.underlying t=some (.slice e)) (hi:P.info? e=some i)
  (v:Value) (n:Nat) (xs:List Value) (hown:w.ownsRow base e size v n xs) (xa:Option Addr) (c:Nat) :
  (Builtin.append_ #[t,t] ty #[v,.slice xa 0 c]).run P w=.ok v w:=by
 rcases hown.2 with ⟨rfl,rfl⟩ | ⟨g,cap,cur,rfl,_,_,hnc,_⟩
 ·cases xa <;> simp [Builtin.append_,run_underlying ht,sizeOf,typeInfo,hi,Builtin.lenOf,Builtin.firstCells,loadCells,loadCellsFrom]
 ·cases xa <;> simp [Builtin.append_,run_underlying ht,sizeOf,typeInfo,hi,Builtin.lenOf,Builtin.firstCells,hnc,storeCells,loadCells,loadCellsFrom]
theorem append_view {P:Program} {w0 w:World} {l:List Thing} {ops:Array Oper} {rest:List Oper} {o:Oper} {a:Act} {Q:Exit→Act→World→Prop} (hgd:o.guard=none) (sx x:Operand) (t:TypeId)
  (ho:o.op=.call { callee:=.builtin .append,args:=#[sx,x],argTypes:=#[t,t] })
  (e:TypeId) (i:TypeInfo) (z:Value) (size bytes:Nat) (ht:P.underlying t=some (.slice e)) (hi:P.info? e=some i) (hz:i.zero=some z)
  (hsize:i.size=size) (hby:i.bytes=bytes) (hzs:z.cells.size=size) (hsz:0 < size)
  (v:Value) (n:Nat) (xs:List Value) (hs:a.eval sx=v) (vx:Value) (m:Nat) (ys:List Value) (hx:a.eval x=vx) (hown:Own w0 w (Row e size v n xs::View size vx m ys::l)) (h1:∀ u∈ys,u.oneCell'=true)
  (h63:n+m≤maxLen) (hbytes:(n+m)*bytes≤140737488355328)
  (h:∀ ao cap w',Own w0 w' (Row e size (.slice ao (n+m) cap) (n+m) (xs++ys)::View size vx m ys::l)→w.heap.size≤w'.heap.size→wpList P ops Q rest (a.put o.dst (.slice ao (n+m) cap)) w'):wpList P ops Q (o::rest) a w:=by
 obtain ⟨xa,xc,rfl,_,_⟩:=hown.two.vshape
 rcases Nat.eq_zero_or_pos m with h0 | h0
 ·subst h0
  have hy:ys=[]:=List.eq_nil_of_length_eq_zero (by rw [hown.two.vlen];simp)
  subst hy
  obtain ⟨va,vc,rfl⟩:=row_any hown.row
  refine wpList_plain hgd fun K hK'=>?_
  have hr:=run_append_empty (P:=P) w 0 t o.type e i size ht hi _ n xs hown.row xa xc
  unfold Oper.wp
  simp [execOp,ho,resolve,invoke,builtin,hs,hx,hr,Result.andThen]
  exact hK' _ _ (by simpa using h va vc w (by simpa using hown) (Nat.le_refl _))
 ·obtain ⟨g,o',cap,hv,_,_,hc⟩:=hown.two.vcell h0
  have hxa:=(Value.slice.inj hv).1
  subst hxa
  refine append_own hgd sx x t ho e i z size bytes ht hi hz hsize hby hzs hsz v n xs hs hown ⟨g,o',none⟩ m xc ys hx hown.two.vlen (fun j u hu=>by rw [addr_add];exact hc j u hu) h1 h0 h63 hbytes ?_
  intro g' cap' w' hO hsz
  exact h _ _ w' hO hsz
end Go.Proofs.YtogmdoiecpihdaaGreatDoor
namespace Go.Proofs.YtogmdoiecpihdaaGreatDoor
open Go.RowKit
set_option linter.unusedVariables false
set_option maxHeartbeats 8000000
set_option maxRecDepth 100000
theorem pls_one (L:List PlE):∀ u∈cat PlE.cs L,u.oneCell'=true:=by
 intro u hu
 obtain ⟨x,_,hx⟩:=List.mem_flatMap.1 hu
 simp [PlE.cs] at hx
 rcases hx with rfl | rfl | rfl | rfl <;> rfl
theorem growPl (w0 w:World) (l:List Thing) (h:Own w0 w l) (k:Nat) (hk:k≤10000000) :
  Calls Tryz.prog 160 #[.slice none 0 0,.int .i64 (k:Int)] w fun e w'=>∃ ao cap,e=.returned (.slice ao 0 cap)∧Own w0 w' (Row 92 4 (.slice ao 0 cap) 0 []::l):=by
 rcases Nat.eq_zero_or_pos k with h0 | h0
 ·subst h0
  have H:Hid (Own w0 w l):=h
  clear h
  go_enter Tryz.func160,Tryz.ntmps160
  go_wp2
  go_ret
  exact ⟨none,0,rfl,H.out.nilRow _ _⟩
 ·obtain ⟨i0,hi0,hz0,hz1,hz2⟩:∃ i,Tryz.prog.info? 92=some i∧i.zero=some (.agg #[.int .u32 0,.bool false,.int .i32 0,.int .i32 0])∧i.size=4∧i.bytes=16:=by
   have:=Tryz.infoPl
   cases hi:Tryz.prog.info? 92 with
   | none=>rw [hi] at this;simp at this
   | some i=>rw [hi] at this;simp at this;exact ⟨i,rfl,this.1,this.2.1,this.2.2⟩
  have hold:(Builtin.firstCells i0.size 0 (.slice none 0 0)).run Tryz.prog w.drew=.ok ([]:List Value).toArray w.drew:=by
   simp [Builtin.firstCells]
  have hrz:∀ ty,_:=fun ty=>Lib.run_append_grow_zeros (P:=Tryz.prog) w 86 3 ty 92 i0 (.agg #[.int .u32 0,.bool false,.int .i32 0,.int .i32 0]) .i64 .i64 Tryz.underlying86 Tryz.underlying3 hi0 hz0 none 0 0 [] hold k h0 (by rw [hz1];decide) (by omega) (by omega) (by rw [hz2];omega) (growslice_fits (by omega) (by rw [hz2];omega))
  obtain ⟨G,hG⟩:∃ G,G=grownCap w (0+k) 0 92:=⟨_,rfl⟩
  have hGn:k≤G:=by rw [hG];have:=grownCap_ge w (0+k) 0 92;omega
  have hGm:G≤maxLen:=by rw [hG];exact grownCap_le_maxLen w (0+k) 0 92 (by unfold maxLen;omega)
  obtain ⟨cur0,hc0⟩:∃ cur0,cur0=([]:List Value).toArray++Builtin.zeroCells (Value.cells (.agg #[.int .u32 0,.bool false,.int .i32 0,.int .i32 0])) k++Builtin.zeroCells (Value.cells (.agg #[.int .u32 0,.bool false,.int .i32 0,.int .i32 0])) (G - (0+k)):=⟨_,rfl⟩
  rw [← hG,← hc0] at hrz
  have hzz:(Value.cells (.agg #[.int .u32 0,.bool false,.int .i32 0,.int .i32 0])).size=4:=rfl
  have hs0:cur0.size=G*4:=by
   rw [hc0];simp only [Array.size_append,List.size_toArray,size_zeroCells,hzz,List.length_nil];omega
  obtain ⟨N,hN⟩:∃ N,N=w.heap.size:=⟨_,rfl⟩
  rw [← hN] at hrz
  obtain ⟨w1,hw1⟩:∃ w1,w1=w.drew.alloc (.cells cur0 92):=⟨_,rfl⟩
  rw [← hw1] at hrz
  have hg1:w1.heap[N]? = some (.cells cur0 92 (0,0)):=by rw [hw1,hN];exact heap_alloc_new w.drew _
  have hO1:Own w0 w1 (Row 92 4 (.slice (some ⟨N,0,none⟩) 0 G) 0 []::l) :=
   h.new (w':=w1) (Row 92 4 (.slice (some ⟨N,0,none⟩) 0 G) 0 []) (fun j=>j=N) ⟨⟨by simp,.inr ⟨N,G,cur0,rfl,Nat.zero_le _,hg1,Nat.zero_le _,hGm,hs0,by simp⟩⟩,fun j=>by simp [Value.ownBlock];exact eq_comm⟩ (by rw [hw1];exact (Fr.refl _ _).drew.alloc _) (fun j hj=>by omega)
  have H1:Hid (Own w0 w1 _):=hO1
  have h0':(0:Int) < (k:Int):=by omega
  have hGk:(0:Int)≤(G:Int):=by omega
  rw [Nat.zero_add] at hrz
  have HRZ:Hid (∀ ty,(Builtin.append_ #[86,3] ty #[.slice none 0 0,.int .i64 (k:Int)]).run Tryz.prog w=.ok (.slice (some ⟨N,0,none⟩) k G) w1):=hrz
  clear hrz
  clear hO1 hg1 hw1 hN hs0 hc0 hG hold h hi0 hz0 hz1 hz2 hGm
  go_enter Tryz.func160,Tryz.ntmps160
  go_wp2_with (at_builtin;refine Lib.wpList_append_run _ rfl _ _ _ _ rfl _ _ rfl rfl _ _ (HRZ.out _) ?_)
  go_wp2
  go_ret
  exact ⟨some ⟨N,0,none⟩,G,by simp,H1.out⟩
theorem concatPl (w0 w:World) (l:List Thing) (B:Nat) (a1 a2:Option Addr) (c1 c2:Nat) (L1 L2:List PlE) (hl:L1.length+L2.length≤1000000)
  (h:Own w0 w (Cells B #[.slice a1 L1.length c1,.slice a2 L2.length c2] 86::Row 92 4 (.slice a1 L1.length c1) L1.length (cat PlE.cs L1)::Row 92 4 (.slice a2 L2.length c2) L2.length (cat PlE.cs L2)::l)) :
  Calls Tryz.prog 102 #[.slice (some ⟨B,0,none⟩) 2 2] w fun e w'=>∃ ao cap,e=.returned (.slice ao (L1++L2).length cap)∧Own w0 w' (Row 92 4 (.slice ao (L1++L2).length cap) (L1++L2).length (cat PlE.cs (L1++L2))::l):=by
 obtain ⟨i0,hi0,hz0,hz1,hz2⟩:∃ i,Tryz.prog.info? 92=some i∧i.zero=some (.agg #[.int .u32 0,.bool false,.int .i32 0,.int .i32 0])∧i.size=4∧i.bytes=16:=by
  have:=Tryz.infoPl
  cases hi:Tryz.prog.info? 92 with
  | none=>rw [hi] at this;simp at this
  | some i=>rw [hi] at this;simp at this;exact ⟨i,rfl,this.1,this.2.1,this.2.2⟩
 obtain ⟨n1,hn1⟩:∃ n,n=L1.length:=⟨_,rfl⟩
 obtain ⟨n2,hn2⟩:∃ n,n=L2.length:=⟨_,rfl⟩
 obtain ⟨n3,hn3⟩:∃ n,n=(L1++L2).length:=⟨_,rfl⟩
 have hn:n3=n1+n2:=by rw [hn3,hn1,hn2,List.length_append]
 rw [← hn1,← hn2] at h hl
 rw [← hn3]
 have H:Hid (Own w0 w (Cells B #[.slice a1 n1 c1,.slice a2 n2 c2] 86::View 4 (.slice a1 n1 c1) n1 (cat PlE.cs L1)::View 4 (.slice a2 n2 c2) n2 (cat PlE.cs L2)::l)):=((h.two.view (by decide)).three.view (by decide)).back3.two
 have HE:Hid (n1=L1.length∧n2=L2.length∧n3=(L1++L2).length∧cat PlE.cs (L1++L2)=cat PlE.cs L1++cat PlE.cs L2):=⟨hn1,hn2,hn3,cat_append _ _ _⟩
 have q0:=H.out.cell 0
 have q1:=H.out.cell 1
 simp at q0 q1
 have HNN:Hid (n3=n1+n2):=hn
 have hn30:0≤(n3:Int):=by omega
 have hn31:n3≤1000000:=by omega
 have hw1:(0:Int)+(n1:Int)=(n1:Int):=by omega
 have hw2:(n1:Int)+(n2:Int)=(n3:Int):=by omega
 clear h hn1 hn2 hn3 hn
 go_enter Tryz.func102,Tryz.ntmps102
 go_wp2
 go_loopw [3,11] (fun vs vi wr=>wr=w∧((vs=.int .i64 0∧vi=.int .i64 0)∨(vs=.int .i64 (n1:Int)∧vi=.int .i64 1)∨(vs=.int .i64 (n3:Int)∧vi=.int .i64 2))) (fun _ vi _=>2 - (intOf vi).toNat)
 case atStart=>exact ⟨rfl,.inl ⟨rfl,rfl⟩⟩
 case round =>
  obtain ⟨rfl,⟨rfl,rfl⟩ | ⟨rfl,rfl⟩ | ⟨rfl,rfl⟩⟩:=hrel
  ·have hlt:¬ ((n1:Int) < 0):=by omega
   go_wp2
   go_roundw
   case rel=>exact ⟨by first | rfl | trivial,.inr (.inl ⟨by go_num,by go_num⟩)⟩
   case measure=>simp [intOf]
  ·have hlt:¬ ((n3:Int) < 0):=by omega
   go_wp2
   go_roundw
   case rel=>exact ⟨by first | rfl | trivial,.inr (.inr ⟨by go_num,by go_num⟩)⟩
   case measure=>simp [intOf]
  ·have HG:Hid (Calls _ _ _ _ _):=growPl w0 _ _ H.out n3 (by omega)
   go_wp2_with fail
   refine HG.out.mono ?_
   rintro e w2 ⟨ao,cap,rfl,h2⟩
   have H2:Hid (Own w0 w2 _):=h2
   clear h2 HG
   go_wp2
   go_loopw [6,27] (fun vs vi wr=>∃ ao cap,(vs=.slice ao 0 cap∧vi=.int .i64 0∧Own w0 wr (Row 92 4 (.slice ao 0 cap) 0 []::Cells B #[.slice a1 n1 c1,.slice a2 n2 c2] 86::View 4 (.slice a1 n1 c1) n1 (cat PlE.cs L1)::View 4 (.slice a2 n2 c2) n2 (cat PlE.cs L2)::l))∨(vs=.slice ao n1 cap∧vi=.int .i64 1∧Own w0 wr (Row 92 4 (.slice ao n1 cap) n1 (cat PlE.cs L1)::Cells B #[.slice a1 n1 c1,.slice a2 n2 c2] 86::View 4 (.slice a1 n1 c1) n1 (cat PlE.cs L1)::View 4 (.slice a2 n2 c2) n2 (cat PlE.cs L2)::l))∨(vs=.slice ao n3 cap∧vi=.int .i64 2∧Own w0 wr (Row 92 4 (.slice ao n3 cap) n3 (cat PlE.cs (L1++L2))::l))) (fun _ vi _=>2 - (intOf vi).toNat)
   case atStart=>exact ⟨ao,cap,.inl ⟨rfl,rfl,H2.out⟩⟩
   case round =>
    clear H2 q0 q1
    obtain ⟨ao2,cap2,⟨rfl,rfl,hO⟩ | ⟨rfl,rfl,hO⟩ | ⟨rfl,rfl,hO⟩⟩:=hrel
    ·have q0:=hO.two.cell 0
     have q1:=hO.two.cell 1
     simp at q0 q1
     have HO:Hid (Own w0 wr (Row 92 4 (.slice ao2 0 cap2) 0 []::View 4 (.slice a1 n1 c1) n1 (cat PlE.cs L1)::Cells B #[.slice a1 n1 c1,.slice a2 n2 c2] 86::View 4 (.slice a2 n2 c2) n2 (cat PlE.cs L2)::l)):=hO.in23
     clear hO
     go_wp2_with (at_builtin;refine append_view rfl _ _ 86 rfl 92 i0 (.agg #[.int .u32 0,.bool false,.int .i32 0,.int .i32 0]) 4 16 Tryz.underlying86 hi0 hz0 hz1 hz2 rfl (by decide) _ _ _ rfl _ _ _ rfl HO.out (pls_one L1) (by unfold maxLen;omega) (by omega) ?_)
     intro ao3 cap3 w3 hO3 hsz
     have H3:Hid (Own w0 w3 (Row 92 4 (.slice ao3 n1 cap3) n1 (cat PlE.cs L1)::Cells B #[.slice a1 n1 c1,.slice a2 n2 c2] 86::View 4 (.slice a1 n1 c1) n1 (cat PlE.cs L1)::View 4 (.slice a2 n2 c2) n2 (cat PlE.cs L2)::l)):=by
      have:=hO3.in23
      exact this
     clear hO3 hsz HO
     go_wp2
     go_roundw
     case rel=>exact ⟨ao3,cap3,.inr (.inl ⟨rfl,by go_num,H3.out⟩)⟩
     case measure=>simp [intOf]
    ·have q0:=hO.two.cell 0
     have q1:=hO.two.cell 1
     simp at q0 q1
     have HO:Hid (Own w0 wr (Row 92 4 (.slice ao2 n1 cap2) n1 (cat PlE.cs L1)::View 4 (.slice a2 n2 c2) n2 (cat PlE.cs L2)::Cells B #[.slice a1 n1 c1,.slice a2 n2 c2] 86::View 4 (.slice a1 n1 c1) n1 (cat PlE.cs L1)::l)):=hO.four.two
     clear hO
     go_wp2_with (at_builtin;refine append_view rfl _ _ 86 rfl 92 i0 (.agg #[.int .u32 0,.bool false,.int .i32 0,.int .i32 0]) 4 16 Tryz.underlying86 hi0 hz0 hz1 hz2 rfl (by decide) _ _ _ rfl _ _ _ rfl HO.out (pls_one L2) (by unfold maxLen;omega) (by omega) ?_)
     intro ao3 cap3 w3 hO3 hsz
     have H3:Hid (Own w0 w3 (Row 92 4 (.slice ao3 n3 cap3) n3 (cat PlE.cs (L1++L2))::l)):=by
      have:=hO3.two.tail.two.tail.two.tail
      rw [← HNN.out,← HE.out.2.2.2] at this
      exact this
     clear hO3 hsz HO
     rw [← HNN.out]
     go_wp2
     go_roundw
     case rel=>exact ⟨ao3,cap3,.inr (.inr ⟨rfl,by go_num,H3.out⟩)⟩
     case measure=>simp [intOf]
    ·have HO:Hid (Own w0 wr _):=hO
     clear hO
     go_wp2
     go_ret
     exact ⟨ao2,cap2,rfl,HO.out⟩
end Go.Proofs.YtogmdoiecpihdaaGreatDoor
