/- Rows that the library's sort has sorted: as things. -/
import Derived.Test.YtogmdoiecpihdaaGreatDoorQs01
import Derived.Shelf.SlSortCmp.WholeK
import Derived.Lib.MinMax
import Derived.Deep.RegionHeld3
import Derived.Maps.OwnSet
import Derived.Maps.Range
import Derived.DeepKeys4
namespace Go.Proofs.YtogmdoiecpihdaaGreatDoor
open Go.RowKit Go.Sort Go.Shelf
set_option linter.unusedVariables false
set_option maxHeartbeats 4000000
set_option maxRecDepth 100000
section
variable {α:Type} {enc:α→List Value} {k:Nat}
theorem cat_lenK (hk:∀ x,(enc x).length=k) (L:List α):(cat enc L).length=L.length*k:=by
 induction L with
 | nil=>simp [cat]
 | cons a L ih =>
  have:cat enc (a::L)=enc a++cat enc L:=by simp [cat]
  rw [this,List.length_append,ih,hk,List.length_cons,Nat.succ_mul,Nat.add_comm]
variable [Inhabited α]
theorem flat_cat (hk:∀ x,(enc x).length=k) (hk0:0 < k) (L:List α):(flatK enc k L.toArray).toList=cat enc L:=by
 apply List.ext_getElem?
 intro t
 by_cases ht:t < L.length*k
 ·have h1:t < (flatK enc k L.toArray).size:=by rw [size_flatK];simpa using ht
  have h2:=get_flatK enc k L.toArray t (by simpa using ht)
  have hd:t / k < L.length:=Nat.div_lt_of_lt_mul (by rw [Nat.mul_comm];exact ht)
  have hr:t % k < k:=Nat.mod_lt _ hk0
  rw [Array.getElem?_toList,Array.getElem?_eq_getElem h1,← getElem!_pos (flatK enc k L.toArray) t h1,h2]
  have e:=cat_at enc k hk L (t / k) (t % k) L[t / k] (List.getElem?_eq_getElem hd) hr
  rw [Nat.mul_comm,Nat.div_add_mod] at e
  rw [e]
  have e3:L.toArray[t / k]! = L[t / k]:=by rw [getElem!_pos L.toArray (t / k) (by simpa using hd)];simp
  rw [e3]
  have hl:t % k < (enc L[t / k]).length:=by rw [hk];exact hr
  rw [List.getElem?_eq_getElem hl,getElem!_pos (enc L[t / k]) (t % k) hl]
 ·have h1:(flatK enc k L.toArray).size≤t:=by rw [size_flatK];simpa using Nat.le_of_not_lt ht
  rw [Array.getElem?_toList,Array.getElem?_eq_none h1,List.getElem?_eq_none (by rw [cat_lenK hk];omega)]
variable {w0 w:World} {l:List Thing} {e:TypeId} {g cap:Nat} {L L':List α}
theorem Own.holdsK (hk:∀ x,(enc x).length=k) (hk0:0 < k) (h:Own w0 w (Row e k (.slice (some ⟨g,0,none⟩) L.length cap) L.length (cat enc L)::l)):HoldsK enc k w g 0 L.toArray:=by
 intro j hj
 have hr:=h.row
 have hj2:j < L.length*k:=by rw [size_flatK] at hj;simpa using hj
 refine ⟨?_,hr.frozenAt _⟩
 rw [Nat.zero_add,hr.cellAt _ hj2,← flat_cat hk hk0,Array.getElem?_toList,Array.getElem?_eq_getElem hj,getElem!_pos _ j hj]
 rfl
theorem sort_heap (m:Nat) (d:Array α) (os:Array Obj) (j:Nat) (hj:j < w.heap.size):(sortWorldK enc k w g 0 m d os).heap[j]? = if g=j then (w.heap[j]?).map (onCells (putCells id 0 (flatK enc k d))) else w.heap[j]?:=by
 show ((w.heap.modify g (onCells (putCells id 0 (flatK enc k d))))++os)[j]? = _
 rw [Array.getElem?_append_left (by simpa using hj),Array.getElem?_modify]
theorem Own.sortK (hk:∀ x,(enc x).length=k) (hk0:0 < k) (h:Own w0 w (Row e k (.slice (some ⟨g,0,none⟩) L.length cap) L.length (cat enc L)::l)) (hl:L'.length=L.length) (m:Nat) (os:Array Obj):Own w0 (sortWorldK enc k w g 0 m L'.toArray os) (Row e k (.slice (some ⟨g,0,none⟩) L'.length cap) L'.length (cat enc L')::l):=by
 obtain ⟨h1,h2⟩:=h.row
 rcases h2 with ⟨hv,_⟩ | ⟨g',cap',cur,hv,hb,hgg,hc1,hc2,hc3,hc4⟩
 ·cases hv
 ·obtain ⟨rfl,rfl⟩:g'=g∧cap'=cap:=by
   simp only [Value.slice.injEq,Option.some.injEq,Addr.mk.injEq] at hv
   exact ⟨hv.1.1.symm,hv.2.2.symm⟩
  have hlt:g' < w.heap.size:=(Array.getElem?_eq_some_iff.1 hgg).1
  refine h.grow (v':=.slice (some ⟨g',0,none⟩) L'.length cap') ⟨by rw [cat_lenK hk],.inr ⟨g',cap',putCells id 0 (flatK enc k L'.toArray) cur,rfl,Nat.zero_le _,?_,by omega,hc2,?_,?_⟩⟩ ⟨rfl,rfl,rfl,?_,?_⟩ (fun q hq=>.inl hq)
  ·rw [sort_heap _ _ _ _ hlt,if_pos rfl,hgg]
   rfl
  ·simp [putCells,hc3]
  ·apply List.ext_getElem?
   intro t
   rw [← flat_cat hk hk0]
   by_cases ht:t < L'.length*k
   ·have h1':t < (flatK enc k L'.toArray).size:=by rw [size_flatK];simpa using ht
    have htc:t < cur.size:=by
     rw [hc3]
     have:L'.length*k≤cap'*k:=Nat.mul_le_mul_right k (by omega)
     omega
    rw [List.getElem?_take_of_lt ht,Array.getElem?_toList,Array.getElem?_toList]
    simp only [putCells,Array.getElem?_mapIdx,Array.getElem?_eq_getElem htc,Option.map_some,Nat.zero_le,true_and,Nat.zero_add,Nat.sub_zero]
    rw [if_pos h1',Array.getElem?_eq_getElem h1',getElem!_pos _ t h1']
    rfl
   ·rw [List.getElem?_eq_none (by rw [List.length_take];omega),List.getElem?_eq_none (by rw [Array.length_toList,size_flatK];simpa using Nat.le_of_not_lt ht)]
  ·show w.heap.size≤((w.heap.modify g' (onCells (putCells id 0 (flatK enc k L'.toArray))))++os).size
   simp
  ·intro q hq hne
   rw [sort_heap _ _ _ _ hq,if_neg (fun e=>hne (by rw [← e];rfl))]
end
end Go.Proofs.YtogmdoiecpihdaaGreatDoor
namespace Go.Proofs.YtogmdoiecpihdaaGreatDoor
open Go.RowKit
set_option linter.unusedVariables false
set_option maxHeartbeats 4000000
set_option maxRecDepth 100000
def cel (x:Int):Int:=x / 16384
def I32 (x:Int):Prop:=-2147483648≤x∧x≤2147483647
theorem tdiv_cell (x:Int):x.tdiv 16384=if x < 0 then -((-x) / 16384) else x / 16384:=by
 split
 ·have:x = -(-x):=by omega
  rw [this,Int.neg_tdiv,Int.tdiv_eq_ediv_of_nonneg (by omega)]
  simp
 ·exact Int.tdiv_eq_ediv_of_nonneg (by omega)
theorem tmod_cell (x:Int):x.tmod 16384=x - 16384*x.tdiv 16384:=by
 have:=Int.tmod_def x 16384
 omega
theorem of_ok (w:World) (x:Int) (h:I32 x):Calls Tryz.prog 79 #[.int .i32 x] w fun e w'=>e=.returned (.int .i64 (cel x))∧w'=w:=by
 obtain ⟨q,hq⟩:∃ q,x.tdiv 16384=q:=⟨_,rfl⟩
 obtain ⟨r,hr⟩:∃ r,x.tmod 16384=r:=⟨_,rfl⟩
 have h1:=tdiv_cell x
 have h2:=tmod_cell x
 rw [hq] at h1 h2
 rw [hr] at h2
 have b1:-131072≤q∧q≤131071:=by unfold I32 at h;split at h1 <;> omega
 have b2:-16384 < r∧r < 16384:=by unfold I32 at h;split at h1 <;> omega
 obtain ⟨b1a,b1b⟩:=b1
 obtain ⟨b2a,b2b⟩:=b2
 have hc:cel x=if r < 0 then q - 1 else q:=by unfold cel;split at h1 <;> split <;> omega
 have HC:Hid (cel x=if r < 0 then q - 1 else q):=hc
 obtain ⟨hx1,hx2⟩:=h
 clear h1 h2 hc
 by_cases hr0:r < 0
 ·go_enter Tryz.func79,Tryz.ntmps79
  go_wp2
  go_ret
  refine ⟨?_,rfl⟩
  rw [HC.out,if_pos hr0]
  rfl
 ·go_enter Tryz.func79,Tryz.ntmps79
  go_wp2
  go_ret
  refine ⟨?_,rfl⟩
  rw [HC.out,if_neg (by omega)]
  rfl
def rgv (on:Bool) (x y r:Int):Value:=.agg #[.bool on,.int .i64 x,.int .i64 y,.int .i64 r]
def bw (n lo hi:Int):Bool:=decide (lo≤n) && decide (n≤hi)
def inR (x y r:Int):Bool:=bw x (-32) 31 && bw y (-32) 31 && bw r 0 8
def erR (x y r:Int):Int:=if inR x y r then 0 else 1
def hasR (on:Bool) (x y r:Int):Bool:=on && inR x y r
def hasC (on:Bool) (x y r cx cy:Int):Bool:=hasR on x y r && bw cx (x - r) (x+r) && bw cy (y - r) (y+r)
theorem bw_iff {n lo hi:Int}:bw n lo hi=true ↔ lo≤n∧n≤hi:=by simp [bw]
theorem inR_iff {x y r:Int}:inR x y r=true ↔ (-32≤x∧x≤31)∧(-32≤y∧y≤31)∧0≤r∧r≤8:=by simp [inR,bw,and_assoc]
theorem within_ok (w:World) (n lo hi:Int):Calls Tryz.prog 177 #[.int .i64 n,.int .i64 lo,.int .i64 hi] w fun e w'=>e=.returned (.bool (bw n lo hi))∧w'=w:=by
 go_enter Tryz.func177,Tryz.ntmps177
 by_cases h:lo≤n
 ·go_wp2
  go_ret
  exact ⟨by simp [bw,h],rfl⟩
 ·go_wp2
  go_ret
  exact ⟨by simp [bw];omega,rfl⟩
theorem check_ok (w:World) (on:Bool) (x y r:Int):Calls Tryz.prog 137 #[rgv on x y r] w fun e w'=>e=.returned (.int .i64 (erR x y r))∧Fr Nobody w w':=by
 have HF:Hid (Fr Nobody w (w.alloc (.cells #[.bool on,.int .i64 x,.int .i64 y,.int .i64 r] 71))):=(Fr.refl _ _).alloc _
 unfold rgv
 go_enter Tryz.func137,Tryz.ntmps137
 obtain ⟨b1,hb1⟩:∃ b,b=bw x (-32) 31:=⟨_,rfl⟩
 obtain ⟨b2,hb2⟩:∃ b,b=bw y (-32) 31:=⟨_,rfl⟩
 obtain ⟨b3,hb3⟩:∃ b,b=bw r 0 8:=⟨_,rfl⟩
 have hin:inR x y r=(b1 && b2 && b3):=by rw [hb1,hb2,hb3];rfl
 have HIN:Hid (inR x y r=(b1 && b2 && b3)):=hin
 have C1:Hid (∀ W,Calls Tryz.prog 177 #[.int .i64 x,.int .i64 (-32),.int .i64 31] W fun e w'=>e=.returned (.bool b1)∧w'=W):=fun W=>by rw [hb1];exact within_ok W _ _ _
 have C2:Hid (∀ W,Calls Tryz.prog 177 #[.int .i64 y,.int .i64 (-32),.int .i64 31] W fun e w'=>e=.returned (.bool b2)∧w'=W):=fun W=>by rw [hb2];exact within_ok W _ _ _
 have C3:Hid (∀ W,Calls Tryz.prog 177 #[.int .i64 r,.int .i64 0,.int .i64 8] W fun e w'=>e=.returned (.bool b3)∧w'=W):=fun W=>by rw [hb3];exact within_ok W _ _ _
 clear hin hb1 hb2 hb3
 go_wp2_with fail
 refine (C1.out _).mono ?_
 rintro e w1 ⟨rfl,rfl⟩
 cases b1 with
 | false =>
  go_wp2
  go_ret
  exact ⟨by unfold erR;rw [HIN.out];rfl,HF.out⟩
 | true =>
  go_wp2_with fail
  refine (C2.out _).mono ?_
  rintro e w1 ⟨rfl,rfl⟩
  cases b2 with
  | false =>
   go_wp2
   go_ret
   exact ⟨by unfold erR;rw [HIN.out];rfl,HF.out⟩
  | true =>
   go_wp2_with fail
   refine (C3.out _).mono ?_
   rintro e w1 ⟨rfl,rfl⟩
   cases b3 with
   | false =>
    go_wp2
    go_ret
    exact ⟨by unfold erR;rw [HIN.out];rfl,HF.out⟩
   | true =>
    go_wp2
    go_ret
    exact ⟨by unfold erR;rw [HIN.out];rfl,HF.out⟩
theorem hasCells_ok (w:World) (on:Bool) (x y r:Int):Calls Tryz.prog 84 #[rgv on x y r] w fun e w'=>e=.returned (.bool (hasR on x y r))∧Fr Nobody w w':=by
 obtain ⟨W,hW⟩:∃ W,W=w.alloc (.cells #[.bool on,.int .i64 x,.int .i64 y,.int .i64 r] 71):=⟨_,rfl⟩
 have HF:Hid (Fr Nobody w W):=by show Fr _ _ _;rw [hW];exact (Fr.refl _ _).alloc _
 have C1:Hid (Calls _ _ _ _ _):=check_ok W on x y r
 unfold rgv at C1 ⊢
 have HW:Hid (W=w.alloc (.cells #[.bool on,.int .i64 x,.int .i64 y,.int .i64 r] 71)):=hW
 clear hW
 obtain ⟨bi,hbi⟩:∃ b,b=inR x y r:=⟨_,rfl⟩
 obtain ⟨er,her⟩:∃ er,er=erR x y r:=⟨_,rfl⟩
 rw [← her] at C1
 have HBI:Hid (bi=inR x y r):=hbi
 have HER:Hid (er=if bi then 0 else 1):=by show _=_;rw [her,hbi];rfl
 clear hbi her
 go_enter Tryz.func84,Tryz.ntmps84
 cases on with
 | false =>
  go_wp2
  go_ret
  refine ⟨rfl,?_⟩
  have:=HF.out
  rw [HW.out] at this
  exact this
 | true =>
  rw [HW.out] at C1
  go_wp2_with fail
  refine C1.out.mono ?_
  rintro e w1 ⟨rfl,hf⟩
  have HF1:Hid (Fr Nobody w w1):=by
   have:=HF.out
   rw [HW.out] at this
   exact this.trans hf
  clear hf C1
  cases bi with
  | false =>
   have he:=HER.out
   simp at he
   subst he
   go_wp2
   go_ret
   exact ⟨by simp [hasR,← HBI.out],HF1.out⟩
  | true =>
   have he:=HER.out
   simp at he
   subst he
   go_wp2
   go_ret
   exact ⟨by simp [hasR,← HBI.out],HF1.out⟩
abbrev Cl2:=Int × Int
def lxt (c d:Cl2):Prop:=c.1 < d.1∨(c.1=d.1∧c.2 < d.2)
theorem lxt_ne {c d:Cl2} (h:lxt c d):c≠d:=by
 rintro rfl
 unfold lxt at h;omega
theorem lxt_anti {c d:Cl2} (h:lxt c d):¬ lxt d c:=by
 unfold lxt at *;omega
theorem lx_eq:∀ {A B:List Cl2},A.Pairwise lxt→B.Pairwise lxt→(∀ x,x∈A ↔ x∈B)→A=B:=by
 intro A
 induction A with
 | nil =>
  intro B _ _ h
  cases B with
  | nil=>rfl
  | cons b B=>exact absurd ((h b).2 (List.mem_cons_self ..)) (by simp)
 | cons a A ih =>
  intro B hA hB h
  obtain ⟨a1,a2⟩:=List.pairwise_cons.1 hA
  cases B with
  | nil=>exact absurd ((h a).1 (List.mem_cons_self ..)) (by simp)
  | cons b B =>
   obtain ⟨b1,b2⟩:=List.pairwise_cons.1 hB
   have e:a=b:=by
    rcases List.mem_cons.1 ((h a).1 (List.mem_cons_self ..)) with e | e
    ·exact e
    ·rcases List.mem_cons.1 ((h b).2 (List.mem_cons_self ..)) with e2 | e2
     ·exact e2.symm
     ·exact absurd (b1 a e) (lxt_anti (a1 b e2))
   subst e
   congr 1
   refine ih a2 b2 (fun x=>?_)
   constructor
   ·intro hx
    rcases List.mem_cons.1 ((h x).1 (List.mem_cons_of_mem _ hx)) with e | e
    ·exact absurd e.symm (lxt_ne (a1 x hx))
    ·exact e
   ·intro hx
    rcases List.mem_cons.1 ((h x).2 (List.mem_cons_of_mem _ hx)) with e | e
    ·exact absurd e.symm (lxt_ne (b1 x hx))
    ·exact e
def UpTo (P:Cl2→Bool) (x y:Int) (R:List Cl2):Prop:=R.Pairwise lxt∧∀ c,c∈R ↔ (P c=true∧lxt c (x,y))
theorem UpTo.start {P:Cl2→Bool} {x y:Int} (h:∀ c,P c=true→x≤c.1∧y≤c.2):UpTo P x y []:=by
 refine ⟨List.Pairwise.nil,fun c=>⟨fun h=>(by cases h),?_⟩⟩
 rintro ⟨a,b⟩
 have:=h c a
 unfold lxt at b;simp only at b;omega
theorem UpTo.col {P:Cl2→Bool} {x y yl:Int} {R:List Cl2} (h:UpTo P x y R) (h1:∀ c,P c=true→c.2 < y) (h2:∀ c,P c=true→yl≤c.2):UpTo P (x+1) yl R:=by
 refine ⟨h.1,fun c=>?_⟩
 rw [h.2 c]
 constructor
 ·rintro ⟨a,b⟩
  exact ⟨a,by unfold lxt at *;simp only at *;omega⟩
 ·rintro ⟨a,b⟩
  have:=h1 c a;have:=h2 c a
  exact ⟨a,by unfold lxt at *;simp only at *;omega⟩
def clP (on:Bool) (x y r:Int) (c:Cl2):Bool:=hasC on x y r c.1 c.2 && bw c.1 (-32) 31 && bw c.2 (-32) 31
theorem clP_iff {on:Bool} {x y r:Int} {c:Cl2}:clP on x y r c=true ↔ hasR on x y r=true∧(x - r≤c.1∧c.1≤x+r)∧(y - r≤c.2∧c.2≤y+r)∧(-32≤c.1∧c.1≤31)∧(-32≤c.2∧c.2≤31):=by
 simp only [clP,hasC,Bool.and_eq_true,bw_iff]
 constructor
 ·rintro ⟨⟨⟨⟨a,b⟩,c⟩,d⟩,e⟩;exact ⟨a,b,c,d,e⟩
 ·rintro ⟨a,b,c,d,e⟩;exact ⟨⟨⟨⟨a,b⟩,c⟩,d⟩,e⟩
def AllC (on:Bool) (x y r:Int) (R:List Cl2):Prop:=UpTo (clP on x y r) 32 (-32) R
theorem AllC.none {on:Bool} {x y r:Int} (h:hasR on x y r=false):AllC on x y r []:=by
 refine ⟨List.Pairwise.nil,fun c=>⟨fun h=>(by cases h),fun hc=>?_⟩⟩
 have:=(clP_iff.1 hc.1).1
 rw [h] at this;cases this
theorem AllC.of {on:Bool} {x y r a b:Int} {R:List Cl2} (h:UpTo (clP on x y r) a b R) (e:∀ c,clP on x y r c=true→lxt c (a,b)):AllC on x y r R:=by
 refine ⟨h.1,fun c=>?_⟩
 rw [h.2 c]
 constructor
 ·rintro ⟨p,_⟩
  refine ⟨p,?_⟩
  have:=clP_iff.1 p;unfold lxt;simp only;omega
 ·rintro ⟨p,_⟩
  exact ⟨p,e c p⟩
def box2 (xl yl:Int) (ny:Nat):Nat→List Cl2
 | 0=>[]
 | n+1=>box2 xl yl ny n++(List.range ny).map (fun b:Nat=>(xl+(n:Int),yl+(b:Int)))
theorem box2_len (xl yl:Int) (ny nx:Nat):(box2 xl yl ny nx).length=nx*ny:=by
 induction nx with
 | zero=>simp [box2]
 | succ n ih=>simp only [box2,List.length_append,ih,List.length_map,List.length_range];rw [Nat.succ_mul]
theorem box2_mem {xl yl:Int} {ny nx:Nat} {c:Cl2}:c∈box2 xl yl ny nx ↔ (xl≤c.1∧c.1 < xl+(nx:Int))∧(yl≤c.2∧c.2 < yl+(ny:Int)):=by
 induction nx with
 | zero=>simp [box2];omega
 | succ n ih =>
  simp only [box2,List.mem_append,ih,List.mem_map,List.mem_range]
  constructor
  ·rintro (h | ⟨b,hb,rfl⟩)
   ·omega
   ·simp only;omega
  ·intro h
   by_cases e:c.1 < xl+(n:Int)
   ·exact .inl ⟨⟨h.1.1,e⟩,h.2⟩
   ·refine .inr ⟨(c.2 - yl).toNat,by omega,?_⟩
    obtain ⟨c1,c2⟩:=c
    simp only [Prod.mk.injEq] at *
    omega
theorem box2_up (xl yl:Int) (ny nx:Nat):(box2 xl yl ny nx).Pairwise lxt:=by
 induction nx with
 | zero=>exact List.Pairwise.nil
 | succ n ih =>
  refine List.pairwise_append.2 ⟨ih,?_,?_⟩
  ·rw [List.pairwise_map]
   refine List.Pairwise.imp ?_ List.pairwise_lt_range
   intro a b h
   exact Or.inr ⟨rfl,by show yl+(a:Int) < yl+(b:Int);omega⟩
  ·intro a ha b hb
   have:=box2_mem.1 ha
   obtain ⟨k,_,rfl⟩:=List.mem_map.1 hb
   unfold lxt;simp only;omega
theorem AllC.len {on:Bool} {x y r:Int} {R:List Cl2} (h:AllC on x y r R) (hR:hasR on x y r=true):R.length=(min (x+r) 31 - max (x - r) (-32)+1).toNat*(min (y+r) 31 - max (y - r) (-32)+1).toNat:=by
 have hi:inR x y r=true:=by unfold hasR at hR;exact (Bool.and_eq_true .. ▸ hR).2
 have hb:=inR_iff.1 hi
 have e:R=box2 (max (x - r) (-32)) (max (y - r) (-32)) (min (y+r) 31 - max (y - r) (-32)+1).toNat (min (x+r) 31 - max (x - r) (-32)+1).toNat:=by
  refine lx_eq h.1 (box2_up ..) (fun c=>?_)
  rw [h.2 c,box2_mem,clP_iff]
  constructor
  ·rintro ⟨⟨_,a,b,d,e⟩,_⟩
   omega
  ·rintro ⟨a,b⟩
   refine ⟨⟨hR,?_⟩,?_⟩
   ·omega
   ·unfold lxt;simp only;omega
 rw [e,box2_len]
end Go.Proofs.YtogmdoiecpihdaaGreatDoor
namespace Go.Proofs.YtogmdoiecpihdaaGreatDoor
open Go.RowKit Go.Maps
set_option linter.unusedVariables false
set_option maxHeartbeats 4000000
set_option maxRecDepth 100000
def spv (id k:Nat):Value:=.agg #[.int .u32 (id:Int),.int .u8 (k:Int)]
def spl (id k:Nat):Lit:=.string (keyBytes [.int .u32 (id:Int),.int .u8 (k:Int)])
theorem spCells:Tryz.prog.cellsOf 166=2:=by kernel_rfl
theorem spCells1:Tryz.prog.cellsOf 38=1:=by kernel_rfl
theorem spCells2:Tryz.prog.cellsOf 5=1:=by kernel_rfl
theorem spKey:Tryz.prog.keyType 166=true:=by kernel_rfl
theorem spLaid:laidOutB Tryz.prog=true:=by kernel_rfl
theorem spSize:∃ m,Tryz.prog.types.size=m+1:=⟨Tryz.prog.types.size - 1,by have:0 < Tryz.prog.types.size:=of_decide_eq_true (by kernel_rfl);omega⟩
theorem keySpot:Keyed Tryz.prog 166:=Keyed.of_law (deep_law_laid spLaid (m:=2) (by omega) (of_decide_eq_true (by kernel_rfl)) (by kernel_rfl) (by rw [Tryz.underlying166]))
theorem wfU32 {n:Nat} (h:n < 4294967296):(Lit.int .u32 (n:Int)).wf=true:=by
 simp [Lit.wf,IntKind.min,IntKind.max,IntKind.signed,IntKind.bits];omega
theorem wfU8 {n:Nat} (h:n < 256):(Lit.int .u8 (n:Int)).wf=true:=by
 simp [Lit.wf,IntKind.min,IntKind.max,IntKind.signed,IntKind.bits];omega
theorem spk (id k:Nat) (h1:id < 4294967296) (h2:k < 256):keyOf Tryz.prog 166 (spv id k)=some (spl id k):=by
 obtain ⟨m,hm⟩:=spSize
 have hf:(spv id k).formed Tryz.prog 166=true:=by simp [spv,Value.formed,Tryz.underlying166,spCells]
 have hl:Tryz.prog.keyLits (Tryz.prog.types.size+1) 166 (spv id k).cells.toList=some [.int .u32 (id:Int),.int .u8 (k:Int)]:=by
  rw [hm]
  simp [Program.keyLits,Tryz.underlying166,Tryz.underlying38,Tryz.underlying5,spCells,spCells1,spCells2,spv,Value.cells,wfU32 h1,wfU8 h2]
 unfold keyOf
 rw [Tryz.underlying166]
 simp only [spKey,hf,hl,Bool.and_self,if_true,Option.map_some]
 rfl
theorem lit1 {P:Program} {t:TypeId} {q:IntKind} (hu:P.underlying t=some (.int q)) {d:Nat} {a:Value} {x:List Lit} (h:P.keyLits (d+1) t [a]=some x):∃ n,a=.int q n∧(Lit.int q n).wf=true∧x=[.int q n]:=by
 unfold Program.keyLits at h
 rw [hu] at h
 cases a <;> simp at h
 rename_i q' n
 obtain ⟨⟨rfl,hw⟩,rfl⟩:=h
 exact ⟨n,rfl,hw,rfl⟩
theorem spk_inv {v:Value} {l:Lit} (h:keyOf Tryz.prog 166 v=some l):∃ id k:Nat,id < 4294967296∧k < 256∧v=spv id k∧l=spl id k:=by
 obtain ⟨m,hm⟩:=spSize
 unfold keyOf at h
 rw [Tryz.underlying166] at h
 simp only [spKey,Bool.true_and] at h
 split at h
 ·rename_i hf
  cases v with
  | agg cs =>
   have hs:cs.size=2:=by simpa [Value.formed,Tryz.underlying166,spCells] using hf
   obtain ⟨a,b,rfl⟩:∃ a b,cs=#[a,b]:=by
    obtain ⟨L⟩:=cs
    match L,hs with
    | [a,b],_=>exact ⟨a,b,rfl⟩
   rw [hm] at h
   obtain ⟨ls,h1,h2⟩:=Option.map_eq_some_iff.1 h
   unfold Program.keyLits at h1
   rw [Tryz.underlying166] at h1
   simp [spCells,spCells1,spCells2,Value.cells] at h1
   obtain ⟨x,hx,h1⟩:=Option.bind_eq_some_iff.1 h1
   simp only [Function.comp] at h1
   obtain ⟨y,hy,h1⟩:=Option.map_eq_some_iff.1 h1
   obtain ⟨t,ht,hy⟩:=Option.bind_eq_some_iff.1 hy
   obtain ⟨u,hu,ht⟩:=Option.bind_eq_some_iff.1 ht
   obtain ⟨n1,rfl,w1,rfl⟩:=lit1 Tryz.underlying38 hx
   obtain ⟨n2,rfl,w2,rfl⟩:=lit1 Tryz.underlying5 hu
   cases ht
   cases hy
   have r1:0≤n1∧n1≤4294967295:=by simpa [Lit.wf,IntKind.min,IntKind.max,IntKind.signed,IntKind.bits] using w1
   have r2:0≤n2∧n2≤255:=by simpa [Lit.wf,IntKind.min,IntKind.max,IntKind.signed,IntKind.bits] using w2
   obtain ⟨i,rfl⟩:=Int.eq_ofNat_of_zero_le r1.1
   obtain ⟨j,rfl⟩:=Int.eq_ofNat_of_zero_le r2.1
   refine ⟨i,j,by omega,by omega,rfl,?_⟩
   rw [← h2,← h1]
   rfl
  | _=>simp [Value.formed,Tryz.underlying166] at hf
 ·cases h
theorem spl_inj {i k i' k':Nat} (h1:i < 4294967296) (h2:k < 256) (h3:i' < 4294967296) (h4:k' < 256) (h:spl i k=spl i' k'):i=i'∧k=k':=by
 have a:=spk i k h1 h2
 have b:=spk i' k' h3 h4
 rw [← h] at b
 have e:=keySpot.inj a b
 unfold spv at e
 simp only [Value.agg.injEq,Array.mk.injEq,List.cons.injEq,Value.int.injEq,and_true,true_and] at e
 exact ⟨by omega,by omega⟩
def hldE (v:Value):Option (DataW Value × List MemPlace):=some (.held v,[])
def rdS (p:Option Value) (z:DataW Value):DataW Value:=match p with
 | none=>z
 | some v=>.held v
def SMap (b n:Nat) (p:Nat→Nat→Option Value):Thing where
 is:=fun w A=>(∃ D:DataW Value,w.ownsMap Tryz.prog 166 hldE b n D∧∀ i k:Nat,i < 4294967296→k < 256→∀ z,D.atKey (spl i k) z=rdS (p i k) z)∧∀ k,A k ↔ k=b
 lt:=by
  rintro w A k ⟨⟨D,h,_⟩,hA⟩ a
  rw [(hA k).1 a];exact h.lt
 keep:=by
  rintro w w' A B ⟨⟨D,h,hk⟩,hA⟩ hf hn
  refine ⟨⟨D,?_,hk⟩,hA⟩
  have hlt:=h.lt
  obtain ⟨es,clock,hb,F,hs,hD⟩:=h
  exact ⟨es,clock,(hf.block b hlt (hn b ((hA b).2 rfl))).trans hb,F,hs,hD⟩
def zSight:Value:=.agg #[.int .u8 0,.int .i32 0,.int .i32 0,.int .i32 0,.int .u32 0]
theorem zeroSight (w:World):(zeroValue 163).run Tryz.prog w=.ok zSight w:=by kernel_rfl
def lkS (p:Option Value):Value:=match p with
 | none=>.tuple #[zSight,.bool false]
 | some v=>.tuple #[v,.bool true]
section
variable {w0 w:World} {l:List Thing} {b n:Nat} {p q:Nat→Nat→Option Value}
theorem Own.smLook (h:Own w0 w (SMap b n p::l)) (i k:Nat) (hi:i < 4294967296) (hk:k < 256) :
  (Instr.lookup 100 (.map (some b)) (spv i k) true).run Tryz.prog w=.ok (lkS (p i k)) w:=by
 obtain ⟨A,⟨B,C,⟨⟨D,hm,hd⟩,_⟩,_⟩,_⟩:=h
 obtain ⟨v,ps,hrun,hv⟩:=hm.look_ok keySpot Tryz.underlying100 (zeroSight w) (show hldE _=some (.held _,[]) from rfl) (spk i k hi hk)
 have hd:=hd i k hi hk
 have hx:=(Prod.mk.inj (Option.some.inj hv)).1
 rw [hd] at hx
 cases hp:p i k with
 | none =>
  rw [hp] at hd hx
  rw [has_false_of_atKey hd] at hrun
  have:v=zSight:=by simpa [rdS] using hx
  subst this
  exact hrun
 | some u =>
  rw [hp] at hd hx
  rw [has_true_of_atKey hd] at hrun
  have:v=u:=by simpa [rdS] using hx
  subst this
  exact hrun
theorem Own.smPut (h:Own w0 w (SMap b n p::l)) (i k:Nat) (v:Value) (hi:i < 4294967296) (hk:k < 256) (hn:n < maxLen) :
  ∃ w',(Instr.mapUpdate 100 (.map (some b)) (spv i k) v).run Tryz.prog w=.ok () w'∧Own w0 w' (SMap b (n+1) (fun x y=>if x=i∧y=k then some v else p x y)::l):=by
 obtain ⟨A,⟨⟨D,hm,hd⟩,hA⟩,hlo,act⟩:=h.act
 obtain ⟨w',hrun,hm',hg⟩:=hm.update keySpot Tryz.underlying100 hn (spk i k hi hk) (show hldE v=some (.held v,[]) from rfl)
 refine ⟨w',hrun,act w' (SMap b (n+1) _) A ⟨⟨_,hm',?_⟩,hA⟩ ((Fr.refl _ _).grown hg (fun k hk=>.inl ((hA k).2 (by cases hk;rfl)))) (fun _ a=>.inl a)⟩
 intro x y hx hy z
 by_cases e:x=i∧y=k
 ·obtain ⟨rfl,rfl⟩:=e
  rw [atKey_put_same hm.isMap (k:=spl x y) trivial];simp [rdS]
 ·rw [atKey_put_other (by intro q;apply e;exact spl_inj hx hy hi hk q),hd x y hx hy];simp [e]
theorem Own.smNew (h:Own w0 w l):Own w0 (w.alloc (.map #[] 0)) (SMap w.heap.size 0 (fun _ _=>none)::l) :=
 h.new (SMap w.heap.size 0 (fun _ _=>none)) (fun k=>k=w.heap.size) ⟨⟨.map [],World.ownsMap_made _ _ _ _,fun i k _ _ z=>by simp [DataW.atKey,rdS]⟩,fun _=>Iff.rfl⟩ ((Fr.refl _ _).alloc _) (fun k hk=>by omega)
end
def SIter (b r n:Nat) (p:Nat→Nat→Option Value) (left:Nat→Nat→Bool) (cnt:Nat):Thing where
 is:=fun w A=>(∃ (D:DataW Value) (lf:Lit→Bool),w.ranges Tryz.prog 166 hldE b r n D lf cnt∧(∀ i k:Nat,i < 4294967296→k < 256→∀ z,D.atKey (spl i k) z=rdS (p i k) z)∧∀ i k:Nat,i < 4294967296→k < 256→lf (spl i k)=left i k)∧∀ k,A k ↔ k=b∨k=r
 lt:=by
  rintro w A k ⟨⟨D,lf,h,_⟩,hA⟩ a
  rcases (hA k).1 a with rfl | rfl
  ·exact h.owns.lt
  ·exact h.lt
 keep:=by
  rintro w w' A B ⟨⟨D,lf,h,hk,hl⟩,hA⟩ hf hn
  refine ⟨⟨D,lf,?_,hk,hl⟩,hA⟩
  have hbl:=h.owns.lt
  have hrl:=h.lt
  obtain ⟨es,clock,since,seen,c0,hb,F,hs,hD,hr,rest⟩:=h
  exact ⟨es,clock,since,seen,c0,(hf.block b hbl (hn b ((hA b).2 (.inl rfl)))).trans hb,F,hs,hD,(hf.block r hrl (hn r ((hA r).2 (.inr rfl)))).trans hr,rest⟩
def strk (left:Nat→Nat→Bool) (i k x y:Nat):Bool:=left x y && !decide (x=i∧y=k)
section
variable {w0 w:World} {l:List Thing} {b r n cnt:Nat} {p q:Nat→Nat→Option Value} {left:Nat→Nat→Bool}
theorem Own.smRange (h:Own w0 w (SMap b n p::l)):∃ w' cnt,cnt≤n∧(Instr.range 100 (.map (some b))).run Tryz.prog w=.ok (.pointer (some ⟨w.heap.size,0,none⟩)) w'∧Own w0 w' (SIter b w.heap.size n p (fun i k=>(p i k).isSome) cnt::l):=by
 obtain ⟨A,⟨⟨D,hm,hd⟩,hA⟩,hlo,act⟩:=h.act
 obtain ⟨w',hrun,hR,hg,hsz⟩:=hm.range keySpot Tryz.underlying100
 have hc:Maps.size D≤n:=by
  obtain ⟨es,clock,_,_,hs,rfl⟩:=hm
  simpa [Maps.size,length_sorted] using hs
 refine ⟨w',_,hc,hrun,act w' (SIter b w.heap.size n p _ _) (fun k=>k=b∨k=w.heap.size) ⟨⟨D,_,hR,hd,fun i k hi hk=>?_⟩,fun _=>Iff.rfl⟩ ((Fr.refl _ _).grown hg (fun k hk=>by cases hk)) (fun k a=>?_)⟩
 ·have h1:=hd i k hi hk
  cases hp:p i k with
  | none=>rw [hp] at h1;rw [has_false_of_atKey h1];simp [hp]
  | some v=>rw [hp] at h1;rw [has_true_of_atKey h1];simp [hp]
 ·rcases a with rfl | rfl
  ·exact .inl ((hA _).2 rfl)
  ·exact .inr (Nat.le_refl _)
theorem Own.siMap (h:Own w0 w (SIter b r n p left cnt::l)):Own w0 w (SMap b n p::l):=by
 obtain ⟨A,⟨⟨D,lf,hR,hd,_⟩,hA⟩,hlo,act⟩:=h.act
 exact act w (SMap b n p) (fun k=>k=b) ⟨⟨D,hR.owns,hd⟩,fun _=>Iff.rfl⟩ (Fr.refl _ _) (fun k a=>.inl ((hA k).2 (.inl a)))
theorem Own.smNext (h:Own w0 w (SIter b r n p left cnt::l)) (ty:TypeId) :
  (cnt=0∧(∀ i k:Nat,i < 4294967296→k < 256→left i k=false)∧(Instr.next (.pointer (some ⟨r,0,none⟩)) false ty).run Tryz.prog w=.ok (.tuple #[.bool false]) w) ∨
  ∃ (i k:Nat) (v:Value) (w':World) (cnt':Nat),i < 4294967296∧k < 256∧left i k=true∧p i k=some v∧(Instr.next (.pointer (some ⟨r,0,none⟩)) false ty).run Tryz.prog w=.ok (.tuple #[.bool true,spv i k,v]) w'∧(Instr.entry (.pointer (some ⟨r,0,none⟩))).run Tryz.prog w'=.ok (.tuple #[spv i k,v]) w'∧cnt' < cnt∧Own w0 w' (SIter b r n p (strk left i k) cnt'::l):=by
 obtain ⟨A,⟨⟨D,lf,hR,hd,hl⟩,hA⟩,hlo,act⟩:=h.act
 rcases hR.next keySpot ty with ⟨h0,h1,hrun⟩ | ⟨key,v,kl,y,w',cnt',hkey,hleft,hv,hat,hrun,hR',hlt,hg,hsz,hent⟩
 ·exact .inl ⟨h0,fun i k hi hk=>by rw [← hl i k hi hk];exact h1 _,hrun⟩
 ·obtain ⟨i,k,hi,hk,rfl,rfl⟩:=spk_inv hkey
  have hy:y=(.held v,[]):=(Option.some.inj hv).symm
  subst hy
  have h2:=hat (.held zSight)
  have h3:=hat .nil
  rw [hd i k hi hk] at h2 h3
  have hp:p i k=some v:=by
   cases hp:p i k with
   | none=>rw [hp] at h3;simp [rdS] at h3
   | some u=>rw [hp] at h3;simp only [rdS,DataW.held.injEq] at h3;rw [h3]
  refine .inr ⟨i,k,v,w',cnt',hi,hk,by rw [← hl i k hi hk];exact hleft,hp,hrun,hent,hlt,?_⟩
  refine act w' (SIter b r n p _ cnt') A ⟨⟨D,_,hR',hd,fun x y hx hy=>?_⟩,hA⟩ ((Fr.refl _ _).grown hg (fun j hj=>.inl ((hA j).2 (by cases hj;exact .inr rfl)))) (fun _ a=>.inl a)
  unfold strk
  rw [hl x y hx hy]
  congr 2
  rw [Bool.eq_iff_iff,decide_eq_true_iff]
  constructor
  ·intro e
   exact spl_inj hx hy hi hk (WideAt.sameKey_eq e)
  ·rintro ⟨rfl,rfl⟩
   exact WideAt.sameKey_self trivial
end
end Go.Proofs.YtogmdoiecpihdaaGreatDoor
