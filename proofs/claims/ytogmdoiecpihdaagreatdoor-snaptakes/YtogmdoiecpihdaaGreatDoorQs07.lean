/- Package slots: Take, Free, Live, Len, Room on slots. -/
import Derived.Test.YtogmdoiecpihdaaGreatDoorQs06
import Derived.Test.YtogmdoiecpihdaaGreatDoorQs01
import Derived.BigRegion
import Derived.BigQuiet
import Derived.Deep.QuietTactic
import Derived.Deep.SlicePairs
import Derived.Laws.BitsAllLaws
import Derived.Laws.BytesString
import Derived.Lib.Walk
import Derived.Lib.Small
import Derived.Test.YtogmdoiecpihdaaGreatDoorTie
import Derived.Test.YtogmdoiecpihdaaGreatDoorCards
import Derived.ProofKit
import Derived.OpenShut
import Derived.LaidMore
import Derived.SevenTiedAt
import Derived.Stop.Joined
import Derived.Lib.BitFns
namespace Go.Proofs.YtogmdoiecpihdaaGreatDoor
open Go.RowKit
set_option linter.unusedVariables false
set_option maxHeartbeats 2000000
theorem takeAgain_ok (w0 w:World) (l:List Thing) (b:Nat) (S:St) (f:Nat) (h:Own w0 w (Slots b S::l)) (hS:S.Ok) (hf:S.freed.getLast? = some f) :
  Calls Tryz.prog 239 #[.pointer (some ⟨b,0,none⟩)] w fun e w'=>e=.returned (.int .u32 ((S.last.getD f 0+1024:Nat):Int))∧Own w0 w' (Slots b (S.again f)::l):=by
 obtain ⟨⟨v1,v2,v3⟩,h⟩:=Own.ex_iff.1 h
 have e:=dropLast_of _ _ hf
 have hlen:S.freed.length=S.freed.dropLast.length+1:=by
  have:=congrArg List.length e
  rw [List.length_append,List.length_singleton] at this;exact this
 have hm:f∈S.freed:=by rw [e];simp
 obtain ⟨hu,x,hx,hg⟩:=hS.fr f hm
 have hgd:=hS.getD hx
 have hid:=hS.id f x hx
 have hf1:=hS.lt hm
 have hf2:f < S.used.length:=by rw [hS.ul];exact hf1
 have hn:=hS.n2
 have hle:=hS.le
 have hcnt:=hS.cnt
 have r1:=h.two.row
 have r2:=h.three.row
 have r3:=h.four.row
 obtain ⟨g1,c1,rfl,_⟩:=row_shape r1 (by show 0 < S.last.length;omega)
 obtain ⟨g2,c2,rfl,_⟩:=row_shape r2 (by show 0 < S.used.length;omega)
 obtain ⟨g3,c3,rfl,_⟩:=row_shape r3 (by show 0 < S.freed.length;omega)
 have q2:=h.cell 2
 have q3:=h.cell 3
 have q4:=h.cell 4
 have q5:=h.cell 5
 have d1:=h.ne
 have d2:=h.in23.ne
 have d3:=h.four.two.ne
 have d12:=h.tail.neR g1 rfl
 rw [hgd]
 have hk:=(row_cap r3).2.1
 refine (again0 w b g1 g2 g3 S.last.length S.used.length S.freed.dropLast.length c1 c2 c3 f x (S.live:Int) (by omega) hf1 hf2 (by omega) (by omega) (by omega) (by omega) q2 q3 (by rw [← hlen];exact q4) q5 (h.froz 4) (h.froz 5) ?_ ?_ (r1.frozenAt f) (r2.frozenAt f) (fun q=>d1 (by rw [q];rfl)) (fun q=>d2 (by rw [q];rfl)) (fun q=>d3 (by rw [q];rfl)) (fun q=>d12 (by rw [q];rfl)) ?_).mono ?_
 ·rw [r3.cellAt _ (by omega),getElem?_irow,e,List.getElem?_append_right (by simp)];simp
 ·rw [r1.cellAt _ (by omega),getElem?_irow,hx];rfl
 ·exact ⟨_,by rw [r2.cellAt _ (by omega),getElem?_brow,hu];rfl⟩
 rintro e' w' ⟨rfl,rfl⟩
 refine ⟨rfl,Own.ex_iff.2 ⟨(.slice (some ⟨g1,0,none⟩) S.last.length c1,.slice (some ⟨g2,0,none⟩) S.used.length c2,.slice (some ⟨g3,0,none⟩) S.freed.dropLast.length c3),?_⟩⟩
 have k1:=(h.four.cut (m:=S.freed.dropLast.length) (by omega)).back4.two.two
 have k2:=((k1.setC 4 (.slice (some ⟨g3,0,none⟩) S.freed.dropLast.length c3)).two.setR f (.int .u32 ((x+1024:Nat):Int))).two
 have k3:=((k2.three.setR f (.bool true)).back3.setC 5 (.int .i64 ((S.live:Int)+1)))
 have e1:irow .u32 (S.again f).last=(irow .u32 S.last).set f (.int .u32 ((x+1024:Nat):Int)):=by simp only [St.again,hgd];exact irow_set _ _ _ _
 have e2:brow (S.again f).used=(brow S.used).set f (.bool true):=by simp only [St.again];exact brow_set _ _ _
 have e3:irow .i64 (S.again f).freed=(irow .i64 S.freed).take (S.freed.dropLast.length*1):=by
  simp only [St.again];rw [← irow_take,Nat.mul_one];congr 1
  rw [List.length_dropLast,List.dropLast_eq_take]
 have e5:((S.again f).live:Int)=(S.live:Int)+1:=by simp [St.again]
 have e6:(S.again f).last.length=S.last.length:=by simp [St.again]
 have e7:(S.again f).used.length=S.used.length:=by simp [St.again]
 rw [e1,e2,e3,e5,e6,e7]
 exact k3
set_option maxRecDepth 100000 in
theorem take_ok (w0 w:World) (l:List Thing) (b:Nat) (S:St) (h:Own w0 w (Slots b S::l)) (hS:S.Ok) :
  Calls Tryz.prog 202 #[.pointer (some ⟨b,0,none⟩)] w fun e w'=>e=.returned (.tuple #[.int .u32 (S.take.1:Int),.int .i64 S.take.2.1])∧Own w0 w' (Slots b S.take.2.2::l):=by
 have H:Hid (Own w0 w (Slots b S::l)):=h
 obtain ⟨⟨v1,v2,v3⟩,h⟩:=Own.ex_iff.1 h
 have q0:=h.cell 0
 have q2:=h.cell 2
 have q4:=h.cell 4
 obtain ⟨a1,c1,rfl⟩:=row_any h.two.row
 obtain ⟨a3,c3,rfl⟩:=row_any h.four.row
 have hn:=hS.n2
 have hle:=hS.le
 have hcnt:=hS.cnt
 have hfl:S.freed.length≤1024:=by omega
 clear h
 simp at q0 q2 q4
 have HS:Hid S.Ok:=hS
 clear hS hcnt
 unfold St.take
 cases hf:S.freed.getLast? with
 | some f =>
  have hpos:(0:Int) < (S.freed.length:Int):=by
   have e:=dropLast_of _ _ hf
   have:=congrArg List.length e
   rw [List.length_append,List.length_singleton] at this;omega
  have HF:Hid (S.freed.getLast? = some f):=hf
  clear hf
  go_enter Tryz.func202,Tryz.ntmps202
  go_wp2_with fail
  refine (takeAgain_ok w0 w l b S f H.out HS.out HF.out).mono ?_
  rintro e w1 ⟨rfl,hO⟩
  have H1:Hid (Own w0 w1 _):=hO
  clear hO H
  go_wp2
  go_ret2
  exact ⟨rfl,H1.out⟩
 | none =>
  have hf':S.freed=[]:=List.getLast?_eq_none_iff.1 hf
  have hz:S.freed.length=0:=by rw [hf'];rfl
  rw [hz] at q4
  clear hf hf' hz
  by_cases hl:S.last.length < S.n
  ·rw [if_pos hl]
   have hl':(S.last.length:Int) < (S.n:Int):=by omega
   go_enter Tryz.func202,Tryz.ntmps202
   go_wp2
   go_region
   go_wp2_with fail
   refine (takeNew_ok w0 _ l b S H.out.drew HS.out hl).mono ?_
   rintro e w1 ⟨rfl,hO⟩
   have H1:Hid (Own w0 w1 _):=hO
   clear hO H
   go_wp2
   go_ret2
   exact ⟨rfl,H1.out⟩
  ·rw [if_neg hl]
   have hl':(S.n:Int)≤(S.last.length:Int):=by omega
   go_enter Tryz.func202,Tryz.ntmps202
   go_wp2
   go_region
   go_wp2
   go_ret2
   exact ⟨rfl,H.out.drew⟩
set_option maxRecDepth 100000 in
theorem live_ok (w0 w:World) (l:List Thing) (b:Nat) (S:St) (id:Nat) (h:Own w0 w (Slots b S::l)) (hS:S.Ok) (hid:id < 4294967296) :
  Calls Tryz.prog 175 #[.pointer (some ⟨b,0,none⟩),.int .u32 (id:Int)] w fun e w'=>e=.returned (.bool (S.isLive id))∧w'=w:=by
 obtain ⟨⟨v1,v2,v3⟩,h⟩:=Own.ex_iff.1 h
 have q2:=h.cell 2
 have q3:=h.cell 3
 have r1:=h.two.row
 have r2:=h.three.row
 have hul:=hS.ul
 have hn:=hS.n2
 have hle:=hS.le
 obtain ⟨a1,c1,rfl⟩:=row_any r1
 obtain ⟨a2,c2,rfl⟩:=row_any r2
 simp at q2 q3
 by_cases hl:id % 1024 < S.last.length
 ·have hlu:id % 1024 < S.used.length:=by omega
  obtain ⟨g1,c1',he1,_⟩:=row_shape r1 (by show 0 < S.last.length;omega)
  obtain ⟨g2,c2',he2,_⟩:=row_shape r2 (by show 0 < S.used.length;omega)
  cases he1
  cases he2
  obtain ⟨u,hu⟩:∃ u,S.used[id % 1024]? = some u:=⟨_,List.getElem?_eq_getElem hlu⟩
  obtain ⟨x,hx⟩:∃ x,S.last[id % 1024]? = some x:=⟨_,List.getElem?_eq_getElem hl⟩
  have p1:w.cell? ⟨g1,id % 1024,none⟩=some (.int .u32 (x:Int)):=by rw [r1.cellAt _ (by omega),getElem?_irow,hx];rfl
  have p2:w.cell? ⟨g2,id % 1024,none⟩=some (.bool u):=by rw [r2.cellAt _ (by omega),getElem?_brow,hu];rfl
  have e:S.isLive id=(u && x == id):=by unfold St.isLive;rw [List.getD_eq_getElem?_getD,List.getD_eq_getElem?_getD,hu,hx];rfl
  rw [e]
  clear e h r1 r2 hS hu hx hle
  have hl':((id % 1024:Nat):Int) < (S.last.length:Int):=by omega
  have hlu':((id % 1024:Nat):Int) < (S.used.length:Int):=by omega
  generalize hm:id % 1024=m at *
  clear hl hlu hul
  cases u
  ·go_enter Tryz.func175,Tryz.ntmps175
   go_wp2_with (go_at_call 126;refine (slot_any id _ hid).mono ?_;rw [hm];rintro e w' ⟨rfl,rfl⟩)
   go_ret
   exact ⟨rfl,rfl⟩
  ·by_cases hc:x=id
   ·subst hc
    go_enter Tryz.func175,Tryz.ntmps175
    go_wp2_with (go_at_call 126;refine (slot_any x _ hid).mono ?_;rw [hm];rintro e w' ⟨rfl,rfl⟩)
    go_ret
    exact ⟨by simp,rfl⟩
   ·have hc':((x:Int) == (id:Int))=false:=by simp;omega
    go_enter Tryz.func175,Tryz.ntmps175
    go_wp2_with (go_at_call 126;refine (slot_any id _ hid).mono ?_;rw [hm];rintro e w' ⟨rfl,rfl⟩)
    go_ret
    exact ⟨by simp [hc],rfl⟩
 ·have e:S.isLive id=false:=by unfold St.isLive;rw [List.getD_eq_getElem?_getD,List.getElem?_eq_none (by omega)];rfl
  rw [e]
  have hl':decide (((id % 1024:Nat):Int) < (S.last.length:Int))=false:=by simp;omega
  clear e h r1 r2 hS
  generalize hm:id % 1024=m at *
  go_enter Tryz.func175,Tryz.ntmps175
  go_wp2_with (go_at_call 126;refine (slot_any id _ hid).mono ?_;rw [hm];rintro e w' ⟨rfl,rfl⟩)
  go_ret
  exact ⟨rfl,rfl⟩
set_option maxRecDepth 100000 in
theorem free_ok (w0 w:World) (l:List Thing) (b:Nat) (S:St) (id:Nat) (h:Own w0 w (Slots b S::l)) (hS:S.Ok) (hid:id < 4294967296) :
  Calls Tryz.prog 155 #[.pointer (some ⟨b,0,none⟩),.int .u32 (id:Int)] w fun e w'=>e=.returned (.int .i64 (S.free id).1)∧Own w0 w' (Slots b (S.free id).2::l):=by
 have HL:=live_ok w0 w l b S id h hS hid
 have H0:Hid (Own w0 w (Slots b S::l)):=h
 unfold St.free
 by_cases hlive:S.isLive id=true
 ·rw [if_pos hlive]
  rw [hlive] at HL
  obtain ⟨hu,hx⟩:=(S.isLive_iff hS id).1 hlive
  have hlu:id % 1024 < S.used.length:=(List.getElem?_eq_some_iff.1 hu).1
  have hl1:1≤S.live:=by rw [hS.live];exact List.count_pos_iff.2 (List.mem_of_getElem? hu)
  have hn:=hS.n2
  have hle:=hS.le
  have hul:=hS.ul
  have hcnt:=hS.cnt
  obtain ⟨i0,hi,hz0,hz1,hz2⟩:=info_parts Tryz.infoInt
  obtain ⟨⟨v1,v2,v3⟩,h⟩:=Own.ex_iff.1 h
  have r2:=h.three.row
  obtain ⟨g2,c2,rfl,_⟩:=row_shape r2 (by show 0 < S.used.length;omega)
  obtain ⟨a3,c3,rfl⟩:=row_any h.four.row
  have q3:=h.cell 3
  have q4:=h.cell 4
  have q5:=h.cell 5
  have z4:=h.froz 4
  have z5:=h.froz 5
  have d2:=h.in23.ne
  have e2:g2≠b:=fun q=>d2 (by rw [q];rfl)
  have p2:w.cell? ⟨g2,id % 1024,none⟩=some (.bool true):=by rw [r2.cellAt _ (by omega),getElem?_brow,hu];rfl
  have y2:w.frozen? ⟨g2,id % 1024,none⟩=false:=r2.frozenAt _
  have H:Hid (Own w0 w _):=h
  have hlu':((id % 1024:Nat):Int) < (S.used.length:Int):=by omega
  have HM:Hid (id % 1024=id % 1024):=rfl
  simp at q3 q4 q5
  clear h r2 d2 hu hx hlive hlu H0 hul
  have hm4:id % 1024 < 1024:=by omega
  have e5:((S.live - 1:Nat):Int)=(S.live:Int) - 1:=by omega
  have E5:Hid (((S.live - 1:Nat):Int)=(S.live:Int) - 1):=e5
  clear e5
  have HW:Hid (∀ m,m=id % 1024→S.less id={ S with used:=S.used.set m false,live:=S.live - 1,freed:=if id / 1024 < 4194303 then S.freed++[m] else S.freed }):=by rintro m rfl;rfl
  generalize hm':id % 1024=m at *
  have hm:Hid (id % 1024=m):=hm'
  have HLV:Hid (Calls _ _ _ _ _):=HL
  clear hm' HL HM
  by_cases hg:id / 1024 < 4194303
  ·obtain ⟨gg,hgg⟩:∃ gg:Int,gg=((id / 1024:Nat):Int):=⟨_,rfl⟩
   have hg':gg < 4194303:=by omega
   have HG:Hid (id / 1024 < 4194303):=hg
   have HGG:Hid (((id / 1024:Nat):Int)=gg):=hgg.symm
   clear hg hgg
   go_enter Tryz.func155,Tryz.ntmps155
   go_wp2_with (first | (go_at_call 175;refine HLV.out.mono ?_;rintro e w' ⟨rfl,hw⟩;subst hw) | (go_at_call 126;refine (slot_any id _ hid).mono ?_;rw [hm.out];rintro e w' ⟨rfl,hw⟩;subst hw) | (go_at_call 127;refine (gen_any id _ hid).mono ?_;rw [HGG.out];rintro e w' ⟨rfl,hw⟩;subst hw) | (at_builtin;refine append1_own rfl _ _ 234 rfl 3 i0 (.int .i64 0) 1 8 Tryz.underlying234 hi hz0 hz1 hz2 rfl (by decide) _ _ _ rfl ((H.out.three.setR m (.bool false)).back3.setC 5 (.int .i64 ((S.live:Int) - 1))).four _ _ (by simp) rfl rfl (one_int _ _) (by unfold maxLen;omega) (by omega) ?_))
   intro g3 c3' w1 hO hsz
   have k4:=hO.two.cell 4
   have z4':=hO.two.froz 4
   have H1:Hid (Own w0 w1 _):=hO
   simp at k4
   clear hO H
   go_wp2
   go_ret
   refine ⟨rfl,Own.ex_iff.2 ⟨(v1,.slice (some ⟨g2,0,none⟩) S.used.length c2,.slice (some ⟨g3,0,none⟩) (S.freed.length+1) c3'),?_⟩⟩
   have k:=(H1.out.two.setC 4 (.slice (some ⟨g3,0,none⟩) (S.freed.length+1) c3')).two.back4
   rw [HW.out m rfl,if_pos HG.out]
   have e1:irow .i64 (S.freed++[m])=irow .i64 S.freed++[.int .i64 (m:Int)]:=by simp [irow]
   have e3:(S.freed++[m]).length=S.freed.length+1:=by simp
   have e4:(S.used.set m false).length=S.used.length:=by simp
   show Own w0 _ (Cells b #[.int .i64 (S.n:Int),.int .i64 (S.first:Int),v1,.slice (some ⟨g2,0,none⟩) S.used.length c2,.slice (some ⟨g3,0,none⟩) (S.freed.length+1) c3',.int .i64 ((S.live - 1:Nat):Int)] 236 ::
    Row 38 1 v1 S.last.length (irow .u32 S.last)::Row 4 1 (.slice (some ⟨g2,0,none⟩) S.used.length c2) (S.used.set m false).length (brow (S.used.set m false))::Row 3 1 (.slice (some ⟨g3,0,none⟩) (S.freed.length+1) c3') (S.freed++[m]).length (irow .i64 (S.freed++[m]))::l)
   rw [e1,brow_set,e3,e4,E5.out]
   exact k
  ·obtain ⟨gg,hgg⟩:∃ gg:Int,gg=((id / 1024:Nat):Int):=⟨_,rfl⟩
   have hg':¬ gg < 4194303:=by omega
   have HG:Hid (¬ id / 1024 < 4194303):=hg
   have HGG:Hid (((id / 1024:Nat):Int)=gg):=hgg.symm
   clear hg hgg
   go_enter Tryz.func155,Tryz.ntmps155
   go_wp2_with (first | (go_at_call 175;refine HLV.out.mono ?_;rintro e w' ⟨rfl,hw⟩;subst hw) | (go_at_call 126;refine (slot_any id _ hid).mono ?_;rw [hm.out];rintro e w' ⟨rfl,hw⟩;subst hw) | (go_at_call 127;refine (gen_any id _ hid).mono ?_;rw [HGG.out];rintro e w' ⟨rfl,hw⟩;subst hw))
   go_ret
   refine ⟨rfl,Own.ex_iff.2 ⟨(v1,.slice (some ⟨g2,0,none⟩) S.used.length c2,.slice a3 S.freed.length c3),?_⟩⟩
   have k:=((H.out.three.setR m (.bool false)).back3.setC 5 (.int .i64 ((S.live:Int) - 1)))
   rw [HW.out m rfl,if_neg HG.out]
   have e4:(S.used.set m false).length=S.used.length:=by simp
   show Own w0 _ (Cells b #[.int .i64 (S.n:Int),.int .i64 (S.first:Int),v1,.slice (some ⟨g2,0,none⟩) S.used.length c2,.slice a3 S.freed.length c3,.int .i64 ((S.live - 1:Nat):Int)] 236 ::
    Row 38 1 v1 S.last.length (irow .u32 S.last)::Row 4 1 (.slice (some ⟨g2,0,none⟩) S.used.length c2) (S.used.set m false).length (brow (S.used.set m false))::Row 3 1 (.slice a3 S.freed.length c3) S.freed.length (irow .i64 S.freed)::l)
   rw [brow_set,e4,E5.out]
   exact k
 ·rw [if_neg hlive]
  have hlive':S.isLive id=false:=by simpa using hlive
  rw [hlive'] at HL
  have HLV:Hid (Calls _ _ _ _ _):=HL
  clear HL hlive hlive' h
  go_enter Tryz.func155,Tryz.ntmps155
  go_wp2_with (first | (go_at_call 175;refine HLV.out.mono ?_;rintro e w' ⟨rfl,hw⟩;subst hw))
  go_ret
  exact ⟨rfl,H0.out⟩
theorem pick_le (l:List Nat) (m:List Bool):(pick l m).length≤l.length:=by
 induction l generalizing m with
 | nil=>cases m <;> simp [pick]
 | cons x l ih=>cases m with
  | nil=>simp [pick]
  | cons u m=>have:=ih m;cases u <;> simp [pick] <;> omega
theorem pick_step (S:St) (hS:S.Ok) (k x:Nat) (u:Bool) (hx:S.last[k]? = some x) (hu:S.used[k]? = some u):pick (S.last.take (k+1)) (S.used.take (k+1))=pick (S.last.take k) (S.used.take k)++if u then [x] else []:=by
 rw [List.take_add_one,List.take_add_one,hx,hu]
 exact pick_snoc _ _ (by rw [List.length_take,List.length_take,hS.ul]) x u
set_option maxRecDepth 100000 in
theorem list_ok (w0 w:World) (l:List Thing) (b:Nat) (S:St) (h:Own w0 w (Slots b S::l)) (hS:S.Ok) :
  Calls Tryz.prog 122 #[.pointer (some ⟨b,0,none⟩)] w fun e w'=>∃ v,e=.returned v∧Own w0 w' (Row 38 1 v S.list.length (irow .u32 S.list)::Slots b S::l):=by
 obtain ⟨⟨v1,v2,v3⟩,h⟩:=Own.ex_iff.1 h
 have q5:=h.cell 5
 have q2:=h.cell 2
 have hn:=hS.n2
 have hle:=hS.le
 have hul:=hS.ul
 have hlv:S.live≤1024:=by have:=hS.cnt;have:=hS.le;omega
 obtain ⟨i0,hi,hz0,hz1,hz2⟩:=info_parts Tryz.infoID
 obtain ⟨a1,c1,rfl⟩:=row_any h.two.row
 obtain ⟨a2,c2,rfl⟩:=row_any h.three.row
 obtain ⟨w1,hmk,hO,hf⟩:=make_own (P:=Tryz.prog) h 55 38 i0 (.int .u32 0) 1 Tryz.underlying55 hi hz0 hz1 S.live (by rw [hz2];omega) (by unfold maxLen;omega)
 have q2':=hO.two.cell 2
 simp at q2 q5 q2'
 have HS:Hid S.Ok:=hS
 have HU:Hid (S.used.length=S.last.length):=hul
 have H1:Hid (Own w0 w1 (Row 38 1 (.slice (some ⟨w.heap.size,0,none⟩) 0 S.live) (pick (S.last.take 0) (S.used.take 0)).length (irow .u32 (pick (S.last.take 0) (S.used.take 0)))::_)):=hO
 clear h hS hO hul hf
 go_enter Tryz.func122,Tryz.ntmps122
 go_wp2
 go_loopw [3,18] (fun lv c wr=>∃ k:Nat,k≤S.last.length∧c=.int .i64 k∧∃ g cap,lv=.slice (some ⟨g,0,none⟩) (pick (S.last.take k) (S.used.take k)).length cap ∧
   Own w0 wr (Row 38 1 (.slice (some ⟨g,0,none⟩) (pick (S.last.take k) (S.used.take k)).length cap) (pick (S.last.take k) (S.used.take k)).length (irow .u32 (pick (S.last.take k) (S.used.take k))) ::
    Cells b #[.int .i64 (S.n:Int),.int .i64 (S.first:Int),.slice a1 S.last.length c1,.slice a2 S.used.length c2,v3,.int .i64 (S.live:Int)] 236 ::
    Row 38 1 (.slice a1 S.last.length c1) S.last.length (irow .u32 S.last)::Row 4 1 (.slice a2 S.used.length c2) S.used.length (brow S.used)::Row 3 1 v3 S.freed.length (irow .i64 S.freed)::l)) (fun _ c _=>S.last.length - (intOf c).toNat)
 case atStart=>exact ⟨0,Nat.zero_le _,rfl,_,_,rfl,H1.out⟩
 case round =>
  obtain ⟨k,hk,rfl,g,cap,rfl,hO⟩:=hrel
  have q3:=hO.two.cell 3
  simp at q3
  by_cases hlt:k < S.last.length
  ·have hlu:k < S.used.length:=by have:=HU.out;omega
   have r1:=hO.three.row
   have r2:=hO.four.row
   obtain ⟨g1,c1',he1,_⟩:=row_shape r1 (by omega)
   obtain ⟨g2,c2',he2,_⟩:=row_shape r2 (by omega)
   cases he1
   cases he2
   obtain ⟨u,hu⟩:∃ u,S.used[k]? = some u:=⟨_,List.getElem?_eq_getElem hlu⟩
   obtain ⟨x,hx⟩:∃ x,S.last[k]? = some x:=⟨_,List.getElem?_eq_getElem hlt⟩
   have p1:wr.cell? ⟨g1,k,none⟩=some (.int .u32 (x:Int)):=by rw [r1.cellAt _ (by omega),getElem?_irow,hx];rfl
   have p2:wr.cell? ⟨g2,k,none⟩=some (.bool u):=by rw [r2.cellAt _ (by omega),getElem?_brow,hu];rfl
   have HP:Hid (pick (S.last.take (k+1)) (S.used.take (k+1))=pick (S.last.take k) (S.used.take k)++if u then [x] else []):=pick_step S HS.out k x u hx hu
   have hpl:=pick_le (S.last.take k) (S.used.take k)
   rw [List.length_take] at hpl
   have HO:Hid (Own w0 wr _):=hO
   clear hO r1 r2 hu hx H1 hmk q2 q2' q5
   have hlu':(k:Int) < (S.used.length:Int):=by omega
   generalize pick (S.last.take k) (S.used.take k)=pk at *
   cases u
   ·go_wp2
    go_roundw
    case rel=>exact ⟨k+1,by omega,by go_num,g,cap,by rw [HP.out];simp,by rw [HP.out];simpa using HO.out⟩
    case measure=>simp [intOf];omega
   ·go_wp2_with (at_builtin;refine append1_own rfl _ _ 55 rfl 38 i0 (.int .u32 0) 1 4 Tryz.underlying55 hi hz0 hz1 hz2 rfl (by decide) _ _ _ rfl HO.out _ _ (by simp) rfl rfl (one_int _ _) (by unfold maxLen;omega) (by omega) ?_)
    intro g' cap' w2 hO2 hsz
    have H2:Hid (Own w0 w2 _):=hO2
    clear hO2 HO
    go_wp2
    go_roundw
    case rel=>exact ⟨k+1,by omega,by go_num,g',cap',by rw [HP.out];simp,by rw [HP.out];simpa [irow] using H2.out⟩
    case measure=>simp [intOf];omega
  ·have ek:k=S.last.length:=by omega
   subst ek
   have HUL:S.used.length≤S.last.length:=by rw [HU.out];exact Nat.le_refl _
   rw [List.take_of_length_le (Nat.le_refl S.last.length),List.take_of_length_le HUL] at hO
   rw [List.take_of_length_le (Nat.le_refl S.last.length),List.take_of_length_le HUL]
   have HO:Hid (Own w0 wr _):=hO
   clear hO HUL H1 hmk q2 q2' q5
   go_wp2
   go_ret
   exact ⟨_,rfl,Own.ex2.2 ⟨(.slice a1 S.last.length c1,.slice a2 S.used.length c2,v3),HO.out⟩⟩
end Go.Proofs.YtogmdoiecpihdaaGreatDoor
namespace Go.Proofs.YtogmdoiecpihdaaGreatDoor
open Go.ChangeShapes Go.WideShapes Go.ChangeAt Go.WideMaps Go.WideElems Go.RowKit
set_option linter.unusedVariables false
set_option maxHeartbeats 2000000
set_option maxRecDepth 100000
def kinds:List (List UInt8 × Bool × Nat × List (List UInt8 × Int × Int)) :=
 [([112,111,115],true,2,[([120],-524288,524287),([121],-524288,524287),([],0,0)]),
  ([118,101,108],true,2,[([100,120],-32768,32767),([100,121],-32768,32767),([],0,0)]),
  ([108,105,102,101],true,1,[([108,101,102,116],0,4095),([],0,0),([],0,0)]),
  ([98,111,100,121],true,3,[([115,104,97,112,101],0,15),([104,112],0,1000),([115,105,122,101],1,100)]),
  ([116,97,103],true,3,[([116,101,97,109],0,7),([99,111,108,111,114],0,255),([102,108,97,103,115],0,31)]),
  ([115,112,97,119,110],false,3,[([101,118,101,114,121],1,255),([108,101,102,116],0,254),([115,104,97,112,101],0,15)])]
def kname (k:Nat):List UInt8:=(kinds[k]?.map (·.1)).getD []
def ktold (k:Nat):Bool:=(kinds[k]?.map (·.2.1)).getD false
def cnt (k:Nat):Nat:=(kinds[k]?.map (·.2.2.1)).getD 0
def fld (k j:Nat):List UInt8 × Int × Int:=((kinds[k]?.map (·.2.2.2)).getD [])[j]?.getD ([],0,0)
def fname (k j:Nat):List UInt8:=(fld k j).1
def lo (k j:Nat):Int:=(fld k j).2.1
def hi (k j:Nat):Int:=(fld k j).2.2
def bstr5 (l:List UInt8):ByteArray:=⟨l.toArray⟩
def fldData {H:Type} (f:List UInt8 × Int × Int):DataW H:=.agg [.lit (.string f.1),.lit (.int .i32 f.2.1),.lit (.int .i32 f.2.2)]
def kindData {H:Type} (r:List UInt8 × Bool × Nat × List (List UInt8 × Int × Int)):DataW H:=.agg [.lit (.string r.1),.lit (.bool r.2.1),.lit (.int .i64 (r.2.2.1:Int)),.agg (r.2.2.2.map fldData)]
theorem laid_kinds {H:Type}:(Rows.laid_pinnace_schema_rows:DataW H)=.agg (kinds.map kindData):=rfl
theorem own:ownKnob Tryz.prog.godebug=none:=by kernel_rfl
theorem gRows : Tryz.prog.globalNamed "pinnace/schema.rows" = some 0 := by kernel_rfl
theorem tRows:(Tryz.prog.globals[0]?).map (·.type)=some 279:=by kernel_rfl
def laid1 {H : Type} : List (String × DataW H) := [("pinnace/schema.rows",Rows.laid_pinnace_schema_rows)]
theorem door_met (os:Os) (args:Array Value):laidMetH Tryz.prog laid1 ((World.doorLaid Tryz.prog 400 os).forCall (fun _ _=>0) ⟨#[],args,[]⟩).memory :=
 laidMetH_of_parts3 (fuel:=8) (laidMet_of_run' 8 (by kernel_rfl) (by kernel_rfl)) (by kernel_rfl) (by kernel_rfl)
structure Tab (w:World):Prop where
 nm:∀ k,k < 6→w.cell? ⟨0,k*12,none⟩=some (.string (bstr5 (kname k)))
 told:∀ k,k < 6→w.cell? ⟨0,k*12+1,none⟩=some (.bool (ktold k))
 cnt:∀ k,k < 6→w.cell? ⟨0,k*12+2,none⟩=some (.int .i64 (cnt k:Int))
 fnm:∀ k j,k < 6→j < 3→w.cell? ⟨0,k*12+3+j*3,none⟩=some (.string (bstr5 (fname k j)))
 lo:∀ k j,k < 6→j < 3→w.cell? ⟨0,k*12+3+j*3+1,none⟩=some (.int .i32 (lo k j))
 hi:∀ k j,k < 6→j < 3→w.cell? ⟨0,k*12+3+j*3+2,none⟩=some (.int .i32 (hi k j))
theorem Tab.keep {S:Nat→Prop} {w w':World} (h:Tab w) (hf:Fr S w w') (hs:¬ S 0):Tab w':=by
 have key:∀ (o:Nat) (v:Value),w.cell? ⟨0,o,none⟩=some v→w'.cell? ⟨0,o,none⟩=some v:=fun o v hv=>(hf.cell (p:=⟨0,o,none⟩) (World.block_lt_of_cell? w _ hv) hs).trans hv
 exact ⟨fun k hk=>key _ _ (h.nm k hk),fun k hk=>key _ _ (h.told k hk),fun k hk=>key _ _ (h.cnt k hk),fun k j hk hj=>key _ _ (h.fnm k j hk hj),fun k j hk hj=>key _ _ (h.lo k j hk hj),fun k j hk hj=>key _ _ (h.hi k j hk hj)⟩
theorem Tab.quiet {w w':World} (h:Tab w) (hf:Fr Nobody w w'):Tab w':=h.keep hf id
theorem Tab.size {w:World} (h:Tab w):0 < w.heap.size:=World.block_lt_of_cell? w _ (h.nm 0 (by decide))
theorem sub_cell {α:Type} {cs l:List α} {a n j:Nat} (h:((cs.drop a).take n)=l) (hj:j < n):cs[a+j]? = l[j]?:=by
 subst h
 rw [List.getElem?_take,if_pos hj,List.getElem?_drop]
theorem fld_len (k:Nat) (hk:k < 6):((kinds[k]?.map (·.2.2.2)).getD []).length=3:=by
 have:k=0∨k=1∨k=2∨k=3∨k=4∨k=5:=by omega
 rcases this with rfl | rfl | rfl | rfl | rfl | rfl <;> rfl
theorem str_of {s:ByteArray} {l:List UInt8} (h:l=s.data.toList):s=bstr5 l:=by
 subst h;rfl
theorem fld_cells {H:Type} {enc:TypeId × Value→H} {w:World} {base:Nat} {spare:Nat→Bool} {held:Bool} {fuel:Nat} {cs:List Value} {f:List UInt8 × Int × Int} {p:List MemPlace}
  (h:DataW.trod enc Tryz.prog w base spare held fuel 275 cs=some (fldData f,p)):cs=[.string (bstr5 f.1),.int .i32 f.2.1,.int .i32 f.2.2]:=by
 obtain ⟨xs,n,_,hx,hl,hlen,hf⟩:=DataW.trod_struct Tryz.underlying275 h
 have cS:Tryz.prog.cellsOf 9=1:=by kernel_rfl
 have cI:Tryz.prog.cellsOf 21=1:=by kernel_rfl
 have cF:Tryz.prog.cellsOf 275=3:=by kernel_rfl
 rw [cF] at hl
 match cs,hl with
 | [c0,c1,c2],_ =>
 match xs,hlen with
 | [y0,y1,y2],_ =>
  have h0:=hf 0 _ rfl
  have h1:=hf 1 _ rfl
  have h2:=hf 2 _ rfl
  simp [cS,cI] at h0 h1 h2
  obtain ⟨s,e0,e0',_⟩:=DataW.trod_string Tryz.underlying9 h0
  obtain ⟨a,e1,e1',_⟩:=DataW.trod_int Tryz.underlying21 h1
  obtain ⟨b,e2,e2',_⟩:=DataW.trod_int Tryz.underlying21 h2
  subst e0' e1' e2'
  simp [fldData] at hx e0 e1 e2
  obtain ⟨⟨hs,ha,hb⟩,_⟩:=hx
  subst e0 e1 e2
  rw [str_of hs,← ha,← hb]
theorem getElem?_fld (k j:Nat) (hk:k < 6) (hj:j < 3):((kinds[k]?.map (·.2.2.2)).getD [])[j]? = some (fld k j):=by
 have hl:=fld_len k hk
 unfold fld
 rw [List.getElem?_eq_getElem (by rw [hl];exact hj)]
 rfl
theorem of_laid {W:World} (h:laidMetH Tryz.prog laid1 W):Tab W:=by
 rw [MakeChecks.laidMetH_plain _ _ _ (by kernel_rfl)] at h
 obtain ⟨ps,⟨g0,t0,cs0,f0,p0,q0,hg0,ht0,hv0,hd0,_,_⟩,_,_⟩:=h
 obtain rfl:=Option.some.inj (gRows.symm.trans hg0)
 obtain rfl:=Option.some.inj (tRows.symm.trans ht0)
 obtain ⟨xs,m1,hx0,hx1,hlen,hn3,hel⟩:=DataW.trod_array Tryz.underlying279 hd0
 have cR:Tryz.prog.cellsOf 278=12:=by kernel_rfl
 have cS:Tryz.prog.cellsOf 9=1:=by kernel_rfl
 have cI:Tryz.prog.cellsOf 3=1:=by kernel_rfl
 have cBo:Tryz.prog.cellsOf 4=1:=by kernel_rfl
 have cF:Tryz.prog.cellsOf 275=3:=by kernel_rfl
 have cFs:Tryz.prog.cellsOf 276=9:=by kernel_rfl
 simp only [Prod.mk.injEq,laid_kinds,DataW.agg.injEq] at hx1
 have main:∀ k,k < 6→∃ r,kinds[k]? = some r∧∃ l:List Value,(cs0.toList.drop (k*12)).take 12=l∧l[0]? = some (.string (bstr5 r.1))∧l[1]? = some (.bool r.2.1)∧l[2]? = some (.int .i64 (r.2.2.1:Int))∧∀ j f,j < 3→r.2.2.2[j]? = some f→(l.drop (3+j*3)).take 3=[.string (bstr5 f.1),.int .i32 f.2.1,.int .i32 f.2.2]:=by
  intro k hk
  have h0:=hel k hk
  have hxi:xs[k]? = some xs[k]:=List.getElem?_eq_getElem (by rw [hn3];exact hk)
  have hkk:kinds[k]? = some kinds[k]:=List.getElem?_eq_getElem hk
  refine ⟨kinds[k],hkk,_,rfl,?_⟩
  rw [cR] at h0
  generalize hl:(cs0.toList.drop (k*12)).take 12=l at *
  have hd:kindData (H:=Unit) kinds[k]=(xs[k]).1:=by
   have h1:(kinds.map (kindData (H:=Unit)))[k]? = some (kindData kinds[k]):=by rw [List.getElem?_map,hkk];rfl
   rw [hx1.1,List.getElem?_map,hxi] at h1
   simpa using h1.symm
  generalize kinds[k]=r at *
  obtain ⟨ys,n,_,hy,hyl,hylen,hf⟩:=DataW.trod_struct Tryz.underlying278 (h0.trans hxi)
  rw [cR] at hyl
  match l,hyl with
  | [c0,c1,c2,c3,c4,c5,c6,c7,c8,c9,c10,c11],_ =>
  match ys,hylen with
  | [y0,y1,y2,y3],_ =>
   have h0:=hf 0 _ rfl
   have h1:=hf 1 _ rfl
   have h2:=hf 2 _ rfl
   have h3:=hf 3 _ rfl
   simp [cS,cI,cBo,cFs] at h0 h1 h2 h3
   obtain ⟨s,e0,e0',_⟩:=DataW.trod_string Tryz.underlying9 h0
   obtain ⟨a,e1,e1'⟩:=DataW.trod_bool Tryz.underlying4 h1
   obtain ⟨b,e2,e2',_⟩:=DataW.trod_int Tryz.underlying3 h2
   obtain ⟨zs,m2,hz0,hz1,hzlen,hz3,hzel⟩:=DataW.trod_array Tryz.underlying276 h3
   rw [hy] at hd
   subst e0' e1' e2'
   simp [kindData] at hd e0 e1 e2
   obtain ⟨hs,ha,hb,hfs⟩:=hd
   subst e0 e1 e2
   refine ⟨by rw [str_of hs];rfl,by rw [ha];rfl,by rw [hb];rfl,?_⟩
   intro j f hj hjf
   have hzj:=hzel j hj
   have hzi:zs[j]? = some zs[j]:=List.getElem?_eq_getElem (by rw [hz3];exact hj)
   rw [cF,hzi] at hzj
   have hdat:(zs[j]).1=fldData f:=by
    have h1:(r.2.2.2.map (fldData (H:=Unit)))[j]? = some (fldData f):=by rw [List.getElem?_map,hjf];rfl
    simp only [hz1,DataW.agg.injEq] at hfs
    rw [hfs,List.getElem?_map,hzi] at h1
    simpa using h1
   have hz':zs[j]=(fldData f,(zs[j]).2):=by rw [← hdat]
   rw [hz'] at hzj
   have:=fld_cells hzj
   rw [← this,← List.drop_drop]
   simp
 have cellOf:∀ (o:Nat) (v:Value),cs0.toList[o]? = some v→W.cell? ⟨0,o,none⟩=some v:=fun o v hv=>by
  rw [World.var?_cell hg0 hv0 o,← Array.getElem?_toList];exact hv
 have pre:∀ k o v,k < 6→o < 12→((cs0.toList.drop (k*12)).take 12)[o]? = some v→W.cell? ⟨0,k*12+o,none⟩=some v:=fun k o v hk ho hv=>by
  apply cellOf
  rw [List.getElem?_take,if_pos ho,List.getElem?_drop] at hv
  exact hv
 refine ⟨fun k hk=>?_,fun k hk=>?_,fun k hk=>?_,fun k j hk hj=>?_,fun k j hk hj=>?_,fun k j hk hj=>?_⟩
 all_goals obtain ⟨r,hr,l,hl,l0,l1,l2,l3⟩:=main k hk
 ·rw [← hl] at l0;have:=pre k 0 _ hk (by decide) l0
  simpa [kname,hr] using this
 ·rw [← hl] at l1;have:=pre k 1 _ hk (by decide) l1
  simpa [ktold,hr] using this
 ·rw [← hl] at l2;have:=pre k 2 _ hk (by decide) l2
  simpa [Go.Proofs.YtogmdoiecpihdaaGreatDoor.cnt,hr] using this
 all_goals
  have hfj:=getElem?_fld k j hk hj
  rw [hr] at hfj
  have h3:=l3 j _ hj hfj
  rw [← hl] at h3
 ·have:=pre k (3+j*3+0) _ hk (by omega) (by rw [sub_cell h3 (by decide)];rfl)
  rw [Nat.add_assoc];exact this
 ·have:=pre k (3+j*3+1) _ hk (by omega) (by rw [sub_cell h3 (by decide)];rfl)
  rw [Nat.add_assoc,Nat.add_assoc];exact this
 ·have:=pre k (3+j*3+2) _ hk (by omega) (by rw [sub_cell h3 (by decide)];rfl)
  rw [Nat.add_assoc,Nat.add_assoc];exact this
end Go.Proofs.YtogmdoiecpihdaaGreatDoor
namespace Go.Proofs.YtogmdoiecpihdaaGreatDoor
open Go.RowKit
set_option linter.unusedVariables false
set_option maxHeartbeats 2000000
theorem cnt_out (k:Nat) (h:6≤k):cnt k=0:=by unfold cnt;rw [List.getElem?_eq_none (by exact h)];rfl
theorem cnt_le (k:Nat):cnt k≤3:=by
 by_cases h:6≤k
 ·rw [cnt_out k h];decide
 ·have:k=0∨k=1∨k=2∨k=3∨k=4∨k=5:=by omega
  rcases this with rfl | rfl | rfl | rfl | rfl | rfl <;> decide
theorem cnt_pos (k:Nat) (h:k < 6):1≤cnt k:=by
 have:k=0∨k=1∨k=2∨k=3∨k=4∨k=5:=by omega
 rcases this with rfl | rfl | rfl | rfl | rfl | rfl <;> decide
theorem count_any (w:World) (ht:Tab w) (k:Nat) (hk:k < 256) :
  Calls Tryz.prog 146 #[.int .u8 (k:Int)] w fun e w'=>e=.returned (.int .i64 ((cnt k:Nat):Int))∧w'=w:=by
 by_cases h:k < 6
 ·have h1:=ht.cnt k h
  generalize cnt k=c at *
  clear ht
  go_enter Tryz.func146,Tryz.ntmps146
  go_wp2
  go_ret
  exact ⟨rfl,rfl⟩
 ·rw [cnt_out k (by omega)]
  clear ht
  go_enter Tryz.func146,Tryz.ntmps146
  go_wp2
  go_ret
  exact ⟨rfl,rfl⟩
theorem ktold_out (k:Nat) (h:6≤k):ktold k=false:=by unfold ktold;rw [List.getElem?_eq_none (by exact h)];rfl
theorem told_any (w:World) (ht:Tab w) (k:Nat) (hk:k < 256) :
  Calls Tryz.prog 129 #[.int .u8 (k:Int)] w fun e w'=>e=.returned (.bool (ktold k))∧w'=w:=by
 by_cases h:k < 6
 ·have h1:=ht.told k h
  generalize ktold k=c at *
  clear ht
  go_enter Tryz.func129,Tryz.ntmps129
  go_wp2
  go_ret
  exact ⟨rfl,rfl⟩
 ·rw [ktold_out k (by omega)]
  clear ht
  go_enter Tryz.func129,Tryz.ntmps129
  go_wp2
  go_ret
  exact ⟨rfl,rfl⟩
def has (k:Nat) (i:Int):Bool:=decide (0≤i∧i < (cnt k:Int))
end Go.Proofs.YtogmdoiecpihdaaGreatDoor
