/- Package slots: Take, Free, Live, Len, Room on slots. -/
import Derived.Test.YtogmdoiecpihdaaGreatDoorQw10
import Derived.Test.YtogmdoiecpihdaaGreatDoorQw07
namespace Go.Proofs.YtogmdoiecpihdaaGreatDoor
open Go.RowKit
set_option linter.unusedVariables false
set_option maxHeartbeats 2000000
theorem takeAgain_ok (w0 w : World) (l : List Thing) (b : Nat) (S : St) (f : Nat) (h : Own w0 w (Slots b S :: l)) (hS : S.Ok) (hf : S.freed.getLast? = some f) :
  Calls Tryz.prog 239 #[.pointer (some ⟨b,0,none⟩)] w fun e w' => e = .returned (.int .u32 ((S.last.getD f 0 + 1024 : Nat) : Int)) ∧ Own w0 w' (Slots b (S.again f) :: l) := by
 obtain ⟨⟨v1,v2,v3⟩,h⟩ := Own.ex_iff.1 h
 have e := dropLast_of _ _ hf
 have hlen : S.freed.length = S.freed.dropLast.length + 1 := by
  have := congrArg List.length e
  rw [List.length_append,List.length_singleton] at this; exact this
 have hm : f ∈ S.freed := by rw [e]; simp
 obtain ⟨hu,x,hx,hg⟩ := hS.fr f hm
 have hgd := hS.getD hx
 have hid := hS.id f x hx
 have hf1 := hS.lt hm
 have hf2 : f < S.used.length := by rw [hS.ul]; exact hf1
 have hn := hS.n2
 have hle := hS.le
 have hcnt := hS.cnt
 have r1 := h.two.row
 have r2 := h.three.row
 have r3 := h.four.row
 obtain ⟨g1,c1,rfl,_⟩ := row_shape r1 (by show 0 < S.last.length; omega)
 obtain ⟨g2,c2,rfl,_⟩ := row_shape r2 (by show 0 < S.used.length; omega)
 obtain ⟨g3,c3,rfl,_⟩ := row_shape r3 (by show 0 < S.freed.length; omega)
 have q2 := h.cell 2
 have q3 := h.cell 3
 have q4 := h.cell 4
 have q5 := h.cell 5
 have d1 := h.ne
 have d2 := h.in23.ne
 have d3 := h.four.two.ne
 have d12 := h.tail.neR g1 rfl
 rw [hgd]
 have hk := (row_cap r3).2.1
 refine (again0 w b g1 g2 g3 S.last.length S.used.length S.freed.dropLast.length c1 c2 c3 f x (S.live : Int) (by omega) hf1 hf2 (by omega) (by omega) (by omega) (by omega) q2 q3 (by rw [← hlen]; exact q4) q5 (h.froz 4) (h.froz 5) ?_ ?_ (r1.frozenAt f) (r2.frozenAt f) (fun q => d1 (by rw [q]; rfl)) (fun q => d2 (by rw [q]; rfl)) (fun q => d3 (by rw [q]; rfl)) (fun q => d12 (by rw [q]; rfl)) ?_).mono ?_
 ·rw [r3.cellAt _ (by omega),getElem?_irow,e,List.getElem?_append_right (by simp)]; simp
 ·rw [r1.cellAt _ (by omega),getElem?_irow,hx]; rfl
 ·exact ⟨_,by rw [r2.cellAt _ (by omega),getElem?_brow,hu]; rfl⟩
 rintro e' w' ⟨rfl,rfl⟩
 refine ⟨rfl,Own.ex_iff.2 ⟨(.slice (some ⟨g1,0,none⟩) S.last.length c1,.slice (some ⟨g2,0,none⟩) S.used.length c2,.slice (some ⟨g3,0,none⟩) S.freed.dropLast.length c3),?_⟩⟩
 have k1 := (h.four.cut (m := S.freed.dropLast.length) (by omega)).back4.two.two
 have k2 := ((k1.setC 4 (.slice (some ⟨g3,0,none⟩) S.freed.dropLast.length c3)).two.setR f (.int .u32 ((x + 1024 : Nat) : Int))).two
 have k3 := ((k2.three.setR f (.bool true)).back3.setC 5 (.int .i64 ((S.live : Int) + 1)))
 have e1 : irow .u32 (S.again f).last = (irow .u32 S.last).set f (.int .u32 ((x + 1024 : Nat) : Int)) := by simp only [St.again,hgd]; exact irow_set _ _ _ _
 have e2 : brow (S.again f).used = (brow S.used).set f (.bool true) := by simp only [St.again]; exact brow_set _ _ _
 have e3 : irow .i64 (S.again f).freed = (irow .i64 S.freed).take (S.freed.dropLast.length * 1) := by
  simp only [St.again]; rw [← irow_take,Nat.mul_one]; congr 1
  rw [List.length_dropLast,List.dropLast_eq_take]
 have e5 : ((S.again f).live : Int) = (S.live : Int) + 1 := by simp [St.again]
 have e6 : (S.again f).last.length = S.last.length := by simp [St.again]
 have e7 : (S.again f).used.length = S.used.length := by simp [St.again]
 rw [e1,e2,e3,e5,e6,e7]
 exact k3
set_option maxRecDepth 100000 in
theorem take_ok (w0 w : World) (l : List Thing) (b : Nat) (S : St) (h : Own w0 w (Slots b S :: l)) (hS : S.Ok) :
  Calls Tryz.prog 202 #[.pointer (some ⟨b,0,none⟩)] w fun e w' => e = .returned (.tuple #[.int .u32 (S.take.1 : Int),.int .i64 S.take.2.1]) ∧ Own w0 w' (Slots b S.take.2.2 :: l) := by
 have H : Hid (Own w0 w (Slots b S :: l)) := h
 obtain ⟨⟨v1,v2,v3⟩,h⟩ := Own.ex_iff.1 h
 have q0 := h.cell 0
 have q2 := h.cell 2
 have q4 := h.cell 4
 obtain ⟨a1,c1,rfl⟩ := row_any h.two.row
 obtain ⟨a3,c3,rfl⟩ := row_any h.four.row
 have hn := hS.n2
 have hle := hS.le
 have hcnt := hS.cnt
 have hfl : S.freed.length ≤ 1024 := by omega
 clear h
 simp at q0 q2 q4
 have HS : Hid S.Ok := hS
 clear hS hcnt
 unfold St.take
 cases hf : S.freed.getLast? with
 | some f =>
  have hpos : (0 : Int) < (S.freed.length : Int) := by
   have e := dropLast_of _ _ hf
   have := congrArg List.length e
   rw [List.length_append,List.length_singleton] at this; omega
  have HF : Hid (S.freed.getLast? = some f) := hf
  clear hf
  go_enter Tryz.func202,Tryz.ntmps202
  go_wp2_with fail
  refine (takeAgain_ok w0 w l b S f H.out HS.out HF.out).mono ?_
  rintro e w1 ⟨rfl,hO⟩
  have H1 : Hid (Own w0 w1 _) := hO
  clear hO H
  go_wp2
  go_ret2
  exact ⟨rfl,H1.out⟩
 | none =>
  have hf' : S.freed = [] := List.getLast?_eq_none_iff.1 hf
  have hz : S.freed.length = 0 := by rw [hf']; rfl
  rw [hz] at q4
  clear hf hf' hz
  by_cases hl : S.last.length < S.n
  ·rw [if_pos hl]
   have hl' : (S.last.length : Int) < (S.n : Int) := by omega
   go_enter Tryz.func202,Tryz.ntmps202
   go_wp2
   go_region
   go_wp2_with fail
   refine (takeNew_ok w0 _ l b S H.out.drew HS.out hl).mono ?_
   rintro e w1 ⟨rfl,hO⟩
   have H1 : Hid (Own w0 w1 _) := hO
   clear hO H
   go_wp2
   go_ret2
   exact ⟨rfl,H1.out⟩
  ·rw [if_neg hl]
   have hl' : (S.n : Int) ≤ (S.last.length : Int) := by omega
   go_enter Tryz.func202,Tryz.ntmps202
   go_wp2
   go_region
   go_wp2
   go_ret2
   exact ⟨rfl,H.out.drew⟩
set_option maxRecDepth 100000 in
theorem live_ok (w0 w : World) (l : List Thing) (b : Nat) (S : St) (id : Nat) (h : Own w0 w (Slots b S :: l)) (hS : S.Ok) (hid : id < 4294967296) :
  Calls Tryz.prog 175 #[.pointer (some ⟨b,0,none⟩),.int .u32 (id : Int)] w fun e w' => e = .returned (.bool (S.isLive id)) ∧ w' = w := by
 obtain ⟨⟨v1,v2,v3⟩,h⟩ := Own.ex_iff.1 h
 have q2 := h.cell 2
 have q3 := h.cell 3
 have r1 := h.two.row
 have r2 := h.three.row
 have hul := hS.ul
 have hn := hS.n2
 have hle := hS.le
 obtain ⟨a1,c1,rfl⟩ := row_any r1
 obtain ⟨a2,c2,rfl⟩ := row_any r2
 simp at q2 q3
 by_cases hl : id % 1024 < S.last.length
 ·have hlu : id % 1024 < S.used.length := by omega
  obtain ⟨g1,c1',he1,_⟩ := row_shape r1 (by show 0 < S.last.length; omega)
  obtain ⟨g2,c2',he2,_⟩ := row_shape r2 (by show 0 < S.used.length; omega)
  cases he1
  cases he2
  obtain ⟨u,hu⟩ : ∃ u,S.used[id % 1024]? = some u := ⟨_,List.getElem?_eq_getElem hlu⟩
  obtain ⟨x,hx⟩ : ∃ x,S.last[id % 1024]? = some x := ⟨_,List.getElem?_eq_getElem hl⟩
  have p1 : w.cell? ⟨g1,id % 1024,none⟩ = some (.int .u32 (x : Int)) := by rw [r1.cellAt _ (by omega),getElem?_irow,hx]; rfl
  have p2 : w.cell? ⟨g2,id % 1024,none⟩ = some (.bool u) := by rw [r2.cellAt _ (by omega),getElem?_brow,hu]; rfl
  have e : S.isLive id = (u && x == id) := by unfold St.isLive; rw [List.getD_eq_getElem?_getD,List.getD_eq_getElem?_getD,hu,hx]; rfl
  rw [e]
  clear e h r1 r2 hS hu hx hle
  have hl' : ((id % 1024 : Nat) : Int) < (S.last.length : Int) := by omega
  have hlu' : ((id % 1024 : Nat) : Int) < (S.used.length : Int) := by omega
  generalize hm : id % 1024 = m at *
  clear hl hlu hul
  cases u
  ·go_enter Tryz.func175,Tryz.ntmps175
   go_wp2_with (go_at_call 126; refine (slot_any id _ hid).mono ?_; rw [hm]; rintro e w' ⟨rfl,rfl⟩)
   go_ret
   exact ⟨rfl,rfl⟩
  ·by_cases hc : x = id
   ·subst hc
    go_enter Tryz.func175,Tryz.ntmps175
    go_wp2_with (go_at_call 126; refine (slot_any x _ hid).mono ?_; rw [hm]; rintro e w' ⟨rfl,rfl⟩)
    go_ret
    exact ⟨by simp,rfl⟩
   ·have hc' : ((x : Int) == (id : Int)) = false := by simp; omega
    go_enter Tryz.func175,Tryz.ntmps175
    go_wp2_with (go_at_call 126; refine (slot_any id _ hid).mono ?_; rw [hm]; rintro e w' ⟨rfl,rfl⟩)
    go_ret
    exact ⟨by simp [hc],rfl⟩
 ·have e : S.isLive id = false := by unfold St.isLive; rw [List.getD_eq_getElem?_getD,List.getElem?_eq_none (by omega)]; rfl
  rw [e]
  have hl' : decide (((id % 1024 : Nat) : Int) < (S.last.length : Int)) = false := by simp; omega
  clear e h r1 r2 hS
  generalize hm : id % 1024 = m at *
  go_enter Tryz.func175,Tryz.ntmps175
  go_wp2_with (go_at_call 126; refine (slot_any id _ hid).mono ?_; rw [hm]; rintro e w' ⟨rfl,rfl⟩)
  go_ret
  exact ⟨rfl,rfl⟩
set_option maxRecDepth 100000 in
theorem free_ok (w0 w : World) (l : List Thing) (b : Nat) (S : St) (id : Nat) (h : Own w0 w (Slots b S :: l)) (hS : S.Ok) (hid : id < 4294967296) :
  Calls Tryz.prog 155 #[.pointer (some ⟨b,0,none⟩),.int .u32 (id : Int)] w fun e w' => e = .returned (.int .i64 (S.free id).1) ∧ Own w0 w' (Slots b (S.free id).2 :: l) := by
 have HL := live_ok w0 w l b S id h hS hid
 have H0 : Hid (Own w0 w (Slots b S :: l)) := h
 unfold St.free
 by_cases hlive : S.isLive id = true
 ·rw [if_pos hlive]
  rw [hlive] at HL
  obtain ⟨hu,hx⟩ := (S.isLive_iff hS id).1 hlive
  have hlu : id % 1024 < S.used.length := (List.getElem?_eq_some_iff.1 hu).1
  have hl1 : 1 ≤ S.live := by rw [hS.live]; exact List.count_pos_iff.2 (List.mem_of_getElem? hu)
  have hn := hS.n2
  have hle := hS.le
  have hul := hS.ul
  have hcnt := hS.cnt
  obtain ⟨i0,hi,hz0,hz1,hz2⟩ := info_parts Tryz.infoInt
  obtain ⟨⟨v1,v2,v3⟩,h⟩ := Own.ex_iff.1 h
  have r2 := h.three.row
  obtain ⟨g2,c2,rfl,_⟩ := row_shape r2 (by show 0 < S.used.length; omega)
  obtain ⟨a3,c3,rfl⟩ := row_any h.four.row
  have q3 := h.cell 3
  have q4 := h.cell 4
  have q5 := h.cell 5
  have z4 := h.froz 4
  have z5 := h.froz 5
  have d2 := h.in23.ne
  have e2 : g2 ≠ b := fun q => d2 (by rw [q]; rfl)
  have p2 : w.cell? ⟨g2,id % 1024,none⟩ = some (.bool true) := by rw [r2.cellAt _ (by omega),getElem?_brow,hu]; rfl
  have y2 : w.frozen? ⟨g2,id % 1024,none⟩ = false := r2.frozenAt _
  have H : Hid (Own w0 w _) := h
  have hlu' : ((id % 1024 : Nat) : Int) < (S.used.length : Int) := by omega
  have HM : Hid (id % 1024 = id % 1024) := rfl
  simp at q3 q4 q5
  clear h r2 d2 hu hx hlive hlu H0 hul
  have hm4 : id % 1024 < 1024 := by omega
  have e5 : ((S.live - 1 : Nat) : Int) = (S.live : Int) - 1 := by omega
  have E5 : Hid (((S.live - 1 : Nat) : Int) = (S.live : Int) - 1) := e5
  clear e5
  have HW : Hid (∀ m,m = id % 1024 → S.less id = { S with used := S.used.set m false,live := S.live - 1,freed := if id / 1024 < 4194303 then S.freed ++ [m] else S.freed }) := by rintro m rfl; rfl
  generalize hm' : id % 1024 = m at *
  have hm : Hid (id % 1024 = m) := hm'
  have HLV : Hid (Calls _ _ _ _ _) := HL
  clear hm' HL HM
  by_cases hg : id / 1024 < 4194303
  ·obtain ⟨gg,hgg⟩ : ∃ gg : Int,gg = ((id / 1024 : Nat) : Int) := ⟨_,rfl⟩
   have hg' : gg < 4194303 := by omega
   have HG : Hid (id / 1024 < 4194303) := hg
   have HGG : Hid (((id / 1024 : Nat) : Int) = gg) := hgg.symm
   clear hg hgg
   go_enter Tryz.func155,Tryz.ntmps155
   go_wp2_with (first | (go_at_call 175; refine HLV.out.mono ?_; rintro e w' ⟨rfl,hw⟩; subst hw) | (go_at_call 126; refine (slot_any id _ hid).mono ?_; rw [hm.out]; rintro e w' ⟨rfl,hw⟩; subst hw) | (go_at_call 127; refine (gen_any id _ hid).mono ?_; rw [HGG.out]; rintro e w' ⟨rfl,hw⟩; subst hw) | (at_builtin; refine append1_own rfl _ _ 234 rfl 3 i0 (.int .i64 0) 1 8 Tryz.underlying234 hi hz0 hz1 hz2 rfl (by decide) _ _ _ rfl ((H.out.three.setR m (.bool false)).back3.setC 5 (.int .i64 ((S.live : Int) - 1))).four _ _ (by simp) rfl rfl (one_int _ _) (by unfold maxLen; omega) (by omega) ?_))
   intro g3 c3' w1 hO hsz
   have k4 := hO.two.cell 4
   have z4' := hO.two.froz 4
   have H1 : Hid (Own w0 w1 _) := hO
   simp at k4
   clear hO H
   go_wp2
   go_ret
   refine ⟨rfl,Own.ex_iff.2 ⟨(v1,.slice (some ⟨g2,0,none⟩) S.used.length c2,.slice (some ⟨g3,0,none⟩) (S.freed.length + 1) c3'),?_⟩⟩
   have k := (H1.out.two.setC 4 (.slice (some ⟨g3,0,none⟩) (S.freed.length + 1) c3')).two.back4
   rw [HW.out m rfl,if_pos HG.out]
   have e1 : irow .i64 (S.freed ++ [m]) = irow .i64 S.freed ++ [.int .i64 (m : Int)] := by simp [irow]
   have e3 : (S.freed ++ [m]).length = S.freed.length + 1 := by simp
   have e4 : (S.used.set m false).length = S.used.length := by simp
   show Own w0 _ (Cells b #[.int .i64 (S.n : Int),.int .i64 (S.first : Int),v1,.slice (some ⟨g2,0,none⟩) S.used.length c2,.slice (some ⟨g3,0,none⟩) (S.freed.length + 1) c3',.int .i64 ((S.live - 1 : Nat) : Int)] 236 ::
    Row 38 1 v1 S.last.length (irow .u32 S.last) :: Row 4 1 (.slice (some ⟨g2,0,none⟩) S.used.length c2) (S.used.set m false).length (brow (S.used.set m false)) :: Row 3 1 (.slice (some ⟨g3,0,none⟩) (S.freed.length + 1) c3') (S.freed ++ [m]).length (irow .i64 (S.freed ++ [m])) :: l)
   rw [e1,brow_set,e3,e4,E5.out]
   exact k
  ·obtain ⟨gg,hgg⟩ : ∃ gg : Int,gg = ((id / 1024 : Nat) : Int) := ⟨_,rfl⟩
   have hg' : ¬ gg < 4194303 := by omega
   have HG : Hid (¬ id / 1024 < 4194303) := hg
   have HGG : Hid (((id / 1024 : Nat) : Int) = gg) := hgg.symm
   clear hg hgg
   go_enter Tryz.func155,Tryz.ntmps155
   go_wp2_with (first | (go_at_call 175; refine HLV.out.mono ?_; rintro e w' ⟨rfl,hw⟩; subst hw) | (go_at_call 126; refine (slot_any id _ hid).mono ?_; rw [hm.out]; rintro e w' ⟨rfl,hw⟩; subst hw) | (go_at_call 127; refine (gen_any id _ hid).mono ?_; rw [HGG.out]; rintro e w' ⟨rfl,hw⟩; subst hw))
   go_ret
   refine ⟨rfl,Own.ex_iff.2 ⟨(v1,.slice (some ⟨g2,0,none⟩) S.used.length c2,.slice a3 S.freed.length c3),?_⟩⟩
   have k := ((H.out.three.setR m (.bool false)).back3.setC 5 (.int .i64 ((S.live : Int) - 1)))
   rw [HW.out m rfl,if_neg HG.out]
   have e4 : (S.used.set m false).length = S.used.length := by simp
   show Own w0 _ (Cells b #[.int .i64 (S.n : Int),.int .i64 (S.first : Int),v1,.slice (some ⟨g2,0,none⟩) S.used.length c2,.slice a3 S.freed.length c3,.int .i64 ((S.live - 1 : Nat) : Int)] 236 ::
    Row 38 1 v1 S.last.length (irow .u32 S.last) :: Row 4 1 (.slice (some ⟨g2,0,none⟩) S.used.length c2) (S.used.set m false).length (brow (S.used.set m false)) :: Row 3 1 (.slice a3 S.freed.length c3) S.freed.length (irow .i64 S.freed) :: l)
   rw [brow_set,e4,E5.out]
   exact k
 ·rw [if_neg hlive]
  have hlive' : S.isLive id = false := by simpa using hlive
  rw [hlive'] at HL
  have HLV : Hid (Calls _ _ _ _ _) := HL
  clear HL hlive hlive' h
  go_enter Tryz.func155,Tryz.ntmps155
  go_wp2_with (first | (go_at_call 175; refine HLV.out.mono ?_; rintro e w' ⟨rfl,hw⟩; subst hw))
  go_ret
  exact ⟨rfl,H0.out⟩
theorem list_nil (w : World) : Calls Tryz.prog 122 #[.pointer none] w fun e w' => e = .returned (.slice none 0 0) ∧ w' = w := by
 go_enter Tryz.func122,Tryz.ntmps122
 go_wp2
 go_ret
 exact ⟨rfl,rfl⟩
theorem pick_le (l : List Nat) (m : List Bool) : (pick l m).length ≤ l.length := by
 induction l generalizing m with
 | nil => cases m <;> simp [pick]
 | cons x l ih => cases m with
  | nil => simp [pick]
  | cons u m => have := ih m; cases u <;> simp [pick] <;> omega
theorem pick_step (S : St) (hS : S.Ok) (k x : Nat) (u : Bool) (hx : S.last[k]? = some x) (hu : S.used[k]? = some u) : pick (S.last.take (k + 1)) (S.used.take (k + 1)) = pick (S.last.take k) (S.used.take k) ++ if u then [x] else [] := by
 rw [List.take_add_one,List.take_add_one,hx,hu]
 exact pick_snoc _ _ (by rw [List.length_take,List.length_take,hS.ul]) x u
set_option maxRecDepth 100000 in
theorem list_ok (w0 w : World) (l : List Thing) (b : Nat) (S : St) (h : Own w0 w (Slots b S :: l)) (hS : S.Ok) :
  Calls Tryz.prog 122 #[.pointer (some ⟨b,0,none⟩)] w fun e w' => ∃ v,e = .returned v ∧ Own w0 w' (Row 38 1 v S.list.length (irow .u32 S.list) :: Slots b S :: l) := by
 obtain ⟨⟨v1,v2,v3⟩,h⟩ := Own.ex_iff.1 h
 have q5 := h.cell 5
 have q2 := h.cell 2
 have hn := hS.n2
 have hle := hS.le
 have hul := hS.ul
 have hlv : S.live ≤ 1024 := by have := hS.cnt; have := hS.le; omega
 obtain ⟨i0,hi,hz0,hz1,hz2⟩ := info_parts Tryz.infoID
 obtain ⟨a1,c1,rfl⟩ := row_any h.two.row
 obtain ⟨a2,c2,rfl⟩ := row_any h.three.row
 obtain ⟨w1,hmk,hO,hf⟩ := make_own (P := Tryz.prog) h 55 38 i0 (.int .u32 0) 1 Tryz.underlying55 hi hz0 hz1 S.live (by rw [hz2]; omega) (by unfold maxLen; omega)
 have q2' := hO.two.cell 2
 simp at q2 q5 q2'
 have HS : Hid S.Ok := hS
 have HU : Hid (S.used.length = S.last.length) := hul
 have H1 : Hid (Own w0 w1 (Row 38 1 (.slice (some ⟨w.heap.size,0,none⟩) 0 S.live) (pick (S.last.take 0) (S.used.take 0)).length (irow .u32 (pick (S.last.take 0) (S.used.take 0))) :: _)) := hO
 clear h hS hO hul hf
 go_enter Tryz.func122,Tryz.ntmps122
 go_wp2
 go_loopw [3,18] (fun lv c wr => ∃ k : Nat,k ≤ S.last.length ∧ c = .int .i64 k ∧ ∃ g cap,lv = .slice (some ⟨g,0,none⟩) (pick (S.last.take k) (S.used.take k)).length cap ∧
   Own w0 wr (Row 38 1 (.slice (some ⟨g,0,none⟩) (pick (S.last.take k) (S.used.take k)).length cap) (pick (S.last.take k) (S.used.take k)).length (irow .u32 (pick (S.last.take k) (S.used.take k))) ::
    Cells b #[.int .i64 (S.n : Int),.int .i64 (S.first : Int),.slice a1 S.last.length c1,.slice a2 S.used.length c2,v3,.int .i64 (S.live : Int)] 236 ::
    Row 38 1 (.slice a1 S.last.length c1) S.last.length (irow .u32 S.last) :: Row 4 1 (.slice a2 S.used.length c2) S.used.length (brow S.used) :: Row 3 1 v3 S.freed.length (irow .i64 S.freed) :: l)) (fun _ c _ => S.last.length - (intOf c).toNat)
 case atStart => exact ⟨0,Nat.zero_le _,rfl,_,_,rfl,H1.out⟩
 case round =>
  obtain ⟨k,hk,rfl,g,cap,rfl,hO⟩ := hrel
  have q3 := hO.two.cell 3
  simp at q3
  by_cases hlt : k < S.last.length
  ·have hlu : k < S.used.length := by have := HU.out; omega
   have r1 := hO.three.row
   have r2 := hO.four.row
   obtain ⟨g1,c1',he1,_⟩ := row_shape r1 (by omega)
   obtain ⟨g2,c2',he2,_⟩ := row_shape r2 (by omega)
   cases he1
   cases he2
   obtain ⟨u,hu⟩ : ∃ u,S.used[k]? = some u := ⟨_,List.getElem?_eq_getElem hlu⟩
   obtain ⟨x,hx⟩ : ∃ x,S.last[k]? = some x := ⟨_,List.getElem?_eq_getElem hlt⟩
   have p1 : wr.cell? ⟨g1,k,none⟩ = some (.int .u32 (x : Int)) := by rw [r1.cellAt _ (by omega),getElem?_irow,hx]; rfl
   have p2 : wr.cell? ⟨g2,k,none⟩ = some (.bool u) := by rw [r2.cellAt _ (by omega),getElem?_brow,hu]; rfl
   have HP : Hid (pick (S.last.take (k + 1)) (S.used.take (k + 1)) = pick (S.last.take k) (S.used.take k) ++ if u then [x] else []) := pick_step S HS.out k x u hx hu
   have hpl := pick_le (S.last.take k) (S.used.take k)
   rw [List.length_take] at hpl
   have HO : Hid (Own w0 wr _) := hO
   clear hO r1 r2 hu hx H1 hmk q2 q2' q5
   have hlu' : (k : Int) < (S.used.length : Int) := by omega
   generalize pick (S.last.take k) (S.used.take k) = pk at *
   cases u
   ·go_wp2
    go_roundw
    case rel => exact ⟨k + 1,by omega,by go_num,g,cap,by rw [HP.out]; simp,by rw [HP.out]; simpa using HO.out⟩
    case measure => simp [intOf]; omega
   ·go_wp2_with (at_builtin; refine append1_own rfl _ _ 55 rfl 38 i0 (.int .u32 0) 1 4 Tryz.underlying55 hi hz0 hz1 hz2 rfl (by decide) _ _ _ rfl HO.out _ _ (by simp) rfl rfl (one_int _ _) (by unfold maxLen; omega) (by omega) ?_)
    intro g' cap' w2 hO2 hsz
    have H2 : Hid (Own w0 w2 _) := hO2
    clear hO2 HO
    go_wp2
    go_roundw
    case rel => exact ⟨k + 1,by omega,by go_num,g',cap',by rw [HP.out]; simp,by rw [HP.out]; simpa [irow] using H2.out⟩
    case measure => simp [intOf]; omega
  ·have ek : k = S.last.length := by omega
   subst ek
   have HUL : S.used.length ≤ S.last.length := by rw [HU.out]; exact Nat.le_refl _
   rw [List.take_of_length_le (Nat.le_refl S.last.length),List.take_of_length_le HUL] at hO
   rw [List.take_of_length_le (Nat.le_refl S.last.length),List.take_of_length_le HUL]
   have HO : Hid (Own w0 wr _) := hO
   clear hO HUL H1 hmk q2 q2' q5
   go_wp2
   go_ret
   exact ⟨_,rfl,Own.ex2.2 ⟨(.slice a1 S.last.length c1,.slice a2 S.used.length c2,v3),HO.out⟩⟩
end Go.Proofs.YtogmdoiecpihdaaGreatDoor
namespace Go.Proofs.YtogmdoiecpihdaaGreatDoor
open Go.RowKit Go.Maps
set_option linter.unusedVariables false
set_option maxHeartbeats 2000000
theorem Own.imp {w0 w : World} {P Q : Thing} {l : List Thing} (h : Own w0 w (P :: l)) (hq : ∀ w A,P.is w A → Q.is w A) : Own w0 w (Q :: l) := by
 obtain ⟨A,⟨B,C,hB,r⟩,s⟩ := h
 exact ⟨A,⟨B,C,hq _ _ hB,r⟩,s⟩
theorem Sep.imp {α : Type} {f g : α → Thing} (hq : ∀ a w A,(f a).is w A → (g a).is w A) (is : List α) : ∀ w A,(Sep (is.map f)).is w A → (Sep (is.map g)).is w A := by
 induction is with
 | nil => exact fun w A h => h
 | cons a is ih =>
  rintro w A ⟨B,C,hB,hC,r⟩
  exact ⟨B,C,hq a w B hB,ih w C hC,r⟩
def pp (p : Option Nat) : Option Addr := p.map fun b => ⟨b,0,none⟩
def TbS (p : Option Nat) (m : Nat) (L : List Ent) (K : Nat) : Thing := match p with
 | none => Ex (fun _ : PLift (L = []) => [])
 | some b => Ex (fun c : {c : Nat // c ≤ K ∧ L ≠ [] ∧ L.length ≤ K} => [Table b m L c.1])
def TabsOn (is : List Nat) (p : Nat → Option Nat) (T : Nat → List Ent) (K : Nat) : Thing := Ex (fun _ : Unit => is.map (fun m => TbS (p m) m (T m) K))
def Tabs (p : Nat → Option Nat) (T : Nat → List Ent) (K : Nat) : Thing := TabsOn (List.range 64) p T K
def TabsBut (k : Nat) (p : Nat → Option Nat) (T : Nat → List Ent) (K : Nat) : Thing := TabsOn ((List.range 64).erase k) p T K
section
variable {w0 w : World} {l : List Thing} {is : List Nat} {p p' : Nat → Option Nat} {T T' : Nat → List Ent} {K K' k : Nat}
theorem TabsOn.pull (hk : k ∈ is) : Own w0 w (TabsOn is p T K :: l) ↔ Own w0 w (TbS (p k) k (T k) K :: TabsOn (is.erase k) p T K :: l) := by
 have hp : (is.map (fun m => TbS (p m) m (T m) K)).Perm (TbS (p k) k (T k) K :: (is.erase k).map (fun m => TbS (p m) m (T m) K)) := (List.perm_cons_erase hk).map (fun m => TbS (p m) m (T m) K)
 constructor
 ·intro h
  obtain ⟨_,h⟩ := Own.ex_iff.1 h
  exact Own.ex2.2 ⟨(),h.perm (hp.append_right l)⟩
 ·intro h
  obtain ⟨_,h⟩ := Own.ex2.1 h
  exact Own.ex_iff.2 ⟨(),h.perm (hp.append_right l).symm⟩
theorem TabsOn.congr (h : ∀ m ∈ is,p m = p' m ∧ T m = T' m) : TabsOn is p T K = TabsOn is p' T' K := by
 unfold TabsOn
 have : is.map (fun m => TbS (p m) m (T m) K) = is.map (fun m => TbS (p' m) m (T' m) K) := List.map_congr_left (fun m hm => by rw [(h m hm).1,(h m hm).2])
 rw [this]
theorem TbS.mono {q : Option Nat} {L : List Ent} (hK : K ≤ K') : ∀ w A,(TbS q k L K).is w A → (TbS q k L K').is w A := by
 intro w A h
 cases q with
 | none => exact h
 | some b =>
  obtain ⟨⟨c,h1,h2,h3⟩,h⟩ := h
  exact ⟨⟨c,by omega,h2,by omega⟩,h⟩
theorem TabsOn.mono (hK : K ≤ K') (h : Own w0 w (TabsOn is p T K :: l)) : Own w0 w (TabsOn is p T K' :: l) :=
 h.imp (fun w A => fun ⟨u,h⟩ => ⟨u,Sep.imp (fun m => TbS.mono hK) is w A h⟩)
theorem Own.tabOut (h : Own w0 w (Tabs p T K :: l)) (k : Nat) (hk : k < 64) : Own w0 w (TbS (p k) k (T k) K :: TabsBut k p T K :: l) := (TabsOn.pull (by simpa using hk)).1 h
theorem but_mem {m k : Nat} (h : m ∈ (List.range 64).erase k) : m ≠ k := fun e => by subst e; exact absurd h (List.Nodup.not_mem_erase List.nodup_range)
theorem Own.tabIn {q : Option Nat} {L : List Ent} (hk : k < 64) (hK : K ≤ K') (h : Own w0 w (TbS q k L K' :: TabsBut k p T K :: l)) : Own w0 w (Tabs (upd p k q) (upd T k L) K' :: l) := by
 refine (TabsOn.pull (k := k) (by simpa using hk)).2 ?_
 rw [upd_same,upd_same]
 have h2 := (TabsOn.mono hK h.two).two
 rw [TabsOn.congr (p' := upd p k q) (T' := upd T k L) (fun m hm => ⟨(upd_other _ _ _ (but_mem hm)).symm,(upd_other _ _ _ (but_mem hm)).symm⟩)] at h2
 exact h2
theorem Own.tabNone (h : Own w0 w (TbS none k (T k) K :: l)) : T k = [] := by
 obtain ⟨⟨e⟩,_⟩ := Own.ex_iff.1 h
 exact e
theorem Own.tabsNew (h : Own w0 w l) (K : Nat) : Own w0 w (Tabs (fun _ => none) (fun _ => []) K :: l) := by
 refine Own.ex_iff.2 ⟨(),?_⟩
 suffices H : ∀ is : List Nat,Own w0 w (is.map (fun m => TbS ((fun _ => none : Nat → Option Nat) m) m ((fun _ => [] : Nat → List Ent) m) K) ++ l) from H _
 intro is
 induction is with
 | nil => exact h
 | cons a is ih => exact Own.ex_iff.2 ⟨⟨rfl⟩,ih⟩
end
def ptrs (p : Nat → Option Nat) : List Value := (List.range 64).map (fun m => Value.pointer (pp (p m)))
def scells (bs : Nat) (v : Value) (p : Nat → Option Nat) : Array Value := (Value.pointer (some ⟨bs,0,none⟩) :: v :: ptrs p).toArray
theorem scells_ids (bs : Nat) (v : Value) (p : Nat → Option Nat) : (scells bs v p)[0]? = some (.pointer (some ⟨bs,0,none⟩)) := by simp [scells]
theorem scells_mk (bs : Nat) (v : Value) (p : Nat → Option Nat) : (scells bs v p)[1]? = some v := by simp [scells]
theorem scells_tab (bs : Nat) (v : Value) (p : Nat → Option Nat) (k : Nat) (hk : k < 64) : (scells bs v p)[2 + k]? = some (.pointer (pp (p k))) := by
 have : 2 + k = k + 1 + 1 := by omega
 rw [this]
 simp [scells,ptrs,hk]
theorem scells_set (bs : Nat) (v : Value) (p : Nat → Option Nat) (k : Nat) (hk : k < 64) (q : Option Nat) : (scells bs v p).setIfInBounds (2 + k) (.pointer (pp q)) = scells bs v (upd p k q) := by
 have : 2 + k = k + 1 + 1 := by omega
 rw [this]
 unfold scells
 rw [List.setIfInBounds_toArray,List.set_cons_succ,List.set_cons_succ]
 have : (ptrs p).set k (.pointer (pp q)) = ptrs (upd p k q) := by
  apply List.ext_getElem?
  intro i
  rw [List.getElem?_set]
  simp only [ptrs,List.length_map,List.length_range,List.getElem?_map]
  by_cases c : k = i
  ·subst c; simp [hk,upd]
  ·rw [if_neg c]
   by_cases d : i < 64
   ·have e : ¬ i = k := fun h => c h.symm
    simp [d,upd,e]
   ·simp [d]
 rw [this]
structure Sto where
 S : St
 mks : List Nat
 T : Nat → List Ent
def StoX (b : Nat) (σ : Sto) (K : Nat) (x : Nat × Value × (Nat → Option Nat)) : Thing :=
 Ex (fun _ : Unit => [Cells b (scells x.1 x.2.1 x.2.2) 176,Slots x.1 σ.S,Row 5 1 x.2.1 σ.mks.length (irow .u8 σ.mks),Tabs x.2.2 σ.T K])
def Store (b : Nat) (σ : Sto) (K : Nat) : Thing := Ex (fun x : Nat × Value × (Nat → Option Nat) => [StoX b σ K x])
section
variable {w0 w : World} {l : List Thing} {b bs : Nat} {v : Value} {p : Nat → Option Nat} {σ : Sto} {K : Nat}
theorem Own.stoX (h : Own w0 w (Store b σ K :: l)) : ∃ bs v p,Own w0 w (StoX b σ K (bs,v,p) :: l) := by
 obtain ⟨⟨bs,v,p⟩,h⟩ := Own.ex_iff.1 h
 exact ⟨bs,v,p,h⟩
theorem Own.xSto {x : Nat × Value × (Nat → Option Nat)} (h : Own w0 w (StoX b σ K x :: l)) : Own w0 w (Store b σ K :: l) := Own.ex_iff.2 ⟨x,h⟩
theorem Own.stoO (h : Own w0 w (StoX b σ K (bs,v,p) :: l)) : Own w0 w (Cells b (scells bs v p) 176 :: Slots bs σ.S :: Row 5 1 v σ.mks.length (irow .u8 σ.mks) :: Tabs p σ.T K :: l) := by
 obtain ⟨_,h⟩ := Own.ex_iff.1 h
 exact h
theorem Own.stoS (h : Own w0 w (Cells b (scells bs v p) 176 :: Slots bs σ.S :: Row 5 1 v σ.mks.length (irow .u8 σ.mks) :: Tabs p σ.T K :: l)) : Own w0 w (StoX b σ K (bs,v,p) :: l) := Own.ex_iff.2 ⟨(),h⟩
end
end Go.Proofs.YtogmdoiecpihdaaGreatDoor
