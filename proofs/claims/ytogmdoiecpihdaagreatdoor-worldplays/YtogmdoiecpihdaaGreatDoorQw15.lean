/- A store's Despawn and New; what is told of its numbers. -/
import Derived.Test.YtogmdoiecpihdaaGreatDoorQw14
import Derived.Test.YtogmdoiecpihdaaGreatDoorQw13
namespace Go.Proofs.YtogmdoiecpihdaaGreatDoor
open Go.RowKit Go.Maps
set_option linter.unusedVariables false
set_option maxHeartbeats 2000000
theorem Own.made {P : Program} {w0 w : World} {l : List Thing} (h : Own w0 w l) (t e : TypeId) (i : TypeInfo) (z : Value) (size : Nat) (ht : P.underlying t = some (.slice e)) (hi : P.info? e = some i) (hz : i.zero = some z) (hsize : i.size = size)
  (n : Nat) (hbytes : i.bytes * n ≤ 281474976710656) (h63 : n ≤ maxLen) :
  ∃ w',(Instr.makeSlice t (.int .i64 (n : Int)) (.int .i64 (n : Int))).run P w = .ok (.slice (some ⟨w.heap.size,0,none⟩) n n) w' ∧ Own w0 w' (Row e size (.slice (some ⟨w.heap.size,0,none⟩) n n) n (madeCells z.cells (n * size)).toList :: l) ∧ Fr Nobody w w' ∧ w.heap.size < w'.heap.size := by
 obtain ⟨w',h1,h2,h3⟩ := run_make_full (P := P) w 0 t e i z size ht hi hz hsize .i64 .i64 n hbytes h63 (Nat.zero_le _)
 have hf : Fr Nobody w w' := (Fr.refl _ _).grown h3 (by simp)
 exact ⟨w',h1,h.new (Row e size (.slice (some ⟨w.heap.size,0,none⟩) n n) n _) (fun k => k = w.heap.size) ⟨h2,fun k => by simp [Value.ownBlock]; exact eq_comm⟩ hf (fun k hk => by omega),hf,(h2.lt _ rfl).2⟩
theorem made_bytes (n : Nat) : (madeCells #[.int .u8 0] (n * 1)).toList = irow .u8 (List.replicate n 0) := by
 apply List.ext_getElem?
 intro i
 rw [getElem?_irow]
 by_cases h : i < n
 ·have : i % 1 = 0 := Nat.mod_one i
  simp [madeCells,h,this]
 ·simp [madeCells,h]
theorem Tryz.infoB2 : (Tryz.prog.info? 5).map (fun i => (i.zero,i.size,i.bytes)) = some (some (.int .u8 0),1,1) := by kernel_rfl
set_option maxRecDepth 100000 in
theorem scells_zero (bs : Nat) (v : Value) : (Tryz.zeroCells176.setIfInBounds 0 (.pointer (some ⟨bs,0,none⟩))).setIfInBounds 1 v = scells bs v (fun _ => none) := by kernel_rfl
set_option maxRecDepth 100000 in
theorem snew (w0 w : World) (l : List Thing) (n f : Nat) (h : Own w0 w l) (h1 : 1 ≤ n) (h2 : n ≤ 1024) (h3 : 1 ≤ f) (h4 : f ≤ 4194303) :
  Calls Tryz.prog 39 #[.int .i64 (n : Int),.int .i64 (f : Int)] w fun e w' => ∃ b,e = .returned (.tuple #[.pointer (some ⟨b,0,none⟩),.int .i64 0]) ∧ Own w0 w' (Store b (Sto.new n f) 0 :: l) := by
 obtain ⟨i0,hi,hz0,hz1,hz2⟩ := info_parts Tryz.infoB2
 have HN : Hid (Calls _ _ _ _ _) := new_ok w0 w l n f h h1 h2 h3 h4
 have HM : Hid (∀ w' l',Own w0 w' l' → ∃ w'',(Instr.makeSlice 170 (.int .i64 (n : Int)) (.int .i64 (n : Int))).run Tryz.prog w' = .ok (.slice (some ⟨w'.heap.size,0,none⟩) n n) w'' ∧ Own w0 w'' (Row 5 1 (.slice (some ⟨w'.heap.size,0,none⟩) n n) n (irow .u8 (List.replicate n 0)) :: l')) := by
  intro w' l' h'
  obtain ⟨w'',r1,r2,_⟩ := h'.made (P := Tryz.prog) 170 5 i0 (.int .u8 0) 1 Tryz.underlying170 hi hz0 hz1 n (by rw [hz2]; omega) (by unfold maxLen; omega)
  have e2 : Value.cells (.int .u8 0) = #[.int .u8 0] := by rfl
  rw [e2,made_bytes] at r2
  exact ⟨w'',r1,r2⟩
 clear hi hz0 hz1 hz2 h
 go_enter Tryz.func39,Tryz.ntmps39
 go_wp2_with fail
 refine HN.out.mono ?_
 rintro e w1 ⟨bs,rfl,_,hO⟩
 obtain ⟨w2,hmk,hO2⟩ := HM.out _ _ hO
 have H2 : Hid (Own w0 w2 _) := hO2
 clear hO hO2 HM HN
 go_wp2
 go_ret2
 refine ⟨_,rfl,?_⟩
 have k := H2.out.allocC (scells bs (.slice (some ⟨w1.heap.size,0,none⟩) n n) (fun _ => none)) 176
 rw [← scells_zero] at k
 have k2 := (k.in23.tabsNew 0).back4
 refine (Own.stoS (σ := Sto.new n f) (bs := bs) (v := .slice (some ⟨w1.heap.size,0,none⟩) n n) (p := fun _ => none) ?_).xSto
 have e : (Sto.new n f).mks.length = n := by simp [Sto.new]
 rw [e,← scells_zero]
 exact k2
theorem despawnC (w0 w : World) (l : List Thing) (b : Nat) (σ : Sto) (K : Nat) (h : Own w0 w (Store b σ K :: l)) (hσ : σ.Ok) (id : Nat) (hid : id < 4294967296) (hK : K < 1000000) :
  Calls Tryz.prog 98 #[.pointer (some ⟨b,0,none⟩),.int .u32 (id : Int)] w fun e w' => e = .returned (.int .i64 (σ.despawn id).1) ∧ Own w0 w' (Store b (σ.despawn id).2 (K + 1) :: l) := by
 obtain ⟨bs,v,p,h⟩ := h.stoX
 by_cases hl : σ.S.isLive id = true
 ·obtain ⟨h6,hn,r,e,hr,he,hx⟩ := hσ.home hl
  have HH : Hid (Calls _ _ _ _ _) := home_ok w0 w l b bs v p σ K h hσ.s id hid hl hn h6
  have HP : Hid (∀ w',Own w0 w' (StoX b σ K (bs,v,p) :: l) → Calls Tryz.prog 154 #[.pointer (some ⟨b,0,none⟩),.pointer (pp (p (σ.hom id))),.int .u32 (id : Int)] w' fun out w'' => ∃ ao cap,out = .returned (.slice ao e.2.length cap) ∧ Own w0 w'' (Row 46 4 (.slice ao e.2.length cap) e.2.length (ccat e.2) :: Store b (σ.out (σ.hom id) r) (K + 1) :: l)) := fun w' h' => pull_ok w0 w' l b bs v p σ K h' (σ.hom id) h6 _ rfl (hσ.t _ h6) id hid r e hr he hK
  have HV : Hid (σ.despawn id = (0,{ σ.out (σ.hom id) r with S := σ.S.less id })) := by show _ = _; unfold Sto.despawn; rw [if_pos hl,hr]; rfl
  have HF : Hid (∀ w',Own w0 w' (Store b (σ.out (σ.hom id) r) (K + 1) :: l) → ∃ bs,w'.cell? ⟨b,0,none⟩ = some (.pointer (some ⟨bs,0,none⟩)) ∧ Calls Tryz.prog 155 #[.pointer (some ⟨bs,0,none⟩),.int .u32 (id : Int)] w' fun e w'' => e = .returned (.int .i64 0) ∧ Own w0 w'' (Store b { σ.out (σ.hom id) r with S := σ.S.less id } (K + 1) :: l)) := by
   intro w' h'
   obtain ⟨bs,v,p,h'⟩ := h'.stoX
   have k := free_ok w0 w' _ bs (σ.out (σ.hom id) r).S id h'.stoO.two hσ.s hid
   rw [show (σ.out (σ.hom id) r).S = σ.S from rfl,(St.free_live hσ.s hl).1] at k
   refine ⟨bs,(stoCells h').1,k.mono ?_⟩
   rintro e w'' ⟨rfl,h2⟩
   exact ⟨rfl,(Own.stoS (σ := { σ.out (σ.hom id) r with S := σ.S.less id }) h2.two).xSto⟩
  clear h hσ hl hr he hx hK
  generalize pp (p (σ.hom id)) = pt at *
  go_enter Tryz.func98,Tryz.ntmps98
  go_wp2_with fail
  refine HH.out.mono ?_
  rintro e w1 ⟨rfl,hO⟩
  have HP1 : Hid (Calls _ _ _ _ _) := HP.out _ hO
  clear hO HH HP
  go_wp2_with fail
  refine HP1.out.mono ?_
  rintro e w2 ⟨ao,cap,rfl,hO⟩
  obtain ⟨bs2,q0,hfr⟩ := HF.out _ hO.tail
  have HF1 : Hid (Calls _ _ _ _ _) := hfr
  clear hO hfr HP1 HF
  go_wp2_with fail
  refine HF1.out.mono ?_
  rintro e w3 ⟨rfl,hO⟩
  have H3 : Hid (Own w0 w3 _) := hO
  clear hO
  go_wp2
  go_ret
  rw [HV.out]
  exact ⟨rfl,H3.out⟩
 ·have hl' : σ.S.isLive id = false := by simpa using hl
  have HH : Hid (Calls _ _ _ _ _) := home_dead w0 w l b bs v p σ K h hσ.s id hid hl'
  have HV : Hid (σ.despawn id = (7,σ)) := by show _ = _; unfold Sto.despawn; rw [if_neg hl]
  clear h hσ hl hl'
  go_enter Tryz.func98,Tryz.ntmps98
  go_wp2_with fail
  refine HH.out.mono ?_
  rintro e w1 ⟨rfl,hO⟩
  have H1 : Hid (Own w0 w1 _) := hO
  clear hO HH
  go_wp2
  go_ret
  rw [HV.out]
  exact ⟨rfl,H1.out.xSto.stoK (Nat.le_succ K)⟩
end Go.Proofs.YtogmdoiecpihdaaGreatDoor
namespace Go.Proofs.YtogmdoiecpihdaaGreatDoor
open Go.RowKit Go.Maps
set_option linter.unusedVariables false
set_option maxHeartbeats 2000000
set_option maxRecDepth 100000
theorem upd_self {α : Type} (f : Nat → α) (k : Nat) : upd f k (f k) = f := by
 funext j; unfold upd; split
 ·rename_i e; rw [e]
 ·rfl
theorem Own.stoT {w0 w : World} {l : List Thing} {b bs : Nat} {v : Value} {p : Nat → Option Nat} {σ : Sto} {K m bt c : Nat} (h : Own w0 w (Table bt m (σ.T m) c :: StoB b σ K (bs,v,p) m :: l)) (hm : m < 64) (hp : p m = some bt) (hc : c ≤ K) (hL : σ.T m ≠ []) (hl : (σ.T m).length ≤ K) : Own w0 w (StoX b σ K (bs,v,p) :: l) := by
 have k := h.stoBX hm hp (Nat.le_refl K) hc hL hl
 rw [upd_self] at k
 exact k
theorem stoP {w0 w : World} {l : List Thing} {b bs : Nat} {v : Value} {p : Nat → Option Nat} {σ : Sto} {K m r : Nat} {e : Ent} (h : Own w0 w (StoX b σ K (bs,v,p) :: l)) (hm : m < 64) (he : (σ.T m)[r]? = some e) : ∃ bt,p m = some bt := by
 cases hp : p m with
 | none => exact absurd (h.stoN hm hp).1 (fun q => by rw [q] at he; simp at he)
 | some bt => exact ⟨bt,rfl⟩
theorem sent (w0 w : World) (l : List Thing) (b : Nat) (σ : Sto) (K : Nat) (h : Own w0 w (Store b σ K :: l)) (hσ : σ.Ok) (id : Nat) (hid : id < 4294967296) (hl : σ.S.isLive id = true) (r : Nat) (C : List Cp) (he : (σ.T (σ.hom id))[r]? = some (id,C)) (hK : K ≤ 1000000) :
  Calls Tryz.prog 119 #[.pointer (some ⟨b,0,none⟩),.int .u32 (id : Int)] w fun e w' => ∃ ao cap,e = .returned (.tuple #[.agg #[.int .u32 (id : Int),.slice ao C.length cap],.int .i64 0]) ∧ Own w0 w' (Row 46 4 (.slice ao C.length cap) C.length (ccat C) :: Store b σ K :: l) := by
 obtain ⟨bs,v,p,h⟩ := h.stoX
 obtain ⟨h6,hn,_⟩ := hσ.home hl
 have hr : plc (σ.T (σ.hom id)) id = some r := (plc_some (hσ.t _ h6).ap id r).2 ⟨_,he,rfl⟩
 have hA := (h.allocC #[.int .u32 0,.slice none 0 0] 76).two
 have HH : Hid (Calls _ _ _ _ _) := home_ok w0 _ _ b bs v p σ K hA hσ.s id hid hl hn h6
 obtain ⟨bt,hp⟩ := stoP h h6 he
 rw [hp,pp_some] at HH
 have HRW : Hid (∀ w' l',Own w0 w' (StoX b σ K (bs,v,p) :: l') → Calls Tryz.prog 173 #[.pointer (some ⟨bt,0,none⟩),.int .u32 (id : Int)] w' fun e w'' => e = .returned (.tuple #[.int .i64 (r : Int),.bool true]) ∧ w'' = w') := by
  intro w' l' h'
  obtain ⟨c,_,_,_,h2⟩ := h'.stoB h6 hp
  have k := trow w0 w' _ bt _ _ _ _ c h2 id hid
  rw [hr] at k
  exact k
 have HAT : Hid (∀ w' l',Own w0 w' (StoX b σ K (bs,v,p) :: l') → Calls Tryz.prog 174 #[.pointer (some ⟨bt,0,none⟩),.int .i64 (r : Int)] w' fun out w'' => ∃ ao cap,out = .returned (.tuple #[.agg #[.int .u32 (id : Int),.slice ao C.length cap],.bool true]) ∧ Own w0 w'' (Row 46 4 (.slice ao C.length cap) C.length (ccat C) :: StoX b σ K (bs,v,p) :: l')) := by
  intro w' l' h'
  obtain ⟨c,hc,hne,hlen,h2⟩ := h'.stoB h6 hp
  refine (tatC w0 w' _ bt _ _ c h2 (hσ.t _ h6) r (id,C) he (by omega)).mono ?_
  rintro e w'' ⟨ao,cap,rfl,h3⟩
  refine ⟨ao,cap,rfl,?_⟩
  have h4 : Own w0 w'' (Table bt (σ.hom id) (σ.T (σ.hom id)) c :: StoB b σ K (bs,v,p) (σ.hom id) :: Row 46 4 (.slice ao C.length cap) C.length (ccat C) :: l') := h3.back3
  exact (h4.stoT h6 hp hc hne hlen).two
 clear h hA hσ hl he hr hp hn hid
 go_enter Tryz.func119,Tryz.ntmps119
 go_wp2_with fail
 refine HH.out.mono ?_
 rintro e w1 ⟨rfl,hO⟩
 have H1 : Hid (Own w0 w1 _) := hO
 clear hO HH
 go_wp2_with fail
 refine (HRW.out _ _ H1.out).mono ?_
 rintro e w2 ⟨rfl,rfl⟩
 go_wp2_with fail
 refine (HAT.out _ _ H1.out).mono ?_
 rintro e w3 ⟨ao,cap,rfl,hO⟩
 have hB := (hO.allocC #[.int .u32 (id : Int),.slice ao C.length cap] 76).four
 have x0 := hB.two.cell 0
 have x1 := hB.two.cell 1
 have z0 := hB.cell 0
 have z1 := hB.cell 1
 simp at x0 x1 z0 z1
 have y0 := hB.froz 0
 have y1 := hB.froz 1
 have hne1 : w3.heap.size ≠ w.heap.size := by
  have := hO.three.lt
  omega
 have hne2 : w.heap.size ≠ w3.heap.size := fun q => hne1 q.symm
 have HF : Hid (Own w0 _ _) := (hB.setC 0 (.int .u32 (id : Int))).setC 1 (.slice ao C.length cap)
 clear hO hB HAT HRW H1
 go_wp2
 (try simp only [Exit.inBlock,Exit.then])
 refine bodyPost_ret (v := .tuple #[.agg #[.int .u32 (id : Int),.slice ao C.length cap],.int .i64 0]) ?_ rfl ⟨ao,cap,rfl,?_⟩
 ·rw [results_cell_tmp rfl]
  have r0 := HF.out.cell 0
  have r1 := HF.out.cell 1
  simp at r0 r1
  go_simp
 ·exact HF.out.tail.tail.two.xSto.two
theorem insw_cons (q : Cp) (t : List Cp) (c : Cp) : insw (q :: t) c = if q.k < c.k then q :: insw t c else c :: q :: t := by
 unfold insw
 by_cases h : q.k < c.k <;> simp [h]
theorem insw_mem {C : List Cp} {c x : Cp} (h : x ∈ insw C c) : x ∈ C ∨ x = c := by
 induction C with
 | nil => simp [insw] at h; exact .inr h
 | cons q t ih =>
  rw [insw_cons] at h
  split at h
  ·rcases List.mem_cons.1 h with rfl | h
   ·exact .inl List.mem_cons_self
   ·rcases ih h with h | h
    ·exact .inl (List.mem_cons_of_mem _ h)
    ·exact .inr h
  ·rcases List.mem_cons.1 h with rfl | h
   ·exact .inr rfl
   ·exact .inl h
theorem insw_sorted {C : List Cp} {c : Cp} (h : C.Pairwise (fun x y => x.k < y.k)) (hk : hasK C c.k = false) : (insw C c).Pairwise (fun x y => x.k < y.k) := by
 induction C with
 | nil => simp [insw]
 | cons q t ih =>
  obtain ⟨h1,h2⟩ := List.pairwise_cons.1 h
  have hq : q.k ≠ c.k := by
   intro e
   have : hasK (q :: t) c.k = true := (hasK_iff _ _).2 ⟨q,List.mem_cons_self,e⟩
   rw [hk] at this; cases this
  have ht : hasK t c.k = false := by
   cases hh : hasK t c.k with
   | false => rfl
   | true =>
    obtain ⟨x,hx,e⟩ := (hasK_iff _ _).1 hh
    have : hasK (q :: t) c.k = true := (hasK_iff _ _).2 ⟨x,List.mem_cons_of_mem _ hx,e⟩
    rw [hk] at this; cases this
  rw [insw_cons]
  split
  ·rename_i hlt
   refine List.pairwise_cons.2 ⟨fun x hx => ?_,ih h2 ht⟩
   rcases insw_mem hx with hx | hx
   ·exact h1 x hx
   ·rw [hx]; exact hlt
  ·rename_i hlt
   refine List.pairwise_cons.2 ⟨fun x hx => ?_,h⟩
   rcases List.mem_cons.1 hx with rfl | hx
   ·omega
   ·have := h1 x hx; omega
theorem insw_ok {C : List Cp} {c : Cp} (h : lst (-1) C = 0) (hc : c.chk = 0) (hk : hasK C c.k = false) : lst (-1) (insw C c) = 0 := by
 rw [lst_iff] at h ⊢
 refine ⟨insw_sorted h.1 hk,fun x hx => ?_⟩
 rcases insw_mem hx with hx | hx
 ·exact h.2 x hx
 ·rw [hx]; exact hc
theorem insw_len (C : List Cp) (c : Cp) : (insw C c).length = C.length + 1 := by
 unfold insw
 have := congrArg List.length (List.takeWhile_append_dropWhile (p := fun q => decide (q.k < c.k)) (l := C))
 rw [List.length_append] at this
 rw [List.length_append,List.length_cons]; omega
section
variable (w0 w : World) (l : List Thing) (b bs : Nat) (v : Value) (p : Nat → Option Nat) (σ : Sto) (K : Nat)
theorem homeFor_bad (ht : Tab w0) (h : Own w0 w (StoX b σ K (bs,v,p) :: l)) (id : Nat) (c : Cp) (hk : c.k < 256) (hc : c.chk ≠ 0) :
  Calls Tryz.prog 156 #[.pointer (some ⟨b,0,none⟩),.int .u32 (id : Int),c.ag] w fun e w' => e = .returned (.tuple #[.pointer none,.int .i64 (c.chk : Int)]) ∧ Own w0 w' (StoX b σ K (bs,v,p) :: l) := by
 obtain ⟨ck,ca,cb,cc⟩ := c
 have hA := h.alloc (.cells #[.int .u8 (ck : Int),.int .i32 ca,.int .i32 cb,.int .i32 cc] 46)
 have HC : Hid (Calls _ _ _ _ _) := check3 _ (ht.quiet hA.fr) ck hk ca cb cc
 have HA : Hid (Own w0 _ _) := hA
 have hx : ¬ ((Cp.chk ⟨ck,ca,cb,cc⟩ : Nat) : Int) = 0 := by omega
 show Calls _ _ #[_,_,.agg #[.int .u8 (ck : Int),.int .i32 ca,.int .i32 cb,.int .i32 cc]] _ _
 change Hid (Calls _ _ _ _ fun e w' => e = .returned (.int .i64 ((Cp.chk ⟨ck,ca,cb,cc⟩ : Nat) : Int)) ∧ _) at HC
 generalize Cp.chk ⟨ck,ca,cb,cc⟩ = x at *
 clear h hA hc
 go_enter Tryz.func156,Tryz.ntmps156
 go_wp2_with fail
 refine HC.out.mono ?_
 rintro e w1 ⟨rfl,hf⟩
 go_wp2
 go_ret2
 exact ⟨rfl,HA.out.quiet hf⟩
theorem homeFor_of (ht : Tab w0) (h : Own w0 w (StoX b σ K (bs,v,p) :: l)) (id : Nat) (c : Cp) (hk : c.k < 256) (hc : c.chk = 0) (hp : Option Addr) (er : Int)
  (HH : ∀ w',Own w0 w' (StoX b σ K (bs,v,p) :: l) → Calls Tryz.prog 152 #[.pointer (some ⟨b,0,none⟩),.int .u32 (id : Int)] w' fun e w'' => e = .returned (.tuple #[.pointer hp,.int .i64 er]) ∧ Own w0 w'' (StoX b σ K (bs,v,p) :: l)) :
  Calls Tryz.prog 156 #[.pointer (some ⟨b,0,none⟩),.int .u32 (id : Int),c.ag] w fun e w' => e = .returned (.tuple #[.pointer hp,.int .i64 er]) ∧ Own w0 w' (StoX b σ K (bs,v,p) :: l) := by
 obtain ⟨ck,ca,cb,cc⟩ := c
 have hA := h.alloc (.cells #[.int .u8 (ck : Int),.int .i32 ca,.int .i32 cb,.int .i32 cc] 46)
 have HC : Hid (Calls _ _ _ _ _) := check3 _ (ht.quiet hA.fr) ck hk ca cb cc
 have HA : Hid (Own w0 _ _) := hA
 have HHH : Hid _ := HH
 show Calls _ _ #[_,_,.agg #[.int .u8 (ck : Int),.int .i32 ca,.int .i32 cb,.int .i32 cc]] _ _
 change Hid (Calls _ _ _ _ fun e w' => e = .returned (.int .i64 ((Cp.chk ⟨ck,ca,cb,cc⟩ : Nat) : Int)) ∧ _) at HC
 rw [hc] at HC
 clear h hA hc HH
 go_enter Tryz.func156,Tryz.ntmps156
 go_wp2_with fail
 refine HC.out.mono ?_
 rintro e w1 ⟨rfl,hf⟩
 have H1 : Hid (Own w0 w1 _) := HA.out.quiet hf
 clear hf
 go_wp2_with fail
 refine (HHH.out _ H1.out).mono ?_
 rintro e w2 ⟨rfl,hO⟩
 have H2 : Hid (Own w0 w2 _) := hO
 clear hO
 go_wp2
 go_ret2
 exact ⟨rfl,H2.out⟩
end
def Sto.cps (σ : Sto) (id : Nat) : List Cp := (((plc (σ.T (σ.hom id)) id).bind fun r => (σ.T (σ.hom id))[r]?).map (·.2)).getD []
theorem Sto.cps_of {σ : Sto} {id r : Nat} {C : List Cp} (hr : plc (σ.T (σ.hom id)) id = some r) (he : (σ.T (σ.hom id))[r]? = some (id,C)) : σ.cps id = C := by
 unfold Sto.cps; rw [hr]; simp [he]
def Sto.turn (σ : Sto) (id : Nat) (C : List Cp) : Sto := (σ.out (σ.hom id) ((plc (σ.T (σ.hom id)) id).getD 0)).put id C
def Sto.add (σ : Sto) (id : Nat) (c : Cp) : Int × Sto :=
 if c.chk ≠ 0 then ((c.chk : Int),σ) else if σ.S.isLive id = false then (7,σ) else if hasK (σ.cps id) c.k then (9,σ) else (0,σ.turn id (insw (σ.cps id) c))
theorem Sto.Ok.ent {σ : Sto} (h : σ.Ok) {id : Nat} (hl : σ.S.isLive id = true) : ∃ r C,plc (σ.T (σ.hom id)) id = some r ∧ (σ.T (σ.hom id))[r]? = some (id,C) ∧ lst (-1) C = 0 ∧ msk C = σ.hom id ∧ σ.hom id < 64 := by
 obtain ⟨h6,_,r,e,hr,he,hx⟩ := h.home hl
 obtain ⟨e1,e2⟩ := e
 simp only at hx
 subst hx
 obtain ⟨a,b⟩ := (h.t _ h6).ok _ (List.mem_of_getElem? he)
 exact ⟨r,e2,hr,he,a,b,h6⟩
theorem Sto.turn_ok {σ : Sto} (h : σ.Ok) {id : Nat} (hl : σ.S.isLive id = true) {C : List Cp} (hC : lst (-1) C = 0) : (σ.turn id C).Ok := by
 obtain ⟨r,_,hr,_⟩ := h.ent hl
 unfold Sto.turn
 rw [hr]
 exact (h.out hl hr).put hC
theorem lst_k {C : List Cp} (h : lst (-1) C = 0) : ∀ q ∈ C,q.k < 256 := fun q hq => by have := chk_k (((lst_iff C).1 h).2 q hq); omega
theorem lst_len {C : List Cp} (h : lst (-1) C = 0) : C.length ≤ 6 := by
 have e := kinds_of h rfl
 have := congrArg List.length e
 rw [List.length_map] at this
 rw [this]
 exact Nat.le_trans (List.length_filter_le _ _) (by simp)
theorem homeGet (w0 w : World) (l : List Thing) (b bs : Nat) (v : Value) (p : Nat → Option Nat) (σ : Sto) (K : Nat) (hσ : σ.Ok) (id : Nat) (hid : id < 4294967296) (hl : σ.S.isLive id = true) (bt0 : Nat) (hp : p (σ.hom id) = some bt0) (h : Own w0 w (StoX b σ K (bs,v,p) :: l)) (k : Nat) (hk : k < 256) :
  Calls Tryz.prog 153 #[.pointer (some ⟨bt0,0,none⟩),.int .u32 (id : Int),.int .u8 (k : Int)] w fun e w' => e = .returned (.tuple #[(if hasK (σ.cps id) k then mkc k (fv (σ.cps id) k) else ⟨0,0,0,0⟩ : Cp).ag,.int .i64 (if hasK (σ.cps id) k then 0 else 10)]) ∧ Own w0 w' (StoX b σ K (bs,v,p) :: l) := by
 obtain ⟨r,C,hr,he,hC,hm,h6⟩ := hσ.ent hl
 obtain ⟨c,hc,hne,hlen,h2⟩ := h.stoB h6 hp
 have hcps := Sto.cps_of hr he
 have hbt : bt (σ.hom id) k = hasK C k := by
  by_cases hk6 : k < 6
  ·rw [← hm]; exact bt_msk C k hk6
  ·cases hb : bt (σ.hom id) k with
   | true => exact absurd (bt_lt h6 hb) hk6
   | false =>
    cases hh : hasK C k with
    | false => rfl
    | true =>
     obtain ⟨q,hq,e⟩ := (hasK_iff _ _).1 hh
     have := chk_k (((lst_iff C).1 hC).2 q hq)
     omega
 have hg : tget (σ.hom id) (σ.T (σ.hom id)) id k = (if hasK C k then 0 else 10,if hasK C k then mkc k (fv C k) else ⟨0,0,0,0⟩) := by
  unfold tget
  rw [hr]
  simp only [he,Option.map_some,Option.getD_some,hbt]
  split <;> rfl
 have k2 := tgetC w0 w _ bt0 _ _ c h2 (hσ.t _ h6) id hid k hk
 rw [hg] at k2
 rw [hcps]
 refine k2.mono ?_
 rintro e w' ⟨rfl,h3⟩
 refine ⟨?_,h3.stoT h6 hp hc hne hlen⟩
 split <;> rfl
theorem addC (w0 w : World) (l : List Thing) (b : Nat) (σ : Sto) (K : Nat) (ht : Tab w0) (h : Own w0 w (Store b σ K :: l)) (hσ : σ.Ok) (id : Nat) (hid : id < 4294967296) (c : Cp) (hk : c.k < 256) (hK : K + 1 < 1000000) :
  Calls Tryz.prog 191 #[.pointer (some ⟨b,0,none⟩),.int .u32 (id : Int),c.ag] w fun e w' => e = .returned (.int .i64 (σ.add id c).1) ∧ Own w0 w' (Store b (σ.add id c).2 (K + 2) :: l) := by
 obtain ⟨bs,v,p,h⟩ := h.stoX
 have hA := (h.allocC c.ar 46).two
 have HA : Hid (Own w0 _ _) := hA
 by_cases hc : c.chk = 0
 ·cases hl : σ.S.isLive id with
  | false =>
   have HV : Hid (σ.add id c = (7,σ)) := by show _ = _; unfold Sto.add; rw [if_neg (by simp [hc]),if_pos hl]
   have HH : Hid (Calls _ _ _ _ _) := homeFor_of w0 _ _ b bs v p σ K ht hA id c hk hc none 7 (fun w' h' => home_dead w0 w' _ b bs v p σ K h' hσ.s id hid hl)
   obtain ⟨ck,ca,cb,cc⟩ := c
   unfold Cp.ag at HH ⊢
   unfold Cp.ar at HH
   clear h hA hσ hl hc HA
   go_enter Tryz.func191,Tryz.ntmps191
   go_wp2_with fail
   refine HH.out.mono ?_
   rintro e w1 ⟨rfl,hO⟩
   have H1 : Hid (Own w0 w1 (StoX b σ K (bs,v,p) :: l)) := hO.two.tail
   clear hO HH
   go_wp2
   go_ret
   rw [HV.out]
   exact ⟨rfl,H1.out.xSto.stoK (by omega)⟩
  | true =>
   obtain ⟨r,C,hr,he,hC,hm,h6⟩ := hσ.ent hl
   have hcps := Sto.cps_of hr he
   obtain ⟨bt0,hp⟩ := stoP h h6 he
   have hn := (hσ.home hl).2.1
   have HH : Hid (Calls _ _ _ _ _) := homeFor_of w0 _ _ b bs v p σ K ht hA id c hk hc (some ⟨bt0,0,none⟩) 0 (fun w' h' => by
    have := home_ok w0 w' _ b bs v p σ K h' hσ.s id hid hl hn h6
    rw [hp,pp_some] at this
    exact this)
   have HG : Hid (∀ w' l',Own w0 w' (StoX b σ K (bs,v,p) :: l') → Calls Tryz.prog 153 #[.pointer (some ⟨bt0,0,none⟩),.int .u32 (id : Int),.int .u8 (c.k : Int)] w' fun e w'' => e = .returned (.tuple #[(if hasK C c.k then mkc c.k (fv C c.k) else ⟨0,0,0,0⟩ : Cp).ag,.int .i64 (if hasK C c.k then 0 else 10)]) ∧ Own w0 w'' (StoX b σ K (bs,v,p) :: l')) := fun w' l' h' => by
    have := homeGet w0 w' l' b bs v p σ K hσ id hid hl bt0 hp h' c.k hk
    rw [hcps] at this
    exact this
   cases hhk : hasK C c.k with
   | true =>
    have HV : Hid (σ.add id c = (9,σ)) := by show _ = _; unfold Sto.add; rw [if_neg (by simp [hc]),if_neg (by simp [hl]),hcps,if_pos hhk]
    rw [hhk] at HG
    simp only [if_true] at HG
    generalize mkc c.k (fv C c.k) = q at *
    obtain ⟨qk,qa,qb,qc⟩ := q
    obtain ⟨ck,ca,cb,cc⟩ := c
    unfold Cp.ag at HH HG ⊢
    unfold Cp.ar at HH
    simp only at HG HH
    clear h hA hσ hl hc HA hr he hC hm hcps hp hn hhk
    go_enter Tryz.func191,Tryz.ntmps191
    go_wp2_with fail
    refine HH.out.mono ?_
    rintro e w1 ⟨rfl,hO⟩
    have H1 : Hid (Own w0 w1 _) := hO
    have q0 := hO.two.cell 0
    simp at q0
    clear hO HH
    go_wp2_with fail
    refine (HG.out _ _ H1.out).mono ?_
    rintro e w2 ⟨rfl,hO⟩
    have H2 : Hid (Own w0 _ (StoX b σ K (bs,v,p) :: l)) := hO.two.tail.alloc (.cells #[.int .u8 (qk : Int),.int .i32 qa,.int .i32 qb,.int .i32 qc] 46)
    clear hO
    go_wp2
    go_ret
    rw [HV.out]
    exact ⟨rfl,H2.out.xSto.stoK (by omega)⟩
   | false =>
    have HV : Hid (σ.add id c = (0,(σ.out (σ.hom id) r).put id (insw C c))) := by show _ = _; unfold Sto.add; rw [if_neg (by simp [hc]),if_neg (by simp [hl]),hcps,if_neg (by simp [hhk])]; unfold Sto.turn; rw [hr]; rfl
    rw [hhk] at HG
    simp only [if_false,Bool.false_eq_true] at HG
    have hlen := lst_len hC
    have hI := insw_ok hC hc hhk
    have hLk := hσ.out hl hr
    have HPL : Hid (∀ w' l',Own w0 w' (StoX b σ K (bs,v,p) :: l') → Calls Tryz.prog 154 #[.pointer (some ⟨b,0,none⟩),.pointer (some ⟨bt0,0,none⟩),.int .u32 (id : Int)] w' fun out w'' => ∃ ao cap,out = .returned (.slice ao C.length cap) ∧ Own w0 w'' (Row 46 4 (.slice ao C.length cap) C.length (ccat C) :: Store b (σ.out (σ.hom id) r) (K + 1) :: l')) := fun w' l' h' => pull_ok w0 w' l' b bs v p σ K h' (σ.hom id) h6 (some bt0) hp (hσ.t _ h6) id hid r (id,C) hr he (by omega)
    have HWI : Hid (∀ w' l' ao cap,Own w0 w' (Row 46 4 (.slice ao C.length cap) C.length (ccat C) :: l') → Calls Tryz.prog 234 #[.slice ao C.length cap,c.ag] w' fun e w'' => ∃ ao' cap',e = .returned (.slice ao' (C.length + 1) cap') ∧ Own w0 w'' (Row 46 4 (.slice ao' (C.length + 1) cap') (C.length + 1) (ccat (insw C c)) :: l')) := fun w' l' ao cap h' => with_ok w0 w' l' C c ao C.length cap rfl (by omega) h'
    have HPU : Hid (∀ w' l' ao cap,Own w0 w' (Row 46 4 (.slice ao (C.length + 1) cap) (C.length + 1) (ccat (insw C c)) :: Store b (σ.out (σ.hom id) r) (K + 1) :: l') → Calls Tryz.prog 203 #[.pointer (some ⟨b,0,none⟩),.int .u32 (id : Int),.slice ao (C.length + 1) cap] w' fun e w'' => e = .returned (.tuple #[]) ∧ Own w0 w'' (Store b ((σ.out (σ.hom id) r).put id (insw C c)) (K + 2) :: l')) := by
     intro w' l' ao cap h'
     obtain ⟨bs',v',p',h2⟩ := h'.two.stoX
     have hli := St.live_lt hLk.s hLk.li
     refine (put_ok w0 w' _ b bs' v' p' _ (K + 1) ht h2 id hid (by rw [hLk.ml]; exact hli.2) ao (C.length + 1) cap (insw C c) (insw_len C c) (fun w'' h'' => Own.rcs h'' (insw_len C c)) (lst_k hI) (by omega) hI (hLk.t _ (msk64 _)) (hLk.none (msk64 _)) (by omega)).mono ?_
     rintro e w'' ⟨rfl,h3⟩
     exact ⟨rfl,h3.two.tail⟩
    obtain ⟨ck,ca,cb,cc⟩ := c
    unfold Cp.ag at HH HG HWI ⊢
    unfold Cp.ar at HH
    simp only at HG HH HWI
    clear h hA hσ hl hc HA hr he hC hm hcps hp hn hhk hI hLk
    generalize C.length = n at *
    go_enter Tryz.func191,Tryz.ntmps191
    go_wp2_with fail
    refine HH.out.mono ?_
    rintro e w1 ⟨rfl,hO⟩
    have H1 : Hid (Own w0 w1 _) := hO
    have q0 := hO.two.cell 0
    simp at q0
    clear hO HH
    go_wp2_with fail
    refine (HG.out _ _ H1.out).mono ?_
    rintro e w2 ⟨rfl,hO⟩
    have hO2 := hO.alloc (.cells #[.int .u8 0,.int .i32 0,.int .i32 0,.int .i32 0] 46)
    have H2 : Hid (Own w0 _ _) := hO2
    have s0 := hO2.two.cell 0
    have s1 := hO2.two.cell 1
    have s2 := hO2.two.cell 2
    have s3 := hO2.two.cell 3
    simp at s0 s1 s2 s3
    clear hO hO2 H1 q0
    go_wp2_with fail
    go_region_with (first
     | (go_at_call 154
        refine (HPL.out _ _ H2.out.drew).mono ?_
        rintro e w3 ⟨a3,c3,rfl,hO⟩
        have t0 := hO.three.cell 0
        have t1 := hO.three.cell 1
        have t2 := hO.three.cell 2
        have t3 := hO.three.cell 3
        simp at t0 t1 t2 t3
        have H3 : Hid (Own w0 w3 _) := hO
        clear hO)
     | (go_at_call 234
        refine (HWI.out _ _ _ _ H3.out).mono ?_
        rintro e w4 ⟨a4,c4,rfl,hO⟩
        have H4 : Hid (Own w0 w4 _) := hO
        clear hO)
     | (go_at_call 203
        refine (HPU.out _ _ _ _ H4.out).mono ?_
        rintro e w5 ⟨rfl,hO⟩
        have H5 : Hid (Own w0 w5 _) := hO
        clear hO))
    all_goals
     go_wp2
     go_ret
     rw [HV.out]
     exact ⟨rfl,H5.out.two.tail⟩
 ·have HV : Hid (σ.add id c = ((c.chk : Int),σ)) := by show _ = _; unfold Sto.add; rw [if_pos hc]
  have HH : Hid (Calls _ _ _ _ _) := homeFor_bad w0 _ _ b bs v p σ K ht hA id c hk hc
  have hx : ¬ ((c.chk : Nat) : Int) = 0 := by omega
  generalize c.chk = x at *
  obtain ⟨ck,ca,cb,cc⟩ := c
  unfold Cp.ag at HH ⊢
  unfold Cp.ar at HH
  clear h hA hσ hc HA
  go_enter Tryz.func191,Tryz.ntmps191
  go_wp2_with fail
  refine HH.out.mono ?_
  rintro e w1 ⟨rfl,hO⟩
  have H1 : Hid (Own w0 w1 (StoX b σ K (bs,v,p) :: l)) := hO.two.tail
  clear hO HH
  go_wp2
  go_ret
  rw [HV.out]
  exact ⟨rfl,H1.out.xSto.stoK (by omega)⟩
end Go.Proofs.YtogmdoiecpihdaaGreatDoor
