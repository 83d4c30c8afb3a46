/- A store's put and pull. -/
import Derived.Test.YtogmdoiecpihdaaGreatDoorQw12
import Derived.Test.YtogmdoiecpihdaaGreatDoorQw13
namespace Go.Proofs.YtogmdoiecpihdaaGreatDoor
open Go.RowKit Go.Maps
set_option linter.unusedVariables false
set_option maxHeartbeats 1000000
theorem tadd_put {m : Nat} {L : List Ent} {id : Nat} {C : List Cp} (h1 : lst (-1) C = 0) (h2 : msk C = m) (h3 : plc L id = none) : tadd m L id C = (0,L ++ [(id,C)]) := by
 unfold tadd; rw [if_neg (by simp [h1]),if_neg (by simp [h2]),if_neg (by rw [h3]; simp)]
theorem Own.stoBX {w0 w : World} {l : List Thing} {b bs : Nat} {v : Value} {p : Nat → Option Nat} {σ : Sto} {K K' m bt c : Nat} {L : List Ent} (h : Own w0 w (Table bt m L c :: StoB b σ K (bs,v,p) m :: l)) (hm : m < 64) (hp : p m = some bt) (hK : K ≤ K') (hc : c ≤ K') (hL : L ≠ []) (hl : L.length ≤ K') : Own w0 w (StoX b { σ with T := upd σ.T m L } K' (bs,v,p) :: l) := by
 have e : upd p m (some bt) = p := by
  funext j
  unfold upd
  split
  ·rename_i q; rw [q,hp]
  ·rfl
 have h2 := h.tabShut hc hL hl
 rw [← e] at h2
 have := h2.stoI hm hK
 rw [e] at this
 exact this
set_option maxRecDepth 100000 in
theorem put_ok (w0 w : World) (l : List Thing) (b bs : Nat) (v : Value) (p : Nat → Option Nat) (σ : Sto) (K : Nat) (ht : Tab w0) (h : Own w0 w (StoX b σ K (bs,v,p) :: l)) (id : Nat) (hid : id < 4294967296) (hm : id % 1024 < σ.mks.length)
  (ao : Option Addr) (len cap : Nat) (C : List Cp) (hCl : C.length = len) (hCs : ∀ w',Own w0 w' l → Cs w' ao C) (hCk : ∀ q ∈ C,q.k < 256) (hlen : len ≤ 1000000) (hC : lst (-1) C = 0) (hT : TOk (msk C) (σ.T (msk C))) (hp : plc (σ.T (msk C)) id = none) (hK : K < 1000000) :
  Calls Tryz.prog 203 #[.pointer (some ⟨b,0,none⟩),.int .u32 (id : Int),.slice ao len cap] w fun e w' => e = .returned (.tuple #[]) ∧ Own w0 w' (Store b (σ.put id C) (K + 1) :: l) := by
 have H : Hid (Own w0 w (StoX b σ K (bs,v,p) :: l)) := h
 have h6 : msk C < 64 := hT.m64
 obtain ⟨g,cp,rfl,_,_,_⟩ := stoMk h (id % 1024) hm
 have HCs : Hid (∀ w',Own w0 w' l → Cs w' ao C) := hCs
 have HMK : Hid (Calls _ _ _ _ _) := mask_any w ao len cap C hCl (hCs _ h.tail) hCk hlen
 have HSL : Hid (∀ w',Calls Tryz.prog 126 #[.int .u32 (id : Int)] w' fun e w'' => e = .returned (.int .i64 ((id % 1024 : Nat) : Int)) ∧ w'' = w') := fun w' => slot_any id w' hid
 have HC4 : Hid (∀ w' p',Own w0 w' (StoX b { σ with T := upd σ.T (msk C) (σ.T (msk C) ++ [(id,C)]) } (K + 1) (bs,.slice (some ⟨g,0,none⟩) σ.mks.length cp,p') :: l) → w'.cell? ⟨b,1,none⟩ = some (.slice (some ⟨g,0,none⟩) σ.mks.length cp) ∧ (∃ u,w'.cell? ⟨g,id % 1024,none⟩ = some u) ∧ w'.frozen? ⟨g,id % 1024,none⟩ = false) := by
  intro w' p' h'
  obtain ⟨g',cp',he,q1,q2,_⟩ := stoMk h' (id % 1024) hm
  cases he
  exact ⟨(stoCells h').2.1,⟨_,q1⟩,q2⟩
 have HFIN : Hid (∀ w' p',Own w0 w' (StoX b { σ with T := upd σ.T (msk C) (σ.T (msk C) ++ [(id,C)]) } (K + 1) (bs,.slice (some ⟨g,0,none⟩) σ.mks.length cp,p') :: l) → Own w0 (w'.setCell ⟨g,id % 1024,none⟩ (.int .u8 ((msk C : Nat) : Int))) (Store b (σ.put id C) (K + 1) :: l)) := fun w' p' h' => (Own.stoMset (σ := { σ with T := upd σ.T (msk C) (σ.T (msk C) ++ [(id,C)]) }) h' (id % 1024) (msk C)).xSto
 have HADD : Hid (∀ w' l' bt c,Own w0 w' (Table bt (msk C) (σ.T (msk C)) c :: l') → (∀ w'',Own w0 w'' l' → Cs w'' ao C) → (σ.T (msk C)).length ≤ 1000000 → c ≤ 1000000 → Calls Tryz.prog 242 #[.pointer (some ⟨bt,0,none⟩),.int .u32 (id : Int),.slice ao len cap] w' fun e w'' => e = .returned (.int .i64 0) ∧ Own w0 w'' (Table bt (msk C) (σ.T (msk C) ++ [(id,C)]) (c + 1) :: l')) := by
  intro w' l' bt c h' hc' hl' hcc
  have := taddC w0 w' l' bt (msk C) (σ.T (msk C)) c ht h' hT id hid ao len cap C hCl hc' hCk hlen hl' hcc
  rw [tadd_put hC rfl hp] at this
  exact this
 have HNEW : Hid (∀ w' l',Own w0 w' l' → Calls Tryz.prog 241 #[.int .u8 ((msk C : Nat) : Int)] w' fun e w'' => ∃ bt,e = .returned (.tuple #[.pointer (some ⟨bt,0,none⟩),.int .i64 0]) ∧ Own w0 w'' (Table bt (msk C) [] 0 :: l')) := fun w' l' h' => tnew w0 w' l' (msk C) h' h6
 have qt := (stoCells h).2.2 _ h6
 have h6' : ((msk C : Nat) : Int) < 64 := by omega
 have hm' : ((id % 1024 : Nat) : Int) < (σ.mks.length : Int) := by omega
 cases hpm : p (msk C) with
 | none =>
  obtain ⟨hTe,hB⟩ := h.stoN h6 hpm
  have HB : Hid (∀ w',Fr Nobody w w' → Own w0 w' (StoB b σ K (bs,.slice (some ⟨g,0,none⟩) σ.mks.length cp,p) (msk C) :: l)) := fun w' hf => hB.quiet hf
  have HTE : Hid (σ.T (msk C) = []) := hTe
  have HTL : Hid ((σ.T (msk C)).length ≤ 1000000) := by show _ ≤ _; rw [hTe]; simp
  have HTL2 : Hid ((σ.T (msk C)).length ≤ K) := by show _ ≤ _; rw [hTe]; simp
  have HPM : Hid (p (msk C) = none) := hpm
  clear qt
  clear h hB hTe hT hp hC hCs hCk hid hlen hCl hpm
  generalize msk C = m at *
  generalize id % 1024 = s at *
  go_enter Tryz.func203,Tryz.ntmps203
  go_wp2_with fail
  refine HMK.out.mono ?_
  rintro e w1 ⟨rfl,hf⟩
  have hB1 := HB.out _ hf
  have HB1 : Hid (Own w0 w1 _) := hB1
  have qt1 := (hB1.stoBcell m h6).1
  rw [HPM.out,pp_none] at qt1
  clear hB1 hf HMK HB
  go_wp2_with fail
  go_region_with (
   go_at_call 241
   refine (HNEW.out _ _ HB1.out.drew).mono ?_
   rintro e w2 ⟨bt,rfl,hO⟩
   have qz := hO.two.stoBcell m h6
   rw [HPM.out,pp_none] at qz
   obtain ⟨qc,qz⟩ := qz
   have HO3 : Hid (Own w0 (w2.setCell ⟨b,2 + m,none⟩ (.pointer (some ⟨bt,0,none⟩))) (Table bt m (σ.T m) 0 :: StoB b σ K (bs,.slice (some ⟨g,0,none⟩) σ.mks.length cp,upd p m (some bt)) m :: l)) := by rw [HTE.out]; exact (hO.two.stoBset h6 (some bt)).two
   clear hO)
  all_goals
   have qp := (HO3.out.two.stoBcell m h6).1
   rw [upd_same,pp_some] at qp
   generalize hw3 : (w2.setCell ⟨b,2 + m,none⟩ (.pointer (some ⟨bt,0,none⟩))) = w3 at *
   clear hw3 qc qz qt1 HB1
   go_wp2_with fail
   refine (HADD.out _ _ bt 0 HO3.out (fun w'' h'' => HCs.out _ h''.tail) HTL.out (by omega)).mono ?_
   rintro e w4 ⟨rfl,hO4⟩
   have hX := hO4.stoBX h6 (upd_same _ _ _) (Nat.le_succ K) (by omega) (by simp) (by have := HTL2.out; simp; omega)
   have HX : Hid (Own w0 w4 _) := hX
   obtain ⟨q1,⟨u,qu⟩,qf⟩ := HC4.out _ _ hX
   clear hO4 hX qp HADD HNEW
   go_wp2_with fail
   go_region_with (
    go_at_call 126
    refine (HSL.out _).mono ?_
    rintro e w' ⟨rfl,rfl⟩)
   all_goals
    go_wp2
    go_end0
    exact ⟨rfl,HFIN.out _ _ HX.out.drew⟩
 | some bt =>
  obtain ⟨c,hcK,hTne,hTl,hB⟩ := h.stoB h6 hpm
  have HB : Hid (∀ w',Fr Nobody w w' → Own w0 w' (Table bt (msk C) (σ.T (msk C)) c :: StoB b σ K (bs,.slice (some ⟨g,0,none⟩) σ.mks.length cp,p) (msk C) :: l)) := fun w' hf => hB.quiet hf
  have HTL : Hid ((σ.T (msk C)).length ≤ 1000000) := by show _ ≤ _; omega
  have HTL2 : Hid ((σ.T (msk C)).length ≤ K) := hTl
  have HPM : Hid (p (msk C) = some bt) := hpm
  clear qt
  clear h hB hT hp hC hCs hCk hid hlen hCl hpm hTl hTne
  generalize msk C = m at *
  generalize id % 1024 = s at *
  go_enter Tryz.func203,Tryz.ntmps203
  go_wp2_with fail
  refine HMK.out.mono ?_
  rintro e w1 ⟨rfl,hf⟩
  have hB1 := HB.out _ hf
  have HB1 : Hid (Own w0 w1 _) := hB1
  have qt1 := (hB1.two.stoBcell m h6).1
  rw [HPM.out,pp_some] at qt1
  clear hB1 hf HMK HB
  go_wp2_with fail
  refine (HADD.out _ _ bt c HB1.out (fun w'' h'' => HCs.out _ h''.tail) HTL.out (by omega)).mono ?_
  rintro e w4 ⟨rfl,hO4⟩
  have hX := hO4.stoBX h6 HPM.out (Nat.le_succ K) (by omega) (by simp) (by have := HTL2.out; simp; omega)
  have HX : Hid (Own w0 w4 _) := hX
  obtain ⟨q1,⟨u,qu⟩,qf⟩ := HC4.out _ _ hX
  clear hO4 hX qt1 HADD HNEW
  go_wp2_with fail
  go_region_with (
   go_at_call 126
   refine (HSL.out _).mono ?_
   rintro e w' ⟨rfl,rfl⟩)
  all_goals
   go_wp2
   go_end0
   exact ⟨rfl,HFIN.out _ _ HX.out.drew⟩
theorem gd_set_same {α : Type} (l : List α) (i : Nat) (x d : α) (h : i < l.length) : (l.set i x).getD i d = x := by rw [List.getD_eq_getElem?_getD,List.getElem?_set_self h]; rfl
theorem gd_set_other {α : Type} (l : List α) (i k : Nat) (x d : α) (h : k ≠ i) : (l.set i x).getD k d = l.getD k d := by rw [List.getD_eq_getElem?_getD,List.getElem?_set_ne (fun q => h q.symm),List.getD_eq_getElem?_getD]
theorem gd_snoc_same {α : Type} (l : List α) (x d : α) (k : Nat) (h : k = l.length) : (l ++ [x]).getD k d = x := by rw [h,List.getD_eq_getElem?_getD,List.getElem?_append_right (Nat.le_refl _)]; simp
theorem gd_snoc_other {α : Type} (l : List α) (x d : α) (k : Nat) (h : k ≠ l.length) : (l ++ [x]).getD k d = l.getD k d := by
 rw [List.getD_eq_getElem?_getD,List.getD_eq_getElem?_getD]
 rcases Nat.lt_or_gt_of_ne h with c | c
 ·rw [List.getElem?_append_left c]
 ·rw [List.getElem?_eq_none (by simp; omega),List.getElem?_eq_none (by omega)]
theorem gd_some {α : Type} {l : List α} {i : Nat} {d x : α} (h : l[i]? = some x) : l.getD i d = x := by rw [List.getD_eq_getElem?_getD,h]; rfl
theorem gd_none {α : Type} {l : List α} {i : Nat} {d : α} (h : l.length ≤ i) : l.getD i d = d := by rw [List.getD_eq_getElem?_getD,List.getElem?_eq_none h]; rfl
theorem St.live_lt {S : St} (h : S.Ok) {id : Nat} (hl : S.isLive id = true) : id < 4294967296 ∧ id % 1024 < S.n := by
 obtain ⟨_,b⟩ := (S.isLive_iff h id).1 hl
 exact ⟨(h.id _ _ b).2.2,Nat.lt_of_lt_of_le (List.getElem?_eq_some_iff.1 b).1 h.le⟩
theorem St.live_one {S : St} (h : S.Ok) {x y : Nat} (hx : S.isLive x = true) (hy : S.isLive y = true) (he : x % 1024 = y % 1024) : x = y := by
 obtain ⟨_,a⟩ := (S.isLive_iff h x).1 hx
 obtain ⟨_,b⟩ := (S.isLive_iff h y).1 hy
 rw [he,b] at a
 exact (Option.some.inj a).symm
theorem St.take_live {S : St} (h : S.Ok) (he : S.take.2.1 = 0) : S.isLive S.take.1 = false ∧ ∀ x,S.take.2.2.isLive x = (decide (x = S.take.1) || S.isLive x) := by
 cases hf : S.freed.getLast? with
 | some f =>
  have ht : S.take = (S.last.getD f 0 + 1024,0,S.again f) := by unfold St.take; rw [hf]
  have hm : f ∈ S.freed := by rw [dropLast_of _ _ hf]; simp
  obtain ⟨hu,x,hx,_⟩ := h.fr f hm
  obtain ⟨h1,h2,h3⟩ := h.id f x hx
  have hlt := (List.getElem?_eq_some_iff.1 hx).1
  have hlu := (List.getElem?_eq_some_iff.1 hu).1
  rw [ht]
  simp only [gd_some hx]
  have hmod : (x + 1024) % 1024 = f := by omega
  refine ⟨by unfold St.isLive; rw [hmod,gd_some hu]; rfl,fun y => ?_⟩
  unfold St.isLive St.again
  simp only [gd_some hx]
  by_cases c : y % 1024 = f
  ·rw [c,gd_set_same _ _ _ _ hlu,gd_set_same _ _ _ _ hlt,gd_some hu]
   by_cases d : y = x + 1024
   ·subst d; simp
   ·have : ¬ x + 1024 = y := fun q => d q.symm
    simp [d,this]
  ·rw [gd_set_other _ _ _ _ _ c,gd_set_other _ _ _ _ _ c]
   have d : ¬ y = x + 1024 := fun q => c (by rw [q]; exact hmod)
   simp [d]
 | none =>
  by_cases hl : S.last.length < S.n
  ·have ht : S.take = (S.first * 1024 + S.last.length,0,S.more) := by unfold St.take; rw [hf]; simp [hl]
   rw [ht]
   simp only
   have h2 := h.n2
   have hul := h.ul
   have hmod : (S.first * 1024 + S.last.length) % 1024 = S.last.length := by omega
   refine ⟨by unfold St.isLive; rw [hmod,gd_none (by omega)]; rfl,fun y => ?_⟩
   unfold St.isLive St.more
   simp only
   by_cases c : y % 1024 = S.last.length
   ·rw [c,gd_snoc_same _ _ _ _ hul.symm,gd_snoc_same _ _ _ _ rfl,gd_none (l := S.used) (by omega)]
    by_cases d : y = S.first * 1024 + S.last.length
    ·subst d; simp
    ·have : ¬ S.first * 1024 + S.last.length = y := fun q => d q.symm
     simp [d,this]
   ·rw [gd_snoc_other _ _ _ _ (by omega),gd_snoc_other _ _ _ _ c]
    have d : ¬ y = S.first * 1024 + S.last.length := fun q => c (by rw [q]; exact hmod)
    simp [d]
  ·have ht : S.take = (0,8,S) := by unfold St.take; rw [hf]; simp [hl]
   rw [ht] at he
   simp at he
theorem St.free_live {S : St} (h : S.Ok) {id : Nat} (hl : S.isLive id = true) : S.free id = (0,S.less id) ∧ ∀ x,(S.less id).isLive x = (S.isLive x && !decide (x = id)) := by
 refine ⟨by unfold St.free; rw [if_pos hl],fun x => ?_⟩
 obtain ⟨hu,hx⟩ := (S.isLive_iff h id).1 hl
 have hlu := (List.getElem?_eq_some_iff.1 hu).1
 unfold St.isLive St.less
 simp only
 by_cases c : x % 1024 = id % 1024
 ·rw [c,gd_set_same _ _ _ _ hlu,gd_some hu,gd_some hx]
  by_cases d : x = id
  ·subst d; simp
  ·have : ¬ id = x := fun q => d q.symm
   simp [d,this]
 ·rw [gd_set_other _ _ _ _ _ c]
  have d : ¬ x = id := fun q => c (by rw [q])
  simp [d]
structure Sto.Ok (σ : Sto) : Prop where
 s : σ.S.Ok
 ml : σ.mks.length = σ.S.n
 t : ∀ m,m < 64 → TOk m (σ.T m)
 lv : ∀ m,m < 64 → ∀ e ∈ σ.T m,σ.S.isLive e.1 = true ∧ σ.mks[e.1 % 1024]? = some m
 hm : ∀ x,σ.S.isLive x = true → ∃ m,m < 64 ∧ σ.mks[x % 1024]? = some m ∧ ∃ r,plc (σ.T m) x = some r
structure Sto.Lack (σ : Sto) (id : Nat) : Prop where
 s : σ.S.Ok
 ml : σ.mks.length = σ.S.n
 t : ∀ m,m < 64 → TOk m (σ.T m)
 li : σ.S.isLive id = true
 lv : ∀ m,m < 64 → ∀ e ∈ σ.T m,e.1 ≠ id ∧ σ.S.isLive e.1 = true ∧ σ.mks[e.1 % 1024]? = some m
 hm : ∀ x,x ≠ id → σ.S.isLive x = true → ∃ m,m < 64 ∧ σ.mks[x % 1024]? = some m ∧ ∃ r,plc (σ.T m) x = some r
theorem msk64 (C : List Cp) : msk C < 64 := mskN_lt C 6
theorem Sto.Lack.none {σ : Sto} {id : Nat} (h : σ.Lack id) {m : Nat} (hm : m < 64) : plc (σ.T m) id = Option.none := (plc_none _ _).2 (fun e he => (h.lv m hm e he).1)
theorem Sto.Lack.put {σ : Sto} {id : Nat} (h : σ.Lack id) {C : List Cp} (hC : lst (-1) C = 0) : (σ.put id C).Ok := by
 have h6 := msk64 C
 obtain ⟨hi,hn⟩ := St.live_lt h.s h.li
 rw [← h.ml] at hn
 have hset : (σ.mks.set (id % 1024) (msk C))[id % 1024]? = some (msk C) := List.getElem?_set_self hn
 have hother : ∀ x,x ≠ id → σ.S.isLive x = true → (σ.mks.set (id % 1024) (msk C))[x % 1024]? = σ.mks[x % 1024]? := fun x hx hl => List.getElem?_set_ne (fun q => hx (St.live_one h.s hl h.li q.symm))
 refine ⟨h.s,by simp [Sto.put,h.ml],?_,?_,?_⟩
 ·intro m hm
  show TOk m (upd σ.T (msk C) _ m)
  by_cases c : m = msk C
  ·subst c
   rw [upd_same]
   exact (h.t _ hm).snoc (id,C) hi (h.none hm) hC rfl
  ·rw [upd_other _ _ _ c]; exact h.t m hm
 ·intro m hm e he
  show σ.S.isLive e.1 = true ∧ (σ.mks.set (id % 1024) (msk C))[e.1 % 1024]? = some m
  replace he : e ∈ upd σ.T (msk C) (σ.T (msk C) ++ [(id,C)]) m := he
  have old : e ∈ σ.T m → σ.S.isLive e.1 = true ∧ (σ.mks.set (id % 1024) (msk C))[e.1 % 1024]? = some m := fun he => by
   obtain ⟨a,b,c⟩ := h.lv m hm e he
   exact ⟨b,by rw [hother _ a b]; exact c⟩
  by_cases c : m = msk C
  ·subst c
   rw [upd_same] at he
   rcases List.mem_append.1 he with he | he
   ·exact old he
   ·simp at he
    subst he
    exact ⟨h.li,hset⟩
  ·rw [upd_other _ _ _ c] at he; exact old he
 ·intro x hl
  by_cases hx : x = id
  ·subst hx
   refine ⟨msk C,h6,hset,(σ.T (msk C)).length,?_⟩
   show plc (upd σ.T (msk C) _ (msk C)) x = _
   rw [upd_same,plc_snoc _ (x,C) (h.none h6)]; simp
  ·obtain ⟨m,hm,h1,r,h2⟩ := h.hm x hx hl
   refine ⟨m,hm,(hother x hx hl).trans h1,r,?_⟩
   show plc (upd σ.T (msk C) _ m) x = _
   by_cases c : m = msk C
   ·subst c
    rw [upd_same,plc_snoc _ (id,C) (h.none hm),if_neg hx]; exact h2
   ·rw [upd_other _ _ _ c]; exact h2
theorem Sto.Ok.home {σ : Sto} (h : σ.Ok) {id : Nat} (hl : σ.S.isLive id = true) : σ.hom id < 64 ∧ id % 1024 < σ.mks.length ∧ ∃ r e,plc (σ.T (σ.hom id)) id = some r ∧ (σ.T (σ.hom id))[r]? = some e ∧ e.1 = id := by
 obtain ⟨m,hm,h1,r,h2⟩ := h.hm id hl
 have e : σ.hom id = m := gd_some h1
 obtain ⟨en,he,hx⟩ := (plc_some (h.t m hm).ap id r).1 h2
 rw [e]
 exact ⟨hm,(List.getElem?_eq_some_iff.1 h1).1,r,en,h2,he,hx⟩
theorem Sto.Ok.out {σ : Sto} (h : σ.Ok) {id r : Nat} (hl : σ.S.isLive id = true) (hr : plc (σ.T (σ.hom id)) id = some r) : (σ.out (σ.hom id) r).Lack id := by
 obtain ⟨h6,hn,_⟩ := h.home hl
 generalize hk : σ.hom id = k at *
 have hlt := plc_lt hr
 have hT := h.t k h6
 obtain ⟨last,hlast⟩ : ∃ e,(σ.T k)[(σ.T k).length - 1]? = some e := ⟨_,List.getElem?_eq_getElem (by omega)⟩
 have hmk : σ.mks[id % 1024]? = some k := by
  obtain ⟨m,_,h1,_⟩ := h.hm id hl
  rw [h1,← hk]; congr 1; exact (gd_some h1).symm
 refine ⟨h.s,h.ml,?_,hl,?_,?_⟩
 ·intro m hm
  show TOk m (upd σ.T k _ m)
  by_cases c : m = k
  ·subst c; rw [upd_same]; exact hT.outr r hlt
  ·rw [upd_other _ _ _ c]; exact h.t m hm
 ·intro m hm e he
  replace he : e ∈ upd σ.T k (outr (σ.T k) r) m := he
  by_cases c : m = k
  ·subst c
   rw [upd_same] at he
   refine ⟨?_,h.lv m hm e (mem_outr hlt he)⟩
   have hp := plc_outr hT.ap hr hlast id
   rw [if_pos rfl,plc_none] at hp
   exact hp e he
  ·rw [upd_other _ _ _ c] at he
   obtain ⟨a,b⟩ := h.lv m hm e he
   refine ⟨?_,a,b⟩
   intro q
   rw [q,hmk] at b
   exact c (Option.some.inj b).symm
 ·intro x hx hlx
  obtain ⟨m,hm,h1,r',h2⟩ := h.hm x hlx
  refine ⟨m,hm,h1,?_⟩
  show ∃ r',plc (upd σ.T k _ m) x = some r'
  by_cases c : m = k
  ·subst c
   rw [upd_same,plc_outr hT.ap hr hlast x,if_neg hx]
   split
   ·exact ⟨_,rfl⟩
   ·exact ⟨_,h2⟩
  ·rw [upd_other _ _ _ c]; exact ⟨_,h2⟩
theorem Sto.Ok.take {σ : Sto} (h : σ.Ok) (he : σ.S.take.2.1 = 0) : (Sto.Lack { σ with S := σ.S.take.2.2 } σ.S.take.1) := by
 obtain ⟨h1,h2⟩ := St.take_live h.s he
 have hne : ∀ x,σ.S.isLive x = true → x ≠ σ.S.take.1 := fun x hx q => by rw [q,h1] at hx; cases hx
 refine ⟨St.take_ok h.s,h.ml.trans (St.take_n _).1.symm,h.t,by simp [h2],?_,?_⟩
 ·intro m hm e hx
  obtain ⟨a,b⟩ := h.lv m hm e hx
  exact ⟨hne _ a,by simp [h2,a],b⟩
 ·intro x hx hl
  simp [h2,hx] at hl
  exact h.hm x hl
theorem Sto.Lack.free {σ : Sto} {id : Nat} (h : σ.Lack id) : (Sto.Ok { σ with S := σ.S.less id }) := by
 obtain ⟨_,h2⟩ := St.free_live h.s h.li
 refine ⟨St.less_ok h.s h.li,h.ml,h.t,?_,?_⟩
 ·intro m hm e he
  obtain ⟨a,b,c⟩ := h.lv m hm e he
  exact ⟨by simp [h2,b,a],c⟩
 ·intro x hx
  simp [h2] at hx
  exact h.hm x hx.2 hx.1
def Sto.new (n f : Nat) : Sto := ⟨St.new n f,List.replicate n 0,fun _ => []⟩
theorem Sto.new_ok (n f : Nat) (h1 : 1 ≤ n) (h2 : n ≤ 1024) (h3 : 1 ≤ f) (h4 : f ≤ 4194303) : (Sto.new n f).Ok :=
 ⟨St.new_ok n f h1 h2 h3 h4,by simp [Sto.new,St.new],fun m hm => TOk.nil hm,by simp [Sto.new],fun x hx => by simp [Sto.new,St.new,St.isLive] at hx⟩
set_option maxRecDepth 100000 in
theorem pull_ok (w0 w : World) (l : List Thing) (b bs : Nat) (v : Value) (p : Nat → Option Nat) (σ : Sto) (K : Nat) (h : Own w0 w (StoX b σ K (bs,v,p) :: l)) (m : Nat) (hm : m < 64) (pt : Option Nat) (hp : p m = pt) (hT : TOk m (σ.T m)) (id : Nat) (hid : id < 4294967296) (r : Nat) (e : Ent) (hr : plc (σ.T m) id = some r) (he : (σ.T m)[r]? = some e) (hK : K < 1000000) :
  Calls Tryz.prog 154 #[.pointer (some ⟨b,0,none⟩),.pointer (pp pt),.int .u32 (id : Int)] w fun out w' => ∃ ao cap,out = .returned (.slice ao e.2.length cap) ∧ Own w0 w' (Row 46 4 (.slice ao e.2.length cap) e.2.length (ccat e.2) :: Store b (σ.out m r) (K + 1) :: l) := by
 cases pt with
 | none => exact absurd (h.stoN hm hp).1 (fun q => by rw [q] at he; simp at he)
 | some bt =>
 rw [pp_some]
 obtain ⟨c,hc,hne,hlen,hO⟩ := h.stoB hm hp
 have HR : Hid (Calls _ _ _ _ _) := tremC w0 w _ bt m (σ.T m) c hO hT id hid r e hr he (by omega) (by omega)
 have hrl := (List.getElem?_eq_some_iff.1 he).1
 have hol : (outr (σ.T m) r).length = (σ.T m).length - 1 := length_outr _ _ hrl
 have HE : Hid (∀ w' l',Own w0 w' (Table bt m (outr (σ.T m) r) (c + 1) :: StoB b σ K (bs,v,p) m :: l') → outr (σ.T m) r ≠ [] → Own w0 w' (Store b (σ.out m r) (K + 1) :: l')) := fun w' l' h' hn => (h'.stoBX hm hp (by omega) (by omega) hn (by omega)).xSto
 have HZ : Hid (∀ w' l',Own w0 w' (StoB b σ K (bs,v,upd p m none) m :: l') → outr (σ.T m) r = [] → Own w0 w' (Store b (σ.out m r) (K + 1) :: l')) := fun w' l' h' hn => ((h'.tabEmpty hn).stoI hm (by omega)).xSto
 have HLN : Hid (∀ w' l',Own w0 w' (Table bt m (outr (σ.T m) r) (c + 1) :: l') → Calls Tryz.prog 200 #[.pointer (some ⟨bt,0,none⟩)] w' fun e w'' => e = .returned (.int .i64 ((outr (σ.T m) r).length : Int)) ∧ w'' = w') := fun w' l' h' => by have := tlen w0 w' l' bt m _ _ _ _ h'; rw [length_ids] at this; exact this
 have HMM : Hid (∀ w' l',Own w0 w' (Table bt m (outr (σ.T m) r) (c + 1) :: l') → Calls Tryz.prog 201 #[.pointer (some ⟨bt,0,none⟩)] w' fun e w'' => e = .returned (.int .u8 (m : Int)) ∧ w'' = w') := fun w' l' h' => tmask w0 w' l' bt m _ _ _ _ h'
 clear h hO hT hr he hrl hol hlen hne hid hc hK
 generalize outr (σ.T m) r = L2 at *
 generalize e.2 = C at *
 have hm' : (m : Int) < 64 := by omega
 by_cases hz : L2 = []
 ·subst hz
  go_enter Tryz.func154,Tryz.ntmps154
  go_wp2_with fail
  refine HR.out.mono ?_
  rintro out w1 ⟨ao,cap,rfl,hO⟩
  have H1 : Hid (Own w0 w1 (Table bt m [] (c + 1) :: Row 46 4 (.slice ao C.length cap) C.length (ccat C) :: StoB b σ K (bs,v,p) m :: l)) := hO.two
  clear hO HR
  go_wp2_with fail
  refine (HLN.out _ _ H1.out).mono ?_
  rintro out w2 ⟨rfl,rfl⟩
  simp only [List.length_nil]
  obtain ⟨qc,qz⟩ := H1.out.three.stoBcell m hm
  have HS : Hid (∀ w',Own w0 w' (StoB b σ K (bs,v,p) m :: Table bt m [] (c + 1) :: Row 46 4 (.slice ao C.length cap) C.length (ccat C) :: l) → Own w0 (w'.setCell ⟨b,2 + m,none⟩ (.pointer none)) (Row 46 4 (.slice ao C.length cap) C.length (ccat C) :: Store b (σ.out m r) (K + 1) :: l)) := fun w' h' => (HZ.out _ _ (h'.stoBset hm none).two.tail (by trivial)).two
  go_wp2_with fail
  go_region_with (
   go_at_call 201
   refine (HMM.out _ _ H1.out.drew).mono ?_
   rintro e w3 ⟨rfl,rfl⟩)
  all_goals
   go_wp2
   go_ret
   exact ⟨ao,cap,rfl,HS.out _ H1.out.three.drew⟩
 ·have hz' : ¬ ((L2.length : Nat) : Int) = 0 := by
   intro q
   exact hz (List.eq_nil_of_length_eq_zero (by omega))
  have HNZ : Hid (L2 ≠ []) := hz
  clear hz
  go_enter Tryz.func154,Tryz.ntmps154
  go_wp2_with fail
  refine HR.out.mono ?_
  rintro out w1 ⟨ao,cap,rfl,hO⟩
  have H1 : Hid (Own w0 w1 (Table bt m L2 (c + 1) :: Row 46 4 (.slice ao C.length cap) C.length (ccat C) :: StoB b σ K (bs,v,p) m :: l)) := hO.two
  clear hO HR
  go_wp2_with fail
  refine (HLN.out _ _ H1.out).mono ?_
  rintro out w2 ⟨rfl,rfl⟩
  go_wp2
  go_ret
  exact ⟨ao,cap,rfl,(HE.out _ _ H1.out.in23 HNZ.out).two⟩
theorem Own.stoK {w0 w : World} {l : List Thing} {b : Nat} {σ : Sto} {K K' : Nat} (hK : K ≤ K') (h : Own w0 w (Store b σ K :: l)) : Own w0 w (Store b σ K' :: l) := by
 obtain ⟨bs,v,p,h⟩ := h.stoX
 exact (Own.stoS (TabsOn.mono hK h.stoO.four).back4).xSto
def Sto.spawn (σ : Sto) (C : List Cp) : Nat × Int × Sto :=
 if lst (-1) C ≠ 0 then (0,(lst (-1) C : Int),σ) else if σ.S.take.2.1 ≠ 0 then (0,σ.S.take.2.1,σ) else (σ.S.take.1,0,Sto.put { σ with S := σ.S.take.2.2 } σ.S.take.1 C)
theorem Sto.spawn_ok {σ : Sto} (h : σ.Ok) (C : List Cp) : (σ.spawn C).2.2.Ok := by
 unfold Sto.spawn
 split
 ·exact h
 ·rename_i h0
  split
  ·exact h
  ·rename_i h1
   exact (h.take (by simpa using h1)).put (by simpa using h0)
def Sto.despawn (σ : Sto) (id : Nat) : Int × Sto :=
 if σ.S.isLive id then (0,{ σ.out (σ.hom id) ((plc (σ.T (σ.hom id)) id).getD 0) with S := σ.S.less id }) else (7,σ)
theorem Sto.despawn_ok {σ : Sto} (h : σ.Ok) (id : Nat) : (σ.despawn id).2.Ok := by
 unfold Sto.despawn
 split
 ·rename_i hl
  obtain ⟨_,_,r,e,hr,_⟩ := h.home hl
  rw [hr]
  exact (h.out hl hr).free
 ·exact h
set_option maxRecDepth 100000 in
theorem spawnC (w0 w : World) (l : List Thing) (b : Nat) (σ : Sto) (K : Nat) (ht : Tab w0) (h : Own w0 w (Store b σ K :: l)) (hσ : σ.Ok)
  (ao : Option Addr) (len cap : Nat) (C : List Cp) (hCl : C.length = len) (hCs : ∀ w',Own w0 w' l → Cs w' ao C) (hCk : ∀ q ∈ C,q.k < 256) (hlen : len ≤ 1000000) (hK : K < 1000000) :
  Calls Tryz.prog 158 #[.pointer (some ⟨b,0,none⟩),.slice ao len cap] w fun e w' => e = .returned (.tuple #[.int .u32 ((σ.spawn C).1 : Int),.int .i64 (σ.spawn C).2.1]) ∧ Own w0 w' (Store b (σ.spawn C).2.2 (K + 1) :: l) := by
 have H : Hid (Own w0 w (Store b σ K :: l)) := h
 have HLS : Hid (Calls _ _ _ _ _) := list_any w (ht.quiet h.fr) ao len cap C hCl (hCs _ h.tail) hCk hlen
 by_cases h0 : lst (-1) C = 0
 ·rw [h0] at HLS
  have HTK : Hid (∀ w',Own w0 w' (Store b σ K :: l) → ∃ bs,w'.cell? ⟨b,0,none⟩ = some (.pointer (some ⟨bs,0,none⟩)) ∧ Calls Tryz.prog 202 #[.pointer (some ⟨bs,0,none⟩)] w' fun e w'' => e = .returned (.tuple #[.int .u32 (σ.S.take.1 : Int),.int .i64 σ.S.take.2.1]) ∧ Own w0 w'' (Store b { σ with S := σ.S.take.2.2 } K :: l)) := by
   intro w' h'
   obtain ⟨bs,v,p,h'⟩ := h'.stoX
   refine ⟨bs,(stoCells h').1,(take_ok w0 w' _ bs σ.S h'.stoO.two hσ.s).mono ?_⟩
   rintro e w'' ⟨rfl,h2⟩
   exact ⟨rfl,(Own.stoS (σ := { σ with S := σ.S.take.2.2 }) h2.two).xSto⟩
  by_cases h1 : σ.S.take.2.1 = 0
  ·have HV : Hid (σ.spawn C = (σ.S.take.1,0,Sto.put { σ with S := σ.S.take.2.2 } σ.S.take.1 C)) := by show _ = _; unfold Sto.spawn; rw [if_neg (by simp [h0]),if_neg (by simp [h1])]
   have hL := hσ.take h1
   have hli := St.live_lt hL.s hL.li
   have HPU : Hid (∀ w',Own w0 w' (Store b { σ with S := σ.S.take.2.2 } K :: l) → Calls Tryz.prog 203 #[.pointer (some ⟨b,0,none⟩),.int .u32 (σ.S.take.1 : Int),.slice ao len cap] w' fun e w'' => e = .returned (.tuple #[]) ∧ Own w0 w'' (Store b (Sto.put { σ with S := σ.S.take.2.2 } σ.S.take.1 C) (K + 1) :: l)) := by
    intro w' h'
    obtain ⟨bs,v,p,h'⟩ := h'.stoX
    exact put_ok w0 w' l b bs v p _ K ht h' σ.S.take.1 hli.1 (by rw [hL.ml]; exact hli.2) ao len cap C hCl hCs hCk hlen h0 (hL.t _ (msk64 C)) (hL.none (msk64 C)) hK
   rw [h1] at HTK
   clear h hCs hσ h0 h1 hL hli
   go_enter Tryz.func158,Tryz.ntmps158
   go_wp2_with fail
   refine HLS.out.mono ?_
   rintro e w1 ⟨rfl,hf⟩
   obtain ⟨bs,q0,htk⟩ := HTK.out _ (H.out.quiet hf)
   have HTK1 : Hid (Calls _ _ _ _ _) := htk
   clear htk hf HTK H HLS
   go_wp2_with fail
   refine HTK1.out.mono ?_
   rintro e w2 ⟨rfl,hO⟩
   have H2 : Hid (Own w0 w2 _) := hO
   clear hO HTK1
   go_wp2_with fail
   refine (HPU.out _ H2.out).mono ?_
   rintro e w3 ⟨rfl,hO⟩
   have H3 : Hid (Own w0 w3 _) := hO
   clear hO
   go_wp2
   go_ret2
   rw [HV.out]
   exact ⟨rfl,H3.out⟩
  ·have HV : Hid (σ.spawn C = (0,σ.S.take.2.1,σ)) := by show _ = _; unfold Sto.spawn; rw [if_neg (by simp [h0]),if_pos (by simp [h1])]
   have HS : Hid (σ.S.take.2.2 = σ.S) := by
    show _ = _
    unfold St.take at h1 ⊢
    split at h1
    ·exact absurd rfl h1
    ·split at h1
     ·exact absurd rfl h1
     ·rename_i c; simp [c]
   clear h hCs hσ h0
   generalize σ.S.take.2.1 = r at *
   have h1' : (r == (0 : Int)) = false := by simpa using h1
   go_enter Tryz.func158,Tryz.ntmps158
   go_wp2_with fail
   refine HLS.out.mono ?_
   rintro e w1 ⟨rfl,hf⟩
   obtain ⟨bs,q0,htk⟩ := HTK.out _ (H.out.quiet hf)
   have HTK1 : Hid (Calls _ _ _ _ _) := htk
   clear htk hf HTK H HLS
   go_wp2_with fail
   refine HTK1.out.mono ?_
   rintro e w2 ⟨rfl,hO⟩
   rw [HS.out] at hO
   have H2 : Hid (Own w0 w2 _) := hO
   clear hO HTK1
   go_wp2
   go_ret2
   rw [HV.out]
   exact ⟨rfl,H2.out.stoK (Nat.le_succ K)⟩
 ·have HV : Hid (σ.spawn C = (0,(lst (-1) C : Int),σ)) := by show _ = _; unfold Sto.spawn; rw [if_pos h0]
  clear h hCs hσ
  generalize lst (-1) C = r at *
  have h1' : ((r : Int) == (0 : Int)) = false := by simp; omega
  go_enter Tryz.func158,Tryz.ntmps158
  go_wp2_with fail
  refine HLS.out.mono ?_
  rintro e w1 ⟨rfl,hf⟩
  have H1 : Hid (Own w0 w1 (Store b σ K :: l)) := H.out.quiet hf
  clear hf H HLS
  go_wp2
  go_ret2
  rw [HV.out]
  exact ⟨rfl,H1.out.stoK (Nat.le_succ K)⟩
end Go.Proofs.YtogmdoiecpihdaaGreatDoor
