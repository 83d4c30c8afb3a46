/- The document's marks and places are those of the world: plain facts. -/
import Derived.Test.YtogmdoiecpihdaaGreatDoorQw47
import Derived.Test.YtogmdoiecpihdaaGreatDoorQw49
namespace Go.Proofs.YtogmdoiecpihdaaGreatDoor
open Go.RowKit Go.Maps
set_option linter.unusedVariables false
set_option maxRecDepth 100000
theorem gcp_some {σ : Sto} (hσ : σ.Ok) {id k : Nat} {c : Cp} (h : gcp σ id k = some c) : id ∈ σ.S.list ∧ c ∈ σ.cps id ∧ c.k = k := by
 unfold gcp at h
 split at h
 ·rename_i hid
  exact ⟨hid,List.mem_of_find?_eq_some h,by have := List.find?_some h; simpa using this⟩
 ·cases h
theorem gcp_of {σ : Sto} (hσ : σ.Ok) {id : Nat} {c : Cp} (hid : id ∈ σ.S.list) (hc : c ∈ σ.cps id) : gcp σ id c.k = some c := by
 unfold gcp
 rw [if_pos hid]
 exact fst_one (cps_good hσ hid).1 hc
theorem gcp_none {σ : Sto} {id k : Nat} (h : gcp σ id k = none) : id ∈ σ.S.list → ∀ c ∈ σ.cps id,c.k ≠ k := by
 intro hid c hc e
 unfold gcp at h
 rw [if_pos hid] at h
 have := List.find?_eq_none.1 h c hc
 simp [e] at this
def InvM (σ : Sto) (S : Nat → Nat → Option SgE) (M : List MkE) : Prop := ∀ id k,S id k = (gcp σ id k).map (fun c => ⟨(c.k : Int),c.a,c.b,c.c,chgM M id k⟩)
theorem new_list {n f : Nat} (hσ : (Sto.new n f).Ok) : (Sto.new n f).S.list = [] := by
 rw [List.eq_nil_iff_forall_not_mem]
 intro id h
 have := (St.list_w hσ.s h).1
 simp [Sto.new,St.isLive,St.new] at this
theorem invM_new {n f : Nat} (hσ : (Sto.new n f).Ok) : InvM (Sto.new n f) (fun _ _ => none) [] := by
 intro id k
 have : gcp (Sto.new n f) id k = none := by
  unfold gcp
  rw [if_neg (by rw [new_list hσ]; simp)]
 rw [this]; rfl
theorem chgM_map {σ σ' : Sto} (hσ' : σ'.Ok) (M : List MkE) (T : Nat) {id : Nat} {c : Cp} (hid : id ∈ σ'.S.list) (hc : c ∈ σ'.cps id) : chgM ((allS σ').map (mkA σ M T)) id c.k = (mkA σ M T (id,c)).t := by
 unfold chgM
 rw [List.find?_map]
 have hm : (id,c) ∈ allS σ' := allS_mem.2 ⟨hid,hc⟩
 cases hf : (allS σ').find? (mkB id c.k ∘ mkA σ M T) with
 | none =>
  have := List.find?_eq_none.1 hf _ hm
  simp [mkB,mkA] at this
 | some y =>
  have h1 := List.find?_some hf
  have h2 := List.mem_of_find?_eq_some hf
  have h1 : y.1 = id ∧ y.2.k = c.k := by
   simp only [Function.comp_apply,mkB,mkA,Bool.and_eq_true] at h1
   exact ⟨of_decide_eq_true h1.1,of_decide_eq_true h1.2⟩
  have h3 := allS_one hσ' hm h2 h1.1 h1.2
  obtain ⟨yi,yc⟩ := y
  simp only at h1 h3
  rw [h1.1,h3]
  rfl
theorem invM_next {σ σ' : Sto} {S : Nat → Nat → Option SgE} {M : List MkE} (h : InvM σ S M) (hσ : σ.Ok) (hσ' : σ'.Ok) (T : Nat) : InvM σ' (mapOf S T (allS σ')) ((allS σ').map (mkA σ M T)) := by
 intro id k
 cases hg : gcp σ' id k with
 | none => exact look_no (gcp_none hg)
 | some c =>
  obtain ⟨hid,hc,rfl⟩ := gcp_some hσ' hg
  rw [look_has hσ' hid hc,Option.map_some,chgM_map hσ' M T hid hc]
  have hS := h id c.k
  unfold mkA
  simp only
  cases hd : gcp σ id c.k with
  | none =>
   rw [hd] at hS
   rw [hS,if_neg (by simp)]
   rfl
  | some d =>
   rw [hd] at hS
   rw [hS]
   obtain ⟨_,_,hk⟩ := gcp_some hσ hd
   obtain ⟨ck,ca,cb,cc⟩ := c
   obtain ⟨dk,da,db,dc⟩ := d
   simp only at hk
   subst hk
   by_cases e : da = ca ∧ db = cb ∧ dc = cc
   ·obtain ⟨rfl,rfl,rfl⟩ := e
    simp [sgt]
   ·rw [if_neg (by intro q; injection q with q; injection q with _ q1 q2 q3; exact e ⟨q1,q2,q3⟩)]
    simp only [Option.map_some,sgt]
    rw [if_neg]
    simp only [Bool.and_eq_true,beq_iff_eq]
    rintro ⟨_,⟨q1,q2⟩,q3⟩
    exact e ⟨q1,q2,q3⟩
theorem up_one {α : Type} (f : α → Nat) : ∀ {A B : List α},A.Pairwise (fun a b => f a < f b) → B.Pairwise (fun a b => f a < f b) → (∀ x,x ∈ A ↔ x ∈ B) → A = B
 | [],[],_,_,_ => rfl
 | [],b :: B,_,_,h => by have := (h b).2 List.mem_cons_self; cases this
 | a :: A,[],_,_,h => by have := (h a).1 List.mem_cons_self; cases this
 | a :: A,b :: B,hA,hB,h => by
  obtain ⟨a1,a2⟩ := List.pairwise_cons.1 hA
  obtain ⟨b1,b2⟩ := List.pairwise_cons.1 hB
  have e : a = b := by
   rcases List.mem_cons.1 ((h a).1 List.mem_cons_self) with e | ha
   ·exact e
   ·rcases List.mem_cons.1 ((h b).2 List.mem_cons_self) with e | hb
    ·exact e.symm
    ·have := b1 a ha; have := a1 b hb; omega
  subst e
  congr 1
  refine up_one f a2 b2 (fun x => ⟨fun hx => ?_,fun hx => ?_⟩)
  ·rcases List.mem_cons.1 ((h x).1 (List.mem_cons_of_mem _ hx)) with rfl | h2
   ·have := a1 x hx; omega
   ·exact h2
  ·rcases List.mem_cons.1 ((h x).2 (List.mem_cons_of_mem _ hx)) with rfl | h2
   ·have := b1 x hx; omega
   ·exact h2
def isR (σ : Sto) (x : Nat × Cp) : Prop := gcp σ x.1 x.2.k ≠ some x.2 ∧ x.2.k = 0
def plR (x : Nat × Cp) : PlE := ⟨x.1,true,x.2.a,x.2.b⟩
theorem plA_eq (σ : Sto) (P : List PlE) (x : Nat × Cp) : (isR σ x ∧ plA σ P x = ins P (plR x)) ∨ (¬ isR σ x ∧ plA σ P x = P) := by
 unfold plA isR plR
 by_cases h : gcp σ x.1 x.2.k = some x.2
 ·rw [if_pos h]; exact .inr ⟨fun q => q.1 h,rfl⟩
 ·rw [if_neg h]
  by_cases k : x.2.k = 0
  ·rw [if_pos k]; exact .inl ⟨⟨h,k⟩,rfl⟩
  ·rw [if_neg k]; exact .inr ⟨fun q => k q.2,rfl⟩
theorem ins_mem {P : List PlE} {p q : PlE} : q ∈ ins P p ↔ q = p ∨ q ∈ P := by
 rw [(ins_perm p P).mem_iff,List.mem_cons]
theorem plA_mem (σ : Sto) (A : List (Nat × Cp)) : ∀ (P : List PlE) (p : PlE),p ∈ A.foldl (plA σ) P ↔ p ∈ P ∨ ∃ x ∈ A,isR σ x ∧ p = plR x := by
 induction A with
 | nil => intro P p; simp
 | cons x A ih =>
  intro P p
  rw [List.foldl_cons,ih]
  rcases plA_eq σ P x with ⟨h,e⟩ | ⟨h,e⟩
  ·rw [e,ins_mem]
   constructor
   ·rintro ((rfl | h1) | ⟨y,hy,h2,h3⟩)
    ·exact .inr ⟨x,List.mem_cons_self,h,rfl⟩
    ·exact .inl h1
    ·exact .inr ⟨y,List.mem_cons_of_mem _ hy,h2,h3⟩
   ·rintro (h1 | ⟨y,hy,h2,h3⟩)
    ·exact .inl (.inr h1)
    ·rcases List.mem_cons.1 hy with rfl | hy
     ·exact .inl (.inl h3)
     ·exact .inr ⟨y,hy,h2,h3⟩
  ·rw [e]
   constructor
   ·rintro (h1 | ⟨y,hy,h2,h3⟩)
    ·exact .inl h1
    ·exact .inr ⟨y,List.mem_cons_of_mem _ hy,h2,h3⟩
   ·rintro (h1 | ⟨y,hy,h2,h3⟩)
    ·exact .inl h1
    ·rcases List.mem_cons.1 hy with rfl | hy
     ·exact absurd h2 h
     ·exact .inr ⟨y,hy,h2,h3⟩
def UpP (P : List PlE) : Prop := P.Pairwise (fun a b => a.id < b.id)
theorem plA_up (σ : Sto) (A : List (Nat × Cp)) : ∀ (P : List PlE),UpP P → (∀ x ∈ A,x.2.k = 0 → ∀ p ∈ P,p.id ≠ x.1) → A.Pairwise (fun x y => x.2.k = 0 → y.2.k = 0 → x.1 ≠ y.1) → UpP (A.foldl (plA σ) P) := by
 induction A with
 | nil => intro P h _ _; exact h
 | cons x A ih =>
  intro P h hn hp
  obtain ⟨p1,p2⟩ := List.pairwise_cons.1 hp
  rw [List.foldl_cons]
  rcases plA_eq σ P x with ⟨hr,e⟩ | ⟨hr,e⟩
  ·rw [e]
   refine ih _ (ins_up _ _ h (fun p hp => hn x List.mem_cons_self hr.2 p hp)) (fun y hy hk p hp => ?_) p2
   rcases ins_mem.1 hp with rfl | hp
   ·exact p1 y hy hr.2 hk
   ·exact hn y (List.mem_cons_of_mem _ hy) hk p hp
  ·rw [e]
   exact ih _ h (fun y hy => hn y (List.mem_cons_of_mem _ hy)) p2
def isL (σ σ' : Sto) (id : Nat) : Prop := (gcp σ id 0).isNone = false ∧ (gcp σ' id 0).isNone = true
theorem plB_eq (σ σ' : Sto) (P : List PlE) (id : Nat) : (isL σ σ' id ∧ plB σ σ' P id = ins P ⟨id,false,0,0⟩) ∨ (¬ isL σ σ' id ∧ plB σ σ' P id = P) := by
 unfold plB isL
 by_cases h : (gcp σ id 0).isNone = true
 ·rw [if_pos h]; exact .inr ⟨fun q => (by rw [h] at q; cases q.1),rfl⟩
 ·rw [if_neg h]
  by_cases k : (gcp σ' id 0).isNone = true
  ·rw [if_pos k]; exact .inl ⟨⟨by cases hq : (gcp σ id 0).isNone with | true => exact absurd hq h | false => rfl,k⟩,rfl⟩
  ·rw [if_neg k]; exact .inr ⟨fun q => k q.2,rfl⟩
theorem plB_mem (σ σ' : Sto) (B : List Nat) : ∀ (P : List PlE) (p : PlE),p ∈ B.foldl (plB σ σ') P ↔ p ∈ P ∨ ∃ id ∈ B,isL σ σ' id ∧ p = ⟨id,false,0,0⟩ := by
 induction B with
 | nil => intro P p; simp
 | cons x A ih =>
  intro P p
  rw [List.foldl_cons,ih]
  rcases plB_eq σ σ' P x with ⟨h,e⟩ | ⟨h,e⟩
  ·rw [e,ins_mem]
   constructor
   ·rintro ((rfl | h1) | ⟨y,hy,h2,h3⟩)
    ·exact .inr ⟨x,List.mem_cons_self,h,rfl⟩
    ·exact .inl h1
    ·exact .inr ⟨y,List.mem_cons_of_mem _ hy,h2,h3⟩
   ·rintro (h1 | ⟨y,hy,h2,h3⟩)
    ·exact .inl (.inr h1)
    ·rcases List.mem_cons.1 hy with rfl | hy
     ·exact .inl (.inl h3)
     ·exact .inr ⟨y,hy,h2,h3⟩
  ·rw [e]
   constructor
   ·rintro (h1 | ⟨y,hy,h2,h3⟩)
    ·exact .inl h1
    ·exact .inr ⟨y,List.mem_cons_of_mem _ hy,h2,h3⟩
   ·rintro (h1 | ⟨y,hy,h2,h3⟩)
    ·exact .inl h1
    ·rcases List.mem_cons.1 hy with rfl | hy
     ·exact absurd h2 h
     ·exact .inr ⟨y,hy,h2,h3⟩
theorem plB_up (σ σ' : Sto) (B : List Nat) : ∀ (P : List PlE),UpP P → (∀ x ∈ B,isL σ σ' x → ∀ p ∈ P,p.id ≠ x) → B.Nodup → UpP (B.foldl (plB σ σ') P) := by
 induction B with
 | nil => intro P h _ _; exact h
 | cons x B ih =>
  intro P h hn hp
  obtain ⟨p1,p2⟩ := List.nodup_cons.1 hp
  rw [List.foldl_cons]
  rcases plB_eq σ σ' P x with ⟨hr,e⟩ | ⟨hr,e⟩
  ·rw [e]
   refine ih _ (ins_up _ _ h (fun p hp => hn x List.mem_cons_self hr p hp)) (fun y hy hk p hp => ?_) p2
   rcases ins_mem.1 hp with rfl | hp
   ·rintro rfl; exact p1 hy
   ·exact hn y (List.mem_cons_of_mem _ hy) hk p hp
  ·rw [e]
   exact ih _ h (fun y hy => hn y (List.mem_cons_of_mem _ hy)) p2
theorem allS_pos {σ : Sto} (hσ : σ.Ok) : (allS σ).Pairwise (fun x y => x.2.k = 0 → y.2.k = 0 → x.1 ≠ y.1) := by
 unfold allS
 rw [List.pairwise_flatMap]
 refine ⟨fun id hid => ?_,?_⟩
 ·rw [List.pairwise_map]
  refine (cps_good hσ hid).1.imp ?_
  intro a b h h1 h2
  simp only at h1 h2
  omega
 ·refine (St.list_nodup hσ.s).imp ?_
  intro a b hab x hx y hy _ _
  obtain ⟨c,_,rfl⟩ := List.mem_map.1 hx
  obtain ⟨d,_,rfl⟩ := List.mem_map.1 hy
  exact hab
theorem places_same {σ σ' : Sto} {S : Nat → Nat → Option SgE} {M : List MkE} {T : Nat} {P : List PlE} (h : InvM σ S M) (hσ : σ.Ok) (hσ' : σ'.Ok) (hT : ∀ i k s,S i k = some s → s.t ≠ T) (hP : PlOf S (mapOf S T (allS σ')) T P) : P = σ.S.list.foldl (plB σ σ') ((allS σ').foldl (plA σ) []) := by
 obtain ⟨L1,L2,⟨n1,o1,m1⟩,⟨n2,o2,m2⟩,hp,hs⟩ := hP
 have hS' : ∀ i k,mapOf S T (allS σ') i k = (gcp σ' i k).map (fun c => ⟨(c.k : Int),c.a,c.b,c.c,chgM ((allS σ').map (mkA σ M T)) i k⟩) := invM_next h hσ hσ' T
 have hid' : ∀ {i k c},gcp σ' i k = some c → i < 4294967296 := fun hg => (St.list_w hσ'.s (gcp_some hσ' hg).1).2
 have hid0 : ∀ {i k c},gcp σ i k = some c → i < 4294967296 := fun hg => (St.list_w hσ.s (gcp_some hσ hg).1).2
 have hup : UpP P := by
  have hnd : (P.map PlE.id).Nodup := by
   rw [(hp.map PlE.id).nodup_iff,List.map_append,List.nodup_append]
   refine ⟨n1,n2,?_⟩
   rintro a ha b hb rfl
   obtain ⟨q,hq,e⟩ := List.mem_map.1 ha
   have hl : a < 4294967296 := by rw [← e]; exact (o1 q hq).1
   have h1 := ((m1 a hl).1 ha).2.2
   obtain ⟨_,s,h2,_⟩ := (m2 a hl).1 hb
   unfold sgp at h1
   rw [h2] at h1
   cases h1
  have hne := List.pairwise_map.1 hnd
  exact (hs.and hne).imp (fun ⟨a,b⟩ => by omega)
 have hA : UpP ((allS σ').foldl (plA σ) []) := plA_up σ _ [] List.Pairwise.nil (fun _ _ _ _ h => by cases h) (allS_pos hσ')
 have hB : UpP (σ.S.list.foldl (plB σ σ') ((allS σ').foldl (plA σ) [])) := by
  refine plB_up σ σ' _ _ hA (fun id hid hl p hp e => ?_) (St.list_nodup hσ.s)
  rcases (plA_mem σ _ _ _).1 hp with hp | ⟨x,hx,hr,rfl⟩
  ·cases hp
  ·obtain ⟨hx1,hx2⟩ := allS_mem.1 hx
   have := gcp_of hσ' hx1 hx2
   rw [hr.2] at this
   have h2 := hl.2
   have e : x.1 = id := e
   rw [← e,this] at h2
   cases h2
 refine up_one PlE.id hup hB (fun p => ?_)
 rw [hp.mem_iff,List.mem_append,plB_mem,plA_mem]
 constructor
 ·rintro (hp1 | hp2)
  ·obtain ⟨b1,b2,b3,b4⟩ := o1 p hp1
   obtain ⟨_,c1,c2⟩ := (m1 p.id b1).1 (List.mem_map.2 ⟨p,hp1,rfl⟩)
   unfold sgp at c1 c2
   rw [h p.id 0] at c1
   rw [hS' p.id 0] at c2
   refine .inr ⟨p.id,?_,⟨?_,?_⟩,?_⟩
   ·cases hg : gcp σ p.id 0 with
    | none => rw [hg] at c1; simp at c1
    | some c => exact (gcp_some hσ hg).1
   ·cases hg : gcp σ p.id 0 with
    | none => rw [hg] at c1; simp at c1
    | some c => rfl
   ·cases hg : gcp σ' p.id 0 with
    | none => rfl
    | some c => rw [hg] at c2; simp at c2
   ·obtain ⟨pi,po,px,py⟩ := p
    simp only at b2 b3 b4
    rw [b2,b3,b4]
  ·obtain ⟨b1,b2,s,b3,b4,b5,b6⟩ := o2 p hp2
   refine .inl (.inr ?_)
   rw [hS' p.id 0] at b3
   cases hg : gcp σ' p.id 0 with
   | none => rw [hg] at b3; simp at b3
   | some c =>
    obtain ⟨g1,g2,g3⟩ := gcp_some hσ' hg
    rw [hg] at b3
    simp only [Option.map_some,Option.some.injEq] at b3
    refine ⟨(p.id,c),allS_mem.2 ⟨g1,g2⟩,⟨?_,g3⟩,?_⟩
    ·intro he
     simp only at he
     have ht : s.t = (mkA σ M T (p.id,c)).t := by
      rw [← b3]
      show chgM _ _ _ = _
      rw [← g3]
      exact chgM_map hσ' M T g1 g2
     unfold mkA at ht
     simp only at ht
     rw [if_pos he] at ht
     have hh := h p.id c.k
     rw [he] at hh
     exact hT _ _ _ hh (by show chgM M p.id c.k = T; rw [← ht]; exact b4)
    ·obtain ⟨pi,po,px,py⟩ := p
     simp only at b2 b5 b6
     rw [b2,b5,b6,← b3]
     rfl
 ·rintro ((hp | ⟨x,hx,hr,rfl⟩) | ⟨id,hid,hl,rfl⟩)
  ·cases hp
  ·right
   obtain ⟨hx1,hx2⟩ := allS_mem.1 hx
   have hg := gcp_of hσ' hx1 hx2
   have hlt := hid' hg
   have ht : chgM ((allS σ').map (mkA σ M T)) x.1 x.2.k = T := by
    rw [chgM_map hσ' M T hx1 hx2]
    unfold mkA
    simp only
    rw [if_neg hr.1]
   have hs' := hS' x.1 x.2.k
   rw [hg,Option.map_some,ht] at hs'
   rw [hr.2] at hs'
   obtain ⟨q,hq,e⟩ := List.mem_map.1 ((m2 x.1 hlt).2 ⟨rfl,_,hs',rfl⟩)
   obtain ⟨_,q2,s,q3,q4,q5,q6⟩ := o2 q hq
   rw [e,hs'] at q3
   injection q3 with q3
   rw [← q3] at q5 q6
   have : q = plR x := by
    obtain ⟨qi,qo,qx,qy⟩ := q
    simp only at e q2 q5 q6
    unfold plR
    rw [e,q2,q5,q6]
   rw [← this]; exact hq
  ·left
   obtain ⟨l1,l2⟩ := hl
   cases hg : gcp σ id 0 with
   | none => rw [hg] at l1; cases l1
   | some c =>
    have hlt := hid0 hg
    have h2 : gcp σ' id 0 = none := by simpa using l2
    have a1 : (sgp S id 0).isSome = true := by unfold sgp; rw [h id 0,hg]; rfl
    have a2 : sgp (mapOf S T (allS σ')) id 0 = none := by unfold sgp; rw [hS' id 0,h2]; rfl
    obtain ⟨q,hq,e⟩ := List.mem_map.1 ((m1 id hlt).2 ⟨rfl,a1,a2⟩)
    obtain ⟨_,q2,q3,q4⟩ := o1 q hq
    have : q = ⟨id,false,0,0⟩ := by
     obtain ⟨qi,qo,qx,qy⟩ := q
     simp only at e q2 q3 q4
     rw [e,q2,q3,q4]
    rw [← this]; exact hq
theorem ticks_next {σ : Sto} (hσ : σ.Ok) {S : Nat → Nat → Option SgE} {T : Nat} (h : ∀ i k s,S i k = some s → s.t ≤ T) : ∀ i k s,mapOf S (T + 1) (allS σ) i k = some s → s.t ≤ T + 1 := by
 intro i k s hs
 by_cases e : s.t = T + 1
 ·omega
 ·have := h i k s (look_old hσ hs e)
  omega
def sstep (tk : Int) (out : List Nat) (m : MkE) : List Nat := if tk < (m.t : Int) ∧ out.getLast? ≠ some m.id then out ++ [m.id] else out
theorem sstep_in (tk : Int) (id : Nat) : ∀ (L : List MkE) (out : List Nat),(∀ m ∈ L,m.id = id) → out.getLast? = some id → L.foldl (sstep tk) out = out := by
 intro L
 induction L with
 | nil => intro out _ _; rfl
 | cons m L ih =>
  intro out h ho
  rw [List.foldl_cons]
  have : sstep tk out m = out := by
   unfold sstep
   rw [if_neg]
   rintro ⟨_,hh⟩
   rw [h m List.mem_cons_self] at hh
   exact hh ho
  rw [this]
  exact ih out (fun x hx => h x (List.mem_cons_of_mem _ hx)) ho
theorem sstep_one (tk : Int) (id : Nat) : ∀ (L : List MkE) (out : List Nat),(∀ m ∈ L,m.id = id) → out.getLast? ≠ some id → L.foldl (sstep tk) out = if L.any (fun m => decide (tk < (m.t : Int))) then out ++ [id] else out := by
 intro L
 induction L with
 | nil => intro out _ _; rfl
 | cons m L ih =>
  intro out h ho
  rw [List.foldl_cons,List.any_cons]
  have hm := h m List.mem_cons_self
  have hL : ∀ x ∈ L,x.id = id := fun x hx => h x (List.mem_cons_of_mem _ hx)
  by_cases c : tk < (m.t : Int)
  ·have : sstep tk out m = out ++ [id] := by
    unfold sstep
    rw [hm,if_pos ⟨c,ho⟩]
   rw [this,sstep_in tk id L _ hL (by simp)]
   simp [c]
  ·have : sstep tk out m = out := by
    unfold sstep
    rw [if_neg (fun q => c q.1)]
   rw [this,ih out hL ho]
   simp [c]
theorem since_list {σ : Sto} (g : Nat × Cp → MkE) (hg : ∀ x,(g x).id = x.1) (tk : Int) : ∀ (L : List Nat),L.Nodup → ∀ (out : List Nat),(∀ i ∈ L,i ∉ out) → ((L.flatMap (fun id => (σ.cps id).map (fun c => (id,c)))).map g).foldl (sstep tk) out = out ++ L.filter (fun id => (σ.cps id).any (fun c => decide (tk < ((g (id,c)).t : Int)))) := by
 intro L
 induction L with
 | nil => intro _ out _; simp
 | cons i L ih =>
  intro hn out ho
  obtain ⟨n1,n2⟩ := List.nodup_cons.1 hn
  rw [List.flatMap_cons,List.map_append,List.foldl_append]
  have h1 : out.getLast? ≠ some i := fun e => ho i List.mem_cons_self (List.mem_of_getLast? e)
  rw [sstep_one tk i _ out (by
   intro m hm
   obtain ⟨x,hx,rfl⟩ := List.mem_map.1 hm
   obtain ⟨c,_,rfl⟩ := List.mem_map.1 hx
   exact hg _) h1]
  have e : (List.map g (List.map (fun c => (i,c)) (σ.cps i))).any (fun m => decide (tk < (m.t : Int))) = (σ.cps i).any (fun c => decide (tk < ((g (i,c)).t : Int))) := by
   rw [List.any_map,List.any_map]; rfl
  rw [e,List.filter_cons]
  split
  ·rw [ih n2 _ (fun j hj hm => ?_)]
   ·simp
   ·rcases List.mem_append.1 hm with hm | hm
    ·exact ho j (List.mem_cons_of_mem _ hj) hm
    ·rw [List.mem_singleton] at hm; subst hm; exact n1 hj
  ·rw [ih n2 _ (fun j hj => ho j (List.mem_cons_of_mem _ hj))]
theorem chS_of {σ : Sto} (hσ : σ.Ok) {S : Nat → Nat → Option SgE} {M : List MkE} (h : InvM σ S M) {id : Nat} (hid : id ∈ σ.S.list) (tk : Int) : chS S id tk = (σ.cps id).any (fun c => decide (tk < (chgM M id c.k : Int))) := by
 rw [Bool.eq_iff_iff]
 unfold chS
 rw [List.any_eq_true,List.any_eq_true]
 constructor
 ·rintro ⟨k,hk,hb⟩
  unfold chB at hb
  have hh := h id k
  cases hg : gcp σ id k with
  | none => rw [hg] at hh; rw [hh] at hb; cases hb
  | some c =>
   obtain ⟨_,g2,g3⟩ := gcp_some hσ hg
   rw [hg] at hh
   rw [hh] at hb
   exact ⟨c,g2,by rw [g3]; exact hb⟩
 ·rintro ⟨c,hc,hb⟩
  refine ⟨c.k,List.mem_range.2 ((cps_good hσ hid).2 c hc),?_⟩
  unfold chB
  rw [h id c.k,gcp_of hσ hid hc]
  exact hb
def MkOf (σ : Sto) (M : List MkE) : Prop := M = (allS σ).map (fun x => ⟨x.1,x.2.k,chgM M x.1 x.2.k⟩)
theorem mkOf_next {σ σ' : Sto} (hσ' : σ'.Ok) (M : List MkE) (T : Nat) : MkOf σ' ((allS σ').map (mkA σ M T)) := by
 unfold MkOf
 refine List.map_congr_left (fun x hx => ?_)
 obtain ⟨h1,h2⟩ := allS_mem.1 hx
 have := chgM_map (σ := σ) hσ' M T h1 h2
 show mkA σ M T x = ⟨x.1,x.2.k,_⟩
 rw [this]
 rfl
theorem since_of {σ : Sto} (hσ : σ.Ok) {S : Nat → Nat → Option SgE} {M : List MkE} (h : InvM σ S M) (hM : MkOf σ M) (tk : Int) : M.foldl (sstep tk) [] = σ.S.list.filter (fun id => chS S id tk) := by
 have e : M.foldl (sstep tk) [] = ((allS σ).map (fun x => (⟨x.1,x.2.k,chgM M x.1 x.2.k⟩ : MkE))).foldl (sstep tk) [] := by
  have : ((allS σ).map (fun x => (⟨x.1,x.2.k,chgM M x.1 x.2.k⟩ : MkE))) = M := hM.symm
  rw [this]
 rw [e]
 unfold allS
 rw [since_list (σ := σ) (fun x => ⟨x.1,x.2.k,chgM M x.1 x.2.k⟩) (fun _ => rfl) tk σ.S.list (St.list_nodup hσ.s) [] (fun _ _ h => by cases h),List.nil_append]
 refine List.filter_congr (fun id hid => ?_)
 rw [chS_of hσ h hid]
end Go.Proofs.YtogmdoiecpihdaaGreatDoor
