/- The patch that goes one by one, as lists: it leads where the delta leads. -/
import Derived.Test.YtgifeckbflkkpaaGreatDoorQr21
import Derived.Test.YtgifeckbflkkpaaGreatDoorQr19
namespace Go.Proofs.YtgifeckbflkkpaaGreatDoor
open Go.RowKit
set_option linter.unusedVariables false
set_option maxRecDepth 100000
abbrev Ups (C : List Cp) : Prop := C.Pairwise (fun x y => x.k < y.k)
abbrev Upe (L : List En) : Prop := L.Pairwise (fun x y => x.1 < y.1)
theorem insc_cons (a : Cp) (t : List Cp) (c : Cp) : insc (a :: t) c = if a.k < c.k then a :: insc t c else c :: (a :: t).filter (fun q => decide (q.k ≠ c.k)) := by
 unfold insc
 rw [List.takeWhile_cons,List.dropWhile_cons]
 by_cases h : a.k < c.k <;> simp [h]
theorem insc_mem {C : List Cp} (h : Ups C) (c q : Cp) : q ∈ insc C c ↔ q = c ∨ (q ∈ C ∧ q.k ≠ c.k) := by
 induction C with
 | nil => simp [insc]
 | cons a t ih =>
  obtain ⟨h1,h2⟩ := List.pairwise_cons.1 h
  rw [insc_cons]
  split
  ·rename_i hl
   rw [List.mem_cons,ih h2,List.mem_cons]
   constructor
   ·rintro (rfl | rfl | ⟨x,y⟩)
    ·exact .inr ⟨.inl rfl,by omega⟩
    ·exact .inl rfl
    ·exact .inr ⟨.inr x,y⟩
   ·rintro (rfl | ⟨rfl | x,y⟩)
    ·exact .inr (.inl rfl)
    ·exact .inl rfl
    ·exact .inr (.inr ⟨x,y⟩)
  ·rw [List.mem_cons,List.mem_filter]
   simp
theorem insc_up {C : List Cp} (h : Ups C) (c : Cp) : Ups (insc C c) := by
 induction C with
 | nil => simp [insc,Ups]
 | cons a t ih =>
  obtain ⟨h1,h2⟩ := List.pairwise_cons.1 h
  rw [insc_cons]
  split
  ·rename_i hl
   refine List.pairwise_cons.2 ⟨fun x hx => ?_,ih h2⟩
   rcases (insc_mem h2 c x).1 hx with rfl | ⟨hx,_⟩
   ·exact hl
   ·exact h1 x hx
  ·rename_i hl
   refine List.pairwise_cons.2 ⟨fun x hx => ?_,h.filter _⟩
   obtain ⟨x1,x2⟩ := List.mem_filter.1 hx
   have x2 : x.k ≠ c.k := by simpa using x2
   rcases List.mem_cons.1 x1 with rfl | x1
   ·omega
   ·have := h1 x x1; omega
def dropK (lost : Nat) : List Nat → List Cp → Option (List Cp)
 | [],l => some l
 | k :: ks,l => if lost / 2 ^ k % 2 = 0 then dropK lost ks l else if hasK l k then dropK lost ks (outk l k) else none
def putNew (C : List Cp) : List Cp → List Cp → Option (List Cp)
 | l,[] => some l
 | l,x :: xs => if hasK C x.k then none else putNew C (insc l x) xs
def putSet : List Cp → List Cp → Option (List Cp)
 | l,[] => some l
 | l,x :: xs => if hasK l x.k then putSet (insc l x) xs else none
def chgC (C : List Cp) (c : Chg) : Option (List Cp) := (dropK c.lost (List.range 8) C).bind fun l => (putNew C l c.new).bind fun l => putSet l c.set
theorem hasK_iff {l : List Cp} {k : Nat} : hasK l k = true ↔ ∃ q ∈ l,q.k = k := by
 unfold hasK; simp
theorem dropK_to (lost : Nat) (ks : List Nat) : ∀ (l : List Cp),ks.Nodup → Ups l → (∀ k ∈ ks,lost / 2 ^ k % 2 ≠ 0 → hasK l k = true) → ∃ m,dropK lost ks l = some m ∧ Ups m ∧ ∀ q,q ∈ m ↔ q ∈ l ∧ ¬ (q.k ∈ ks ∧ lost / 2 ^ q.k % 2 ≠ 0) := by
 induction ks with
 | nil => exact fun l _ hl _ => ⟨l,rfl,hl,fun q => by simp⟩
 | cons k ks ih =>
  intro l hn hl hk
  obtain ⟨n1,n2⟩ := List.nodup_cons.1 hn
  unfold dropK
  split
  ·rename_i h0
   obtain ⟨m,m1,m2,m3⟩ := ih l n2 hl (fun x hx => hk x (List.mem_cons_of_mem _ hx))
   refine ⟨m,m1,m2,fun q => ?_⟩
   rw [m3 q,List.mem_cons]
   constructor
   ·rintro ⟨a,b⟩
    refine ⟨a,?_⟩
    rintro ⟨rfl | c,d⟩
    ·exact d h0
    ·exact b ⟨c,d⟩
   ·rintro ⟨a,b⟩
    exact ⟨a,fun ⟨c,d⟩ => b ⟨.inr c,d⟩⟩
  ·rename_i h0
   rw [if_pos (hk k (by simp) h0)]
   have ho : ∀ q,q ∈ outk l k ↔ q ∈ l ∧ q.k ≠ k := fun q => by unfold outk; simp
   obtain ⟨m,m1,m2,m3⟩ := ih (outk l k) n2 (hl.filter _) (fun x hx hb => by
    obtain ⟨q,q1,q2⟩ := hasK_iff.1 (hk x (List.mem_cons_of_mem _ hx) hb)
    exact hasK_iff.2 ⟨q,(ho q).2 ⟨q1,fun e => n1 (by rw [← e,q2]; exact hx)⟩,q2⟩)
   refine ⟨m,m1,m2,fun q => ?_⟩
   rw [m3 q,ho q,List.mem_cons]
   constructor
   ·rintro ⟨⟨a,a2⟩,b⟩
    refine ⟨a,?_⟩
    rintro ⟨c | c,d⟩
    ·exact a2 c
    ·exact b ⟨c,d⟩
   ·rintro ⟨a,b⟩
    exact ⟨⟨a,fun e => b ⟨.inl e,by rw [e]; exact h0⟩⟩,fun ⟨c,d⟩ => b ⟨.inr c,d⟩⟩
theorem putNew_to (C xs : List Cp) : ∀ (l : List Cp),Ups xs → Ups l → (∀ x ∈ xs,hasK C x.k = false) → ∃ m,putNew C l xs = some m ∧ Ups m ∧ ∀ q,q ∈ m ↔ q ∈ xs ∨ (q ∈ l ∧ ∀ x ∈ xs,q.k ≠ x.k) := by
 induction xs with
 | nil => exact fun l _ hl _ => ⟨l,rfl,hl,fun q => by simp⟩
 | cons x xs ih =>
  intro l hx hl hk
  obtain ⟨x1,x2⟩ := List.pairwise_cons.1 hx
  obtain ⟨m,m1,m2,m3⟩ := ih (insc l x) x2 (insc_up hl x) (fun y hy => hk y (List.mem_cons_of_mem _ hy))
  refine ⟨m,by unfold putNew; rw [if_neg (by rw [hk x (by simp)]; simp)]; exact m1,m2,fun q => ?_⟩
  rw [m3 q,insc_mem hl,List.mem_cons]
  constructor
  ·rintro (a | ⟨rfl | ⟨a,b⟩,c⟩)
   ·exact .inl (.inr a)
   ·exact .inl (.inl rfl)
   ·refine .inr ⟨a,fun y hy => ?_⟩
    rcases List.mem_cons.1 hy with rfl | hy
    ·exact b
    ·exact c y hy
  ·rintro ((rfl | a) | ⟨a,b⟩)
   ·exact .inr ⟨.inl rfl,fun y hy => by have := x1 y hy; omega⟩
   ·exact .inl a
   ·exact .inr ⟨.inr ⟨a,b x (by simp)⟩,fun y hy => b y (List.mem_cons_of_mem _ hy)⟩
theorem putSet_to (xs : List Cp) : ∀ (l : List Cp),Ups xs → Ups l → (∀ x ∈ xs,hasK l x.k = true) → ∃ m,putSet l xs = some m ∧ Ups m ∧ ∀ q,q ∈ m ↔ q ∈ xs ∨ (q ∈ l ∧ ∀ x ∈ xs,q.k ≠ x.k) := by
 induction xs with
 | nil => exact fun l _ hl _ => ⟨l,rfl,hl,fun q => by simp⟩
 | cons x xs ih =>
  intro l hx hl hk
  obtain ⟨x1,x2⟩ := List.pairwise_cons.1 hx
  obtain ⟨m,m1,m2,m3⟩ := ih (insc l x) x2 (insc_up hl x) (fun y hy => by
   obtain ⟨q,q1,q2⟩ := hasK_iff.1 (hk y (List.mem_cons_of_mem _ hy))
   exact hasK_iff.2 ⟨q,(insc_mem hl x q).2 (.inr ⟨q1,by have := x1 y hy; omega⟩),q2⟩)
  refine ⟨m,by unfold putSet; rw [if_pos (hk x (by simp))]; exact m1,m2,fun q => ?_⟩
  rw [m3 q,insc_mem hl,List.mem_cons]
  constructor
  ·rintro (a | ⟨rfl | ⟨a,b⟩,c⟩)
   ·exact .inl (.inr a)
   ·exact .inl (.inl rfl)
   ·refine .inr ⟨a,fun y hy => ?_⟩
    rcases List.mem_cons.1 hy with rfl | hy
    ·exact b
    ·exact c y hy
  ·rintro ((rfl | a) | ⟨a,b⟩)
   ·exact .inr ⟨.inl rfl,fun y hy => by have := x1 y hy; omega⟩
   ·exact .inl a
   ·exact .inr ⟨.inr ⟨a,b x (by simp)⟩,fun y hy => b y (List.mem_cons_of_mem _ hy)⟩
theorem val_bitE : ∀ (k : Fin 8) (a b c d e f : Bool),decide (val a b c d e f / 2 ^ k.1 % 2 = 0) = !(decide (k.1 < 6) && nthB a b c d e f k.1) := by decide
theorem lost_bit (A B : List Cp) {k : Nat} (hk : k < 8) : lostm A B / 2 ^ k % 2 ≠ 0 ↔ k < 6 ∧ hasK A k = true ∧ hasK B k = false := by
 have h := val_bitE ⟨k,hk⟩ (hasK A 0 && !hasK B 0) (hasK A 1 && !hasK B 1) (hasK A 2 && !hasK B 2) (hasK A 3 && !hasK B 3) (hasK A 4 && !hasK B 4) (hasK A 5 && !hasK B 5)
 rw [← lost_val] at h
 by_cases h6 : k < 6
 ·rw [nth_lost A B k h6] at h
  simp only [h6,decide_true,Bool.true_and] at h
  constructor
  ·intro hne
   rw [decide_eq_false hne] at h
   simp only [Bool.not_and,Bool.not_not] at h
   refine ⟨h6,?_,?_⟩ <;> revert h <;> cases hasK A k <;> cases hasK B k <;> simp
  ·rintro ⟨_,a,b⟩ e
   rw [decide_eq_true e,a,b] at h
   simp at h
 ·simp only [h6,decide_false,Bool.false_and,Bool.not_false,decide_eq_true_eq] at h
  exact ⟨fun hne => absurd h hne,fun ⟨a,_⟩ => absurd a h6⟩
theorem chgC_to (i j : Nat) {A B : List Cp} (hA : Good A) (hB : Good B) : chgC A (chg1 (i,A) (j,B)) = some B := by
 obtain ⟨m,m1,m2,m3⟩ := dropK_to (lostm A B) (List.range 8) A List.nodup_range hA.1 (fun k hk hb => ((lost_bit A B (List.mem_range.1 hk)).1 hb).2.1)
 have m4 : ∀ q,q ∈ m ↔ q ∈ A ∧ hasK B q.k = true := fun q => by
  rw [m3 q]
  constructor
  ·rintro ⟨a,b⟩
   refine ⟨a,?_⟩
   apply Decidable.byContradiction
   intro hn
   have h6 := hA.2 q a
   exact b ⟨List.mem_range.2 (by omega),(lost_bit A B (by omega)).2 ⟨h6,mem_hasK a,by simpa using hn⟩⟩
  ·rintro ⟨a,b⟩
   refine ⟨a,fun ⟨c,d⟩ => ?_⟩
   have := ((lost_bit A B (List.mem_range.1 c)).1 d).2.2
   rw [b] at this
   cases this
 obtain ⟨n,n1,n2,n3⟩ := putNew_to A (B.filter (isNew A)) m (hB.1.filter _) m2 (fun x hx => by
  have := (List.mem_filter.1 hx).2
  unfold isNew at this
  simpa using this)
 obtain ⟨o,o1,o2,o3⟩ := putSet_to (B.filter (isSet A)) n (hB.1.filter _) n2 (fun x hx => by
  obtain ⟨x1,x2⟩ := List.mem_filter.1 hx
  obtain ⟨y,y1,y2⟩ := isSet_iff.1 x2
  obtain ⟨z1,z2⟩ := fst_some y1
  refine hasK_iff.2 ⟨y,(n3 y).2 (.inr ⟨(m4 y).2 ⟨z1,by rw [z2]; exact mem_hasK x1⟩,fun u hu e => ?_⟩),z2⟩
  have hu2 := (List.mem_filter.1 hu).2
  unfold isNew at hu2
  rw [← e,mem_hasK z1] at hu2
  cases hu2)
 have e : o = B := by
  refine up_mem (fun x => x.k) o2 hB.1 (fun q => ?_)
  rw [o3 q,n3 q,m4 q]
  simp only [List.mem_filter]
  constructor
  ·rintro (⟨a,_⟩ | ⟨⟨a,_⟩ | ⟨⟨a,b⟩,c⟩,d⟩)
   ·exact a
   ·exact a
   ·obtain ⟨y,hy⟩ := hasK_fst b
    obtain ⟨y1,y2⟩ := fst_some hy
    by_cases e : q = y
    ·rw [e]; exact y1
    ·refine absurd y2.symm (d y ⟨y1,isSet_iff.2 ⟨q,?_,e⟩⟩)
     rw [y2]; exact fst_mem hA.1 a
  ·intro hq
   by_cases hk : hasK A q.k = true
   ·obtain ⟨y,hy⟩ := hasK_fst hk
    obtain ⟨y1,y2⟩ := fst_some hy
    by_cases e : y = q
    ·subst e
     refine .inr ⟨.inr ⟨⟨y1,mem_hasK hq⟩,fun x hx e => ?_⟩,fun x hx e => ?_⟩
     ·have := hx.2
      unfold isNew at this
      rw [← e,hk] at this
      cases this
     ·obtain ⟨u,u1,u2⟩ := isSet_iff.1 hx.2
      have e2 := up_one hB.1 hx.1 hq e.symm
      subst e2
      rw [hy] at u1
      simp only [Option.some.injEq] at u1
      exact u2 u1.symm
    ·exact .inl ⟨hq,isSet_iff.2 ⟨y,hy,e⟩⟩
   ·refine .inr ⟨.inl ⟨hq,by unfold isNew; simpa using hk⟩,fun x hx e => ?_⟩
    obtain ⟨u,u1,u2⟩ := isSet_iff.1 hx.2
    have := fst_some u1
    exact hk (by rw [e,← this.2]; exact mem_hasK this.1)
 unfold chgC chg1
 simp only [m1,n1,o1,Option.bind_some,e]
def dropE (L : List En) (g : Nat) : List En := L.filter (fun e => decide (e.1 ≠ g))
def setE (L : List En) (g : Nat) (M : List Cp) : List En := L.map (fun x => if x.1 = g then (x.1,M) else x)
def insE (L : List En) (e : En) : List En := L.takeWhile (fun x => decide (x.1 < e.1)) ++ e :: L.dropWhile (fun x => decide (x.1 < e.1))
def goGone : List En → List Nat → Option (List En)
 | L,[] => some L
 | L,g :: gs => if (fstE L g).isSome then goGone (dropE L g) gs else none
def chgE (L : List En) (c : Chg) : Option (List En) := match fstE L c.id with
 | none => none
 | some e => (chgC e.2 c).map (setE L c.id)
def goChg : List En → List Chg → Option (List En)
 | L,[] => some L
 | L,c :: cs => match chgE L c with
  | none => none
  | some L' => goChg L' cs
def goCome (W : List En) : List En → List En → Option (List En)
 | L,[] => some L
 | L,e :: es => if (fstE W e.1).isSome then none else goCome W (insE L e) es
def patL (W : List En) (d : Dl) : Option (List En) := (goGone W d.gone).bind fun L => (goChg L d.chg).bind fun L => goCome W L d.come
theorem fsU_some {L : List En} {i : Nat} {e : En} (h : fstE L i = some e) : e ∈ L ∧ e.1 = i := by
 unfold fstE at h
 exact ⟨List.mem_of_find?_eq_some h,by simpa using List.find?_some h⟩
theorem upe_one {L : List En} (h : Upe L) {x y : En} (hx : x ∈ L) (hy : y ∈ L) (e : x.1 = y.1) : x = y := by
 induction L with
 | nil => cases hx
 | cons z t ih =>
  obtain ⟨h1,h2⟩ := List.pairwise_cons.1 h
  rcases List.mem_cons.1 hx with rfl | hx
  ·rcases List.mem_cons.1 hy with rfl | hy
   ·rfl
   ·have := h1 y hy; omega
  ·rcases List.mem_cons.1 hy with e2 | hy
   ·have := h1 x hx; subst e2; omega
   ·exact ih h2 hx hy
theorem fsU_mem {L : List En} (h : Upe L) {x : En} (hx : x ∈ L) : fstE L x.1 = some x := by
 cases hf : fstE L x.1 with
 | none =>
  unfold fstE at hf
  rw [List.find?_eq_none] at hf
  exact absurd (by simp) (hf x hx)
 | some y =>
  obtain ⟨y1,y2⟩ := fsU_some hf
  rw [upe_one h y1 hx y2]
theorem fsU_is {L : List En} {i : Nat} (h : fstE L i = none) : ∀ x ∈ L,x.1 ≠ i := by
 intro x hx e
 unfold fstE at h
 rw [List.find?_eq_none] at h
 exact h x hx (by simp [e])
theorem goGone_to (gs : List Nat) : ∀ (L : List En),gs.Pairwise (fun a b => a < b) → Upe L → (∀ g ∈ gs,∃ e ∈ L,e.1 = g) → ∃ m,goGone L gs = some m ∧ Upe m ∧ ∀ e,e ∈ m ↔ e ∈ L ∧ e.1 ∉ gs := by
 induction gs with
 | nil => exact fun L _ hl _ => ⟨L,rfl,hl,fun e => by simp⟩
 | cons g gs ih =>
  intro L hg hl hk
  obtain ⟨g1,g2⟩ := List.pairwise_cons.1 hg
  have ho : ∀ q,q ∈ dropE L g ↔ q ∈ L ∧ q.1 ≠ g := fun q => by unfold dropE; simp
  obtain ⟨m,m1,m2,m3⟩ := ih (dropE L g) g2 (hl.filter _) (fun x hx => by
   obtain ⟨e,e1,e2⟩ := hk x (List.mem_cons_of_mem _ hx)
   exact ⟨e,(ho e).2 ⟨e1,by have := g1 x hx; omega⟩,e2⟩)
  obtain ⟨e,e1,e2⟩ := hk g (by simp)
  refine ⟨m,by unfold goGone; rw [← e2,fsU_mem hl e1,if_pos (show (some e).isSome = true from rfl),e2]; exact m1,m2,fun q => ?_⟩
  rw [m3 q,ho q,List.mem_cons]
  simp only [not_or,and_assoc]
theorem setE_up {L : List En} (h : Upe L) (g : Nat) (M : List Cp) : Upe (setE L g M) := by
 unfold setE
 refine List.pairwise_map.2 (h.imp fun {a b} h => ?_)
 split <;> split <;> exact h
theorem setE_mem {L : List En} (h : Upe L) {e : En} (he : e ∈ L) (M : List Cp) (q : En) : q ∈ setE L e.1 M ↔ q = (e.1,M) ∨ (q ∈ L ∧ q.1 ≠ e.1) := by
 unfold setE
 rw [List.mem_map]
 constructor
 ·rintro ⟨x,x1,rfl⟩
  by_cases hx : x.1 = e.1
  ·rw [if_pos hx,hx]; exact .inl rfl
  ·rw [if_neg hx]; exact .inr ⟨x1,hx⟩
 ·rintro (rfl | ⟨a,b⟩)
  ·exact ⟨e,he,if_pos rfl⟩
  ·exact ⟨q,a,if_neg b⟩
theorem goChg_to (cs : List Chg) : ∀ (L : List En),cs.Pairwise (fun a b => a.id < b.id) → Upe L → (∀ c ∈ cs,∃ e ∈ L,e.1 = c.id ∧ ∃ M,chgC e.2 c = some M) → ∃ m,goChg L cs = some m ∧ Upe m ∧ ∀ q,q ∈ m ↔ (q ∈ L ∧ ∀ c ∈ cs,q.1 ≠ c.id) ∨ ∃ c ∈ cs,∃ e ∈ L,e.1 = c.id ∧ q.1 = e.1 ∧ chgC e.2 c = some q.2 := by
 induction cs with
 | nil => exact fun L _ hl _ => ⟨L,rfl,hl,fun q => by simp⟩
 | cons c cs ih =>
  intro L hc hl hk
  obtain ⟨c1,c2⟩ := List.pairwise_cons.1 hc
  obtain ⟨e,e1,e2,M,hM⟩ := hk c (by simp)
  have hs := fun q => setE_mem hl e1 M q
  have stay : ∀ x ∈ cs,∀ y : En,y.1 = x.id → (y ∈ setE L e.1 M ↔ y ∈ L) := fun x hx y hy => by
   have := c1 x hx
   rw [hs y]
   constructor
   ·rintro (rfl | ⟨a,_⟩)
    ·simp only at hy; omega
    ·exact a
   ·exact fun a => .inr ⟨a,by omega⟩
  obtain ⟨m,m1,m2,m3⟩ := ih (setE L e.1 M) c2 (setE_up hl _ _) (fun x hx => by
   obtain ⟨y,y1,y2,y3⟩ := hk x (List.mem_cons_of_mem _ hx)
   exact ⟨y,(stay x hx y y2).2 y1,y2,y3⟩)
  have hE : chgE L c = some (setE L e.1 M) := by
   unfold chgE
   rw [← e2,fsU_mem hl e1]
   simp only [hM,Option.map_some]
  refine ⟨m,by unfold goChg; rw [hE]; exact m1,m2,fun q => ?_⟩
  rw [m3 q,hs q]
  constructor
  ·rintro (⟨rfl | ⟨a,b⟩,d⟩ | ⟨x,hx,y,y1,y2,y3,y4⟩)
   ·exact .inr ⟨c,by simp,e,e1,e2,rfl,hM⟩
   ·refine .inl ⟨a,fun x hx => ?_⟩
    rcases List.mem_cons.1 hx with rfl | hx
    ·omega
    ·exact d x hx
   ·exact .inr ⟨x,List.mem_cons_of_mem _ hx,y,(stay x hx y y2).1 y1,y2,y3,y4⟩
  ·rintro (⟨a,b⟩ | ⟨x,hx,y,y1,y2,y3,y4⟩)
   ·exact .inl ⟨.inr ⟨a,by have := b c (by simp); omega⟩,fun x hx => b x (List.mem_cons_of_mem _ hx)⟩
   ·rcases List.mem_cons.1 hx with rfl | hx
    ·have ey := upe_one hl y1 e1 (y2.trans e2.symm)
     subst ey
     rw [hM] at y4
     simp only [Option.some.injEq] at y4
     refine .inl ⟨.inl (Prod.ext y3 y4.symm),fun z hz => ?_⟩
     have := c1 z hz
     omega
    ·exact .inr ⟨x,hx,y,(stay x hx y y2).2 y1,y2,y3,y4⟩
theorem insE_cons (a : En) (t : List En) (e : En) : insE (a :: t) e = if a.1 < e.1 then a :: insE t e else e :: a :: t := by
 unfold insE
 rw [List.takeWhile_cons,List.dropWhile_cons]
 by_cases h : a.1 < e.1 <;> simp [h]
theorem insE_mem (L : List En) (e q : En) : q ∈ insE L e ↔ q = e ∨ q ∈ L := by
 induction L with
 | nil => simp [insE]
 | cons a t ih =>
  rw [insE_cons]
  split
  ·rw [List.mem_cons,ih,List.mem_cons]
   constructor
   ·rintro (h | h | h)
    ·exact .inr (.inl h)
    ·exact .inl h
    ·exact .inr (.inr h)
   ·rintro (h | h | h)
    ·exact .inr (.inl h)
    ·exact .inl h
    ·exact .inr (.inr h)
  ·rw [List.mem_cons]
theorem insE_up {L : List En} (h : Upe L) (e : En) (hn : ∀ x ∈ L,x.1 ≠ e.1) : Upe (insE L e) := by
 induction L with
 | nil => simp [insE,Upe]
 | cons a t ih =>
  obtain ⟨h1,h2⟩ := List.pairwise_cons.1 h
  rw [insE_cons]
  split
  ·rename_i hl
   refine List.pairwise_cons.2 ⟨fun x hx => ?_,ih h2 (fun x hx => hn x (List.mem_cons_of_mem _ hx))⟩
   rcases (insE_mem t e x).1 hx with rfl | hx
   ·exact hl
   ·exact h1 x hx
  ·rename_i hl
   have := hn a (by simp)
   refine List.pairwise_cons.2 ⟨fun x hx => ?_,h⟩
   rcases List.mem_cons.1 hx with rfl | hx
   ·omega
   ·have := h1 x hx; omega
theorem goCome_to (W es : List En) : ∀ (L : List En),Upe es → Upe L → (∀ e ∈ es,fstE W e.1 = none) → (∀ e ∈ es,∀ x ∈ L,x.1 ≠ e.1) → ∃ m,goCome W L es = some m ∧ Upe m ∧ ∀ q,q ∈ m ↔ q ∈ L ∨ q ∈ es := by
 induction es with
 | nil => exact fun L _ hl _ _ => ⟨L,rfl,hl,fun q => by simp⟩
 | cons e es ih =>
  intro L he hl hw hk
  obtain ⟨e1,e2⟩ := List.pairwise_cons.1 he
  obtain ⟨m,m1,m2,m3⟩ := ih (insE L e) e2 (insE_up hl e (hk e (by simp))) (fun x hx => hw x (List.mem_cons_of_mem _ hx)) (fun y hy x hx => by
   rcases (insE_mem L e x).1 hx with rfl | hx
   ·have := e1 y hy; omega
   ·exact hk y (List.mem_cons_of_mem _ hy) x hx)
  refine ⟨m,by unfold goCome; rw [hw e (by simp)]; exact m1,m2,fun q => ?_⟩
  rw [m3 q,insE_mem,List.mem_cons]
  constructor
  ·rintro ((h | h) | h)
   ·exact .inr (.inl h)
   ·exact .inl h
   ·exact .inr (.inr h)
  ·rintro (h | h | h)
   ·exact .inl (.inr h)
   ·exact .inl (.inl h)
   ·exact .inr h
theorem patL_to {W N : List En} (hW : Snap W) (hN : Snap N) : patL W (btw W N) = some N := by
 rw [btw_dlt W N hW.up hN.up]
 have hg : ∀ g,g ∈ (dlt W N).gone ↔ ∃ e ∈ W,fstE N e.1 = none ∧ e.1 = g := fun g => by
  unfold dlt; simp [and_assoc]
 have hc : ∀ c,c ∈ (dlt W N).chg ↔ ∃ n ∈ N,∃ w,fstE W n.1 = some w ∧ (chg1 w n).nil = false ∧ chg1 w n = c := fun c => by
  unfold dlt
  simp only [List.mem_filterMap]
  constructor
  ·rintro ⟨n,n1,n2⟩
   unfold chgO at n2
   cases hf : fstE W n.1 with
   | none => rw [hf] at n2; simp at n2
   | some w =>
    rw [hf] at n2
    simp only [Option.bind_some] at n2
    split at n2
    ·cases n2
    ·rename_i h0
     simp only [Option.some.injEq] at n2
     exact ⟨n,n1,w,hf,by simpa using h0,n2⟩
  ·rintro ⟨n,n1,w,w1,w2,w3⟩
   refine ⟨n,n1,?_⟩
   unfold chgO
   rw [w1,Option.bind_some,if_neg (by rw [w2]; simp),w3]
 obtain ⟨m,m1,m2,m3⟩ := goGone_to (dlt W N).gone W (List.pairwise_map.2 (hW.up.filter _)) hW.up (fun g hg' => by
  obtain ⟨e,e1,_,e2⟩ := (hg g).1 hg'
  exact ⟨e,e1,e2⟩)
 have m4 : ∀ e,e ∈ m ↔ e ∈ W ∧ ∃ n ∈ N,n.1 = e.1 := fun e => by
  rw [m3 e]
  constructor
  ·rintro ⟨a,b⟩
   refine ⟨a,?_⟩
   cases hf : fstE N e.1 with
   | none => exact absurd ((hg e.1).2 ⟨e,a,hf,rfl⟩) b
   | some n => exact ⟨n,fsU_some hf⟩
  ·rintro ⟨a,n,n1,n2⟩
   refine ⟨a,fun hb => ?_⟩
   obtain ⟨x,x1,x2,x3⟩ := (hg e.1).1 hb
   rw [x3,← n2,fsU_mem hN.up n1] at x2
   cases x2
 have hcup : (dlt W N).chg.Pairwise (fun a b => a.id < b.id) := by
  unfold dlt
  refine List.Pairwise.filterMap _ (fun a b hab x hx y hy => ?_) hN.up
  have key : ∀ {n : En} {c : Chg},c ∈ chgO W n → c.id = n.1 := fun {n c} h => by
   unfold chgO at h
   cases hf : fstE W n.1 with
   | none => rw [hf] at h; simp at h
   | some w =>
    rw [hf] at h
    simp only [Option.bind_some] at h
    split at h
    ·cases h
    ·simp only [Option.mem_def,Option.some.injEq] at h
     rw [← h]; rfl
  rw [key hx,key hy]; exact hab
 have hto : ∀ {w n : En},w ∈ W → n ∈ N → chgC w.2 (chg1 w n) = some n.2 := fun {w n} h1 h2 => chgC_to w.1 n.1 (hW.good w h1) (hN.good n h2)
 obtain ⟨o,o1,o2,o3⟩ := goChg_to (dlt W N).chg m hcup m2 (fun c hc' => by
  obtain ⟨n,n1,w,w1,w2,rfl⟩ := (hc c).1 hc'
  obtain ⟨w3,w4⟩ := fsU_some w1
  exact ⟨w,(m4 w).2 ⟨w3,n,n1,w4.symm⟩,w4,n.2,hto w3 n1⟩)
 have o4 : ∀ q,q ∈ o ↔ q ∈ N ∧ ∃ w ∈ W,w.1 = q.1 := fun q => by
  rw [o3 q]
  constructor
  ·rintro (⟨a,b⟩ | ⟨c,c1,e,e1,e2,e3,e4⟩)
   ·obtain ⟨a1,n,n1,n2⟩ := (m4 q).1 a
    have hf : fstE W n.1 = some q := by rw [n2]; exact fsU_mem hW.up a1
    have : (chg1 q n).nil = true := by
     apply Decidable.byContradiction
     intro hn
     exact b _ ((hc _).2 ⟨n,n1,q,hf,by simpa using hn,rfl⟩) n2.symm
    have e : q = n := Prod.ext n2.symm (nil_same (hW.good q a1) (hN.good n n1) this)
    rw [e]
    exact ⟨n1,q,a1,by rw [e]⟩
   ·obtain ⟨n,n1,w,w1,w2,rfl⟩ := (hc c).1 c1
    obtain ⟨w3,w4⟩ := fsU_some w1
    have e5 := upe_one hW.up ((m4 e).1 e1).1 w3 (e2.trans (show (chg1 w n).id = w.1 from w4.symm))
    subst e5
    rw [hto w3 n1] at e4
    simp only [Option.some.injEq] at e4
    have eq : q = n := Prod.ext (e3.trans w4) e4.symm
    rw [eq]
    exact ⟨n1,e,w3,w4⟩
  ·rintro ⟨a,w,w1,w2⟩
   have hf : fstE W q.1 = some w := by rw [← w2]; exact fsU_mem hW.up w1
   have hm : w ∈ m := (m4 w).2 ⟨w1,q,a,w2.symm⟩
   by_cases hn : (chg1 w q).nil = true
   ·have e : w = q := Prod.ext w2 (nil_same (hW.good w w1) (hN.good q a) hn)
    subst e
    refine .inl ⟨hm,fun c hc' e => ?_⟩
    obtain ⟨n,n1,x,x1,x2,rfl⟩ := (hc c).1 hc'
    have en : n = w := upe_one hN.up n1 a e.symm
    subst en
    rw [hf] at x1
    simp only [Option.some.injEq] at x1
    subst x1
    rw [hn] at x2
    cases x2
   ·exact .inr ⟨chg1 w q,(hc _).2 ⟨q,a,w,hf,by simpa using hn,rfl⟩,w,hm,w2,w2.symm,hto w1 a⟩
 have hcome : ∀ e,e ∈ (dlt W N).come ↔ e ∈ N ∧ fstE W e.1 = none := fun e => by
  unfold dlt; simp
 obtain ⟨r,r1,r2,r3⟩ := goCome_to W (dlt W N).come o (hN.up.filter _) o2 (fun e he => ((hcome e).1 he).2) (fun e he x hx h => by
  obtain ⟨_,w,w1,w2⟩ := (o4 x).1 hx
  exact fsU_is ((hcome e).1 he).2 w w1 (w2.trans h))
 have er : r = N := by
  refine up_mem (fun x => x.1) r2 hN.up (fun q => ?_)
  rw [r3 q,o4 q,hcome q]
  constructor
  ·rintro (⟨a,_⟩ | ⟨a,_⟩) <;> exact a
  ·intro a
   cases hf : fstE W q.1 with
   | none => exact .inr ⟨a,rfl⟩
   | some w => exact .inl ⟨a,w,fsU_some hf⟩
 unfold patL
 rw [m1,Option.bind_some,o1,Option.bind_some,r1,er]
theorem find_no {L : List EnE} {i : Nat} {r : Int} (h : FindR L i r) (hr : r < 0) : fstE (evs L) i = none := by
 rcases h with ⟨_,h⟩ | ⟨j,x,rfl,_⟩
 ·unfold fstE
  rw [List.find?_eq_none]
  intro y hy
  obtain ⟨z,hz,rfl⟩ := List.mem_map.1 hy
  simpa using h z hz
 ·omega
theorem find_is {L : List EnE} (hU : Upe (evs L)) {i : Nat} {r : Int} (h : FindR L i r) (hr : ¬ r < 0) : ∃ (j : Nat) (x : EnE),r = (j : Int) ∧ L[j]? = some x ∧ x.id = i ∧ fstE (evs L) i = some (x.id,x.C) := by
 rcases h with ⟨rfl,_⟩ | ⟨j,x,rfl,hx,hi,_⟩
 ·omega
 ·exact ⟨j,x,rfl,hx,hi,by rw [← hi]; exact fsU_mem hU (x := (x.id,x.C)) (List.mem_of_getElem? (evs_at hx))⟩
theorem cut_at {α : Type} {L : List α} {j : Nat} {x : α} (hx : L[j]? = some x) : L = L.take j ++ x :: L.drop (j + 1) := by
 have hj := List.getElem?_eq_some_iff.1 hx
 rw [← hj.2,← List.drop_eq_getElem_cons hj.1,List.take_append_drop]
theorem evs_app (A B : List EnE) : evs (A ++ B) = evs A ++ evs B := by simp [evs]
theorem upe_cut {A B : List En} {x : En} (h : Upe (A ++ x :: B)) : (∀ y ∈ A,y.1 < x.1) ∧ ∀ y ∈ B,x.1 < y.1 := by
 obtain ⟨_,h2,h3⟩ := List.pairwise_append.1 h
 exact ⟨fun y hy => h3 y hy x (by simp),(List.pairwise_cons.1 h2).1⟩
theorem dropE_at {L : List EnE} (hU : Upe (evs L)) {j : Nat} {x : EnE} (hx : L[j]? = some x) : dropE (evs L) x.id = evs (L.take j ++ L.drop (j + 1)) := by
 have hc := cut_at hx
 rw [evs_app]
 generalize L.take j = A at *
 generalize L.drop (j + 1) = B at *
 subst hc
 have e : evs (A ++ x :: B) = evs A ++ (x.id,x.C) :: evs B := by simp [evs]
 rw [e] at hU ⊢
 obtain ⟨h1,h2⟩ := upe_cut hU
 unfold dropE
 rw [List.filter_append,List.filter_cons,if_neg (by simp),List.filter_eq_self.2 (fun y hy => by have := h1 y hy; simp only at this; exact decide_eq_true (by omega)),List.filter_eq_self.2 (fun y hy => by have := h2 y hy; simp only at this; exact decide_eq_true (by omega))]
theorem setE_at {L : List EnE} (hU : Upe (evs L)) {j : Nat} {x : EnE} (hx : L[j]? = some x) (y : EnE) (hy : y.id = x.id) : setE (evs L) x.id y.C = evs (L.set j y) := by
 have hc := cut_at hx
 have hj := (List.getElem?_eq_some_iff.1 hx).1
 rw [List.set_eq_take_append_cons_drop,if_pos hj]
 generalize L.take j = A at *
 generalize L.drop (j + 1) = B at *
 subst hc
 have e : ∀ z : EnE,evs (A ++ z :: B) = evs A ++ (z.id,z.C) :: evs B := fun z => by simp [evs]
 rw [e] at hU
 rw [e,e]
 obtain ⟨h1,h2⟩ := upe_cut hU
 have k1 : ∀ l : List En,(∀ z ∈ l,z.1 ≠ x.id) → l.map (fun z => if z.1 = x.id then (z.1,y.C) else z) = l := fun l hl => by
  conv => rhs; rw [← List.map_id l]
  exact List.map_congr_left (fun z hz => by rw [if_neg (hl z hz)]; rfl)
 unfold setE
 rw [List.map_append,List.map_cons,if_pos rfl,k1 _ (fun z hz => by have := h1 z hz; simp only at this; omega),k1 _ (fun z hz => by have := h2 z hz; simp only at this; omega),hy]
theorem insE_at {A B : List En} {x e : En} (h1 : ∀ y ∈ A,y.1 < e.1) (h2 : e.1 ≤ x.1) : insE (A ++ x :: B) e = A ++ e :: x :: B := by
 induction A with
 | nil => rw [List.nil_append,insE_cons,if_neg (by omega)]; rfl
 | cons a t ih => rw [List.cons_append,insE_cons,if_pos (h1 a (by simp)),ih (fun y hy => h1 y (List.mem_cons_of_mem _ hy))]; rfl
theorem insE_end {A : List En} {e : En} (h1 : ∀ y ∈ A,y.1 < e.1) : insE A e = A ++ [e] := by
 induction A with
 | nil => rfl
 | cons a t ih => rw [insE_cons,if_pos (h1 a (by simp)),ih (fun y hy => h1 y (List.mem_cons_of_mem _ hy))]; rfl
def CmI (e : EnE) (N : List EnE) (j : Nat) (out : List EnE) (done : Bool) : Prop := (done = false ∧ out = N.take j ∧ ∀ x ∈ N.take j,x.id < e.id) ∨ (done = true ∧ evs out ++ evs (N.drop j) = insE (evs N) (e.id,e.C) ∧ (∀ y ∈ out,y = e ∨ y ∈ N) ∧ out.length = j + 1)
theorem CmI.len {e : EnE} {N out : List EnE} {j : Nat} {d : Bool} (h : CmI e N j out d) (hj : j ≤ N.length) : out.length = j + (if d then 1 else 0) := by
 rcases h with ⟨rfl,rfl,_⟩ | ⟨rfl,_,_,h⟩
 ·rw [List.length_take]; simp; omega
 ·rw [h]; simp
theorem evs_drop {N : List EnE} {j : Nat} {x : EnE} (hx : N[j]? = some x) : evs (N.drop j) = (x.id,x.C) :: evs (N.drop (j + 1)) := by
 have hj := List.getElem?_eq_some_iff.1 hx
 rw [List.drop_eq_getElem_cons hj.1,hj.2]; simp [evs]
theorem CmI.put {e : EnE} {N out : List EnE} {j : Nat} {x : EnE} (h : CmI e N j out false) (hx : N[j]? = some x) (hle : e.id ≤ x.id) : CmI e N (j + 1) (out ++ [e] ++ [x]) true := by
 rcases h with ⟨_,rfl,h⟩ | ⟨h,_⟩
 ·refine .inr ⟨rfl,?_,?_,by have := (List.getElem?_eq_some_iff.1 hx).1; simp; omega⟩
  ·have hc := cut_at hx
   have e2 : evs N = evs (N.take j) ++ (x.id,x.C) :: evs (N.drop (j + 1)) := by
    conv => lhs; rw [hc]
    simp [evs]
   rw [e2,insE_at (fun y hy => by obtain ⟨z,hz,rfl⟩ := List.mem_map.1 hy; exact h z hz) hle]
   simp [evs]
  ·intro y hy
   simp only [List.append_assoc,List.mem_append,List.cons_append,List.nil_append,List.mem_cons,List.not_mem_nil,or_false] at hy
   rcases hy with hy | rfl | rfl
   ·exact .inr (List.mem_of_mem_take hy)
   ·exact .inl rfl
   ·exact .inr (List.mem_of_getElem? hx)
 ·cases h
theorem CmI.by {e : EnE} {N out : List EnE} {j : Nat} {x : EnE} (h : CmI e N j out false) (hx : N[j]? = some x) (hle : ¬ e.id ≤ x.id) : CmI e N (j + 1) (out ++ [x]) false := by
 rcases h with ⟨_,rfl,h⟩ | ⟨h,_⟩
 ·have e1 : N.take j ++ [x] = N.take (j + 1) := by rw [List.take_add_one,hx]; rfl
  refine .inl ⟨rfl,e1,fun y hy => ?_⟩
  rw [← e1] at hy
  rcases List.mem_append.1 hy with hy | hy
  ·exact h y hy
  ·rw [List.mem_singleton.1 hy]; omega
 ·cases h
theorem CmI.on {e : EnE} {N out : List EnE} {j : Nat} {x : EnE} (h : CmI e N j out true) (hx : N[j]? = some x) : CmI e N (j + 1) (out ++ [x]) true := by
 rcases h with ⟨h,_⟩ | ⟨_,h1,h2,h3⟩
 ·cases h
 ·refine .inr ⟨rfl,?_,?_,by simp; omega⟩
  ·rw [← h1,evs_drop hx]; simp [evs]
  ·intro y hy
   rcases List.mem_append.1 hy with hy | hy
   ·exact h2 y hy
   ·rw [List.mem_singleton.1 hy]; exact .inr (List.mem_of_getElem? hx)
theorem CmI.fin0 {e : EnE} {N out : List EnE} {j : Nat} (h : CmI e N j out false) (hj : N.length ≤ j) : evs (out ++ [e]) = insE (evs N) (e.id,e.C) ∧ (∀ y ∈ out ++ [e],y = e ∨ y ∈ N) ∧ out.length = N.length := by
 rcases h with ⟨_,rfl,h⟩ | ⟨h,_⟩
 ·rw [List.take_of_length_le hj] at h ⊢
  refine ⟨?_,fun y hy => ?_,rfl⟩
  ·rw [insE_end (fun y hy => by obtain ⟨z,hz,rfl⟩ := List.mem_map.1 hy; exact h z hz)]
   simp [evs]
  ·rcases List.mem_append.1 hy with hy | hy
   ·exact .inr hy
   ·exact .inl (List.mem_singleton.1 hy)
 ·cases h
theorem CmI.fin1 {e : EnE} {N out : List EnE} {j : Nat} (h : CmI e N j out true) (hj : N.length ≤ j) : evs out = insE (evs N) (e.id,e.C) ∧ (∀ y ∈ out,y = e ∨ y ∈ N) := by
 rcases h with ⟨h,_⟩ | ⟨_,h1,h2,_⟩
 ·cases h
 ·refine ⟨?_,h2⟩
  rw [← h1,List.drop_eq_nil_of_le hj]; simp [evs]
theorem drop_at {α : Type} {L : List α} {j : Nat} {x : α} (hx : L[j]? = some x) : L.drop j = x :: L.drop (j + 1) := by
 have hj := List.getElem?_eq_some_iff.1 hx
 rw [List.drop_eq_getElem_cons hj.1,hj.2]
theorem range8 : ∀ (j : Fin 8),(List.range 8).drop j.1 = j.1 :: (List.range 8).drop (j.1 + 1) := by decide
theorem dropK_no {lost j : Nat} {l : List Cp} (hj : j < 8) (h : lost / 2 ^ j % 2 = 0) : dropK lost ((List.range 8).drop j) l = dropK lost ((List.range 8).drop (j + 1)) l := by
 rw [range8 ⟨j,hj⟩]; simp only [dropK,if_pos h]
theorem dropK_bad {lost j : Nat} {l : List Cp} (hj : j < 8) (h : ¬ lost / 2 ^ j % 2 = 0) (hk : hasK l j = false) : dropK lost ((List.range 8).drop j) l = none := by
 rw [range8 ⟨j,hj⟩]; simp only [dropK,if_neg h,hk]; simp
theorem dropK_is {lost j : Nat} {l : List Cp} (hj : j < 8) (h : ¬ lost / 2 ^ j % 2 = 0) (hk : hasK l j = true) : dropK lost ((List.range 8).drop j) l = dropK lost ((List.range 8).drop (j + 1)) (outk l j) := by
 rw [range8 ⟨j,hj⟩]; simp only [dropK,if_neg h,hk,if_true]
theorem dropK_end {lost j : Nat} {l : List Cp} (hj : 8 ≤ j) : dropK lost ((List.range 8).drop j) l = some l := by
 rw [List.drop_eq_nil_of_le (by simp; omega)]; rfl
theorem putNew_bad {C l xs : List Cp} {j : Nat} {x : Cp} (hx : xs[j]? = some x) (h : hasK C x.k = true) : putNew C l (xs.drop j) = none := by
 rw [drop_at hx]; simp only [putNew,h,if_true]
theorem putNew_is {C l xs : List Cp} {j : Nat} {x : Cp} (hx : xs[j]? = some x) (h : hasK C x.k = false) : putNew C l (xs.drop j) = putNew C (insc l x) (xs.drop (j + 1)) := by
 rw [drop_at hx]; simp only [putNew,h]; simp
theorem putNew_end {C l xs : List Cp} {j : Nat} (hj : xs.length ≤ j) : putNew C l (xs.drop j) = some l := by
 rw [List.drop_eq_nil_of_le hj]; simp only [putNew]
theorem putSet_bad {l xs : List Cp} {j : Nat} {x : Cp} (hx : xs[j]? = some x) (h : hasK l x.k = false) : putSet l (xs.drop j) = none := by
 rw [drop_at hx]; simp only [putSet,h]; simp
theorem putSet_is {l xs : List Cp} {j : Nat} {x : Cp} (hx : xs[j]? = some x) (h : hasK l x.k = true) : putSet l (xs.drop j) = putSet (insc l x) (xs.drop (j + 1)) := by
 rw [drop_at hx]; simp only [putSet,h,if_true]
theorem putSet_end {l xs : List Cp} {j : Nat} (hj : xs.length ≤ j) : putSet l (xs.drop j) = some l := by
 rw [List.drop_eq_nil_of_le hj]; simp only [putSet]
theorem goGone_bad {L : List En} {gs : List Nat} {j g : Nat} (hx : gs[j]? = some g) (h : fstE L g = none) : goGone L (gs.drop j) = none := by
 rw [drop_at hx]; simp only [goGone,h]; simp
theorem goGone_is {L : List En} {gs : List Nat} {j g : Nat} {e : En} (hx : gs[j]? = some g) (h : fstE L g = some e) : goGone L (gs.drop j) = goGone (dropE L g) (gs.drop (j + 1)) := by
 rw [drop_at hx]; simp only [goGone,h]; simp
theorem goGone_end {L : List En} {gs : List Nat} {j : Nat} (hj : gs.length ≤ j) : goGone L (gs.drop j) = some L := by
 rw [List.drop_eq_nil_of_le hj]; simp only [goGone]
theorem goChg_bad {L : List En} {cs : List Chg} {j : Nat} {c : Chg} (hx : cs[j]? = some c) (h : chgE L c = none) : goChg L (cs.drop j) = none := by
 rw [drop_at hx]; simp only [goChg,h]
theorem goChg_is {L L' : List En} {cs : List Chg} {j : Nat} {c : Chg} (hx : cs[j]? = some c) (h : chgE L c = some L') : goChg L (cs.drop j) = goChg L' (cs.drop (j + 1)) := by
 rw [drop_at hx]; simp only [goChg,h]
theorem goChg_end {L : List En} {cs : List Chg} {j : Nat} (hj : cs.length ≤ j) : goChg L (cs.drop j) = some L := by
 rw [List.drop_eq_nil_of_le hj]; simp only [goChg]
theorem goCome_bad {W L es : List En} {j : Nat} {e : En} (hx : es[j]? = some e) {x : En} (h : fstE W e.1 = some x) : goCome W L (es.drop j) = none := by
 rw [drop_at hx]; simp only [goCome,h]; simp
theorem goCome_is {W L es : List En} {j : Nat} {e : En} (hx : es[j]? = some e) (h : fstE W e.1 = none) : goCome W L (es.drop j) = goCome W (insE L e) (es.drop (j + 1)) := by
 rw [drop_at hx]; simp only [goCome,h]; simp
theorem goCome_end {W L es : List En} {j : Nat} (hj : es.length ≤ j) : goCome W L (es.drop j) = some L := by
 rw [List.drop_eq_nil_of_le hj]; simp only [goCome]
theorem dropE_up {L : List En} (h : Upe L) (g : Nat) : Upe (dropE L g) := h.filter _
end Go.Proofs.YtgifeckbflkkpaaGreatDoor
