/- Where a delta leads. -/
import Derived.Test.YtgifeckbflkkpaaGreatDoorQr15
namespace Go.Proofs.YtgifeckbflkkpaaGreatDoor
open Go.RowKit
set_option linter.unusedVariables false
set_option maxHeartbeats 8000000
set_option maxRecDepth 100000
theorem lost_val (A B : List Cp) : lostm A B = val (hasK A 0 && !hasK B 0) (hasK A 1 && !hasK B 1) (hasK A 2 && !hasK B 2) (hasK A 3 && !hasK B 3) (hasK A 4 && !hasK B 4) (hasK A 5 && !hasK B 5) := by
 unfold lostm val
 simp only [lostN]
 generalize (hasK A 0 && !hasK B 0) = a
 generalize (hasK A 1 && !hasK B 1) = b
 generalize (hasK A 2 && !hasK B 2) = c
 generalize (hasK A 3 && !hasK B 3) = d
 generalize (hasK A 4 && !hasK B 4) = e
 generalize (hasK A 5 && !hasK B 5) = f
 cases a <;> cases b <;> cases c <;> cases d <;> cases e <;> cases f <;> rfl
def nthB (a b c d e f : Bool) (k : Nat) : Bool := match k with
 | 0 => a
 | 1 => b
 | 2 => c
 | 3 => d
 | 4 => e
 | _ => f
theorem val_and : ∀ (k : Fin 6) (a b c d e f : Bool),decide (2 ^ k.1 &&& val a b c d e f = 0) = !nthB a b c d e f k.1 := by decide
theorem val_zero : ∀ (k : Fin 6) (a b c d e f : Bool),val a b c d e f = 0 → nthB a b c d e f k.1 = false := by decide
theorem nth_lost (A B : List Cp) (k : Nat) (hk : k < 6) : nthB (hasK A 0 && !hasK B 0) (hasK A 1 && !hasK B 1) (hasK A 2 && !hasK B 2) (hasK A 3 && !hasK B 3) (hasK A 4 && !hasK B 4) (hasK A 5 && !hasK B 5) k = (hasK A k && !hasK B k) := by
 have : k = 0 ∨ k = 1 ∨ k = 2 ∨ k = 3 ∨ k = 4 ∨ k = 5 := by omega
 rcases this with rfl | rfl | rfl | rfl | rfl | rfl <;> rfl
theorem msk_one (x : Cp) (h : x.k < 6) : msk [x] = 2 ^ x.k := by
 have : x.k = 0 ∨ x.k = 1 ∨ x.k = 2 ∨ x.k = 3 ∨ x.k = 4 ∨ x.k = 5 := by omega
 rw [msk_val]
 simp only [hasK,List.any_cons,List.any_nil,Bool.or_false]
 rcases this with h | h | h | h | h | h <;> simp [h,val]
def stays (lost : Nat) (x : Cp) : Bool := decide (msk [x] &&& lost = 0)
theorem stays_lost (A B : List Cp) (x : Cp) (h : x.k < 6) : stays (lostm A B) x = !(hasK A x.k && !hasK B x.k) := by
 unfold stays
 rw [msk_one x h,lost_val,val_and ⟨x.k,h⟩,nth_lost A B x.k h]
theorem lost_zero {A B : List Cp} (h : lostm A B = 0) (k : Nat) (hk : k < 6) (hA : hasK A k = true) : hasK B k = true := by
 rw [lost_val] at h
 have := val_zero ⟨k,hk⟩ _ _ _ _ _ _ h
 rw [nth_lost A B k hk,hA] at this
 simpa using this
theorem fst_some {A : List Cp} {k : Nat} {x : Cp} (h : fst A k = some x) : x ∈ A ∧ x.k = k := by
 unfold fst at h
 exact ⟨List.mem_of_find?_eq_some h,by simpa using List.find?_some h⟩
theorem hasK_fst {A : List Cp} {k : Nat} (h : hasK A k = true) : ∃ x,fst A k = some x := by
 unfold hasK at h
 rw [List.any_eq_true] at h
 obtain ⟨x,hx,e⟩ := h
 cases hf : fst A k with
 | some y => exact ⟨y,rfl⟩
 | none =>
  unfold fst at hf
  rw [List.find?_eq_none] at hf
  exact absurd e (hf x hx)
theorem mem_hasK {A : List Cp} {x : Cp} (h : x ∈ A) : hasK A x.k = true := by
 unfold hasK
 rw [List.any_eq_true]
 exact ⟨x,h,by simp⟩
theorem up_one {A : List Cp} (hA : A.Pairwise (fun x y => x.k < y.k)) {x y : Cp} (hx : x ∈ A) (hy : y ∈ A) (h : x.k = y.k) : x = y := by
 induction A with
 | nil => cases hx
 | cons z t ih =>
  obtain ⟨h1,h2⟩ := List.pairwise_cons.1 hA
  rcases List.mem_cons.1 hx with rfl | hx
  ·rcases List.mem_cons.1 hy with rfl | hy
   ·rfl
   ·have := h1 y hy; omega
  ·rcases List.mem_cons.1 hy with e | hy
   ·have := h1 x hx; subst e; omega
   ·exact ih h2 hx hy
theorem fst_mem {A : List Cp} (hA : A.Pairwise (fun x y => x.k < y.k)) {x : Cp} (hx : x ∈ A) : fst A x.k = some x := by
 obtain ⟨y,hy⟩ := hasK_fst (mem_hasK hx)
 obtain ⟨h1,h2⟩ := fst_some hy
 rw [hy,up_one hA h1 hx h2]
theorem isSet_iff {A : List Cp} {x : Cp} : isSet A x = true ↔ ∃ y,fst A x.k = some y ∧ y ≠ x := by
 unfold isSet
 cases h : fst A x.k with
 | none => simp
 | some y => simp
def lat (S : List Cp) (x : Cp) : Cp := (fst S x.k).getD x
theorem lat_k (S : List Cp) (x : Cp) : (lat S x).k = x.k := by
 unfold lat
 cases h : fst S x.k with
 | none => rfl
 | some y => exact (fst_some h).2
theorem lat_to {A B : List Cp} (hA : Good A) (hB : Good B) {x : Cp} (hx : x ∈ A) (hk : hasK B x.k = true) : fst B x.k = some (lat (B.filter (isSet A)) x) := by
 obtain ⟨y,hy⟩ := hasK_fst hk
 obtain ⟨y1,y2⟩ := fst_some hy
 rw [hy]
 unfold lat
 by_cases e : y = x
 ·subst e
  have hn : fst (B.filter (isSet A)) y.k = none := by
   unfold fst
   rw [List.find?_eq_none]
   intro z hz
   obtain ⟨z1,z2⟩ := List.mem_filter.1 hz
   simp only [decide_eq_true_eq]
   intro zk
   have e := up_one hB.1 z1 y1 zk
   subst e
   obtain ⟨u,u1,u2⟩ := isSet_iff.1 z2
   rw [fst_mem hA.1 hx] at u1
   simp only [Option.some.injEq] at u1
   exact u2 u1.symm
  rw [hn]; rfl
 ·have hm : y ∈ B.filter (isSet A) := List.mem_filter.2 ⟨y1,isSet_iff.2 ⟨x,by rw [y2]; exact fst_mem hA.1 hx,fun h => e h.symm⟩⟩
  rw [← y2,fst_mem (hB.1.sublist List.filter_sublist) hm]; rfl
def mid (C : List Cp) (c : Chg) : List Cp := (C.filter (stays c.lost)).map (lat c.set) ++ c.new
def ChgR (C : List Cp) (c : Chg) (M : List Cp) : Prop := M.Perm (mid C c) ∧ M.Pairwise (fun a b => a.k ≤ b.k)
theorem mid_to (i j : Nat) {A B : List Cp} (hA : Good A) (hB : Good B) : (mid A (chg1 (i,A) (j,B))).Perm B := by
 have hst : ∀ x ∈ A,stays (lostm A B) x = true ↔ hasK B x.k = true := fun x hx => by
  rw [stays_lost A B x (hA.2 x hx),mem_hasK hx]; simp
 have nk : ∀ {L : List Cp},(L.map (fun x => x.k)).Nodup → L.Nodup := fun h => (List.pairwise_map.1 h).imp (fun h e => h (by rw [e]))
 have upk : ∀ {L : List Cp},L.Pairwise (fun x y => x.k < y.k) → (L.map (fun x => x.k)).Nodup := fun h => List.pairwise_map.2 (h.imp (fun h => by omega))
 have hnd : (mid A (chg1 (i,A) (j,B))).Nodup := by
  apply nk
  unfold mid chg1
  simp only [List.map_append,List.map_map]
  have e : (fun x : Cp => x.k) ∘ lat (B.filter (isSet A)) = fun x => x.k := by funext x; exact lat_k _ x
  rw [e]
  rw [List.nodup_append]
  refine ⟨upk (hA.1.sublist List.filter_sublist),upk (hB.1.sublist List.filter_sublist),?_⟩
  intro a ha b hb hab
  obtain ⟨x,hx,rfl⟩ := List.mem_map.1 ha
  obtain ⟨y,hy,rfl⟩ := List.mem_map.1 hb
  have h1 := mem_hasK (List.mem_filter.1 hx).1
  have h2 := (List.mem_filter.1 hy).2
  unfold isNew at h2
  rw [← hab,h1] at h2
  cases h2
 rw [List.perm_ext_iff_of_nodup hnd (nk (upk hB.1))]
 intro y
 unfold mid chg1
 simp only [List.mem_append,List.mem_map,List.mem_filter]
 constructor
 ·rintro (⟨x,⟨hx,hs⟩,rfl⟩ | ⟨hy,_⟩)
  ·exact (fst_some (lat_to hA hB hx ((hst x hx).1 hs))).1
  ·exact hy
 ·intro hy
  by_cases hk : hasK A y.k = true
  ·obtain ⟨x,hx⟩ := hasK_fst hk
   obtain ⟨x1,x2⟩ := fst_some hx
   have hkB : hasK B x.k = true := by rw [x2]; exact mem_hasK hy
   refine .inl ⟨x,⟨x1,(hst x x1).2 hkB⟩,?_⟩
   have := lat_to hA hB x1 hkB
   rw [x2,fst_mem hB.1 hy] at this
   simp only [Option.some.injEq] at this
   exact this.symm
  ·exact .inr ⟨hy,by unfold isNew; simpa using hk⟩
theorem chgR_to {i j : Nat} {A B M : List Cp} (hA : Good A) (hB : Good B) (h : ChgR A (chg1 (i,A) (j,B)) M) : M = B :=
 sorted_one (fun x => x.k) B M hB.1 h.2 (h.1.trans (mid_to i j hA hB))
theorem nil_same {a b : En} (hA : Good a.2) (hB : Good b.2) (h : (chg1 a b).nil = true) : a.2 = b.2 := by
 unfold Chg.nil chg1 at h
 simp only [Bool.and_eq_true,decide_eq_true_eq,List.isEmpty_iff,List.filter_eq_nil_iff] at h
 obtain ⟨⟨h1,h2⟩,h3⟩ := h
 have key : ∀ y ∈ b.2,y ∈ a.2 := by
  intro y hy
  have e2 := h2 y hy
  have e3 := h3 y hy
  unfold isNew at e2
  obtain ⟨x,hx⟩ := hasK_fst (A := a.2) (k := y.k) (by simpa using e2)
  have : x = y := by
   apply Decidable.byContradiction
   intro hne
   exact e3 (isSet_iff.2 ⟨x,hx,hne⟩)
  rw [← this]
  exact (fst_some hx).1
 refine up_mem (fun x => x.k) hA.1 hB.1 (fun x => ⟨fun hx => ?_,key x⟩)
 obtain ⟨y,hy⟩ := hasK_fst (lost_zero h1 x.k (hA.2 x hx) (mem_hasK hx))
 obtain ⟨y1,y2⟩ := fst_some hy
 rw [← up_one hA.1 (key y y1) hx y2]
 exact y1
def AftR : List En → List Nat → List Chg → List En → Prop
 | [],_,_,L => L = []
 | x :: t,g,c,L => if g.head? = some x.1 then AftR t g.tail c L else
   match c with
   | [] => ∃ L',L = x :: L' ∧ AftR t g [] L'
   | y :: c' => if y.id = x.1 then ∃ M L',L = (x.1,M) :: L' ∧ ChgR x.2 y M ∧ AftR t g c' L' else ∃ L',L = x :: L' ∧ AftR t g (y :: c') L'
theorem btw_low (W N : List En) (p : Nat) : (∀ x ∈ W,p < x.1) → (∀ x ∈ N,p < x.1) → (∀ g ∈ (btw W N).gone,p < g) ∧ ∀ c ∈ (btw W N).chg,p < c.id := by
 fun_induction btw W N with
 | case1 => intro _ _; simp
 | case2 w ws ih =>
  intro hW hN
  obtain ⟨i1,i2⟩ := ih (fun x hx => hW x (List.mem_cons_of_mem _ hx)) hN
  refine ⟨fun g hg => ?_,i2⟩
  rcases List.mem_cons.1 hg with rfl | hg
  ·exact hW w (by simp)
  ·exact i1 g hg
 | case3 n ns ih =>
  intro hW hN
  exact ih hW (fun x hx => hN x (List.mem_cons_of_mem _ hx))
 | case4 w ws n ns h ih =>
  intro hW hN
  obtain ⟨i1,i2⟩ := ih (fun x hx => hW x (List.mem_cons_of_mem _ hx)) hN
  refine ⟨fun g hg => ?_,i2⟩
  rcases List.mem_cons.1 hg with rfl | hg
  ·exact hW w (by simp)
  ·exact i1 g hg
 | case5 w ws n ns h h2 ih =>
  intro hW hN
  exact ih hW (fun x hx => hN x (List.mem_cons_of_mem _ hx))
 | case6 w ws n ns h h2 ih =>
  intro hW hN
  obtain ⟨i1,i2⟩ := ih (fun x hx => hW x (List.mem_cons_of_mem _ hx)) (fun x hx => hN x (List.mem_cons_of_mem _ hx))
  refine ⟨i1,fun c hc => ?_⟩
  unfold addC at hc
  simp only at hc
  split at hc
  ·exact i2 c hc
  ·rcases List.mem_cons.1 hc with rfl | hc
   ·exact hN n (by simp)
   ·exact i2 c hc
theorem aft_skip {x : En} {t : List En} {g : List Nat} {c : List Chg} {L : List En} (hg : ∀ y ∈ g,x.1 < y) (hc : ∀ y ∈ c,x.1 < y.id) (h : AftR (x :: t) g c L) : ∃ L',L = x :: L' ∧ AftR t g c L' := by
 unfold AftR at h
 rw [if_neg (by
  intro e
  have := hg x.1 (List.mem_of_head? e)
  omega)] at h
 cases c with
 | nil => exact h
 | cons y c' =>
  simp only at h
  rw [if_neg (by have := hc y (by simp); omega)] at h
  exact h
theorem aft_to (W N : List En) : Snap W → Snap N → ∀ L,AftR W (btw W N).gone (btw W N).chg L → (L ++ (btw W N).come).Perm N := by
 fun_induction btw W N with
 | case1 => intro _ _ L h; unfold AftR at h; subst h; exact List.Perm.refl _
 | case2 w ws ih =>
  intro hW hN L h
  unfold AftR addG at h
  simp only [List.head?_cons,if_true,List.tail_cons] at h
  exact ih hW.tail hN L h
 | case3 n ns ih =>
  intro hW hN L h
  have h1 := ih hW hN.tail L h
  unfold addE
  exact List.perm_middle.trans (List.Perm.cons n h1)
 | case4 w ws n ns h0 ih =>
  intro hW hN L h
  unfold AftR addG at h
  simp only [List.head?_cons,if_true,List.tail_cons] at h
  exact ih hW.tail hN L h
 | case5 w ws n ns h0 h2 ih =>
  intro hW hN L h
  have h1 := ih hW hN.tail L h
  unfold addE
  exact List.perm_middle.trans (List.Perm.cons n h1)
 | case6 w ws n ns h0 h2 ih =>
  intro hW hN L h
  have he : w.1 = n.1 := by omega
  obtain ⟨l1,l2⟩ := btw_low ws ns w.1 (fun x hx => (List.pairwise_cons.1 hW.up).1 x hx) (fun x hx => by rw [he]; exact (List.pairwise_cons.1 hN.up).1 x hx)
  have gw := hW.good w (by simp)
  have gn := hN.good n (by simp)
  unfold addC at h ⊢
  simp only at h ⊢
  split at h
  ·rename_i hn
   obtain ⟨L',rfl,h3⟩ := aft_skip l1 l2 h
   have e : w = n := Prod.ext he (nil_same gw gn hn)
   rw [e]
   exact List.Perm.cons n (ih hW.tail hN.tail L' h3)
  ·unfold AftR at h
   rw [if_neg (by
    intro e
    have := l1 w.1 (List.mem_of_head? e)
    omega)] at h
   simp only at h
   rw [if_pos (show (chg1 w n).id = w.1 from he.symm)] at h
   obtain ⟨M,L',rfl,h3,h4⟩ := h
   have e : (w.1,M) = n := Prod.ext he (chgR_to (i := w.1) (j := n.1) gw gn h3)
   rw [e]
   exact List.Perm.cons n (ih hW.tail hN.tail L' h4)
theorem placeP_any (w : World) (bk k : Nat) (hk : w.cell? ⟨bk,0,none⟩ = some (.int .u8 (k : Int))) (q : Cp) :
  Calls Tryz.prog 228 #[.agg #[.int .u8 (q.k : Int),.int .i32 q.a,.int .i32 q.b,.int .i32 q.c],.pointer (some ⟨bk,0,none⟩)] w fun e w' => e = .returned (.bool (decide (q.k = k))) ∧ Fr Nobody w w' := by
 have hlt : bk < w.heap.size := World.block_lt_of_cell? w _ hk
 have hne : bk ≠ w.heap.size := by omega
 have hne2 : w.heap.size ≠ bk := by omega
 by_cases h : q.k = k
 ·subst h
  go_enter Tryz.func228,Tryz.ntmps228
  go_wp2
  go_ret
  exact ⟨by simp,(Fr.refl _ _).alloc _⟩
 ·have h' : ((q.k : Int) == (k : Int)) = false := by simp; omega
  rw [decide_eq_false h]
  go_enter Tryz.func228,Tryz.ntmps228
  go_wp2
  go_ret
  exact ⟨rfl,(Fr.refl _ _).alloc _⟩
def PlR (C : List Cp) (k : Nat) (r : Int) : Prop := (r = -1 ∧ fst C k = none) ∨ ∃ (j : Nat) (q : Cp),r = (j : Int) ∧ C[j]? = some q ∧ fst C k = some q
theorem fst_hit {C : List Cp} {j k : Nat} {q : Cp} (hq : C[j]? = some q) (hn : fst (C.take j) k = none) (h : q.k = k) : fst C k = some q := by
 have hj := List.getElem?_eq_some_iff.1 hq
 have e : C = C.take j ++ q :: C.drop (j + 1) := by
  rw [← hj.2,← List.drop_eq_getElem_cons hj.1,List.take_append_drop]
 unfold fst at hn ⊢
 rw [e,List.find?_append,hn]
 simp [h]
theorem fst_miss {C : List Cp} {j k : Nat} {q : Cp} (hq : C[j]? = some q) (hn : fst (C.take j) k = none) (h : q.k ≠ k) : fst (C.take (j + 1)) k = none := by
 unfold fst at hn ⊢
 rw [take_snoc C j q hq,List.find?_append,hn]
 simp [h]
theorem idxK_any (w : World) (ao : Option Addr) (n cap : Nat) (C : List Cp) (hn : C.length = n) (hs : Cs w ao C) (hm : n ≤ 2097152) (bk k : Nat) (hk : w.cell? ⟨bk,0,none⟩ = some (.int .u8 (k : Int))) :
  Calls Tryz.prog 148 #[.slice ao n cap,.func (.func 228) #[] #[.pointer (some ⟨bk,0,none⟩)]] w fun e w' => ∃ r : Int,e = .returned (.int .i64 r) ∧ PlR C k r ∧ Fr Nobody w w' := by
 have HL : Hid (C.length = n ∧ Cs w ao C ∧ w.cell? ⟨bk,0,none⟩ = some (.int .u8 (k : Int)) ∧ bk < w.heap.size) := ⟨hn,hs,hk,World.block_lt_of_cell? w _ hk⟩
 clear hn hs hk
 go_enter Tryz.func148,Tryz.ntmps148
 go_wp2
 go_loopw [8] (fun cc wr => ∃ j : Nat,j ≤ n ∧ cc = .int .i64 j ∧ Fr Nobody w wr ∧ fst (C.take j) k = none) (fun cc _ => n - (intOf cc).toNat)
 case atStart => exact ⟨0,Nat.zero_le _,rfl,Fr.refl _ _,by simp [fst]⟩
 case round =>
  obtain ⟨j,hj,rfl,hf,hno⟩ := hrel
  have HF : Hid (Fr Nobody w wr) := hf
  have HN : Hid (fst (C.take j) k = none) := hno
  clear hf hno
  by_cases hlt : j < n
  ·obtain ⟨q,hq⟩ : ∃ q,C[j]? = some q := ⟨_,List.getElem?_eq_getElem (by rw [HL.out.1]; exact hlt)⟩
   obtain ⟨g,o,hao,_,c0,c1,c2,c3⟩ := (HL.out.2.1.quiet HF.out).at j q hq
   subst hao
   have hlt' : (j : Int) < (n : Int) := by omega
   have HP : Hid (Calls _ _ _ _ _) := placeP_any wr bk k ((HF.out.cell (p := ⟨bk,0,none⟩) HL.out.2.2.2 id).trans HL.out.2.2.1) q
   have HQ : Hid (C[j]? = some q) := hq
   clear hq
   by_cases he : q.k = k
   ·have HH : Hid (PlR C k (j : Int)) := .inr ⟨j,q,rfl,HQ.out,fst_hit HQ.out HN.out he⟩
    rw [decide_eq_true he] at HP
    clear he HQ
    obtain ⟨qk,qa,qb,qc⟩ := q
    simp only at c0 c1 c2 c3 HP
    go_wp2_with fail
    refine HP.out.mono ?_
    rintro e w2 ⟨rfl,hf⟩
    have HF2 : Hid (Fr Nobody w w2) := HF.out.trans hf
    clear hf HP
    go_wp2
    go_ret
    exact ⟨(j : Int),rfl,HH.out,HF2.out⟩
   ·have HH : Hid (fst (C.take (j + 1)) k = none) := fst_miss HQ.out HN.out he
    rw [decide_eq_false he] at HP
    clear he HQ
    obtain ⟨qk,qa,qb,qc⟩ := q
    simp only at c0 c1 c2 c3 HP
    go_wp2_with fail
    refine HP.out.mono ?_
    rintro e w2 ⟨rfl,hf⟩
    have HF2 : Hid (Fr Nobody w w2) := HF.out.trans hf
    clear hf HP
    go_wp2
    go_roundw
    case rel => exact ⟨j + 1,by omega,by go_num,HF2.out,HH.out⟩
    case measure => simp [intOf]; omega
  ·have hlt' : ¬ (j : Int) < (n : Int) := by omega
   have HU : Hid (PlR C k (-1)) := .inl ⟨rfl,by have := HN.out; rw [List.take_of_length_le (by rw [HL.out.1]; omega)] at this; exact this⟩
   go_wp2
   go_ret
   exact ⟨-1,rfl,HU.out,HF.out⟩
theorem place_any (w : World) (ao : Option Addr) (n cap : Nat) (C : List Cp) (hn : C.length = n) (hs : Cs w ao C) (hm : n ≤ 2097152) (k : Nat) :
  Calls Tryz.prog 207 #[.slice ao n cap,.int .u8 (k : Int)] w fun e w' => ∃ r : Int,e = .returned (.int .i64 r) ∧ PlR C k r ∧ Fr Nobody w w' := by
 have h0 := ((Own.start w).allocC #[.int .u8 (k : Int)] 5).cell 0
 have HI : Hid (Calls _ _ _ _ _) := idxK_any (w.alloc (.cells #[.int .u8 (k : Int)] 5)) ao n cap C hn (hs.quiet ((Fr.refl _ _).alloc _)) hm w.heap.size k h0
 have HF : Hid (Fr Nobody w (w.alloc (.cells #[.int .u8 (k : Int)] 5))) := (Fr.refl _ _).alloc _
 clear hn hs h0
 go_enter Tryz.func207,Tryz.ntmps207
 go_wp2_with fail
 refine HI.out.mono ?_
 rintro e w2 ⟨r,rfl,hr,hf⟩
 have HR : Hid (PlR C k r) := hr
 have HF2 : Hid (Fr Nobody w w2) := HF.out.trans hf
 clear hf HI hr
 go_wp2
 go_ret
 exact ⟨r,rfl,HR.out,HF2.out⟩
structure ChE where
 id : Nat
 lost : Nat
 N : List Cp
 na : Option Addr
 nc : Nat
 S : List Cp
 sa : Option Addr
 sc : Nat
def ChE.cs (x : ChE) : List Value := [.int .u32 (x.id : Int),.int .u8 (x.lost : Int),.slice x.na x.N.length x.nc,.slice x.sa x.S.length x.sc]
def ChE.v (x : ChE) : Chg := ⟨x.id,x.lost,x.N,x.S⟩
def ChE.nrow (x : ChE) : Thing := Row 63 4 (.slice x.na x.N.length x.nc) x.N.length (ccat x.N)
def ChE.srow (x : ChE) : Thing := Row 63 4 (.slice x.sa x.S.length x.sc) x.S.length (ccat x.S)
def ChE.rows (x : ChE) : List Thing := [x.nrow,x.srow]
theorem Tryz.infoChg : (Tryz.prog.info? 112).map (fun i => (i.zero,i.size,i.bytes)) = some (some (.agg #[.int .u32 0,.int .u8 0,.slice none 0 0,.slice none 0 0]),4,56) := by kernel_rfl
theorem cp_eq (x y : Cp) : ((((x.k : Int) == (y.k : Int))) && ((x.a == y.a) && (x.b == y.b) && (x.c == y.c))) = decide (x = y) := by
 rw [Bool.eq_iff_iff]
 cases x; cases y
 simp
 omega
theorem take_ne {α : Type} [DecidableEq α] {A B : List α} {k : Nat} {x y : α} (hx : A[k]? = some x) (hy : B[k]? = some y) (h : decide (x = y) = false) : decide (A = B) = false := by
 apply decide_eq_false
 intro e
 rw [e,hy] at hx
 have : y = x := by simpa using hx
 exact of_decide_eq_false h this.symm
theorem take_eq {α : Type} [DecidableEq α] {A B : List α} {k : Nat} {x y : α} (hx : A[k]? = some x) (hy : B[k]? = some y) (h : decide (x = y) = true) (ht : A.take k = B.take k) : A.take (k + 1) = B.take (k + 1) := by
 rw [List.take_add_one,List.take_add_one,hx,hy,ht,of_decide_eq_true h]
theorem take_all {α : Type} [DecidableEq α] {A B : List α} {k : Nat} (hA : A.length ≤ k) (hB : B.length ≤ k) (ht : A.take k = B.take k) : decide (A = B) = true := by
 rw [List.take_of_length_le hA,List.take_of_length_le hB] at ht
 exact decide_eq_true ht
theorem len_ne {α : Type} [DecidableEq α] {A B : List α} (h : A.length ≠ B.length) : decide (A = B) = false := decide_eq_false (fun e => h (by rw [e]))
theorem eqCs_r (w : World) (a1 a2 : Option Addr) (n1 n2 c1 c2 : Nat) (A B : List Cp) (h1 : Cs w a1 A) (h2 : Cs w a2 B) (hn1 : A.length = n1) (hn2 : B.length = n2) (hm1 : n1 ≤ 2097152) (hm2 : n2 ≤ 2097152) :
  Calls Tryz.prog 115 #[.slice a1 n1 c1,.slice a2 n2 c2] w fun e w' => e = .returned (.bool (decide (A = B))) ∧ Fr Nobody w w' := by
 by_cases hne : n1 = n2
 ·have H1 : Hid (Cs w a1 A ∧ Cs w a2 B ∧ A.length = n1 ∧ B.length = n1) := ⟨h1,h2,hn1,by rw [hn2,hne]⟩
  rw [← hne]
  clear h1 h2 hn1 hn2 hne hm2
  have hne' : ((n1 : Int) != (n1 : Int)) = false := by simp
  go_enter Tryz.func115,Tryz.ntmps115
  go_wp2
  clear hne'
  go_loopw [13] (fun cc wr => ∃ k : Nat,k ≤ n1 ∧ cc = .int .i64 k ∧ Fr Nobody w wr ∧ A.take k = B.take k) (fun cc _ => n1 - (intOf cc).toNat)
  case atStart => exact ⟨0,Nat.zero_le _,rfl,Fr.refl _ _,by simp⟩
  case round =>
   obtain ⟨k,hk,rfl,hf,heq⟩ := hrel
   have HF : Hid (Fr Nobody w wr) := hf
   have HE : Hid (A.take k = B.take k) := heq
   clear hf heq
   by_cases hlt : k < n1
   ·obtain ⟨x,hx⟩ : ∃ x,A[k]? = some x := ⟨_,List.getElem?_eq_getElem (by rw [H1.out.2.2.1]; exact hlt)⟩
    obtain ⟨y,hy⟩ : ∃ y,B[k]? = some y := ⟨_,List.getElem?_eq_getElem (by rw [H1.out.2.2.2]; exact hlt)⟩
    obtain ⟨g1,o1,hg1,_,p0,p1,p2,p3⟩ := (H1.out.1.quiet HF.out).at k x hx
    obtain ⟨g2,o2,hg2,_,q0,q1,q2,q3⟩ := (H1.out.2.1.quiet HF.out).at k y hy
    subst hg1 hg2
    have hlt' : (k : Int) < (n1 : Int) := by omega
    have HXY : Hid (A[k]? = some x ∧ B[k]? = some y) := ⟨hx,hy⟩
    obtain ⟨r0,e0⟩ : ∃ r,((x.k : Int) == (y.k : Int)) = r := ⟨_,rfl⟩
    obtain ⟨r1,e1⟩ : ∃ r,((x.a == y.a) && (x.b == y.b) && (x.c == y.c)) = r := ⟨_,rfl⟩
    have HD : Hid (decide (x = y) = (r0 && r1)) := by show _ = _; rw [← cp_eq,e0,e1]
    have eqa : ∀ d w,(Op.equalIn (d + 1 + 1) 61 (.agg #[.int .i32 x.a,.int .i32 x.b,.int .i32 x.c]) (.agg #[.int .i32 y.a,.int .i32 y.b,.int .i32 y.c])).run Tryz.prog w = .ok r1 w := fun d w => by rw [eq_a3,e1]
    clear hx hy e1
    obtain ⟨xk,xa,xb,xc⟩ := x
    obtain ⟨yk,ya,yb,yc⟩ := y
    simp only at p0 p1 p2 p3 q0 q1 q2 q3 e0 eqa
    by_cases hb : (r0 && r1) = true
    ·obtain ⟨rfl,rfl⟩ : r0 = true ∧ r1 = true := by simpa using hb
     have HN : Hid (A.take (k + 1) = B.take (k + 1)) := take_eq HXY.out.1 HXY.out.2 HD.out HE.out
     go_wp2
     go_quiet (fail)
     go_wp2
     go_roundw
     case rel => exact ⟨k + 1,by omega,by go_num,HF.out.drewN _,HN.out⟩
     case measure => simp [intOf]; omega
    ·have HN : Hid (decide (A = B) = false) := take_ne HXY.out.1 HXY.out.2 (by rw [HD.out]; simpa using hb)
     have hb2 : (r0 && r1) = false := by simpa using hb
     have hc : r0 = false ∨ (r0 = true ∧ r1 = false) := by cases r0 <;> cases r1 <;> simp at hb2 ⊢
     clear hb hb2
     rcases hc with rfl | ⟨rfl,rfl⟩
     all_goals
      go_wp2
      go_quiet (fail)
      go_wp2
      go_ret
      exact ⟨by rw [HN.out]; rfl,HF.out.drewN _⟩
   ·have hlt' : ¬ (k : Int) < (n1 : Int) := by omega
    have HN : Hid (decide (A = B) = true) := take_all (by rw [H1.out.2.2.1]; omega) (by rw [H1.out.2.2.2]; omega) HE.out
    go_wp2
    go_ret
    exact ⟨by rw [HN.out]; rfl,HF.out⟩
 ·have HN : Hid (decide (A = B) = false) := len_ne (by rw [hn1,hn2]; exact hne)
  have hne' : ((n1 : Int) != (n2 : Int)) = true := by rw [bne_iff_ne]; omega
  clear h1 h2 hn1 hn2 hne
  go_enter Tryz.func115,Tryz.ntmps115
  go_wp2
  go_ret
  exact ⟨by rw [HN.out]; rfl,Fr.refl _ _⟩
theorem eqEn_r (w : World) (i1 i2 : Nat) (a1 a2 : Option Addr) (n1 n2 c1 c2 : Nat) (A B : List Cp) (h1 : Cs w a1 A) (h2 : Cs w a2 B) (hn1 : A.length = n1) (hn2 : B.length = n2) (hm1 : n1 ≤ 2097152) (hm2 : n2 ≤ 2097152) :
  Calls Tryz.prog 56 #[.agg #[.int .u32 (i1 : Int),.slice a1 n1 c1],.agg #[.int .u32 (i2 : Int),.slice a2 n2 c2]] w fun e w' => e = .returned (.bool (decide ((i1,A) = (i2,B)))) ∧ Fr Nobody w w' := by
 have HF : Hid (Fr Nobody w ((w.alloc (.cells #[.int .u32 (i1 : Int),.slice a1 n1 c1] 60)).alloc (.cells #[.int .u32 (i2 : Int),.slice a2 n2 c2] 60))) := ((Fr.refl _ _).alloc _).alloc _
 have HS : Hid (Calls _ _ _ _ _) := eqCs_r _ a1 a2 n1 n2 c1 c2 A B (h1.quiet HF.out) (h2.quiet HF.out) hn1 hn2 hm1 hm2
 by_cases hi : i1 = i2
 ·have HD : Hid (decide ((i1,A) = (i2,B)) = decide (A = B)) := by show _ = _; simp [hi]
  have hii : ((i1 : Int) == (i2 : Int)) = true := by simp [hi]
  generalize decide (A = B) = r at *
  clear h1 h2 hn1 hn2 hi
  go_enter Tryz.func56,Tryz.ntmps56
  go_wp2_with fail
  refine HS.out.mono ?_
  rintro e w1 ⟨rfl,hf⟩
  have H1 : Hid (Fr Nobody w w1) := HF.out.trans hf
  clear hf HS
  go_wp2
  go_ret
  exact ⟨by rw [HD.out]; rfl,H1.out⟩
 ·have HD : Hid (decide ((i1,A) = (i2,B)) = false) := by show _ = _; simp [hi]
  have hii : ((i1 : Int) == (i2 : Int)) = false := by simp; omega
  clear h1 h2 hn1 hn2 hi HS
  go_enter Tryz.func56,Tryz.ntmps56
  go_wp2
  go_ret
  exact ⟨by rw [HD.out]; rfl,HF.out⟩
theorem Own.dropA {w0 w : World} {A l : List Thing} (h : Own w0 w (A ++ l)) : Own w0 w l := by
 induction A with
 | nil => exact h
 | cons a t ih => exact ih h.tail
theorem step_cs {w0 w : World} {l : List Thing} {ops : Array Oper} {o : Oper} {a : Act} {K : Act → World → Prop} {Q : Exit → Act → World → Prop} {E : Prop} (hgd : o.guard = none) (sx x : Operand)
  (ho : o.op = .call { callee := .builtin .append,args := #[sx,x],argTypes := #[58,58] })
  (i : TypeInfo) (hi : Tryz.prog.info? 63 = some i) (z : Value) (hz : i.zero = some z) (hsize : i.size = 4) (hby : i.bytes = 16) (hzs : z.cells.size = 4)
  (v : Value) (n : Nat) (xs : List Value) (hs : a.eval sx = v) (xa : Option Addr) (m xc : Nat) (C : List Cp) (hx : a.eval x = .slice xa m xc) (hC : C.length = m) (hc : Cs w xa C) (hown : Own w0 w (Row 63 4 v n xs :: l))
  (h63 : n + m ≤ maxLen) (hbytes : (n + m) * 16 ≤ 140737488355328)
  (h : ∀ ao cap w',Own w0 w' (Row 63 4 (.slice ao (n + m) cap) (n + m) (xs ++ ccat C) :: l) → K (a.put o.dst (.slice ao (n + m) cap)) w') :
  if Region.wanted o (yielded ops a.tmps) = true then Oper.wp Tryz.prog o a w K Q else E := by
 have hw : Region.wanted o (yielded ops a.tmps) = true := by simp [Region.wanted,hgd]
 rw [if_pos hw]
 rcases Nat.eq_zero_or_pos m with h0 | h0
 ·subst h0
  have hy : C = [] := List.eq_nil_of_length_eq_zero hC
  subst hy
  obtain ⟨va,vc,rfl⟩ := row_any hown.row
  have hr := run_append_empty (P := Tryz.prog) w 0 58 o.type 63 i 4 Tryz.underlying58 hi _ n xs hown.row xa xc
  unfold Oper.wp
  simp [execOp,ho,resolve,invoke,builtin,hs,hx,hr,Result.andThen]
  have := h va vc w (by simpa [ccat,cat] using hown)
  simp at this
  exact this
 ·rcases hc with hc | ⟨g,o',rfl,hc⟩
  ·subst hc; simp at hC; omega
  refine wp_append_lies w sx x 58 ho 0 63 i z 4 16 Tryz.underlying58 hi hz hsize hby hzs (by decide) v n xs hs hown.row ⟨g,o',none⟩ m xc (ccat C) hx (by rw [length_ccat,hC]) (Cs.cells hc) (one_cat Cp.cs cs_one C) h0 h63 hbytes (Nat.zero_le _) _ rfl ?_
  intro g' cap' w' h2 h3 h4 h5
  refine h _ _ w' (hown.grow h2 h3 (fun k hk => ?_))
  have hk' : g' = k := by simpa [Value.ownBlock] using hk
  subst hk'
  rcases h4 with h4 | h4
  ·exact .inl h4
  ·exact .inr (by omega)
theorem rtwins_any (w0 w : World) (l : List Thing) (h : Own w0 w l) (ae : Option Addr) (n ce : Nat) (L : List EnE) (hQ : ∀ w',Own w0 w' l → EntsAt w' ae L) (hn : L.length = n) (hz : esz L ≤ 1000000) :
  Calls Tryz.prog 11 #[.slice ae n ce] w fun e w' => ∃ (ao : Option Addr) (cap : Nat),e = .returned (.slice ao n cap) ∧ ∃ M : List EnE,M.length = n ∧ evs M = evs L ∧ Own w0 w' (EntsT ao cap M :: l) := by
 obtain ⟨i0,hi,hz0,hz1,hz2⟩ := info3w Tryz.infoEnt
 obtain ⟨i1,hi1,hy0,hy1,hy2⟩ := info_parts Tryz.infoComp
 have HN : Hid (L.length = n) := hn
 have HQ : Hid (∀ w',Own w0 w' l → EntsAt w' ae L) := hQ
 have HC : Hid (∀ x ∈ L,x.C.length ≤ 1000000) := fun x hx => by have := csz_mem hx; unfold esz at hz; omega
 have hl : n ≤ 1000000 := by unfold esz at hz; omega
 have H : Hid (Own w0 w l) := h
 clear h hn hQ hz
 go_enter Tryz.func11,Tryz.ntmps11
 go_wp2
 go_loopw [3,8] (fun vo vi wr => ∃ (j : Nat) (M : List EnE) (ao : Option Addr) (cap : Nat),j ≤ n ∧ vi = .int .i64 (j : Int) ∧ vo = .slice ao j cap ∧ M.length = j ∧ evs M = evs (L.take j) ∧ Own w0 wr (Row 60 2 (.slice ao j cap) j (cat EnE.cs M) :: (M.map erow ++ l))) (fun _ vi _ => n - (intOf vi).toNat)
 case atStart => exact ⟨0,[],none,0,Nat.zero_le _,rfl,rfl,rfl,rfl,H.out.nilRow _ _⟩
 case round =>
  obtain ⟨j,M,ao,cap,hj,rfl,rfl,hMl,hM,hO⟩ := hrel
  have HM : Hid (M.length = j ∧ evs M = evs (L.take j)) := ⟨hMl,hM⟩
  clear H hMl hM
  by_cases hlt : j < n
  ·have hlt' : (j : Int) < (n : Int) := by omega
   obtain ⟨x,hx⟩ : ∃ x,L[j]? = some x := ⟨_,List.getElem?_eq_getElem (by rw [HN.out]; exact hlt)⟩
   obtain ⟨g,o,hg,c0,c1,hcs⟩ := (HQ.out wr hO.tail.dropA).at hx
   have hcl := HC.out x (List.mem_of_getElem? hx)
   have hB := hO.allocC #[.int .u32 (x.id : Int),.slice x.ao x.C.length x.cap] 60
   have HTW : Hid (Calls _ _ _ _ _) := twin_any w0 _ _ hB.drew x.ao x.C.length x.cap x.C rfl (hcs.quiet ((Fr.refl _ _).alloc _).drew) hcl
   have HM2 : Hid (∀ a c,evs (M ++ [EnE.mk x.id a c x.C]) = evs (L.take (j + 1))) := by
    intro a c
    have e := HM.out.2
    unfold evs at e ⊢
    rw [List.map_append,e,List.take_add_one,hx]
    simp
   subst hg
   obtain ⟨xi,xa,xc,C⟩ := x
   simp only at c0 c1 HTW HM2
   have HB : Hid (Own w0 _ _) := hB
   generalize hcl2 : C.length = cl at *
   have HCL : Hid (C.length = cl) := hcl2
   clear hO hB hx hcs hcl2
   go_wp2
   generalize hWg : wr.alloc (.cells #[.int .u32 (xi : Int),.slice xa cl xc] 60) = W1 at *
   generalize wr.heap.size = b5 at *
   clear hWg c0 c1
   have p0 := HB.out.cell 0
   have p1 := HB.out.cell 1
   simp at p0 p1
   go_region_held3 (fun w' => w'.cell? ⟨b5,0,none⟩ = some (.int .u32 (xi : Int)) ∧ w'.cell? ⟨b5,1,none⟩ = some (.slice xa cl xc)) (go_keep)
    (first
      | (go_at_call 36; refine HTW.out.mono ?_; rintro e w5 ⟨a5,c5,rfl,h5⟩
         have u0 := h5.two.cell 0
         have u1 := h5.two.cell 1
         simp at u0 u1
         have h5b := h5.three.alloc (.cells #[.int .u32 (xi : Int),.slice a5 cl c5] 60)
         have h5c := (h5.litRow #[.int .u32 (xi : Int),.slice a5 cl c5] 60 2 1 (by decide) rfl).row
         have v0 := h5b.three.cell 0
         have v1 := h5b.three.cell 1
         simp at v0 v1
         have H5 : Hid (Own w0 _ _) := h5b
         have H5C : Hid (World.ownsRow _ _ _ _ _ _ _) := h5c
         clear h5 h5b h5c)
      | (refine step_allW rfl _ _ 23 rfl 60 i0 (.agg #[.int .u32 0,.slice none 0 0]) 2 32 Tryz.underlying23 hi hz0 hz1 hz2 rfl (by decide) _ _ _ rfl _ _ _ _ rfl H5.out H5C.out (by intro u hu; simp at hu; rcases hu with rfl | rfl <;> rfl) (by unfold maxLen; omega) (by omega) ?_
         intro g6 c6 w6 hO6
         have t0 := hO6.three.cell 0
         have t1 := hO6.three.cell 1
         simp at t0 t1
         have H6 : Hid (Own w0 w6 _) := hO6
         clear hO6))
   have H7 : Hid (Own w0 w6 (Row 60 2 (.slice g6 (j + 1) c6) (j + 1) (cat EnE.cs (M ++ [EnE.mk xi a5 c5 C])) :: ((M ++ [EnE.mk xi a5 c5 C]).map erow ++ l))) := by
    have e1 : cat EnE.cs (M ++ [EnE.mk xi a5 c5 C]) = cat EnE.cs M ++ [.int .u32 (xi : Int),.slice a5 cl c5] := by
     rw [cat_append]
     congr 1
     simp [cat,EnE.cs,HCL.out]
    have e2 : (M ++ [EnE.mk xi a5 c5 C]).map erow ++ l = M.map erow ++ (Row 63 4 (.slice a5 cl c5) cl (ccat C) :: l) := by
     simp [erow,HCL.out]
    show Own _ _ _
    rw [e1,e2]
    have h8 := H6.out.three.tail
    exact h8.perm (List.Perm.cons _ List.perm_middle.symm)
   clear H6 H5 H5C HTW HB u0 u1 v0 v1 t0 t1 p0 p1
   go_wp2
   go_roundw
   case rel => exact ⟨j + 1,M ++ [EnE.mk xi a5 c5 C],g6,c6,by omega,by go_num,rfl,by rw [List.length_append,HM.out.1]; rfl,HM2.out a5 c5,H7.out⟩
   case measure => simp [intOf]; omega
  ·have hlt' : ¬ (j : Int) < (n : Int) := by omega
   have hjn : j = n := by omega
   subst hjn
   have HF : Hid (evs M = evs L) := by
    have := HM.out.2
    rw [List.take_of_length_le (by rw [HN.out]; exact Nat.le_refl _)] at this
    exact this
   have HE : Hid (Own w0 wr (EntsT ao cap M :: l)) := by
    have h1 := hO
    rw [← HM.out.1] at h1
    exact Own.ents h1
   clear hO
   go_wp2
   go_ret
   exact ⟨ao,cap,rfl,M,HM.out.1,HF.out,HE.out⟩
theorem copy_any (w0 w : World) (l : List Thing) (h : Own w0 w l) (ae : Option Addr) (n ce : Nat) (L : List EnE) (hQ : ∀ w',Own w0 w' l → EntsAt w' ae L) (hn : L.length = n) (hz : esz L ≤ 1000000) :
  Calls Tryz.prog 63 #[.slice ae n ce] w fun e w' => ∃ (ao : Option Addr) (cap : Nat),e = .returned (.slice ao n cap) ∧ ∃ M : List EnE,M.length = n ∧ evs M = evs L ∧ Own w0 w' (EntsT ao cap M :: l) := by
 obtain ⟨i0,hi,hz0,hz1,hz2⟩ := info3w Tryz.infoEnt
 obtain ⟨i1,hi1,hy0,hy1,hy2⟩ := info_parts Tryz.infoComp
 have HN : Hid (L.length = n) := hn
 have HQ : Hid (∀ w',Own w0 w' l → EntsAt w' ae L) := hQ
 have HC : Hid (∀ x ∈ L,x.C.length ≤ 1000000) := fun x hx => by have := csz_mem hx; unfold esz at hz; omega
 have hl : n ≤ 1000000 := by unfold esz at hz; omega
 have H : Hid (Own w0 w l) := h
 clear h hn hQ hz
 go_enter Tryz.func63,Tryz.ntmps63
 go_wp2
 go_loopw [3,8] (fun vo vi wr => ∃ (j : Nat) (M : List EnE) (ao : Option Addr) (cap : Nat),j ≤ n ∧ vi = .int .i64 (j : Int) ∧ vo = .slice ao j cap ∧ M.length = j ∧ evs M = evs (L.take j) ∧ Own w0 wr (Row 60 2 (.slice ao j cap) j (cat EnE.cs M) :: (M.map erow ++ l))) (fun _ vi _ => n - (intOf vi).toNat)
 case atStart => exact ⟨0,[],none,0,Nat.zero_le _,rfl,rfl,rfl,rfl,H.out.nilRow _ _⟩
 case round =>
  obtain ⟨j,M,ao,cap,hj,rfl,rfl,hMl,hM,hO⟩ := hrel
  have HM : Hid (M.length = j ∧ evs M = evs (L.take j)) := ⟨hMl,hM⟩
  clear H hMl hM
  by_cases hlt : j < n
  ·have hlt' : (j : Int) < (n : Int) := by omega
   obtain ⟨x,hx⟩ : ∃ x,L[j]? = some x := ⟨_,List.getElem?_eq_getElem (by rw [HN.out]; exact hlt)⟩
   obtain ⟨g,o,hg,c0,c1,hcs⟩ := (HQ.out wr hO.tail.dropA).at hx
   have hcl := HC.out x (List.mem_of_getElem? hx)
   have hB := hO.allocC #[.int .u32 (x.id : Int),.slice x.ao x.C.length x.cap] 60
   have HTW : Hid (Cs (wr.alloc (.cells #[.int .u32 (x.id : Int),.slice x.ao x.C.length x.cap] 60)).drew x.ao x.C) := hcs.quiet ((Fr.refl _ _).alloc _).drew
   have HM2 : Hid (∀ a c,evs (M ++ [EnE.mk x.id a c x.C]) = evs (L.take (j + 1))) := by
    intro a c
    have e := HM.out.2
    unfold evs at e ⊢
    rw [List.map_append,e,List.take_add_one,hx]
    simp
   subst hg
   obtain ⟨xi,xa,xc,C⟩ := x
   simp only at c0 c1 HTW HM2
   have HB : Hid (Own w0 _ _) := hB
   generalize hcl2 : C.length = cl at *
   have HCL : Hid (C.length = cl) := hcl2
   clear hO hB hx hcs hcl2
   go_wp2
   generalize hWg : wr.alloc (.cells #[.int .u32 (xi : Int),.slice xa cl xc] 60) = W1 at *
   generalize wr.heap.size = b5 at *
   clear hWg c0 c1
   have p0 := HB.out.cell 0
   have p1 := HB.out.cell 1
   simp at p0 p1
   go_region_held3 (fun w' => w'.cell? ⟨b5,0,none⟩ = some (.int .u32 (xi : Int)) ∧ w'.cell? ⟨b5,1,none⟩ = some (.slice xa cl xc)) (go_keep)
    (first
      | (refine step_cs rfl _ _ rfl i1 hi1 _ hy0 hy1 hy2 rfl _ 0 [] rfl _ _ _ C rfl HCL.out HTW.out (HB.out.drew.nilRow _ _) (by unfold maxLen; omega) (by omega) ?_
         intro a5 c5 w5 h5r
         have h5 : Own w0 w5 (Row 63 4 (.slice a5 cl c5) cl (ccat C) :: Cells b5 #[.int .u32 (xi : Int),.slice xa cl xc] 60 :: Row 60 2 (.slice ao j cap) j (cat EnE.cs M) :: (M.map erow ++ l)) := by simpa using h5r
         clear h5r
         rw [Nat.zero_add]
         have u0 := h5.two.cell 0
         have u1 := h5.two.cell 1
         simp at u0 u1
         have h5b := h5.three.alloc (.cells #[.int .u32 (xi : Int),.slice a5 cl c5] 60)
         have h5c := (h5.litRow #[.int .u32 (xi : Int),.slice a5 cl c5] 60 2 1 (by decide) rfl).row
         have v0 := h5b.three.cell 0
         have v1 := h5b.three.cell 1
         simp at v0 v1
         have H5 : Hid (Own w0 _ _) := h5b
         have H5C : Hid (World.ownsRow _ _ _ _ _ _ _) := h5c
         clear h5 h5b h5c)
      | (refine step_allW rfl _ _ 23 rfl 60 i0 (.agg #[.int .u32 0,.slice none 0 0]) 2 32 Tryz.underlying23 hi hz0 hz1 hz2 rfl (by decide) _ _ _ rfl _ _ _ _ rfl H5.out H5C.out (by intro u hu; simp at hu; rcases hu with rfl | rfl <;> rfl) (by unfold maxLen; omega) (by omega) ?_
         intro g6 c6 w6 hO6
         have t0 := hO6.three.cell 0
         have t1 := hO6.three.cell 1
         simp at t0 t1
         have H6 : Hid (Own w0 w6 _) := hO6
         clear hO6))
   have H7 : Hid (Own w0 w6 (Row 60 2 (.slice g6 (j + 1) c6) (j + 1) (cat EnE.cs (M ++ [EnE.mk xi a5 c5 C])) :: ((M ++ [EnE.mk xi a5 c5 C]).map erow ++ l))) := by
    have e1 : cat EnE.cs (M ++ [EnE.mk xi a5 c5 C]) = cat EnE.cs M ++ [.int .u32 (xi : Int),.slice a5 cl c5] := by
     rw [cat_append]
     congr 1
     simp [cat,EnE.cs,HCL.out]
    have e2 : (M ++ [EnE.mk xi a5 c5 C]).map erow ++ l = M.map erow ++ (Row 63 4 (.slice a5 cl c5) cl (ccat C) :: l) := by
     simp [erow,HCL.out]
    show Own _ _ _
    rw [e1,e2]
    have h8 := H6.out.three.tail
    exact h8.perm (List.Perm.cons _ List.perm_middle.symm)
   clear H6 H5 H5C HTW HB u0 u1 v0 v1 t0 t1 p0 p1
   go_wp2
   go_roundw
   case rel => exact ⟨j + 1,M ++ [EnE.mk xi a5 c5 C],g6,c6,by omega,by go_num,rfl,by rw [List.length_append,HM.out.1]; rfl,HM2.out a5 c5,H7.out⟩
   case measure => simp [intOf]; omega
  ·have hlt' : ¬ (j : Int) < (n : Int) := by omega
   have hjn : j = n := by omega
   subst hjn
   have HF : Hid (evs M = evs L) := by
    have := HM.out.2
    rw [List.take_of_length_le (by rw [HN.out]; exact Nat.le_refl _)] at this
    exact this
   have HE : Hid (Own w0 wr (EntsT ao cap M :: l)) := by
    have h1 := hO
    rw [← HM.out.1] at h1
    exact Own.ents h1
   clear hO
   go_wp2
   go_ret
   exact ⟨ao,cap,rfl,M,HM.out.1,HF.out,HE.out⟩
end Go.Proofs.YtgifeckbflkkpaaGreatDoor
