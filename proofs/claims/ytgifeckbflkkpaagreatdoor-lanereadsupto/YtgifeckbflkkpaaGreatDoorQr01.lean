/- What lies apart in memory: things with the blocks that they have, one beside the other, and how they are kept; no function of the program is named here. -/
import Derived.Test.YtgifeckbflkkpaaGreatDoorRows
import Derived.WalkKit
import Derived.WalkSpells
import Derived.WalkLawsBesides
import Derived.BigRegion
import Derived.BigQuiet
import Derived.Deep.QuietTactic
namespace Go.Proofs.YtgifeckbflkkpaaGreatDoor
open Go.RowKit
set_option linter.unusedVariables false
abbrev gQ (a : Act) (i : Nat) : Value := a.tmps.getD i undef
set_option maxHeartbeats 400000
structure Fr (S : Nat → Prop) (w w' : World) : Prop where
 os : w'.os = w.os
 tape : w'.tape = w.tape
 output : w'.output = w.output
 size : w.heap.size ≤ w'.heap.size
 block : ∀ k,k < w.heap.size → ¬ S k → w'.heap[k]? = w.heap[k]?
def Nobody (_ : Nat) : Prop := False
theorem Fr.refl (S : Nat → Prop) (w : World) : Fr S w w := ⟨rfl,rfl,rfl,Nat.le_refl _,fun _ _ _ => rfl⟩
theorem Fr.trans {S : Nat → Prop} {a b c : World} (h : Fr S a b) (k : Fr S b c) : Fr S a c :=
 ⟨k.os.trans h.os,k.tape.trans h.tape,k.output.trans h.output,Nat.le_trans h.size k.size,fun i hi hs => (k.block i (Nat.lt_of_lt_of_le hi h.size) hs).trans (h.block i hi hs)⟩
theorem Fr.mono {S T : Nat → Prop} {a b : World} (h : Fr S a b) (hs : ∀ k,k < a.heap.size → S k → T k) : Fr T a b := ⟨h.os,h.tape,h.output,h.size,fun k hk ht => h.block k hk fun s => ht (hs k hk s)⟩
theorem Fr.drew {S : Nat → Prop} {a b : World} (h : Fr S a b) : Fr S a b.drew := ⟨h.os,h.tape,h.output,h.size,h.block⟩
theorem Fr.drewN {S : Nat → Prop} {a b : World} (h : Fr S a b) (n : Nat) : Fr S a (b.drewN n) := by
 induction n with
 | zero => exact h
 | succ n ih => exact ih.drew
theorem Fr.alloc {S : Nat → Prop} {a w : World} (h : Fr S a w) (o : Obj) : Fr S a (w.alloc o) :=
 ⟨h.os,h.tape,h.output,by have := h.size; simp; omega,fun k hk hs => (Below.heap_alloc w o k (Nat.lt_of_lt_of_le hk h.size)).trans (h.block k hk hs)⟩
theorem Fr.setCell {S : Nat → Prop} {a w : World} (h : Fr S a w) {p : Addr} (hp : S p.block ∨ a.heap.size ≤ p.block) (u : Value) : Fr S a (w.setCell p u) :=
 ⟨h.os,h.tape,h.output,by have := h.size; simp [World.setCell]; omega,fun k hk hs => (Below.heap_setCell w p u k (fun e => by subst e; rcases hp with hp | hp; exact hs hp; omega)).trans (h.block k hk hs)⟩
theorem Fr.grown {S : Nat → Prop} {a w w' : World} {row : Option Nat} (h : Fr S a w) (hg : w.grownBy w' row) (hr : ∀ k,row = some k → S k ∨ a.heap.size ≤ k) : Fr S a w' :=
 ⟨hg.os.trans h.os,hg.tape.trans h.tape,hg.output.trans h.output,Nat.le_trans h.size hg.size,fun k hk hs => (hg.block k (Nat.lt_of_lt_of_le hk h.size) (fun e => by rcases hr k e.symm with h' | h'; exact hs h'; omega)).trans (h.block k hk hs)⟩
theorem Fr.below {S : Nat → Prop} {B : Nat} {w w' : World} (h : Fr S w w') (hB : B ≤ w.heap.size) (hs : ∀ k,k < B → ¬ S k) : Below B w w' := ⟨h.os,h.tape,h.output,h.size,fun k hk => h.block k (by omega) (hs k hk)⟩
theorem Fr.cell {S : Nat → Prop} {w w' : World} (h : Fr S w w') {p : Addr} (hp : p.block < w.heap.size) (hs : ¬ S p.block) : w'.cell? p = w.cell? p := World.cell?_of_block (w := w) (h.block p.block hp hs)
theorem Fr.fresh {S : Nat → Prop} {w w1 w2 : World} (h1 : Fr Nobody w w1) (h2 : Fr S w1 w2) (hs : ∀ k,S k → w.heap.size ≤ k) : Fr Nobody w w2 :=
 ⟨h2.os.trans h1.os,h2.tape.trans h1.tape,h2.output.trans h1.output,Nat.le_trans h1.size h2.size,fun k hk _ => (h2.block k (Nat.lt_of_lt_of_le hk h1.size) (fun s => by have := hs k s; omega)).trans (h1.block k hk id)⟩
theorem Fr.row {S : Nat → Prop} {w w' : World} (h : Fr S w w') {base : Nat} {e : TypeId} {size n : Nat} {v : Value} {xs : List Value} (ho : w.ownsRow base e size v n xs) (hs : ∀ k,v.ownBlock = some k → ¬ S k) : w'.ownsRow base e size v n xs := by
 refine ⟨ho.1,?_⟩
 rcases ho.2 with hn | ⟨g,cap,cur,rfl,hb,hgg,rest⟩
 ·exact .inl hn
 ·refine .inr ⟨g,cap,cur,rfl,hb,?_,rest⟩
  rw [h.block g (Array.getElem?_eq_some_iff.1 hgg).1 (hs g rfl)]
  exact hgg
theorem grownBy_any {w w' : World} (h : w.grownBy w' none) (row : Option Nat) : w.grownBy w' row :=
 ⟨h.os,h.tape,h.output,h.size,fun k hk _ => h.block k hk (by simp)⟩
theorem row_weak {w : World} {base : Nat} {e : TypeId} {size n : Nat} {v : Value} {xs : List Value} (h : w.ownsRow base e size v n xs) : w.ownsRow 0 e size v n xs := by
 refine ⟨h.1,?_⟩
 rcases h.2 with hn | ⟨g,cap,cur,rfl,hb,rest⟩
 ·exact .inl hn
 ·exact .inr ⟨g,cap,cur,rfl,Nat.zero_le _,rest⟩
def NewRow (w : World) (v v' : Value) (n : Nat) : Prop :=
 ∃ g cap,v' = .slice (some ⟨g,0,none⟩) n cap ∧ (v.ownBlock = some g ∨ w.heap.size ≤ g)
theorem row_shape {w : World} {base : Nat} {e : TypeId} {size n : Nat} {v : Value} {xs : List Value} (h : w.ownsRow base e size v n xs) (hn : 0 < n) : ∃ g cap,v = .slice (some ⟨g,0,none⟩) n cap ∧ base ≤ g := by
 rcases h.2 with ⟨_,h0⟩ | ⟨g,cap,cur,rfl,hb,rest⟩
 ·omega
 ·exact ⟨g,cap,rfl,hb⟩
theorem wpList_append_ours {P : Program} (w : World) {ops : Array Oper} {rest : List Oper} {o : Oper} {a : Act} {Q : Exit → Act → World → Prop} (hgd : o.guard = none) (s x : Operand) (t : TypeId)
  (ho : o.op = .call { callee := .builtin .append,args := #[s,x],argTypes := #[t,t] })
  (e : TypeId) (i : TypeInfo) (z : Value) (size bytes : Nat) (ht : P.underlying t = some (.slice e)) (hi : P.info? e = some i) (hz : i.zero = some z)
  (hsize : i.size = size) (hby : i.bytes = bytes) (hzs : z.cells.size = size) (hsz : 0 < size)
  (v : Value) (n : Nat) (xs : List Value) (hs : a.eval s = v) (hown : w.ownsRow 0 e size v n xs)
  (ad : Addr) (m c : Nat) (news : List Value) (hx : a.eval x = .slice (some ad) m c) (hl : news.length = m * size) (hnews : ∀ j u,news[j]? = some u → w.cell? (ad.add j) = some u) (h1 : ∀ u ∈ news,u.oneCell' = true)
  (hm : 0 < m) (h63 : n + m ≤ maxLen) (hbytes : (n + m) * bytes ≤ 140737488355328)
  (h : ∀ v' w',w'.ownsRow 0 e size v' (n + m) (xs ++ news) → w.grownBy w' v.ownBlock → NewRow w v v' (n + m) → wpList P ops Q rest (a.put o.dst v') w') : wpList P ops Q (o :: rest) a w := by
 rcases hown.2 with ⟨rfl,rfl⟩ | ⟨g,cap,cur,rfl,hb,hg,hnc,hcm,hcs,htake⟩
 ·have hx0 : xs = [] := List.eq_nil_of_length_eq_zero (by rw [hown.1]; simp)
  subst hx0
  refine wpList_append_grows w hgd s x t ho e i z size bytes ht hi hz hsize hby hzs hsz none 0 0 [] hs (fun _ => ⟨rfl,rfl⟩) (by simp) (by intro b hb; cases hb) ad m c news hx hl hnews h1 (by omega) h63 hbytes ?_
  intro v' w' r1 r2
  obtain ⟨g,cap,rfl,hbg⟩ := row_shape r1 (by omega)
  exact h _ _ (row_weak r1) (grownBy_any r2 _) ⟨g,cap,rfl,.inr hbg⟩
 ·by_cases hroom : n + m ≤ cap
  ·refine wpList_append_fits w hgd s x t ho 0 e i size ht hi hsize g n cap xs hs hown ad m c news hx hl hnews h1 hroom ?_
   intro w' r1 r2
   exact h _ _ r1 r2 ⟨g,cap,rfl,.inl rfl⟩
  ·refine wpList_append_grows w hgd s x t ho e i z size bytes ht hi hz hsize hby hzs hsz (some ⟨g,0,none⟩) n cap xs hs (by intro h'; cases h') hown.1 (fun b hb j u hu => ?_) ad m c news hx hl hnews h1 (by omega) h63 hbytes ?_
   ·cases hb; exact hown.cells rfl j u hu
   intro v' w' r1 r2
   obtain ⟨g',cap',rfl,hbg⟩ := row_shape r1 (by omega)
   exact h _ _ (row_weak r1) (grownBy_any r2 _) ⟨g',cap',rfl,.inr hbg⟩
theorem one_int (k : IntKind) (n : Int) : ∀ u ∈ [Value.int k n],u.oneCell' = true := by intro u hu; simp at hu; subst hu; rfl
theorem one_bool (b : Bool) : ∀ u ∈ [Value.bool b],u.oneCell' = true := by intro u hu; simp at hu; subst hu; rfl
theorem ret_int {k : IntKind} {a b : Int} (h : a = b) : Ending.returned (.int k a) = .returned (.int k b) := by rw [h]
structure Thing where
 is : World → (Nat → Prop) → Prop
 lt : ∀ {w : World} {A : Nat → Prop} {k : Nat},is w A → A k → k < w.heap.size
 keep : ∀ {w w' : World} {A B : Nat → Prop},is w A → Fr B w w' → (∀ k,A k → ¬ B k) → is w' A
def Star (P Q : Thing) : Thing where
 is := fun w A => ∃ B C,P.is w B ∧ Q.is w C ∧ (∀ k,B k → ¬ C k) ∧ ∀ k,A k ↔ B k ∨ C k
 lt := by
  rintro w A k ⟨B,C,hB,hC,hd,hA⟩ a
  rcases (hA k).1 a with b | c
  ·exact P.lt hB b
  ·exact Q.lt hC c
 keep := by
  rintro w w' A D ⟨B,C,hB,hC,hd,hA⟩ hf hn
  exact ⟨B,C,P.keep hB hf (fun k b => hn k ((hA k).2 (.inl b))),Q.keep hC hf (fun k c => hn k ((hA k).2 (.inr c))),hd,hA⟩
def Emp : Thing := ⟨fun _ A => ∀ k,¬ A k,fun h a => (h _ a).elim,fun h _ _ => h⟩
def Sep : List Thing → Thing
 | [] => Emp
 | P :: l => Star P (Sep l)
theorem Sep.append {l m : List Thing} {w : World} {A : Nat → Prop} : (Sep (l ++ m)).is w A ↔ ∃ B C,(Sep l).is w B ∧ (Sep m).is w C ∧ (∀ k,B k → ¬ C k) ∧ ∀ k,A k ↔ B k ∨ C k := by
 induction l generalizing A with
 | nil =>
  constructor
  ·intro h
   exact ⟨fun _ => False,A,fun _ h => h,h,fun _ h => h.elim,fun k => by simp⟩
  ·rintro ⟨B,C,hB,hC,hd,hA⟩
   have : A = C := by funext k; apply propext; rw [hA k]; exact ⟨fun h => h.elim (fun b => (hB k b).elim) id,.inr⟩
   rw [this]; exact hC
 | cons P l ih =>
  constructor
  ·rintro ⟨B,C,hB,hC,hd,hA⟩
   obtain ⟨D,E,hD,hE,hde,hc⟩ := ih.1 hC
   refine ⟨fun k => B k ∨ D k,E,⟨B,D,hB,hD,fun k b d => hd k b ((hc k).2 (.inl d)),fun k => Iff.rfl⟩,hE,?_,?_⟩
   ·rintro k (b | d) e
    ·exact hd k b ((hc k).2 (.inr e))
    ·exact hde k d e
   ·intro k; rw [hA k,hc k]; exact ⟨fun h => by rcases h with h | h | h <;> simp [h],fun h => by rcases h with (h | h) | h <;> simp [h]⟩
  ·rintro ⟨B,C,⟨D,E,hD,hE,hde,hb⟩,hC,hd,hA⟩
   refine ⟨D,fun k => E k ∨ C k,hD,ih.2 ⟨E,C,hE,hC,fun k e c => hd k ((hb k).2 (.inr e)) c,fun k => Iff.rfl⟩,?_,?_⟩
   ·rintro k d (e | c)
    ·exact hde k d e
    ·exact hd k ((hb k).2 (.inl d)) c
   ·intro k; rw [hA k,hb k]; exact ⟨fun h => by rcases h with (h | h) | h <;> simp [h],fun h => by rcases h with h | h | h <;> simp [h]⟩
def Ex {α : Type} (f : α → List Thing) : Thing :=
 ⟨fun w A => ∃ x,(Sep (f x)).is w A,fun ⟨x,hx⟩ a => (Sep (f x)).lt hx a,fun ⟨x,hx⟩ hf hn => ⟨x,(Sep (f x)).keep hx hf hn⟩⟩
def Own (w0 w : World) (l : List Thing) : Prop := ∃ A,(Sep l).is w A ∧ Fr Nobody w0 w ∧ ∀ k,A k → w0.heap.size ≤ k
theorem Own.fr {w0 w : World} {l : List Thing} (h : Own w0 w l) : Fr Nobody w0 w := h.elim fun _ h => h.2.1
theorem Own.start (w : World) : Own w w [] := ⟨fun _ => False,fun _ h => h,Fr.refl _ _,fun _ h => h.elim⟩
theorem Own.quiet {w0 w w' : World} {l : List Thing} (h : Own w0 w l) (hf : Fr Nobody w w') : Own w0 w' l := by
 obtain ⟨A,hA,hF,hlo⟩ := h
 exact ⟨A,(Sep l).keep hA hf (fun _ _ h => h),hF.trans hf,hlo⟩
theorem Own.perm {w0 w : World} {l m : List Thing} (hp : l.Perm m) (h : Own w0 w l) : Own w0 w m := by
 have key : ∀ A,(Sep l).is w A → (Sep m).is w A := by
  clear h
  induction hp with
  | nil => exact fun A h => h
  | cons P _ ih =>
   rintro A ⟨B,C,hB,hC,hd,hA⟩
   exact ⟨B,C,hB,ih C hC,hd,hA⟩
  | swap P Q l =>
   rintro A ⟨B,C,hB,⟨D,E,hD,hE,hde,hc⟩,hbc,hA⟩
   refine ⟨D,fun k => B k ∨ E k,hD,⟨B,E,hB,hE,fun k b e => hbc k b ((hc k).2 (.inr e)),fun k => Iff.rfl⟩,?_,?_⟩
   ·rintro k d (b | e)
    ·exact hbc k b ((hc k).2 (.inl d))
    ·exact hde k d e
   ·intro k; rw [hA k,hc k]; exact ⟨fun h => by rcases h with h | h | h <;> simp [h],fun h => by rcases h with h | h | h <;> simp [h]⟩
  | trans _ _ ih1 ih2 => exact fun A h => ih2 A (ih1 A h)
 obtain ⟨A,hA,hF,hlo⟩ := h
 exact ⟨A,key A hA,hF,hlo⟩
theorem Own.tail {w0 w : World} {P : Thing} {l : List Thing} (h : Own w0 w (P :: l)) : Own w0 w l := by
 obtain ⟨A,⟨B,C,hB,hC,hbc,hA⟩,hF,hlo⟩ := h
 exact ⟨C,hC,hF,fun k c => hlo k ((hA k).2 (.inr c))⟩
theorem Own.two {w0 w : World} {P Q : Thing} {l : List Thing} (h : Own w0 w (P :: Q :: l)) : Own w0 w (Q :: P :: l) := h.perm (List.Perm.swap Q P l)
theorem Own.in23 {w0 w : World} {P Q R : Thing} {l : List Thing} (h : Own w0 w (P :: Q :: R :: l)) : Own w0 w (P :: R :: Q :: l) := h.perm ((List.Perm.swap R Q l).cons P)
theorem Own.three {w0 w : World} {P Q R : Thing} {l : List Thing} (h : Own w0 w (P :: Q :: R :: l)) : Own w0 w (R :: P :: Q :: l) :=
 h.perm ((List.Perm.swap R Q l).cons P |>.trans (List.Perm.swap R P _))
theorem Own.back3 {w0 w : World} {P Q R : Thing} {l : List Thing} (h : Own w0 w (R :: P :: Q :: l)) : Own w0 w (P :: Q :: R :: l) :=
 h.perm ((List.Perm.swap P R _).trans ((List.Perm.swap Q R l).cons P))
theorem Own.four {w0 w : World} {P Q R S : Thing} {l : List Thing} (h : Own w0 w (P :: Q :: R :: S :: l)) : Own w0 w (S :: P :: Q :: R :: l) :=
 h.perm ((((List.Perm.swap S R l).cons Q).trans (List.Perm.swap S Q _)).cons P |>.trans (List.Perm.swap S P _))
theorem Own.back4 {w0 w : World} {P Q R S : Thing} {l : List Thing} (h : Own w0 w (S :: P :: Q :: R :: l)) : Own w0 w (P :: Q :: R :: S :: l) :=
 h.perm ((List.Perm.swap P S _).trans (((List.Perm.swap Q S _).trans ((List.Perm.swap R S l).cons Q)).cons P))
theorem Own.act {w0 w : World} {P : Thing} {l : List Thing} (h : Own w0 w (P :: l)) : ∃ A,P.is w A ∧ (∀ k,A k → w0.heap.size ≤ k) ∧
  ∀ (w' : World) (Q : Thing) (A' : Nat → Prop),Q.is w' A' → Fr A w w' → (∀ k,A' k → A k ∨ w.heap.size ≤ k) → Own w0 w' (Q :: l) := by
 obtain ⟨A,⟨B,C,hB,hC,hbc,hA⟩,hF,hlo⟩ := h
 refine ⟨B,hB,fun k b => hlo k ((hA k).2 (.inl b)),?_⟩
 intro w' Q A' hQ hf hs
 refine ⟨fun k => A' k ∨ C k,⟨A',C,hQ,(Sep l).keep hC hf (fun k c b => hbc k b c),?_,fun k => Iff.rfl⟩,hF.fresh hf (fun k b => hlo k ((hA k).2 (.inl b))),?_⟩
 ·intro k a c
  rcases hs k a with b | g
  ·exact hbc k b c
  ·have := (Sep l).lt hC c; omega
 ·rintro k (a | c)
  ·rcases hs k a with b | g
   ·exact hlo k ((hA k).2 (.inl b))
   ·exact Nat.le_trans hF.size g
  ·exact hlo k ((hA k).2 (.inr c))
theorem Own.new {w0 w w' : World} {l : List Thing} (h : Own w0 w l) (Q : Thing) (A' : Nat → Prop) (hQ : Q.is w' A') (hf : Fr Nobody w w') (hs : ∀ k,A' k → w.heap.size ≤ k) : Own w0 w' (Q :: l) := by
 obtain ⟨C,hC,hF,hlo⟩ := h
 refine ⟨fun k => A' k ∨ C k,⟨A',C,hQ,(Sep l).keep hC hf (fun _ _ h => h),?_,fun k => Iff.rfl⟩,hF.trans hf,?_⟩
 ·intro k a c
  have := hs k a; have := (Sep l).lt hC c; omega
 ·rintro k (a | c)
  ·exact Nat.le_trans hF.size (hs k a)
  ·exact hlo k c
theorem Own.ex_iff {α : Type} {f : α → List Thing} {w0 w : World} {l : List Thing} : Own w0 w (Ex f :: l) ↔ ∃ x,Own w0 w (f x ++ l) := by
 constructor
 ·rintro ⟨A,⟨B,C,⟨x,hB⟩,hC,hbc,hA⟩,hF,hlo⟩
  exact ⟨x,A,Sep.append.2 ⟨B,C,hB,hC,hbc,hA⟩,hF,hlo⟩
 ·rintro ⟨x,A,hS,hF,hlo⟩
  obtain ⟨B,C,hB,hC,hbc,hA⟩ := Sep.append.1 hS
  exact ⟨A,⟨B,C,⟨x,hB⟩,hC,hbc,hA⟩,hF,hlo⟩
theorem Own.sink {w0 w : World} {P : Thing} {l m : List Thing} (h : Own w0 w (P :: (l ++ m))) : Own w0 w (l ++ P :: m) := h.perm List.perm_middle.symm
theorem Own.lift {w0 w : World} {P : Thing} {l m : List Thing} (h : Own w0 w (l ++ P :: m)) : Own w0 w (P :: (l ++ m)) := h.perm List.perm_middle
def Cells (b : Nat) (cur : Array Value) (t : TypeId) : Thing where
 is := fun w A => w.heap[b]? = some (.cells cur t (0,0)) ∧ ∀ k,A k ↔ k = b
 lt := by
  rintro w A k ⟨h,hA⟩ a
  rw [(hA k).1 a]; exact (Array.getElem?_eq_some_iff.1 h).1
 keep := by
  rintro w w' A B ⟨h,hA⟩ hf hn
  exact ⟨(hf.block b (Array.getElem?_eq_some_iff.1 h).1 (hn b ((hA b).2 rfl))).trans h,hA⟩
def Row (e : TypeId) (size : Nat) (v : Value) (n : Nat) (xs : List Value) : Thing where
 is := fun w A => w.ownsRow 0 e size v n xs ∧ ∀ k,A k ↔ v.ownBlock = some k
 lt := by
  rintro w A k ⟨h,hA⟩ a
  exact (h.lt k ((hA k).1 a)).2
 keep := by
  rintro w w' A B ⟨h,hA⟩ hf hn
  exact ⟨hf.row h (fun k hk => hn k ((hA k).2 hk)),hA⟩
section
variable {w0 w w' : World} {l : List Thing} {b i : Nat} {cur : Array Value} {t e : TypeId} {size n m cap g : Nat} {v u v' : Value} {xs ys : List Value} {P : Thing}
theorem Own.obj (h : Own w0 w (Cells b cur t :: l)) : w.heap[b]? = some (.cells cur t (0,0)) := by
 obtain ⟨A,⟨B,C,hB,_⟩,_⟩ := h
 exact hB.1
theorem Own.low (h : Own w0 w (Cells b cur t :: l)) : w0.heap.size ≤ b := by
 obtain ⟨A,⟨B,C,hB,_,_,hA⟩,_,hlo⟩ := h
 exact hlo b ((hA b).2 (.inl ((hB.2 b).2 rfl)))
theorem Own.lt (h : Own w0 w (Cells b cur t :: l)) : b < w.heap.size := (Array.getElem?_eq_some_iff.1 h.obj).1
theorem Own.cell (h : Own w0 w (Cells b cur t :: l)) (i : Nat) : w.cell? ⟨b,i,none⟩ = cur[i]? := by simp [World.cell?,h.obj]
theorem Own.froz (h : Own w0 w (Cells b cur t :: l)) (i : Nat) : w.frozen? ⟨b,i,none⟩ = false := by simp [World.frozen?,h.obj]
theorem Own.row (h : Own w0 w (Row e size v n xs :: l)) : w.ownsRow 0 e size v n xs := by
 obtain ⟨A,⟨B,C,hB,_⟩,_⟩ := h
 exact hB.1
theorem Own.ne (h : Own w0 w (Cells b cur t :: Row e size v n xs :: l)) : v.ownBlock ≠ some b := by
 obtain ⟨A,⟨B,C,hB,⟨D,E,hD,hE,hde,hc⟩,hbc,hA⟩,hF,hlo⟩ := h
 exact fun hk => hbc b ((hB.2 b).2 rfl) ((hc b).2 (.inl ((hD.2 b).2 hk)))
theorem Own.drew (h : Own w0 w l) : Own w0 w.drew l := h.quiet (Fr.refl _ _).drew
theorem Own.drewN (h : Own w0 w l) (k : Nat) : Own w0 (w.drewN k) l := h.quiet ((Fr.refl _ _).drewN k)
theorem Own.alloc (h : Own w0 w l) (o : Obj) : Own w0 (w.alloc o) l := h.quiet ((Fr.refl _ _).alloc o)
theorem Own.allocC (h : Own w0 w l) (cur : Array Value) (t : TypeId) : Own w0 (w.alloc (.cells cur t)) (Cells w.heap.size cur t :: l) :=
 h.new (Cells w.heap.size cur t) (fun k => k = w.heap.size) ⟨heap_alloc_new w _,fun _ => Iff.rfl⟩ ((Fr.refl _ _).alloc _) (fun k hk => by omega)
theorem Own.setC (h : Own w0 w (Cells b cur t :: l)) (i : Nat) (u : Value) : Own w0 (w.setCell ⟨b,i,none⟩ u) (Cells b (cur.setIfInBounds i u) t :: l) := by
 obtain ⟨A,⟨hb,hA⟩,hlo,k⟩ := h.act
 exact k _ (Cells b (cur.setIfInBounds i u) t) A ⟨heap_setCell_same w b i cur t u hb,hA⟩ (Fr.setCell (Fr.refl _ _) (.inl ((hA b).2 rfl)) u) (fun _ a => .inl a)
theorem Own.setR (h : Own w0 w (Row e size (.slice (some ⟨g,0,none⟩) n cap) n xs :: l)) (j : Nat) (u : Value) : Own w0 (w.setCell ⟨g,j,none⟩ u) (Row e size (.slice (some ⟨g,0,none⟩) n cap) n (xs.set j u) :: l) := by
 obtain ⟨A,⟨hb,hA⟩,hlo,k⟩ := h.act
 exact k _ (Row e size (.slice (some ⟨g,0,none⟩) n cap) n (xs.set j u)) A ⟨(hb.stored j u).1,hA⟩ (Fr.setCell (Fr.refl _ _) (.inl ((hA g).2 rfl)) u) (fun _ a => .inl a)
theorem Own.grow (h : Own w0 w (Row e size v n xs :: l)) (hr : w'.ownsRow 0 e size v' m ys) (hg : w.grownBy w' v.ownBlock) (hn : ∀ k,v'.ownBlock = some k → v.ownBlock = some k ∨ w.heap.size ≤ k) : Own w0 w' (Row e size v' m ys :: l) := by
 obtain ⟨A,⟨hb,hA⟩,hlo,k⟩ := h.act
 refine k _ (Row e size v' m ys) (fun k => v'.ownBlock = some k) ⟨hr,fun _ => Iff.rfl⟩ ((Fr.refl _ _).grown hg (fun k hk => .inl ((hA k).2 hk))) (fun k a => ?_)
 rcases hn k a with h | h
 ·exact .inl ((hA k).2 h)
 ·exact .inr h
theorem Own.nilRow (h : Own w0 w l) (e : TypeId) (size : Nat) : Own w0 w (Row e size (.slice none 0 0) 0 [] :: l) :=
 h.new (Row e size (.slice none 0 0) 0 []) (fun _ => False) ⟨World.ownsRow_nil _ _ _ _,fun k => by simp [Value.ownBlock]⟩ (Fr.refl _ _) (fun k h => h.elim)
theorem row_cut (h : w.ownsRow 0 e size (.slice (some ⟨g,0,none⟩) n cap) n xs) (hm : m ≤ n) : w.ownsRow 0 e size (.slice (some ⟨g,0,none⟩) m cap) m (xs.take (m * size)) := by
 rcases h.2 with ⟨h0,_⟩ | ⟨g',cap',cur,hv,hb,hgg,h1,h2,h3,h4⟩
 ·cases h0
 ·cases hv
  have hms : m * size ≤ n * size := Nat.mul_le_mul_right _ hm
  refine ⟨by rw [List.length_take,h.1]; omega,.inr ⟨g,cap,cur,rfl,hb,hgg,by omega,h2,h3,?_⟩⟩
  rw [← h4,List.take_take,Nat.min_eq_left hms]
theorem Own.cut (h : Own w0 w (Row e size (.slice (some ⟨g,0,none⟩) n cap) n xs :: l)) (hm : m ≤ n) : Own w0 w (Row e size (.slice (some ⟨g,0,none⟩) m cap) m (xs.take (m * size)) :: l) := by
 obtain ⟨A,⟨B,C,hB,hC,hbc,hA⟩,hF,hlo⟩ := h
 exact ⟨A,⟨B,C,⟨row_cut hB.1 hm,hB.2⟩,hC,hbc,hA⟩,hF,hlo⟩
end
theorem row_any {w : World} {base : Nat} {e : TypeId} {size n : Nat} {v : Value} {xs : List Value} (h : w.ownsRow base e size v n xs) : ∃ ao cap,v = .slice ao n cap := by
 rcases h.2 with ⟨rfl,rfl⟩ | ⟨g,cap,cur,rfl,_⟩ <;> exact ⟨_,_,rfl⟩
theorem row_cap {w : World} {base : Nat} {e : TypeId} {size n m g cap : Nat} {xs : List Value} (h : w.ownsRow base e size (.slice (some ⟨g,0,none⟩) n cap) m xs) : n = m ∧ n ≤ cap ∧ cap ≤ maxLen := by
 rcases h.2 with ⟨h0,_⟩ | ⟨g',cap',cur,h0,_,_,h1,h2,_⟩
 ·cases h0
 ·cases h0; exact ⟨rfl,h1,h2⟩
def irow (k : IntKind) (l : List Nat) : List Value := l.map (fun (x : Nat) => Value.int k (x : Int))
def brow (L : List Bool) : List Value := L.map Value.bool
theorem length_brow (l : List Bool) : (brow l).length = l.length := by simp [brow]
theorem brow_append (l m : List Bool) : brow (l ++ m) = brow l ++ brow m := by simp [brow]
theorem getElem?_irow (k : IntKind) (l : List Nat) (i : Nat) : (irow k l)[i]? = (l[i]?).map (fun (x : Nat) => Value.int k (x : Int)) := by simp [irow]
theorem one_brow (l : List Bool) : ∀ u ∈ brow l,u.oneCell' = true := by intro u hu; rw [brow,List.mem_map] at hu; obtain ⟨x,_,rfl⟩ := hu; rfl
theorem NewRow.own {w : World} {v v' : Value} {n : Nat} (h : NewRow w v v' n) : ∀ k,v'.ownBlock = some k → v.ownBlock = some k ∨ w.heap.size ≤ k := by
 obtain ⟨g,cap,rfl,h⟩ := h
 intro k hk
 cases hk
 exact h
theorem addr_add (g o j : Nat) : (⟨g,o,none⟩ : Addr).add j = ⟨g,o + j,none⟩ := by unfold Addr.add; split <;> simp_all
theorem cells_new (w : World) (cs : Array Value) (t : TypeId) (k : Nat) (hk : k = w.heap.size) : ∀ j u,cs.toList[j]? = some u → (w.alloc (.cells cs t)).cell? ((⟨k,0,none⟩ : Addr).add j) = some u := by
 subst hk
 intro j u hu
 rw [addr_add,Nat.zero_add]
 have := heap_alloc_new w (.cells cs t)
 simp only [World.cell?,this]
 simpa using hu
theorem append_own {P : Program} {w0 w : World} {l : List Thing} {ops : Array Oper} {rest : List Oper} {o : Oper} {a : Act} {Q : Exit → Act → World → Prop} (hgd : o.guard = none) (s x : Operand) (t : TypeId)
  (ho : o.op = .call { callee := .builtin .append,args := #[s,x],argTypes := #[t,t] })
  (e : TypeId) (i : TypeInfo) (z : Value) (size bytes : Nat) (ht : P.underlying t = some (.slice e)) (hi : P.info? e = some i) (hz : i.zero = some z)
  (hsize : i.size = size) (hby : i.bytes = bytes) (hzs : z.cells.size = size) (hsz : 0 < size)
  (v : Value) (n : Nat) (xs : List Value) (hs : a.eval s = v) (hown : Own w0 w (Row e size v n xs :: l))
  (ad : Addr) (m c : Nat) (news : List Value) (hx : a.eval x = .slice (some ad) m c) (hl : news.length = m * size) (hnews : ∀ j u,news[j]? = some u → w.cell? (ad.add j) = some u) (h1 : ∀ u ∈ news,u.oneCell' = true)
  (hm : 0 < m) (h63 : n + m ≤ maxLen) (hbytes : (n + m) * bytes ≤ 140737488355328)
  (h : ∀ g cap w',Own w0 w' (Row e size (.slice (some ⟨g,0,none⟩) (n + m) cap) (n + m) (xs ++ news) :: l) → w.heap.size ≤ w'.heap.size → wpList P ops Q rest (a.put o.dst (.slice (some ⟨g,0,none⟩) (n + m) cap)) w') : wpList P ops Q (o :: rest) a w :=
 wpList_append_ours w hgd s x t ho e i z size bytes ht hi hz hsize hby hzs hsz v n xs hs hown.row ad m c news hx hl hnews h1 hm h63 hbytes
  (fun v' w' r g k => by
    obtain ⟨g',cap,rfl,hk⟩ := id k
    exact h g' cap w' (hown.grow r g k.own) g.size)
theorem append1_own {P : Program} {w0 w : World} {l : List Thing} {ops : Array Oper} {rest : List Oper} {o : Oper} {a : Act} {Q : Exit → Act → World → Prop} (hgd : o.guard = none) (s x : Operand) (t : TypeId)
  (ho : o.op = .call { callee := .builtin .append,args := #[s,x],argTypes := #[t,t] })
  (e : TypeId) (i : TypeInfo) (z : Value) (size bytes : Nat) (ht : P.underlying t = some (.slice e)) (hi : P.info? e = some i) (hz : i.zero = some z)
  (hsize : i.size = size) (hby : i.bytes = bytes) (hzs : z.cells.size = size) (hsz : 0 < size)
  (v : Value) (n : Nat) (xs : List Value) (hs : a.eval s = v) (hown : Own w0 w (Row e size v n xs :: l))
  (k : Nat) (cs : Array Value) (hk : k = w.heap.size) (hx : a.eval x = .slice (some ⟨k,0,none⟩) 1 1) (hl : cs.size = size) (h1 : ∀ u ∈ cs.toList,u.oneCell' = true)
  (h63 : n + 1 ≤ maxLen) (hbytes : (n + 1) * bytes ≤ 140737488355328)
  (h : ∀ g cap w',Own w0 w' (Row e size (.slice (some ⟨g,0,none⟩) (n + 1) cap) (n + 1) (xs ++ cs.toList) :: l) → w.heap.size < w'.heap.size → wpList P ops Q rest (a.put o.dst (.slice (some ⟨g,0,none⟩) (n + 1) cap)) w') : wpList P ops Q (o :: rest) a (w.alloc (.cells cs e)) :=
 append_own hgd s x t ho e i z size bytes ht hi hz hsize hby hzs hsz v n xs hs (hown.alloc _) ⟨k,0,none⟩ 1 1 cs.toList hx (by simp [hl]) (cells_new w cs e k hk) h1 (by decide) h63 hbytes
  (fun g cap w' hO hsz => h g cap w' hO (by simp at hsz; omega))
def bitsN : Nat → Nat → List Bool
 | 0,_ => []
 | n + 1,v => (v % 2 == 1) :: bitsN n (v / 2)
def num : List Bool → Nat
 | [] => 0
 | b :: l => b.toNat + 2 * num l
def bt (L : List Bool) (i : Nat) : Nat := (L[i]?.getD false).toNat
def byteAt (L : List Bool) (i : Nat) : Nat :=
 bt L (8 * i) + 2 * bt L (8 * i + 1) + 4 * bt L (8 * i + 2) + 8 * bt L (8 * i + 3) + 16 * bt L (8 * i + 4) + 32 * bt L (8 * i + 5) + 64 * bt L (8 * i + 6) + 128 * bt L (8 * i + 7)
def nb (n : Nat) : Nat := (n + 7) / 8
def pack (L : List Bool) : List Nat := (List.range (nb L.length)).map (byteAt L)
def vrow (ps : List Nat) : List Value := ps.map (fun (x : Nat) => Value.int .u8 (x : Int))
theorem bt_le (L : List Bool) (i : Nat) : bt L i ≤ 1 := by unfold bt; cases L[i]?.getD false <;> simp
theorem byteAt_lt (L : List Bool) (i : Nat) : byteAt L i < 256 := by
 have h0 := bt_le L (8 * i); have h1 := bt_le L (8 * i + 1); have h2 := bt_le L (8 * i + 2); have h3 := bt_le L (8 * i + 3)
 have h4 := bt_le L (8 * i + 4); have h5 := bt_le L (8 * i + 5); have h6 := bt_le L (8 * i + 6); have h7 := bt_le L (8 * i + 7)
 unfold byteAt; omega
theorem bt_out (L : List Bool) (i : Nat) (h : L.length ≤ i) : bt L i = 0 := by unfold bt; simp [h]
theorem bt_snoc (L : List Bool) (b : Bool) (i : Nat) : bt (L ++ [b]) i = if i = L.length then b.toNat else bt L i := by
 unfold bt
 by_cases h : i < L.length
 ·rw [if_neg (by omega),List.getElem?_append_left h]
 ·by_cases e : i = L.length
  ·subst e; simp
  ·rw [if_neg e,List.getElem?_eq_none (by simp; omega),List.getElem?_eq_none (by omega)]
theorem length_pack (L : List Bool) : (pack L).length = nb L.length := by simp [pack]
theorem length_vrow (l : List Nat) : (vrow l).length = l.length := by simp [vrow]
theorem byteAt_small (L : List Bool) : byteAt L (L.length / 8) < 2 ^ (L.length % 8) := by
 have z : ∀ j,L.length ≤ j → bt L j = 0 := bt_out L
 have hm : L.length % 8 < 8 := Nat.mod_lt _ (by decide)
 have e : L.length = 8 * (L.length / 8) + L.length % 8 := by omega
 generalize hq : L.length / 8 = q at *
 generalize hr : L.length % 8 = r at *
 have h0 := bt_le L (8 * q); have h1 := bt_le L (8 * q + 1); have h2 := bt_le L (8 * q + 2); have h3 := bt_le L (8 * q + 3)
 have h4 := bt_le L (8 * q + 4); have h5 := bt_le L (8 * q + 5); have h6 := bt_le L (8 * q + 6); have h7 := bt_le L (8 * q + 7)
 unfold byteAt
 have c : r = 0 ∨ r = 1 ∨ r = 2 ∨ r = 3 ∨ r = 4 ∨ r = 5 ∨ r = 6 ∨ r = 7 := by omega
 rcases c with rfl | rfl | rfl | rfl | rfl | rfl | rfl | rfl
 ·rw [z (8 * q) (by omega),z (8 * q + 1) (by omega),z (8 * q + 2) (by omega),z (8 * q + 3) (by omega),z (8 * q + 4) (by omega),z (8 * q + 5) (by omega),z (8 * q + 6) (by omega),z (8 * q + 7) (by omega)]; decide
 ·rw [z (8 * q + 1) (by omega),z (8 * q + 2) (by omega),z (8 * q + 3) (by omega),z (8 * q + 4) (by omega),z (8 * q + 5) (by omega),z (8 * q + 6) (by omega),z (8 * q + 7) (by omega)]; omega
 ·rw [z (8 * q + 2) (by omega),z (8 * q + 3) (by omega),z (8 * q + 4) (by omega),z (8 * q + 5) (by omega),z (8 * q + 6) (by omega),z (8 * q + 7) (by omega)]; omega
 ·rw [z (8 * q + 3) (by omega),z (8 * q + 4) (by omega),z (8 * q + 5) (by omega),z (8 * q + 6) (by omega),z (8 * q + 7) (by omega)]; omega
 ·rw [z (8 * q + 4) (by omega),z (8 * q + 5) (by omega),z (8 * q + 6) (by omega),z (8 * q + 7) (by omega)]; omega
 ·rw [z (8 * q + 5) (by omega),z (8 * q + 6) (by omega),z (8 * q + 7) (by omega)]; omega
 ·rw [z (8 * q + 6) (by omega),z (8 * q + 7) (by omega)]; omega
 ·rw [z (8 * q + 7) (by omega)]; omega
theorem byteAt_snoc (L : List Bool) (b : Bool) (i : Nat) : byteAt (L ++ [b]) i = if i = L.length / 8 then byteAt L i + b.toNat * 2 ^ (L.length % 8) else byteAt L i := by
 have hm : L.length % 8 < 8 := Nat.mod_lt _ (by decide)
 have e : L.length = 8 * (L.length / 8) + L.length % 8 := by omega
 have z := bt_out L L.length (Nat.le_refl _)
 generalize hq : L.length / 8 = q at *
 generalize hr : L.length % 8 = r at *
 unfold byteAt
 simp only [bt_snoc]
 by_cases hi : i = q
 ·subst hi
  rw [if_pos rfl]
  have c : r = 0 ∨ r = 1 ∨ r = 2 ∨ r = 3 ∨ r = 4 ∨ r = 5 ∨ r = 6 ∨ r = 7 := by omega
  rw [e] at z ⊢
  rcases c with rfl | rfl | rfl | rfl | rfl | rfl | rfl | rfl
  all_goals simp only [Nat.add_zero,Nat.add_left_cancel_iff] at *
  all_goals simp [z]
  all_goals omega
 ·rw [if_neg hi,if_neg (by omega),if_neg (by omega),if_neg (by omega),if_neg (by omega),if_neg (by omega),if_neg (by omega),if_neg (by omega),if_neg (by omega)]
theorem getElem?_pack (L : List Bool) (i : Nat) : (pack L)[i]? = if i < nb L.length then some (byteAt L i) else none := by
 unfold pack
 by_cases h : i < nb L.length
 ·rw [if_pos h,List.getElem?_map,List.getElem?_range h]; rfl
 ·rw [if_neg h,List.getElem?_eq_none (by simp; omega)]
theorem pack_snoc_new (L : List Bool) (b : Bool) (h : L.length % 8 = 0) : pack (L ++ [b]) = (pack L ++ [0]).set (L.length / 8) (b.toNat * 2 ^ (L.length % 8)) := by
 have hn : nb L.length = L.length / 8 := by unfold nb; omega
 apply List.ext_getElem?
 intro i
 rw [getElem?_pack,List.length_append,List.length_singleton,byteAt_snoc,List.getElem?_set,List.length_append,length_pack,hn]
 have hs : nb (L.length + 1) = L.length / 8 + 1 := by unfold nb; omega
 have hz : byteAt L (L.length / 8) = 0 := by have := byteAt_small L; rw [h] at this; omega
 rw [hs]
 by_cases c : i < L.length / 8
 ·rw [if_pos (by omega),if_neg (by omega),if_neg (by omega),List.getElem?_append_left (by rw [length_pack,hn]; exact c),getElem?_pack,if_pos (by omega)]
 ·by_cases c2 : i = L.length / 8
  ·subst c2; rw [if_pos (by omega),if_pos rfl,if_pos rfl,if_pos (by simp),hz,Nat.zero_add]
  ·rw [if_neg (by omega),if_neg (by omega),List.getElem?_eq_none (by simp [length_pack,hn]; omega)]
theorem pack_snoc_in (L : List Bool) (b : Bool) (h : L.length % 8 ≠ 0) : pack (L ++ [b]) = (pack L).set (L.length / 8) (byteAt L (L.length / 8) + b.toNat * 2 ^ (L.length % 8)) := by
 have hn : nb L.length = L.length / 8 + 1 := by unfold nb; omega
 apply List.ext_getElem?
 intro i
 rw [getElem?_pack,List.length_append,List.length_singleton,byteAt_snoc,List.getElem?_set,length_pack,hn,getElem?_pack,hn]
 have hs : nb (L.length + 1) = L.length / 8 + 1 := by unfold nb; omega
 rw [hs]
 by_cases c2 : i = L.length / 8
 ·subst c2; rw [if_pos (by omega),if_pos rfl,if_pos rfl,if_pos (by simp)]
 ·rw [if_neg c2,if_neg (show ¬ L.length / 8 = i from fun e => c2 e.symm)]
theorem vrow_set (l : List Nat) (i x : Nat) : vrow (l.set i x) = (vrow l).set i (.int .u8 (x : Int)) := by simp [vrow,List.map_set]
theorem vrow_append (l m : List Nat) : vrow (l ++ m) = vrow l ++ vrow m := by simp [vrow]
theorem getElem?_vrow (l : List Nat) (i : Nat) : (vrow l)[i]? = (l[i]?).map (fun (x : Nat) => Value.int .u8 (x : Int)) := by simp [vrow]
theorem or_bit (x r : Nat) (b : Bool) (hx : x < 2 ^ r) : x ||| (b.toNat <<< r) = x + b.toNat * 2 ^ r := by
 rw [Nat.or_comm,← Nat.shiftLeft_add_eq_or_of_lt hx,Nat.shiftLeft_eq,Nat.add_comm]
theorem length_bitsN (n v : Nat) : (bitsN n v).length = n := by
 induction n generalizing v with
 | zero => rfl
 | succ n ih => simp [bitsN,ih]
theorem bitsN_snoc (n v : Nat) : bitsN (n + 1) v = bitsN n v ++ [v / 2 ^ n % 2 == 1] := by
 induction n generalizing v with
 | zero => simp [bitsN]
 | succ n ih =>
  rw [bitsN,ih (v / 2),bitsN,List.cons_append,Nat.div_div_eq_div_mul,← Nat.pow_succ']
theorem num_lt (l : List Bool) : num l < 2 ^ l.length := by
 induction l with
 | nil => simp [num]
 | cons b l ih => rw [num,List.length_cons,Nat.pow_succ]; cases b <;> simp <;> omega
theorem num_bitsN (n v : Nat) : num (bitsN n v) = v % 2 ^ n := by
 induction n generalizing v with
 | zero => simp [bitsN,num,Nat.mod_one]
 | succ n ih =>
  rw [bitsN,num,ih (v / 2),Nat.pow_succ',Nat.mod_mul]
  have h : v % 2 = 0 ∨ v % 2 = 1 := by omega
  rcases h with h | h <;> simp [h]
theorem num_append (l m : List Bool) : num (l ++ m) = num l + 2 ^ l.length * num m := by
 induction l with
 | nil => simp [num]
 | cons b l ih => simp only [List.cons_append,num,ih,List.length_cons,Nat.pow_succ']; rw [Nat.mul_add,Nat.mul_assoc]; omega
theorem Tryz.infoB : (Tryz.prog.info? 5).map (fun i => (i.zero,i.size,i.bytes)) = some (some (.int .u8 0),1,1) := by kernel_rfl
theorem Tryz.infoBool : (Tryz.prog.info? 4).map (fun i => (i.zero,i.size,i.bytes)) = some (some (.bool false),1,1) := by kernel_rfl
def At (b : Nat) (g : Option Nat) (k : Nat) : Prop := k = b ∨ some k = g
theorem row_setCell {w : World} {base : Nat} {e : TypeId} {size n : Nat} {v : Value} {xs : List Value} (ho : w.ownsRow base e size v n xs) (p : Addr) (u : Value) (h : v.ownBlock ≠ some p.block) : (w.setCell p u).ownsRow base e size v n xs := by
 have hf : Fr (fun k => k = p.block) w (w.setCell p u) := Fr.setCell (S := fun k => k = p.block) (Fr.refl _ w) (.inl rfl) u
 exact hf.row ho (fun k hk e => h (by rw [hk,e]))
structure Wr (B : Nat) (w : World) (b : Nat) (g : Option Nat) (L : List Bool) : Prop where
 low : B ≤ b
 glow : ∀ k,g = some k → B ≤ k
 ne : g ≠ some b
 obj : ∃ v,w.heap[b]? = some (.cells #[v,.int .i64 (L.length : Int)] 210 (0,0)) ∧ w.ownsRow 0 5 1 v (nb L.length) (vrow (pack L)) ∧ v.ownBlock = g
theorem Wr.lt {B : Nat} {w : World} {b : Nat} {g : Option Nat} {L : List Bool} (h : Wr B w b g L) : b < w.heap.size := by
 obtain ⟨v,hb,_⟩ := h.obj
 exact (Array.getElem?_eq_some_iff.1 hb).1
theorem Wr.glt {B : Nat} {w : World} {b : Nat} {g : Option Nat} {L : List Bool} (h : Wr B w b g L) : ∀ k,g = some k → k < w.heap.size := by
 intro k hk
 obtain ⟨v,_,ho,hv⟩ := h.obj
 exact (ho.lt k (hv.trans hk)).2
theorem Wr.keep {S : Nat → Prop} {B : Nat} {w w' : World} {b : Nat} {g : Option Nat} {L : List Bool} (h : Wr B w b g L) (hf : Fr S w w') (hb : ¬ S b) (hg : ∀ k,g = some k → ¬ S k) : Wr B w' b g L := by
 refine ⟨h.low,h.glow,h.ne,?_⟩
 have hl := h.lt
 obtain ⟨v,h1,h2,h3⟩ := h.obj
 exact ⟨v,(hf.block b hl hb).trans h1,hf.row h2 (fun k hk => hg k (h3.symm.trans hk)),h3⟩
theorem Wr.mono {B B' : Nat} {w : World} {b : Nat} {g : Option Nat} {L : List Bool} (h : Wr B w b g L) (hB : B' ≤ B) : Wr B' w b g L :=
 ⟨Nat.le_trans hB h.low,fun k hk => Nat.le_trans hB (h.glow k hk),h.ne,h.obj⟩
structure Step (w : World) (b : Nat) (g : Option Nat) (w' : World) (g' : Option Nat) : Prop where
 fr : Fr (At b g) w w'
 row : g' = g ∨ ∃ k,g' = some k ∧ w.heap.size ≤ k
theorem Step.refl (w : World) (b : Nat) (g : Option Nat) : Step w b g w g := ⟨Fr.refl _ _,.inl rfl⟩
theorem Step.trans {w w1 w2 : World} {b : Nat} {g g1 g2 : Option Nat} (h : Step w b g w1 g1) (k : Step w1 b g1 w2 g2) : Step w b g w2 g2 := by
 refine ⟨⟨k.fr.os.trans h.fr.os,k.fr.tape.trans h.fr.tape,k.fr.output.trans h.fr.output,Nat.le_trans h.fr.size k.fr.size,fun i hi hs => ?_⟩,?_⟩
 ·refine (k.fr.block i (Nat.lt_of_lt_of_le hi h.fr.size) ?_).trans (h.fr.block i hi hs)
  rintro (e | e)
  ·exact hs (.inl e)
  ·rcases h.row with r | ⟨j,r,hj⟩
   ·exact hs (.inr (e.trans r))
   ·rw [r] at e; cases e; omega
 ·rcases k.row with r | ⟨j,r,hj⟩
  ·rw [r]; exact h.row
  ·exact .inr ⟨j,r,Nat.le_trans h.fr.size hj⟩
theorem new_any (B : Nat) (w : World) (hB : B ≤ w.heap.size) :
  Calls Tryz.prog 84 #[] w fun e w' => ∃ b,e = .returned (.pointer (some ⟨b,0,none⟩)) ∧ w.heap.size ≤ b ∧ Wr B w' b none [] ∧ Fr Nobody w w' := by
 go_enter Tryz.func84,Tryz.ntmps84
 go_wp2
 go_ret
 refine ⟨_,rfl,Nat.le_refl _,⟨hB,fun k hk => by simp at hk,by simp,?_⟩,(Fr.refl _ _).alloc _⟩
 exact ⟨.slice none 0 0,heap_alloc_new w _,World.ownsRow_nil _ _ _ _,rfl⟩
theorem cell0 {w : World} {b : Nat} {v u : Value} {t : TypeId} (h : w.heap[b]? = some (.cells #[v,u] t (0,0))) : w.cell? ⟨b,0,none⟩ = some v := by simp [World.cell?,h]
theorem cell1 {w : World} {b : Nat} {v u : Value} {t : TypeId} (h : w.heap[b]? = some (.cells #[v,u] t (0,0))) : w.cell? ⟨b,1,none⟩ = some u := by simp [World.cell?,h]
theorem froz {w : World} {b o : Nat} {v u : Value} {t : TypeId} (h : w.heap[b]? = some (.cells #[v,u] t (0,0))) : w.frozen? ⟨b,o,none⟩ = false := by simp [World.frozen?,h]
theorem len_any (B : Nat) (w : World) (b : Nat) (g : Option Nat) (L : List Bool) (h : Wr B w b g L) :
  Calls Tryz.prog 180 #[.pointer (some ⟨b,0,none⟩)] w fun e w' => e = .returned (.int .i64 (L.length : Int)) ∧ w' = w := by
 obtain ⟨v,hb,_⟩ := h.obj
 have c1 := cell1 hb
 clear hb h
 go_enter Tryz.func180,Tryz.ntmps180
 go_wp2
 go_ret
 exact ⟨rfl,rfl⟩
end Go.Proofs.YtgifeckbflkkpaaGreatDoor
