/- Slices of structs that come in: their elements' cells. -/
import Derived.Test.YtgifeckbflkkpaaGreatDoorQr01
import Derived.Deep.SlicePairs
import Derived.ProofKit
import Derived.OpenShut
import Derived.BigRegion
import Derived.BigQuiet
import Derived.Deep.QuietTactic
import Derived.Deep.RegionLaw
import Derived.Laws.CopyRow
import Derived.Test.YtgifeckbflkkpaaGreatDoorQr09
import Derived.Laws.StructEq
import Derived.ChangeKeysEq
import Derived.Test.YtgifeckbflkkpaaGreatDoorQr10
namespace Go.Proofs.YtgifeckbflkkpaaGreatDoor
open Go.RowKit Go.ChangeShapes Go.WideShapes Go.Deep
set_option linter.unusedVariables false
set_option maxHeartbeats 2000000
def RowsAt {α : Type} (G : List Value → α → Prop) (s : Nat) (w : World) (ao : Option Addr) (Q : List α) : Prop :=
 Q = [] ∨ ∃ g o,ao = some ⟨g,o,none⟩ ∧ ∀ (j : Nat) q,Q[j]? = some q → ∃ cs,G cs q ∧ cs.length = s ∧ ∀ r,r < s → w.cell? ⟨g,o + j * s + r,none⟩ = cs[r]?
theorem RowsAt.quiet {α : Type} {G : List Value → α → Prop} {s : Nat} {w w' : World} {ao : Option Addr} {Q : List α} (h : RowsAt G s w ao Q) (hf : Fr Nobody w w') : RowsAt G s w' ao Q := by
 rcases h with h | ⟨g,o,ha,hc⟩
 ·exact .inl h
 ·refine .inr ⟨g,o,ha,fun j q hq => ?_⟩
  obtain ⟨cs,h1,h2,h3⟩ := hc j q hq
  refine ⟨cs,h1,h2,fun r hr => ?_⟩
  have h4 := h3 r hr
  have h5 : cs[r]? = some cs[r] := List.getElem?_eq_getElem (by omega)
  rw [h5] at h4 ⊢
  exact (hf.cell (p := ⟨g,o + j * s + r,none⟩) (World.block_lt_of_cell? w _ h4) id).trans h4
end Go.Proofs.YtgifeckbflkkpaaGreatDoor
namespace Go.Proofs.YtgifeckbflkkpaaGreatDoor
open Go.RowKit
set_option linter.unusedVariables false
set_option maxHeartbeats 2000000
section
variable {α : Type}
def cat (c : α → List Value) (L : List α) : List Value := L.flatMap c
theorem cat_append (c : α → List Value) (L M : List α) : cat c (L ++ M) = cat c L ++ cat c M := by simp [cat]
theorem length_cat (c : α → List Value) (s : Nat) (hs : ∀ x,(c x).length = s) (L : List α) : (cat c L).length = L.length * s := by
 induction L with
 | nil => simp [cat]
 | cons x L ih => rw [cat,List.flatMap_cons,List.length_append,hs,List.length_cons,Nat.succ_mul]; rw [cat] at ih; rw [ih]; omega
theorem cat_drop (c : α → List Value) (s : Nat) (hs : ∀ x,(c x).length = s) (L : List α) (n : Nat) : (cat c L).drop (n * s) = cat c (L.drop n) := by
 induction n generalizing L with
 | zero => simp
 | succ n ih =>
  cases L with
  | nil => simp [cat]
  | cons x L =>
   rw [List.drop_succ_cons,← ih L,cat,List.flatMap_cons,Nat.succ_mul,Nat.add_comm,← List.drop_drop]
   rw [List.drop_left' (hs x)]; rfl
theorem cat_at (c : α → List Value) (s : Nat) (hs : ∀ x,(c x).length = s) (L : List α) (i r : Nat) (x : α) (hx : L[i]? = some x) (hr : r < s) : (cat c L)[i * s + r]? = (c x)[r]? := by
 induction i generalizing L with
 | zero =>
  cases L with
  | nil => simp at hx
  | cons y L =>
   simp at hx
   subst hx
   rw [cat,List.flatMap_cons,Nat.zero_mul,Nat.zero_add,List.getElem?_append_left (by rw [hs]; exact hr)]
 | succ i ih =>
  cases L with
  | nil => simp at hx
  | cons y L =>
   rw [cat,List.flatMap_cons,List.getElem?_append_right (by rw [hs,Nat.succ_mul]; omega),hs]
   have := ih L (by simpa using hx)
   rw [cat] at this
   rw [← this]; congr 1; rw [Nat.succ_mul]; omega
theorem one_cat (c : α → List Value) (h : ∀ x,∀ u ∈ c x,u.oneCell' = true) (L : List α) : ∀ u ∈ cat c L,u.oneCell' = true := by
 intro u hu
 rw [cat,List.mem_flatMap] at hu
 obtain ⟨x,_,hx⟩ := hu
 exact h x u hx
end
theorem step_run {P : Program} {ops : Array Oper} {o : Oper} {a : Act} {w : World} {K : Act → World → Prop} {Q : Exit → Act → World → Prop} {E : Prop}
  (hg : o.guard = none) (s x : Operand) (t t' ty : TypeId) (hop : o.op = Op.call { callee := Callee.builtin Builtin.append,args := #[s,x],argTypes := #[t,t'] }) (hty : o.type = ty)
  (vs vx v' : Value) (w' : World) (hs : a.eval s = vs) (hx : a.eval x = vx) (hrun : (Builtin.append_ #[t,t'] ty #[vs,vx]).run P w = .ok v' w')
  (hK : K (a.put o.dst v') w') :
  if Region.wanted o (yielded ops a.tmps) = true then Oper.wp P o a w K Q else E := by
 have hw : Region.wanted o (yielded ops a.tmps) = true := by simp [Region.wanted,hg]
 rw [if_pos hw]
 subst hty
 unfold Oper.wp
 simp [execOp,hop,resolve,invoke,builtin,hs,hx,hrun,Result.andThen]
 exact hK
theorem Own.moved {P : Program} {w0 w : World} {l : List Thing} {e : TypeId} {s len cap g : Nat} {xs : List Value} (h : Own w0 w (Row e s (.slice (some ⟨g,0,none⟩) len cap) len xs :: l)) (t ty : TypeId) (i : TypeInfo) (ht : P.underlying t = some (.slice e)) (hi : P.info? e = some i) (hsize : i.size = s)
  (h1 : ∀ u ∈ xs,u.oneCell' = true) (n : Nat) (hn : n ≤ len) (A : Addr) (hA : A = if cap = n then ⟨g,0,none⟩ else ⟨g,n * s,none⟩) :
  ∃ w',(Builtin.append_ #[t,t] ty #[.slice (some ⟨g,0,none⟩) 0 cap,.slice (some A) (len - n) (cap - n)]).run P w = .ok (.slice (some ⟨g,0,none⟩) (len - n) cap) w' ∧
   Own w0 w' (Row e s (.slice (some ⟨g,0,none⟩) (len - n) cap) (len - n) (xs.drop (n * s)) :: l) := by
 have hr := h.row
 have hcap := row_cap hr
 have h0 := row_cut hr (m := 0) (Nat.zero_le _)
 have hl : (xs.drop (n * s)).length = (len - n) * s := by rw [List.length_drop,hr.1,Nat.sub_mul]
 obtain ⟨w',r1,r2,r3⟩ := run_append_fits (P := P) w 0 t ty e i s ht hi hsize g 0 cap _ h0 A (len - n) (cap - n) (xs.drop (n * s)) hl (by
  intro j u hu
  rw [List.getElem?_drop] at hu
  have hj := (List.getElem?_eq_some_iff.1 hu).1
  have hne : cap ≠ n := by
   intro q
   have : len = n := by omega
   rw [hr.1,this] at hj; omega
  rw [hA,if_neg hne,addr_add,hr.cellAt _ (by rw [← hr.1]; exact hj)]
  exact hu) (fun u hu => h1 u (List.mem_of_mem_drop hu)) (by omega)
 rw [Nat.zero_add] at r1 r2
 refine ⟨w',r1,h.grow (by simpa using r2) r3 ?_⟩
 intro k hk
 left; exact hk
theorem Own.cleared {P : Program} {w0 w : World} {l : List Thing} {e : TypeId} {s m cap g : Nat} {xs : List Value} (h : Own w0 w (Row e s (.slice (some ⟨g,0,none⟩) m cap) m xs :: l)) (t : TypeId) (z : Value) (ht : P.underlying t = some (.slice e)) (hz : ∀ w,(zeroValue e).run P w = .ok z w) (hzs : z.cells.size = s) (h1 : ∀ u ∈ z.cells.toList,u.oneCell' = true) (hs : 0 < s)
  (n c : Nat) (hn : 0 < n) (hmn : m + n ≤ cap) :
  ∃ w',(∀ ty,(Builtin.clear_ #[t] ty #[.slice (some ⟨g,m * s,none⟩) n c]).run P w = .ok (.tuple #[]) w') ∧ Own w0 w' (Row e s (.slice (some ⟨g,0,none⟩) m cap) m xs :: l) := by
 have hr := h.row
 rcases hr.2 with ⟨h0,_⟩ | ⟨g',cap',cur,hv,hb,hgg,k1,k2,k3,k4⟩
 ·cases h0
 ·cases hv
  have hlen : (Builtin.zeroCells z.cells n).toList.length = n * s := by rw [Array.length_toList,size_zeroCells,hzs]
  have hle : m * s + (Builtin.zeroCells z.cells n).toList.length ≤ cur.size := by
   rw [hlen,k3,← Nat.add_mul]; exact Nat.mul_le_mul_right _ hmn
  have hone : ∀ v ∈ (Builtin.zeroCells z.cells n).toList,v.oneCell' = true := by
   intro v hv
   rw [Array.mem_toList_iff,Builtin.zeroCells,Array.mem_map] at hv
   obtain ⟨j,hj,rfl⟩ := hv
   apply h1
   have hlt : j % z.cells.size < z.cells.size := Nat.mod_lt _ (by omega)
   rw [getElem!_pos z.cells _ hlt,Array.mem_toList_iff]
   exact Array.getElem_mem hlt
  have hst := run_storeCells_at (P := P) g (m * s) e (Builtin.zeroCells z.cells n).toList 0 cur w hgg (by simpa using hle) hone
  simp only [Nat.add_zero] at hst
  obtain ⟨R,hR⟩ : ∃ R : Array Value,R = (cur.toList.take (m * s) ++ (Builtin.zeroCells z.cells n).toList ++ cur.toList.drop (m * s + (Builtin.zeroCells z.cells n).toList.length)).toArray := ⟨_,rfl⟩
  rw [← hR] at hst
  have hR1 : R.size = cap * s := by
   rw [hR,← k3]
   simp only [List.size_toArray,List.length_append,List.length_take,List.length_drop,Array.length_toList] at hle ⊢
   omega
  have hR2 : R.toList.take (m * s) = xs := by
   rw [hR]
   show ((cur.toList.take (m * s) ++ _) ++ _).take (m * s) = xs
   rw [List.append_assoc,List.take_left' (by rw [List.length_take,Array.length_toList,k3]; exact Nat.min_eq_left (Nat.mul_le_mul_right _ k1)),← k4]
  refine ⟨w.setRow g R,fun ty => ?_,h.grow (w' := w.setRow g R) (m := m) (ys := xs) ⟨hr.1,.inr ⟨g,cap,R,rfl,hb,setRow_heap w g cur R e (0,0) hgg,k1,k2,hR1,hR2⟩⟩ ⟨rfl,rfl,rfl,by simp [World.setRow],fun k _ hk => setRow_other w g k R (fun e => hk (by simp [e,Value.ownBlock]))⟩ (fun k hk => .inl hk)⟩
  obtain ⟨q,rfl⟩ : ∃ q,n = q + 1 := ⟨n - 1,by omega⟩
  simp only [Builtin.clear_]
  simp [run_underlying ht,hz,hst]
section
variable {α : Type}
def below (t : Nat) (L : List (Nat × α)) : Nat := (L.takeWhile (fun e => decide (e.1 < t))).length
theorem below_le (t : Nat) (L : List (Nat × α)) : below t L ≤ L.length := (List.takeWhile_prefix _).length_le
theorem below_lt (t : Nat) (L : List (Nat × α)) (i : Nat) (e : Nat × α) (hi : i < below t L) (he : L[i]? = some e) : e.1 < t := by
 induction L generalizing i with
 | nil => simp at he
 | cons x L ih =>
  unfold below at hi
  rw [List.takeWhile_cons] at hi
  by_cases c : x.1 < t
  ·cases i with
   | zero => simp at he; subst he; exact c
   | succ i => simp [c] at hi; exact ih i (by unfold below; exact hi) (by simpa using he)
  ·simp [c] at hi
theorem below_at (t : Nat) (L : List (Nat × α)) (e : Nat × α) (he : L[below t L]? = some e) : t ≤ e.1 := by
 induction L with
 | nil => simp at he
 | cons x L ih =>
  unfold below at he
  rw [List.takeWhile_cons] at he
  by_cases c : x.1 < t
  ·simp [c] at he; exact ih (by unfold below; exact he)
  ·simp [c] at he; subst he; omega
def rput (k : Nat) (L : List (Nat × α)) (t : Nat) (v : α) : Int × List (Nat × α) :=
 if ∃ e,L.getLast? = some e ∧ t ≤ e.1 then (12,L) else (0,if k < L.length + 1 then (L ++ [(t,v)]).drop 1 else L ++ [(t,v)])
def rget (L : List (Nat × α)) (t : Nat) : Option α := match L[below t L]? with
 | some e => if e.1 = t then some e.2 else none
 | none => none
structure ROk (k : Nat) (L : List (Nat × α)) : Prop where
 k1 : 1 ≤ k
 k2 : k ≤ 64
 le : L.length ≤ k
 inc : L.Pairwise (fun a b => a.1 < b.1)
 lt : ∀ e ∈ L,e.1 < 4294967296
theorem ROk.nil {k : Nat} (h1 : 1 ≤ k) (h2 : k ≤ 64) : ROk k ([] : List (Nat × α)) := ⟨h1,h2,by simp,by simp,by simp⟩
theorem ROk.drop {k : Nat} {L : List (Nat × α)} (h : ROk k L) (n : Nat) : ROk k (L.drop n) :=
 ⟨h.k1,h.k2,by rw [List.length_drop]; have := h.le; omega,h.inc.sublist (List.drop_sublist _ _),fun e he => h.lt e (List.mem_of_mem_drop he)⟩
end
def View (s : Nat) (v : Value) (n : Nat) (xs : List Value) : Thing where
 is := fun w A => xs.length = n * s ∧ ∃ ao cap,v = .slice ao n cap ∧ n ≤ cap ∧ cap ≤ maxLen ∧ ((n = 0 ∧ ∀ k,¬ A k) ∨ (0 < n * s ∧ ∃ g o,ao = some ⟨g,o,none⟩ ∧ (∀ k,A k ↔ k = g) ∧ ∀ j u,xs[j]? = some u → w.cell? ⟨g,o + j,none⟩ = some u))
 lt := by
  rintro w A k ⟨hl,ao,cap,rfl,_,_,⟨_,h⟩ | ⟨h0,g,o,_,hA,hc⟩⟩ a
  ·exact (h k a).elim
  ·rw [(hA k).1 a]
   have hx : xs[0]? = some xs[0] := List.getElem?_eq_getElem (by omega)
   exact World.block_lt_of_cell? w _ (hc 0 _ hx)
 keep := by
  rintro w w' A B ⟨hl,ao,cap,rfl,h1,h2,⟨h3,h⟩ | ⟨h0,g,o,ha,hA,hc⟩⟩ hf hn
  ·exact ⟨hl,ao,cap,rfl,h1,h2,.inl ⟨h3,h⟩⟩
  ·refine ⟨hl,ao,cap,rfl,h1,h2,.inr ⟨h0,g,o,ha,hA,fun j u hu => ?_⟩⟩
   have h4 := hc j u hu
   exact (hf.cell (p := ⟨g,o + j,none⟩) (World.block_lt_of_cell? w _ h4) (hn g ((hA g).2 rfl))).trans h4
section
variable {w0 w w' : World} {l : List Thing} {t e : TypeId} {s n m cap g : Nat} {v u : Value} {xs ys : List Value}
theorem Own.view (h : Own w0 w (Row e s v n xs :: l)) (hs : 0 < s) : Own w0 w (View s v n xs :: l) := by
 obtain ⟨A,⟨B,C,hB,hC,hbc,hA⟩,hF,hlo⟩ := h
 have hr := hB.1
 rcases hr.2 with ⟨rfl,rfl⟩ | ⟨g,cap,cur,rfl,_,hgg,h1,h2,h3,h4⟩
 ·refine ⟨C,⟨fun _ => False,C,⟨hr.1,none,0,rfl,Nat.le_refl _,Nat.zero_le _,.inl ⟨rfl,fun _ h => h⟩⟩,hC,fun _ h => h.elim,fun k => by simp⟩,hF,fun k c => hlo k ((hA k).2 (.inr c))⟩
 ·rcases Nat.eq_zero_or_pos n with h0 | h0
  ·refine ⟨C,⟨fun _ => False,C,⟨hr.1,_,_,rfl,h1,h2,.inl ⟨h0,fun _ h => h⟩⟩,hC,fun _ h => h.elim,fun k => by simp⟩,hF,fun k c => hlo k ((hA k).2 (.inr c))⟩
  ·refine ⟨A,⟨B,C,⟨hr.1,_,_,rfl,h1,h2,.inr ⟨Nat.mul_pos h0 hs,g,0,rfl,fun k => ?_,fun j u hu => ?_⟩⟩,hC,hbc,hA⟩,hF,hlo⟩
   ·rw [hB.2 k]; simp [Value.ownBlock]; exact eq_comm
   ·have hj := (List.getElem?_eq_some_iff.1 hu).1
    rw [Nat.zero_add,hr.cellAt j (by rw [← hr.1]; exact hj)]; exact hu
theorem Own.vcell (h : Own w0 w (View s v n xs :: l)) (hn : 0 < n) : ∃ g o cap,v = .slice (some ⟨g,o,none⟩) n cap ∧ n ≤ cap ∧ cap ≤ maxLen ∧ ∀ j u,xs[j]? = some u → w.cell? ⟨g,o + j,none⟩ = some u := by
 obtain ⟨A,⟨B,C,⟨hl,ao,cap,rfl,h1,h2,⟨h3,_⟩ | ⟨h0,g,o,rfl,hA,hc⟩⟩,_⟩,_⟩ := h
 ·omega
 ·exact ⟨g,o,cap,rfl,h1,h2,hc⟩
theorem Own.litRow (h : Own w0 w l) (cs : Array Value) (e : TypeId) (s n : Nat) (hm : n ≤ maxLen) (hs : cs.size = n * s) : Own w0 (w.alloc (.cells cs e)) (Row e s (.slice (some ⟨w.heap.size,0,none⟩) n n) n cs.toList :: l) :=
 h.new (Row e s (.slice (some ⟨w.heap.size,0,none⟩) n n) n cs.toList) (fun k => k = w.heap.size) ⟨World.ownsRow_lit (base := 0) w cs n (Nat.zero_le _) hm hs,fun k => by simp [Value.ownBlock]; exact eq_comm⟩ ((Fr.refl _ _).alloc _) (fun k hk => by omega)
end
theorem run_append_empty {P : Program} (w : World) (base : Nat) (t ty e : TypeId) (i : TypeInfo) (size : Nat) (ht : P.underlying t = some (.slice e)) (hi : P.info? e = some i)
  (v : Value) (n : Nat) (xs : List Value) (hown : w.ownsRow base e size v n xs) (xa : Option Addr) (c : Nat) :
  (Builtin.append_ #[t,t] ty #[v,.slice xa 0 c]).run P w = .ok v w := by
 rcases hown.2 with ⟨rfl,rfl⟩ | ⟨g,cap,cur,rfl,_,_,hnc,_⟩
 ·cases xa <;> simp [Builtin.append_,run_underlying ht,sizeOf,typeInfo,hi,Builtin.lenOf,Builtin.firstCells,loadCells,loadCellsFrom]
 ·cases xa <;> simp [Builtin.append_,run_underlying ht,sizeOf,typeInfo,hi,Builtin.lenOf,Builtin.firstCells,hnc,storeCells,loadCells,loadCellsFrom]
end Go.Proofs.YtgifeckbflkkpaaGreatDoor
namespace Go.Proofs.YtgifeckbflkkpaaGreatDoor
open Go.RowKit Go.ChangeShapes Go.WideShapes
set_option linter.unusedVariables false
set_option maxHeartbeats 2000000
set_option maxRecDepth 100000
structure Cp where
 k : Nat
 a : Int
 b : Int
 c : Int
instance : Inhabited Cp := ⟨⟨0,0,0,0⟩⟩
def Cp.cs (q : Cp) : List Value := [.int .u8 (q.k : Int),.int .i32 q.a,.int .i32 q.b,.int .i32 q.c]
def Cp.chk (q : Cp) : Nat := Go.Proofs.YtgifeckbflkkpaaGreatDoor.chk q.k (f3 q.a q.b q.c)
theorem cs_len (q : Cp) : q.cs.length = 4 := rfl
theorem cs_one (q : Cp) : ∀ u ∈ q.cs,u.oneCell' = true := by
 intro u hu; simp [Cp.cs] at hu; rcases hu with rfl | rfl | rfl | rfl <;> rfl
def At4 (w : World) (g p : Nat) (q : Cp) : Prop := w.cell? ⟨g,p,none⟩ = some (.int .u8 (q.k : Int)) ∧ w.cell? ⟨g,p + 1,none⟩ = some (.int .i32 q.a) ∧ w.cell? ⟨g,p + 2,none⟩ = some (.int .i32 q.b) ∧ w.cell? ⟨g,p + 3,none⟩ = some (.int .i32 q.c)
def Cs (w : World) (ao : Option Addr) (L : List Cp) : Prop := L = [] ∨ ∃ g o,ao = some ⟨g,o,none⟩ ∧ ∀ (j : Nat) q,L[j]? = some q → At4 w g (o + j * 4) q
theorem At4.quiet {w w' : World} {g p : Nat} {q : Cp} (h : At4 w g p q) (hf : Fr Nobody w w') : At4 w' g p q := by
 obtain ⟨h0,h1,h2,h3⟩ := h
 have hb := World.block_lt_of_cell? w _ h0
 exact ⟨(hf.cell (p := ⟨g,p,none⟩) hb id).trans h0,(hf.cell (p := ⟨g,p + 1,none⟩) hb id).trans h1,(hf.cell (p := ⟨g,p + 2,none⟩) hb id).trans h2,(hf.cell (p := ⟨g,p + 3,none⟩) hb id).trans h3⟩
theorem Cs.quiet {w w' : World} {ao : Option Addr} {L : List Cp} (h : Cs w ao L) (hf : Fr Nobody w w') : Cs w' ao L := by
 rcases h with h | ⟨g,o,ha,hc⟩
 ·exact .inl h
 ·exact .inr ⟨g,o,ha,fun j q hq => (hc j q hq).quiet hf⟩
theorem Cs.at {w : World} {ao : Option Addr} {L : List Cp} (h : Cs w ao L) (j : Nat) (q : Cp) (hq : L[j]? = some q) : ∃ g o,ao = some ⟨g,o,none⟩ ∧ (∀ (i : Nat) x,L[i]? = some x → At4 w g (o + i * 4) x) ∧ At4 w g (o + j * 4) q := by
 rcases h with h | ⟨g,o,ha,hc⟩
 ·subst h; simp at hq
 ·exact ⟨g,o,ha,hc,hc j q hq⟩
theorem Cs.take {w : World} {ao : Option Addr} {L : List Cp} (h : Cs w ao L) (n : Nat) : Cs w ao (L.take n) := by
 rcases h with h | ⟨g,o,ha,hc⟩
 ·subst h; exact .inl (by simp)
 ·refine .inr ⟨g,o,ha,fun j q hq => hc j q ?_⟩
  rw [List.getElem?_take] at hq
  split at hq
  ·exact hq
  ·cases hq
def ccat (L : List Cp) : List Value := cat Cp.cs L
theorem length_ccat (L : List Cp) : (ccat L).length = L.length * 4 := by
 induction L with
 | nil => rfl
 | cons q L ih => simp [ccat,cat,List.flatMap_cons,cs_len] at ih ⊢; omega
theorem ccat_at (L : List Cp) (j : Nat) (q : Cp) (h : L[j]? = some q) (r : Nat) (hr : r < 4) : (ccat L)[j * 4 + r]? = q.cs[r]? := cat_at Cp.cs 4 cs_len L j r q h hr
theorem Own.cs {w0 w : World} {l : List Thing} {ao : Option Addr} {cap n : Nat} {L : List Cp} (h : Own w0 w (View 4 (.slice ao n cap) n (ccat L) :: l)) (hn : L.length = n) : Cs w ao L := by
 rcases Nat.eq_zero_or_pos n with h0 | h0
 ·exact .inl (List.eq_nil_of_length_eq_zero (by omega))
 ·obtain ⟨g,o,cap',hv,_,_,hc⟩ := h.vcell h0
  refine .inr ⟨g,o,(Value.slice.inj hv).1,fun j q hq => ?_⟩
  refine ⟨hc (j * 4) _ ((ccat_at L j q hq 0 (by decide)).trans rfl),?_,?_,?_⟩
  ·have := hc (j * 4 + 1) _ ((ccat_at L j q hq 1 (by decide)).trans rfl); rw [← Nat.add_assoc] at this; exact this
  ·have := hc (j * 4 + 2) _ ((ccat_at L j q hq 2 (by decide)).trans rfl); rw [← Nat.add_assoc] at this; exact this
  ·have := hc (j * 4 + 3) _ ((ccat_at L j q hq 3 (by decide)).trans rfl); rw [← Nat.add_assoc] at this; exact this
theorem Cs.cells {w : World} {g o : Nat} {L : List Cp} (h : ∀ (j : Nat) q,L[j]? = some q → At4 w g (o + j * 4) q) : ∀ j u,(ccat L)[j]? = some u → w.cell? ((⟨g,o,none⟩ : Addr).add j) = some u := by
 intro j u hu
 have hj := (List.getElem?_eq_some_iff.1 hu).1
 rw [length_ccat] at hj
 have hd : j / 4 < L.length := by omega
 obtain ⟨q,hq⟩ : ∃ q,L[j / 4]? = some q := ⟨_,List.getElem?_eq_getElem hd⟩
 have e : j = j / 4 * 4 + j % 4 := by omega
 have hm : j % 4 < 4 := Nat.mod_lt _ (by decide)
 rw [e,ccat_at L _ q hq _ hm] at hu
 obtain ⟨h0,h1,h2,h3⟩ := h _ q hq
 rw [addr_add,e]
 generalize j % 4 = r at *
 have c : r = 0 ∨ r = 1 ∨ r = 2 ∨ r = 3 := by omega
 rcases c with rfl | rfl | rfl | rfl <;> simp [Cp.cs] at hu <;> subst hu
 ·exact h0
 ·rw [← Nat.add_assoc]; exact h1
 ·rw [← Nat.add_assoc]; exact h2
 ·rw [← Nat.add_assoc]; exact h3
def CompIs (cs : List Value) (q : Cp) : Prop := cs = q.cs ∧ q.k < 256
def IsComps (w : World) (ao : Option Addr) (len cap : Nat) (Q : List Cp) : Prop := Q.length = len ∧ len ≤ cap ∧ cap ≤ maxLen ∧ RowsAt CompIs 4 w ao Q
theorem IsComps.cs {w : World} {ao : Option Addr} {len cap : Nat} {Q : List Cp} (h : IsComps w ao len cap Q) : Cs w ao Q ∧ ∀ q ∈ Q,q.k < 256 := by
 obtain ⟨_,_,_,h | ⟨g,o,ha,hc⟩⟩ := h
 ·subst h; exact ⟨.inl rfl,fun q hq => by simp at hq⟩
 ·refine ⟨.inr ⟨g,o,ha,fun j q hq => ?_⟩,fun q hq => ?_⟩
  ·obtain ⟨cs,⟨rfl,_⟩,_,h3⟩ := hc j q hq
   exact ⟨h3 0 (by decide),h3 1 (by decide),h3 2 (by decide),h3 3 (by decide)⟩
  ·obtain ⟨j,hj⟩ := List.getElem?_of_mem hq
   obtain ⟨cs,⟨_,h2⟩,_⟩ := hc j q hj
   exact h2
def lst : Int → List Cp → Nat
 | _,[] => 0
 | p,q :: t => if q.chk ≠ 0 then q.chk else if (q.k : Int) ≤ p then 4 else lst q.k t
theorem chk_lt (q : Cp) : q.chk ≤ 5 := by
 unfold Cp.chk chk
 split
 ·omega
 ·split
  ·omega
  ·split <;> omega
def prv (L : List Cp) (j : Nat) : Int := match j with
 | 0 => -1
 | i + 1 => (((L[i]?).map (fun q => (q.k : Int))).getD 0)
theorem lst_bad {L : List Cp} {j : Nat} {q : Cp} (hq : L[j]? = some q) (h : lst (prv L j) (L.drop j) = lst (-1) L) (hc : q.chk ≠ 0) : lst (-1) L = q.chk := by
 have hj := (List.getElem?_eq_some_iff.1 hq)
 rw [← h,List.drop_eq_getElem_cons hj.1,hj.2,lst,if_pos hc]
theorem lst_low {L : List Cp} {j : Nat} {q : Cp} (hq : L[j]? = some q) (h : lst (prv L j) (L.drop j) = lst (-1) L) (hc : q.chk = 0) (hl : (q.k : Int) ≤ prv L j) : lst (-1) L = 4 := by
 have hj := (List.getElem?_eq_some_iff.1 hq)
 rw [← h,List.drop_eq_getElem_cons hj.1,hj.2,lst,if_neg (by simp [hc]),if_pos hl]
theorem lst_on {L : List Cp} {j : Nat} {q : Cp} (hq : L[j]? = some q) (h : lst (prv L j) (L.drop j) = lst (-1) L) (hc : q.chk = 0) (hl : ¬ (q.k : Int) ≤ prv L j) : lst (prv L (j + 1)) (L.drop (j + 1)) = lst (-1) L := by
 have hj := (List.getElem?_eq_some_iff.1 hq)
 rw [← h,List.drop_eq_getElem_cons hj.1,hj.2,lst,if_neg (by simp [hc]),if_neg hl]
 simp [prv,hq]
theorem lst_end {L : List Cp} {j : Nat} (h : lst (prv L j) (L.drop j) = lst (-1) L) (hj : L.length ≤ j) : lst (-1) L = 0 := by
 rw [← h,List.drop_eq_nil_of_le hj,lst]
theorem list_any (w : World) (ht : Tab w) (ao : Option Addr) (len cap : Nat) (L : List Cp) (hl : L.length = len) (hs : Cs w ao L) (hk : ∀ q ∈ L,q.k < 256) (hm : len ≤ 1000000) :
  Calls Tryz.prog 117 #[.slice ao len cap] w fun e w' => e = .returned (.int .i64 ((lst (-1) L : Nat) : Int)) ∧ Fr Nobody w w' := by
 have HT : Hid (Tab w) := ht
 have HL : Hid (L.length = len ∧ Cs w ao L ∧ ∀ q ∈ L,q.k < 256) := ⟨hl,hs,hk⟩
 clear ht hl hs hk
 go_enter Tryz.func117,Tryz.ntmps117
 go_wp2
 go_loopw [8] (fun c wr => ∃ j : Nat,j ≤ len ∧ c = .int .i64 j ∧ lst (prv L j) (L.drop j) = lst (-1) L ∧ Fr Nobody w wr) (fun c _ => len - (intOf c).toNat)
 case atStart => exact ⟨0,Nat.zero_le _,rfl,rfl,Fr.refl _ _⟩
 case round =>
  obtain ⟨j,hj,rfl,hI,hf⟩ := hrel
  have HI : Hid (lst (prv L j) (L.drop j) = lst (-1) L) := hI
  have HF : Hid (Fr Nobody w wr) := hf
  clear hI hf
  by_cases hlt : j < len
  ·obtain ⟨q,hq⟩ : ∃ q,L[j]? = some q := ⟨_,List.getElem?_eq_getElem (by rw [HL.out.1]; exact hlt)⟩
   obtain ⟨g,o,hao,hall,hat⟩ := (HL.out.2.1.quiet HF.out).at j q hq
   subst hao
   have hk2 := HL.out.2.2 q (List.mem_of_getElem? hq)
   obtain ⟨c0,c1,c2,c3⟩ := hat
   have hlt' : (j : Int) < (len : Int) := by omega
   have HQ : Hid (L[j]? = some q) := hq
   have HA : Hid (∀ (i : Nat) x,L[i]? = some x → At4 wr g (o + i * 4) x) := hall
   obtain ⟨x,hx⟩ : ∃ x,q.chk = x := ⟨_,rfl⟩
   have HX : Hid (q.chk = x) := hx
   have HC : Hid (∀ w,Tab w → Calls Tryz.prog 147 #[.agg #[.int .u8 (q.k : Int),.int .i32 q.a,.int .i32 q.b,.int .i32 q.c]] w fun e w' => e = .returned (.int .i64 (x : Int)) ∧ Fr Nobody w w') := fun w h => by rw [← hx]; exact check3 w h q.k hk2 q.a q.b q.c
   have hx5 : x ≤ 5 := by rw [← hx]; exact chk_lt q
   have HB : Hid (Box (wr.alloc (.cells #[.int .u8 (q.k : Int),.int .i32 q.a,.int .i32 q.b,.int .i32 q.c] 63)) wr.heap.size q.k (f3 q.a q.b q.c)) := Box.new wr q.k (f3 q.a q.b q.c)
   clear hq hall hx
   obtain ⟨qk,qa,qb,qc⟩ := q
   simp only at c0 c1 c2 c3 hk2 HC HB
   go_wp2_with fail
   refine (HC.out _ (HT.out.quiet (HF.out.alloc _))).mono ?_
   rintro e w2 ⟨rfl,hf2⟩
   have HF2 : Hid (Fr Nobody w w2) := (HF.out.alloc _).trans hf2
   have HA2 : Hid (∀ (i : Nat) x,L[i]? = some x → At4 w2 g (o + i * 4) x) := fun i x h => (HA.out i x h).quiet (((Fr.refl _ _).alloc _).trans hf2)
   have cb := (HB.out.quiet hf2).kind
   clear hf2 c0 c1 c2 c3 HC
   by_cases hx0 : x = 0
   ·subst hx0
    rcases j with _ | i
    ·have HN : Hid (lst (prv L 1) (L.drop 1) = lst (-1) L) := lst_on HQ.out HI.out HX.out (by simp [prv]; omega)
     go_wp2
     go_quiet (fail)
     go_wp2
     go_roundw
     case rel => exact ⟨1,by omega,by go_num,HN.out,HF2.out.drewN _⟩
     case measure => simp [intOf]; omega
    ·obtain ⟨p,hp⟩ : ∃ p,L[i]? = some p := ⟨_,List.getElem?_eq_getElem (by rw [HL.out.1]; omega)⟩
     have d0 := (HA2.out i p hp).1
     have hpv : prv L (i + 1) = (p.k : Int) := by simp [prv,hp]
     have hpk := HL.out.2.2 p (List.mem_of_getElem? hp)
     by_cases hle : qk ≤ p.k
     ·have HN : Hid (lst (-1) L = 4) := lst_low HQ.out HI.out HX.out (by rw [hpv]; show (qk : Int) ≤ _; omega)
      have hle' : (qk : Int) ≤ (p.k : Int) := by omega
      clear hp hpv
      obtain ⟨pk,pa,pb,pc⟩ := p
      simp only at d0 hpk hle hle'
      go_wp2
      go_quiet (fail)
      go_wp2
      go_ret
      exact ⟨by rw [HN.out]; rfl,HF2.out.drewN _⟩
     ·have HN : Hid (lst (prv L (i + 1 + 1)) (L.drop (i + 1 + 1)) = lst (-1) L) := lst_on HQ.out HI.out HX.out (by rw [hpv]; show ¬ (qk : Int) ≤ _; omega)
      have hle' : ¬ (qk : Int) ≤ (p.k : Int) := by omega
      clear hp hpv
      obtain ⟨pk,pa,pb,pc⟩ := p
      simp only at d0 hpk hle hle'
      go_wp2
      go_quiet (fail)
      go_wp2
      go_roundw
      case rel => exact ⟨i + 1 + 1,by omega,by go_num,HN.out,HF2.out.drewN _⟩
      case measure => simp [intOf]; omega
   ·have HN : Hid (lst (-1) L = x) := by rw [← HX.out]; exact lst_bad HQ.out HI.out (by rw [HX.out]; exact hx0)
    have hx1 : ((x : Int) != 0) = true := by simpa using hx0
    go_wp2
    go_ret
    exact ⟨by rw [HN.out]; rfl,HF2.out⟩
  ·have HN : Hid (lst (-1) L = 0) := lst_end HI.out (by rw [HL.out.1]; omega)
   have hlt' : ¬ (j : Int) < (len : Int) := by omega
   go_wp2
   go_ret
   exact ⟨by rw [HN.out]; rfl,HF.out⟩
theorem rlist_any (w : World) (ao : Option Addr) (len cap : Nat) (L : List Cp) (hl : L.length = len) (hs : Cs w ao L) (hk : ∀ q ∈ L,q.k < 256) (hm : len ≤ 1000000) :
  Calls Tryz.prog 70 #[.slice ao len cap] w fun e w' => e = .returned (.int .i64 ((lst (-1) L : Nat) : Int)) ∧ Fr Nobody w w' := by
 have HL : Hid (L.length = len ∧ Cs w ao L ∧ ∀ q ∈ L,q.k < 256) := ⟨hl,hs,hk⟩
 clear hl hs hk
 go_enter Tryz.func70,Tryz.ntmps70
 go_wp2
 go_loopw [3,9] (fun p c wr => ∃ j : Nat,j ≤ len ∧ c = .int .i64 j ∧ lst (prv L j) (L.drop j) = lst (-1) L ∧ Fr Nobody w wr ∧ p = .int .i64 (prv L j) ∧ -1 ≤ prv L j ∧ prv L j ≤ 255) (fun _ c _ => len - (intOf c).toNat)
 case atStart => exact ⟨0,Nat.zero_le _,rfl,rfl,Fr.refl _ _,rfl,by simp [prv],by simp [prv]⟩
 case round =>
  obtain ⟨j,hj,rfl,hI,hf,rfl,hp1,hp2⟩ := hrel
  have HI : Hid (lst (prv L j) (L.drop j) = lst (-1) L) := hI
  have HF : Hid (Fr Nobody w wr) := hf
  clear hI hf
  by_cases hlt : j < len
  ·obtain ⟨q,hq⟩ : ∃ q,L[j]? = some q := ⟨_,List.getElem?_eq_getElem (by rw [HL.out.1]; exact hlt)⟩
   obtain ⟨g,o,hao,hall,hat⟩ := (HL.out.2.1.quiet HF.out).at j q hq
   subst hao
   have hk2 := HL.out.2.2 q (List.mem_of_getElem? hq)
   obtain ⟨c0,c1,c2,c3⟩ := hat
   have hlt' : (j : Int) < (len : Int) := by omega
   have HQ : Hid (L[j]? = some q) := hq
   obtain ⟨x,hx⟩ : ∃ x,q.chk = x := ⟨_,rfl⟩
   have HX : Hid (q.chk = x) := hx
   have HC : Hid (∀ w,Calls Tryz.prog 107 #[.agg #[.int .u8 (q.k : Int),.int .i32 q.a,.int .i32 q.b,.int .i32 q.c]] w fun e w' => e = .returned (.int .i64 (x : Int)) ∧ Fr Nobody w w') := fun w => by rw [← hx]; exact rcheck3 w q.k hk2 q.a q.b q.c
   have hx5 : x ≤ 5 := by rw [← hx]; exact chk_lt q
   have HB : Hid (Box (wr.alloc (.cells #[.int .u8 (q.k : Int),.int .i32 q.a,.int .i32 q.b,.int .i32 q.c] 63)) wr.heap.size q.k (f3 q.a q.b q.c)) := Box.new wr q.k (f3 q.a q.b q.c)
   have HP : Hid (prv L (j + 1) = (q.k : Int)) := by show _ = _; simp [prv,hq]
   clear hq hall hx
   obtain ⟨qk,qa,qb,qc⟩ := q
   simp only at c0 c1 c2 c3 hk2 HC HB HP
   generalize hpp : prv L j = pj at *
   have HPP : Hid (prv L j = pj) := hpp
   clear hpp
   go_wp2_with fail
   refine (HC.out _).mono ?_
   rintro e w2 ⟨rfl,hf2⟩
   have HF2 : Hid (Fr Nobody w w2) := (HF.out.alloc _).trans hf2
   have cb := (HB.out.quiet hf2).kind
   clear hf2 c0 c1 c2 c3 HC
   by_cases hx0 : x = 0
   ·subst hx0
    by_cases hle : (qk : Int) ≤ pj
    ·have HN : Hid (lst (-1) L = 4) := lst_low HQ.out (by rw [HPP.out]; exact HI.out) HX.out (by rw [HPP.out]; exact hle)
     go_wp2
     go_ret
     exact ⟨by rw [HN.out]; rfl,HF2.out⟩
    ·have HN : Hid (lst (prv L (j + 1)) (L.drop (j + 1)) = lst (-1) L) := lst_on HQ.out (by rw [HPP.out]; exact HI.out) HX.out (by rw [HPP.out]; exact hle)
     go_wp2
     go_roundw
     case rel => exact ⟨j + 1,by omega,by go_num,HN.out,HF2.out,by rw [HP.out],by rw [HP.out]; omega,by rw [HP.out]; omega⟩
     case measure => simp [intOf]; omega
   ·have HN : Hid (lst (-1) L = x) := by rw [← HX.out]; exact lst_bad HQ.out (by rw [HPP.out]; exact HI.out) (by rw [HX.out]; exact hx0)
    have hx1 : ((x : Int) != 0) = true := by simpa using hx0
    go_wp2
    go_ret
    exact ⟨by rw [HN.out]; rfl,HF2.out⟩
  ·have HN : Hid (lst (-1) L = 0) := lst_end HI.out (by rw [HL.out.1]; omega)
   have hlt' : ¬ (j : Int) < (len : Int) := by omega
   generalize prv L j = pj at *
   go_wp2
   go_ret
   exact ⟨by rw [HN.out]; rfl,HF.out⟩
theorem append_cs {w0 w : World} {l : List Thing} {ops : Array Oper} {rest : List Oper} {o : Oper} {a : Act} {Q : Exit → Act → World → Prop} (hgd : o.guard = none) (sx x : Operand)
  (ho : o.op = .call { callee := .builtin .append,args := #[sx,x],argTypes := #[58,58] })
  (i : TypeInfo) (hi : Tryz.prog.info? 63 = some i) (z : Value) (hz : i.zero = some z) (hsize : i.size = 4) (hby : i.bytes = 16) (hzs : z.cells.size = 4)
  (v : Value) (n : Nat) (xs : List Value) (hs : a.eval sx = v) (ao : Option Addr) (m cap : Nat) (L : List Cp) (hx : a.eval x = .slice ao m cap) (hL : L.length = m) (hc : Cs w ao L) (hown : Own w0 w (Row 63 4 v n xs :: l))
  (h63 : n + m ≤ maxLen) (hbytes : (n + m) * 16 ≤ 140737488355328)
  (h : ∀ ao' cap' w',Own w0 w' (Row 63 4 (.slice ao' (n + m) cap') (n + m) (xs ++ ccat L) :: l) → w.heap.size ≤ w'.heap.size → wpList Tryz.prog ops Q rest (a.put o.dst (.slice ao' (n + m) cap')) w') : wpList Tryz.prog ops Q (o :: rest) a w := by
 rcases Nat.eq_zero_or_pos m with h0 | h0
 ·subst h0
  have hy : L = [] := List.eq_nil_of_length_eq_zero hL
  subst hy
  obtain ⟨va,vc,rfl⟩ := row_any hown.row
  refine wpList_plain hgd fun K hK' => ?_
  have hr := run_append_empty (P := Tryz.prog) w 0 58 o.type 63 i 4 Tryz.underlying58 hi _ n xs hown.row ao cap
  unfold Oper.wp
  simp [execOp,ho,resolve,invoke,builtin,hs,hx,hr,Result.andThen]
  exact hK' _ _ (by simpa using h va vc w (by simpa [ccat,cat] using hown) (Nat.le_refl _))
 ·rcases hc with hc | ⟨g,o',rfl,hc⟩
  ·subst hc; simp at hL; omega
  refine append_own hgd sx x 58 ho 63 i z 4 16 Tryz.underlying58 hi hz hsize hby hzs (by decide) v n xs hs hown ⟨g,o',none⟩ m cap (ccat L) hx (by rw [length_ccat,hL]) (Cs.cells hc) (one_cat Cp.cs cs_one L) h0 h63 hbytes ?_
  intro g' cap' w' hO hsz
  exact h _ _ w' hO hsz
theorem Tryz.infoComp : (Tryz.prog.info? 63).map (fun i => (i.zero,i.size,i.bytes)) = some (some (.agg #[.int .u8 0,.int .i32 0,.int .i32 0,.int .i32 0]),4,16) := by kernel_rfl
theorem twin_any (w0 w : World) (l : List Thing) (h : Own w0 w l) (ao : Option Addr) (len cap : Nat) (L : List Cp) (hl : L.length = len) (hs : Cs w ao L) (hm : len ≤ 1000000) :
  Calls Tryz.prog 36 #[.slice ao len cap] w fun e w' => ∃ ao' cap',e = .returned (.slice ao' len cap') ∧ Own w0 w' (Row 63 4 (.slice ao' len cap') len (ccat L) :: l) := by
 obtain ⟨i0,hi,hz0,hz1,hz2⟩ := info_parts Tryz.infoComp
 have H : Hid (Own w0 w l) := h
 have HL : Hid (L.length = len ∧ Cs w ao L) := ⟨hl,hs⟩
 clear h hl hs
 go_enter Tryz.func36,Tryz.ntmps36
 go_wp2_with (at_builtin; refine append_cs rfl _ _ rfl i0 hi _ hz0 hz1 hz2 rfl _ 0 [] rfl ao len cap L rfl HL.out.1 (HL.out.2.quiet ((Fr.refl _ _).alloc _)) (H.out.litRow #[] 63 4 0 (by decide) rfl) (by unfold maxLen; omega) (by omega) ?_)
 intro a1 c1 w1 hO1 hsz1
 have H1 : Hid (Own w0 w1 (Row 63 4 (.slice a1 len c1) len (ccat L) :: l)) := by
  show Own _ _ _
  simpa using hO1
 clear hO1 H hsz1
 go_wp2
 go_ret
 exact ⟨_,_,rfl,H1.out⟩
end Go.Proofs.YtgifeckbflkkpaaGreatDoor
