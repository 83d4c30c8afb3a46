/- Tables as plain lists of entities; the map of rows; columns. -/
import Derived.Test.YtogmdoiecpihdaaGreatDoorQw06
import Derived.Maps.OwnSet
import Derived.Deep.AppendLies
import Derived.Laws.ResultCell
namespace Go.Proofs.YtogmdoiecpihdaaGreatDoor
open Go.RowKit Go.Maps
set_option linter.unusedVariables false
set_option maxHeartbeats 1000000
abbrev Fs := Int × Int × Int
abbrev Ent := Nat × List Cp
def Cp.f (q : Cp) : Fs := (q.a,q.b,q.c)
def fc (x : Fs) : List Value := [.int .i32 x.1,.int .i32 x.2.1,.int .i32 x.2.2]
theorem fc_len (x : Fs) : (fc x).length = 3 := rfl
def bt (m k : Nat) : Bool := decide (m / 2 ^ k % 2 = 1)
def fv (C : List Cp) (k : Nat) : Fs := ((C.find? (fun q => decide (q.k = k))).map Cp.f).getD (0,0,0)
def clm (m : Nat) (L : List Ent) (k : Nat) : List Fs := if bt m k then L.map (fun e => fv e.2 k) else []
def ids (L : List Ent) : List Nat := L.map (·.1)
theorem length_ids (L : List Ent) : (ids L).length = L.length := by simp [ids]
def plc (L : List Ent) (x : Nat) : Option Nat := L.findIdx? (fun e => decide (e.1 = x))
def Apart (L : List Ent) : Prop := ∀ (i j : Nat) (e d : Ent),L[i]? = some e → L[j]? = some d → e.1 = d.1 → i = j
structure TOk (m : Nat) (L : List Ent) : Prop where
 m64 : m < 64
 id : ∀ e ∈ L,e.1 < 4294967296
 ap : Apart L
 ok : ∀ e ∈ L,lst (-1) e.2 = 0 ∧ msk e.2 = m
theorem plc_none (L : List Ent) (x : Nat) : plc L x = none ↔ ∀ e ∈ L,e.1 ≠ x := by
 unfold plc; rw [List.findIdx?_eq_none_iff]; simp
theorem plc_some {L : List Ent} (h : Apart L) (x i : Nat) : plc L x = some i ↔ ∃ e,L[i]? = some e ∧ e.1 = x := by
 unfold plc; rw [List.findIdx?_eq_some_iff_getElem]
 constructor
 ·rintro ⟨hi,hp,_⟩
  exact ⟨_,List.getElem?_eq_getElem hi,by simpa using hp⟩
 ·rintro ⟨e,he,hx⟩
  obtain ⟨hi,hq⟩ := List.getElem?_eq_some_iff.1 he
  refine ⟨hi,by rw [hq]; simpa using hx,fun j hj hc => ?_⟩
  have hj2 : j < L.length := by omega
  have := h j i L[j] e (List.getElem?_eq_getElem hj2) he (by rw [hx]; simpa using hc)
  omega
theorem plc_lt {L : List Ent} {x i : Nat} (h : plc L x = some i) : i < L.length := by
 unfold plc at h; rw [List.findIdx?_eq_some_iff_getElem] at h; exact h.1
theorem Apart.nil : Apart [] := by intro i j e d h; simp at h
theorem Apart.snoc {L : List Ent} (h : Apart L) (e : Ent) (hn : plc L e.1 = none) : Apart (L ++ [e]) := by
 intro i j a d hi hj hx
 rw [plc_none] at hn
 rw [List.getElem?_append] at hi hj
 split at hi <;> split at hj
 ·exact h i j a d hi hj hx
 ·rename_i c1 c2
  have hd : d = e := by
   have := List.mem_of_getElem? hj; simpa using this
  subst hd
  exact absurd hx (hn a (List.mem_of_getElem? hi))
 ·rename_i c1 c2
  have hd : a = e := by
   have := List.mem_of_getElem? hi; simpa using this
  subst hd
  exact absurd hx.symm (hn d (List.mem_of_getElem? hj))
 ·rename_i c1 c2
  have h1 := (List.getElem?_eq_some_iff.1 hi).1
  have h2 := (List.getElem?_eq_some_iff.1 hj).1
  simp at h1 h2
  omega
theorem plc_snoc (L : List Ent) (e : Ent) (hn : plc L e.1 = none) (x : Nat) : plc (L ++ [e]) x = if x = e.1 then some L.length else plc L x := by
 by_cases hx : x = e.1
 ·subst hx
  rw [if_pos rfl]
  unfold plc at hn ⊢
  rw [List.findIdx?_append,hn]
  simp [List.findIdx?_cons]
 ·rw [if_neg hx]
  have : ¬ e.1 = x := fun q => hx q.symm
  unfold plc
  rw [List.findIdx?_append]
  cases List.findIdx? (fun e => decide (e.1 = x)) L <;> simp [List.findIdx?_cons,this]
def outr {α : Type} (L : List α) (r : Nat) : List α := match L.getLast? with
 | none => []
 | some e => (L.set r e).dropLast
theorem outr_at {α : Type} (L : List α) (r i : Nat) (hr : r < L.length) : (outr L r)[i]? = if i < L.length - 1 then (if i = r then L[L.length - 1]? else L[i]?) else none := by
 unfold outr
 have hl : L.getLast? = L[L.length - 1]? := List.getLast?_eq_getElem?
 have hs : L[L.length - 1]? = some L[L.length - 1] := List.getElem?_eq_getElem (by omega)
 rw [hl,hs]
 simp only
 rw [List.getElem?_dropLast,List.length_set]
 split
 ·rw [List.getElem?_set]
  by_cases c : i = r
  ·subst c; simp [hr]
  ·rw [if_neg (fun q => c q.symm),if_neg c]
 ·rfl
theorem length_outr {α : Type} (L : List α) (r : Nat) (hr : r < L.length) : (outr L r).length = L.length - 1 := by
 unfold outr
 have hl : L.getLast? = L[L.length - 1]? := List.getLast?_eq_getElem?
 have hs : L[L.length - 1]? = some L[L.length - 1] := List.getElem?_eq_getElem (by omega)
 rw [hl,hs]; simp
theorem map_outr {α β : Type} (f : α → β) (L : List α) (r : Nat) (hr : r < L.length) : (outr L r).map f = outr (L.map f) r := by
 apply List.ext_getElem?
 intro i
 rw [List.getElem?_map,outr_at L r i hr,outr_at (L.map f) r i (by simpa using hr)]
 simp only [List.length_map,List.getElem?_map]
 split
 ·split <;> rfl
 ·rfl
theorem mem_outr {α : Type} {L : List α} {r : Nat} (hr : r < L.length) {e : α} (h : e ∈ outr L r) : e ∈ L := by
 obtain ⟨i,hi⟩ := List.getElem?_of_mem h
 rw [outr_at L r i hr] at hi
 split at hi
 ·split at hi
  ·exact List.mem_of_getElem? hi
  ·exact List.mem_of_getElem? hi
 ·cases hi
theorem Apart.outr {L : List Ent} (h : Apart L) (r : Nat) (hr : r < L.length) : Apart (outr L r) := by
 intro i j e d hi hj hx
 rw [outr_at L r _ hr] at hi hj
 split at hi <;> split at hj <;> (try cases hi) <;> (try cases hj)
 split at hi <;> split at hj
 ·omega
 ·have := h _ _ _ _ hi hj hx; omega
 ·have := h _ _ _ _ hi hj hx; omega
 ·exact h _ _ _ _ hi hj hx
theorem plc_outr {L : List Ent} (h : Apart L) {r : Nat} {id : Nat} (hr : plc L id = some r) {last : Ent} (hl : L[L.length - 1]? = some last) (x : Nat) :
  plc (outr L r) x = if x = id then none else if x = last.1 then some r else plc L x := by
 have hlt := plc_lt hr
 obtain ⟨e0,he0,hid⟩ := (plc_some h id r).1 hr
 apply Option.ext
 intro i
 rw [plc_some (h.outr r hlt)]
 simp only [outr_at L r _ hlt]
 by_cases c1 : x = id
 ·rw [if_pos c1]
  constructor
  ·rintro ⟨e,he,hx⟩
   split at he
   ·split at he
    ·have := h _ _ _ _ he he0 (by rw [hx,hid,c1]); omega
    ·have := h _ _ _ _ he he0 (by rw [hx,hid,c1]); omega
   ·cases he
  ·intro q; cases q
 ·rw [if_neg c1]
  by_cases c2 : x = last.1
  ·rw [if_pos c2]
   have hrl : r ≠ L.length - 1 := by
    intro q
    rw [← q,he0] at hl
    cases hl
    exact c1 (by rw [c2,hid])
   constructor
   ·rintro ⟨e,he,hx⟩
    split at he
    ·split at he
     ·rename_i q; rw [q]
     ·have := h _ _ _ _ he hl (by rw [hx,c2]); omega
    ·cases he
   ·intro q
    cases q
    exact ⟨last,by rw [if_pos (by omega),if_pos rfl]; exact hl,c2.symm⟩
  ·rw [if_neg c2,plc_some h]
   constructor
   ·rintro ⟨e,he,hx⟩
    split at he
    ·split at he
     ·rw [hl] at he; cases he; exact absurd hx.symm c2
     ·exact ⟨e,he,hx⟩
    ·cases he
   ·rintro ⟨e,he,hx⟩
    have hi := (List.getElem?_eq_some_iff.1 he).1
    have hir : i ≠ r := by
     intro q; rw [q,he0] at he; cases he; exact c1 (by rw [← hx,hid])
    have hil : i ≠ L.length - 1 := by
     intro q; rw [q,hl] at he; cases he; exact c2 hx.symm
    exact ⟨e,by rw [if_pos (by omega),if_neg hir]; exact he,hx⟩
theorem TOk.nil {m : Nat} (h : m < 64) : TOk m [] := ⟨h,by simp,Apart.nil,by simp⟩
theorem TOk.snoc {m : Nat} {L : List Ent} (h : TOk m L) (e : Ent) (hi : e.1 < 4294967296) (hn : plc L e.1 = none) (h1 : lst (-1) e.2 = 0) (h2 : msk e.2 = m) : TOk m (L ++ [e]) := by
 refine ⟨h.m64,?_,h.ap.snoc e hn,?_⟩
 ·intro x hx
  rcases List.mem_append.1 hx with q | q
  ·exact h.id x q
  ·simp at q; subst q; exact hi
 ·intro x hx
  rcases List.mem_append.1 hx with q | q
  ·exact h.ok x q
  ·simp at q; subst q; exact ⟨h1,h2⟩
theorem TOk.outr {m : Nat} {L : List Ent} (h : TOk m L) (r : Nat) (hr : r < L.length) : TOk m (outr L r) :=
 ⟨h.m64,fun e he => h.id e (mem_outr hr he),h.ap.outr r hr,fun e he => h.ok e (mem_outr hr he)⟩
theorem rising_ext : ∀ (A B : List Nat),A.Pairwise (· < ·) → B.Pairwise (· < ·) → (∀ x,x ∈ A ↔ x ∈ B) → A = B
 | [],[],_,_,_ => rfl
 | [],b :: B,_,_,h => absurd ((h b).2 List.mem_cons_self) (by simp)
 | a :: A,[],_,_,h => absurd ((h a).1 List.mem_cons_self) (by simp)
 | a :: A,b :: B,hA,hB,h => by
  obtain ⟨a1,a2⟩ := List.pairwise_cons.1 hA
  obtain ⟨b1,b2⟩ := List.pairwise_cons.1 hB
  have hab : a = b := by
   rcases List.mem_cons.1 ((h a).1 List.mem_cons_self) with q | q
   ·exact q
   ·rcases List.mem_cons.1 ((h b).2 List.mem_cons_self) with p | p
    ·exact p.symm
    ·have := b1 a q; have := a1 b p; omega
  subst hab
  rw [rising_ext A B a2 b2 (fun x => ?_)]
  constructor
  ·intro hx
   rcases List.mem_cons.1 ((h x).1 (List.mem_cons_of_mem _ hx)) with q | q
   ·have := a1 x hx; omega
   ·exact q
  ·intro hx
   rcases List.mem_cons.1 ((h x).2 (List.mem_cons_of_mem _ hx)) with q | q
   ·have := b1 x hx; omega
   ·exact q
def kds (m : Nat) : List Nat := (List.range 6).filter (bt m)
theorem bt_msk (C : List Cp) (k : Nat) (hk : k < 6) : bt (msk C) k = hasK C k := by
 unfold bt msk
 rw [mskN_bit C 6 k hk]
 cases hasK C k <;> rfl
theorem hasK_iff (C : List Cp) (k : Nat) : hasK C k = true ↔ ∃ q ∈ C,q.k = k := by
 unfold hasK; rw [List.any_eq_true]; simp
theorem kinds_of {C : List Cp} {m : Nat} (h : lst (-1) C = 0) (hm : msk C = m) : C.map Cp.k = kds m := by
 obtain ⟨h1,h2⟩ := lst_ok h
 refine rising_ext _ _ (List.pairwise_map.2 h1) (List.Pairwise.filter _ List.pairwise_lt_range) (fun x => ?_)
 subst hm
 unfold kds
 rw [List.mem_map,List.mem_filter,List.mem_range]
 constructor
 ·rintro ⟨q,hq,rfl⟩
  have h6 := chk_k (h2 q hq).2
  exact ⟨h6,by rw [bt_msk C _ h6,hasK_iff]; exact ⟨q,hq,rfl⟩⟩
 ·rintro ⟨h6,hb⟩
  rw [bt_msk C _ h6,hasK_iff] at hb
  exact hb
theorem fv_of {C : List Cp} (h : lst (-1) C = 0) {q : Cp} (hq : q ∈ C) : fv C q.k = q.f := by
 have h1 := (lst_ok h).1
 unfold fv
 have : C.find? (fun x => decide (x.k = q.k)) = some q := by
  clear h
  induction C with
  | nil => simp at hq
  | cons a C ih =>
   obtain ⟨a1,a2⟩ := List.pairwise_cons.1 h1
   rw [List.find?_cons]
   rcases List.mem_cons.1 hq with rfl | hq
   ·simp
   ·have hne : ¬ a.k = q.k := by have := a1 q hq; omega
    rw [decide_eq_false hne]
    exact ih hq a2
 rw [this]; rfl
def mkc (k : Nat) (x : Fs) : Cp := ⟨k,x.1,x.2.1,x.2.2⟩
theorem comps_of {C : List Cp} {m : Nat} (h : lst (-1) C = 0) (hm : msk C = m) : (kds m).map (fun k => mkc k (fv C k)) = C := by
 rw [← kinds_of h hm,List.map_map]
 conv => rhs; rw [← List.map_id C]
 apply List.map_congr_left
 intro q hq
 show mkc q.k (fv C q.k) = q
 rw [fv_of h hq]; rfl
theorem clm_snoc (m : Nat) (L : List Ent) (e : Ent) (k : Nat) : clm m (L ++ [e]) k = if bt m k then clm m L k ++ [fv e.2 k] else clm m L k := by
 unfold clm; split <;> simp
theorem clm_outr (m : Nat) (L : List Ent) (r k : Nat) (hr : r < L.length) : clm m (outr L r) k = if bt m k then outr (clm m L k) r else clm m L k := by
 unfold clm
 split
 ·rw [map_outr _ _ _ hr]
 ·rfl
theorem length_clm (m : Nat) (L : List Ent) (k : Nat) : (clm m L k).length = if bt m k then L.length else 0 := by
 unfold clm; split <;> simp
def cols (f : Nat → Thing) : List Thing := [f 0,f 1,f 2,f 3,f 4,f 5]
def but (k : Nat) (f : Nat → Thing) : List Thing := ((List.range 6).filter (fun j => decide (j ≠ k))).map f
theorem cols_perm (f : Nat → Thing) (k : Nat) (hk : k < 6) : (cols f).Perm (f k :: but k f) := by
 have h : k = 0 ∨ k = 1 ∨ k = 2 ∨ k = 3 ∨ k = 4 ∨ k = 5 := by omega
 rcases h with rfl | rfl | rfl | rfl | rfl | rfl
 ·exact List.perm_middle (l₁ := [])
 ·exact List.perm_middle (l₁ := [f 0])
 ·exact List.perm_middle (l₁ := [f 0,f 1])
 ·exact List.perm_middle (l₁ := [f 0,f 1,f 2])
 ·exact List.perm_middle (l₁ := [f 0,f 1,f 2,f 3])
 ·exact List.perm_middle (l₁ := [f 0,f 1,f 2,f 3,f 4])
theorem but_congr {k : Nat} {f g : Nat → Thing} (h : ∀ j,j ≠ k → f j = g j) : but k f = but k g := by
 unfold but
 apply List.map_congr_left
 intro j hj
 rw [List.mem_filter] at hj
 exact h j (by simpa using hj.2)
theorem Own.col {w0 w : World} {P Q R : Thing} {f : Nat → Thing} {l : List Thing} (k : Nat) (hk : k < 6) (h : Own w0 w (P :: Q :: R :: (cols f ++ l))) : Own w0 w (P :: f k :: Q :: R :: (but k f ++ l)) := by
 refine h.perm (List.Perm.cons P ?_)
 have := ((cols_perm f k hk).append_right l).cons R |>.cons Q
 refine this.trans ?_
 exact (List.perm_middle (l₁ := [Q,R]) (a := f k) (l₂ := but k f ++ l))
theorem Own.uncol {w0 w : World} {P Q R : Thing} {f g : Nat → Thing} {l : List Thing} (k : Nat) (hk : k < 6) (h : Own w0 w (P :: g k :: Q :: R :: (but k f ++ l))) (hg : ∀ j,j ≠ k → f j = g j) : Own w0 w (P :: Q :: R :: (cols g ++ l)) := by
 rw [but_congr hg] at h
 refine h.perm (List.Perm.cons P ?_)
 refine (List.perm_middle (l₁ := [Q,R]) (a := g k) (l₂ := but k g ++ l)).symm.trans ?_
 exact ((cols_perm g k hk).append_right l).symm.cons R |>.cons Q
theorem keyID2 : Keyed Tryz.prog 38 := int_keyed Tryz.underlying38
theorem zeroInt2 (w : World) : (zeroValue 3).run Tryz.prog w = .ok (.int .i64 0) w := by kernel_rfl
theorem wf_u32' {n : Nat} (h : n < 4294967296) : (Lit.int .u32 (n : Int)).wf = true := by
 simp [Lit.wf,IntKind.min,IntKind.max,IntKind.signed,IntKind.bits]; omega
theorem wf_i64' {n : Nat} (h : n ≤ 1000000) : (Lit.int .i64 (n : Int)).wf = true := by
 simp [Lit.wf,IntKind.min,IntKind.max,IntKind.signed,IntKind.bits]; omega
def rd (p : Option Nat) (z : DataW Unit) : DataW Unit := match p with
 | none => z
 | some r => .lit (.int .i64 (r : Int))
def RowMap (b n : Nat) (p : Nat → Option Nat) : Thing where
 is := fun w A => (∃ D : DataW Unit,w.ownsMap Tryz.prog 38 (plainElem Tryz.prog 3) b n D ∧ ∀ k : Nat,k < 4294967296 → ∀ z,D.atKey (.int .u32 (k : Int)) z = rd (p k) z) ∧ ∀ k,A k ↔ k = b
 lt := by
  rintro w A k ⟨⟨D,h,_⟩,hA⟩ a
  rw [(hA k).1 a]; exact h.lt
 keep := by
  rintro w w' A B ⟨⟨D,h,hk⟩,hA⟩ hf hn
  refine ⟨⟨D,?_,hk⟩,hA⟩
  have hlt := h.lt
  obtain ⟨es,clock,hb,F,hs,hD⟩ := h
  exact ⟨es,clock,(hf.block b hlt (hn b ((hA b).2 rfl))).trans hb,F,hs,hD⟩
def lk (p : Option Nat) : Value := match p with
 | none => .tuple #[.int .i64 0,.bool false]
 | some r => .tuple #[.int .i64 (r : Int),.bool true]
section
variable {w0 w : World} {l : List Thing} {b n : Nat} {p q : Nat → Option Nat}
theorem Own.mapLook (h : Own w0 w (RowMap b n p :: l)) (id : Nat) (hid : id < 4294967296) :
  (Instr.lookup 309 (.map (some b)) (.int .u32 (id : Int)) true).run Tryz.prog w = .ok (lk (p id)) w := by
 obtain ⟨A,⟨B,C,⟨⟨D,hm,hk⟩,_⟩,_⟩,_⟩ := h
 obtain ⟨v,ps,hrun,hv⟩ := hm.look_ok keyID2 Tryz.underlying309 (zeroInt2 w) (plainElem_int Tryz.underlying3 (wf_i64' (Nat.zero_le _))) (keyOf_int_mk Tryz.underlying38 (wf_u32' hid))
 have hk := hk id hid
 obtain ⟨x,rfl,hx,_⟩ := plainElem_int_inv Tryz.underlying3 hv
 have hx := (Prod.mk.inj hx).1
 rw [hk] at hx
 cases hp : p id with
 | none =>
  rw [hp] at hk hx
  rw [has_false_of_atKey hk] at hrun
  have : x = 0 := by simpa [rd] using hx.symm
  subst this
  exact hrun
 | some r =>
  rw [hp] at hk hx
  rw [has_true_of_atKey hk] at hrun
  have : x = (r : Int) := by simpa [rd] using hx.symm
  subst this
  exact hrun
theorem Own.mapPut (h : Own w0 w (RowMap b n p :: l)) (id r : Nat) (hid : id < 4294967296) (hr : r ≤ 1000000) (hn : n < maxLen) :
  ∃ w',(Instr.mapUpdate 309 (.map (some b)) (.int .u32 (id : Int)) (.int .i64 (r : Int))).run Tryz.prog w = .ok () w' ∧ Own w0 w' (RowMap b (n + 1) (fun x => if x = id then some r else p x) :: l) := by
 obtain ⟨A,⟨⟨D,hm,hk⟩,hA⟩,hlo,act⟩ := h.act
 obtain ⟨w',hrun,hm',hg⟩ := hm.update keyID2 Tryz.underlying309 hn (keyOf_int_mk Tryz.underlying38 (wf_u32' hid)) (plainElem_int Tryz.underlying3 (wf_i64' hr))
 refine ⟨w',hrun,act w' (RowMap b (n + 1) _) A ⟨⟨_,hm',?_⟩,hA⟩ ((Fr.refl _ _).grown hg (fun k hk => .inl ((hA k).2 (by cases hk; rfl)))) (fun _ a => .inl a)⟩
 intro k hk2 z
 by_cases e : k = id
 ·subst e
  rw [atKey_put_same hm.isMap (k := .int .u32 (k : Int)) trivial]; simp [rd]
 ·rw [atKey_put_other (by intro q; apply e; have := (Lit.int.inj q).2; omega),hk k hk2]; simp [e]
theorem Own.mapDrop (h : Own w0 w (RowMap b n p :: l)) (id : Nat) (hid : id < 4294967296) (ty : TypeId) :
  ∃ w',(Builtin.delete_ #[309,38] ty #[.map (some b),.int .u32 (id : Int)]).run Tryz.prog w = .ok (.tuple #[]) w' ∧ Own w0 w' (RowMap b n (fun x => if x = id then none else p x) :: l) := by
 obtain ⟨A,⟨⟨D,hm,hk⟩,hA⟩,hlo,act⟩ := h.act
 obtain ⟨w',hrun,hm',hg⟩ := hm.drop keyID2 Tryz.underlying309 (keyOf_int_mk Tryz.underlying38 (wf_u32' hid)) ty
 refine ⟨w',hrun,act w' (RowMap b n _) A ⟨⟨_,hm',?_⟩,hA⟩ ((Fr.refl _ _).grown hg.grown (fun k hk => .inl ((hA k).2 (by cases hk; rfl)))) (fun _ a => .inl a)⟩
 intro k hk2 z
 by_cases e : k = id
 ·subst e
  rw [atKey_del_same]; simp [rd]
 ·rw [atKey_del_other (by intro q; apply e; have := (Lit.int.inj q).2; omega),hk k hk2]; simp [e]
theorem Own.mapNew (h : Own w0 w l) : Own w0 (w.alloc (.map #[] 0)) (RowMap w.heap.size 0 (fun _ => none) :: l) :=
 h.new (RowMap w.heap.size 0 (fun _ => none)) (fun k => k = w.heap.size) ⟨⟨.map [],World.ownsMap_made _ _ _ _,fun k _ z => by simp [DataW.atKey,rd]⟩,fun _ => Iff.rfl⟩ ((Fr.refl _ _).alloc _) (fun k hk => by omega)
theorem Own.mapIs (h : Own w0 w (RowMap b n p :: l)) (m : Nat) (hm : n ≤ m) (hq : ∀ x,x < 4294967296 → p x = q x) : Own w0 w (RowMap b m q :: l) := by
 obtain ⟨A,⟨B,C,⟨⟨D,hd,hk⟩,hB⟩,r⟩,s⟩ := h
 exact ⟨A,⟨B,C,⟨⟨D,hd.mono hm,fun k h2 z => by rw [← hq k h2]; exact hk k h2 z⟩,hB⟩,r⟩,s⟩
end
def tcells (m : Nat) (vi : Value) (v : Nat → Value) (mb : Nat) : Array Value := #[.int .u8 (m : Int),vi,v 0,v 1,v 2,v 3,v 4,v 5,.map (some mb)]
def colT (v : Nat → Value) (g : Nat → List Fs) (k : Nat) : Thing := Row 44 3 (v k) (g k).length (cat fc (g k))
def TabG (b m : Nat) (I : List Nat) (g : Nat → List Fs) (p : Nat → Option Nat) (c : Nat) : Thing :=
 Ex (fun x : Value × (Nat → Value) × Nat => Cells b (tcells m x.1 x.2.1 x.2.2) 311 :: Row 38 1 x.1 I.length (irow .u32 I) :: RowMap x.2.2 c p :: cols (colT x.2.1 g))
def TabX (b m : Nat) (I : List Nat) (g : Nat → List Fs) (p : Nat → Option Nat) (c : Nat) (x : Value × (Nat → Value) × Nat) : Thing :=
 Ex (fun _ : Unit => Cells b (tcells m x.1 x.2.1 x.2.2) 311 :: Row 38 1 x.1 I.length (irow .u32 I) :: RowMap x.2.2 c p :: cols (colT x.2.1 g))
theorem TabX.tab {w0 w : World} {l : List Thing} {b m : Nat} {I : List Nat} {g : Nat → List Fs} {p : Nat → Option Nat} {c : Nat} {x : Value × (Nat → Value) × Nat} (h : Own w0 w (TabX b m I g p c x :: l)) : Own w0 w (TabG b m I g p c :: l) := by
 obtain ⟨_,h⟩ := Own.ex_iff.1 h
 exact Own.ex_iff.2 ⟨x,h⟩
theorem TabX.open {w0 w : World} {l : List Thing} {b m : Nat} {I : List Nat} {g : Nat → List Fs} {p : Nat → Option Nat} {c : Nat} {vi : Value} {v : Nat → Value} {mb : Nat} (h : Own w0 w (TabX b m I g p c (vi,v,mb) :: l)) : Own w0 w (Cells b (tcells m vi v mb) 311 :: Row 38 1 vi I.length (irow .u32 I) :: RowMap mb c p :: (cols (colT v g) ++ l)) := by
 obtain ⟨_,h⟩ := Own.ex_iff.1 h
 exact h
theorem TabX.shut {w0 w : World} {l : List Thing} {b m : Nat} {I : List Nat} {g : Nat → List Fs} {p : Nat → Option Nat} {c : Nat} {vi : Value} {v : Nat → Value} {mb : Nat} (h : Own w0 w (Cells b (tcells m vi v mb) 311 :: Row 38 1 vi I.length (irow .u32 I) :: RowMap mb c p :: (cols (colT v g) ++ l))) : Own w0 w (TabX b m I g p c (vi,v,mb) :: l) := Own.ex_iff.2 ⟨(),h⟩
theorem TabX.of {w0 w : World} {l : List Thing} {b m : Nat} {I : List Nat} {g : Nat → List Fs} {p : Nat → Option Nat} {c : Nat} (h : Own w0 w (TabG b m I g p c :: l)) : ∃ x,Own w0 w (TabX b m I g p c x :: l) := by
 obtain ⟨x,h⟩ := Own.ex_iff.1 h
 exact ⟨x,Own.ex_iff.2 ⟨(),h⟩⟩
def Table (b m : Nat) (L : List Ent) (c : Nat) : Thing := TabG b m (ids L) (clm m L) (plc L) c
theorem tcells_col (m : Nat) (vi : Value) (v : Nat → Value) (mb k : Nat) (hk : k < 6) : (tcells m vi v mb)[2 + k]? = some (v k) := by
 have h : k = 0 ∨ k = 1 ∨ k = 2 ∨ k = 3 ∨ k = 4 ∨ k = 5 := by omega
 rcases h with rfl | rfl | rfl | rfl | rfl | rfl <;> rfl
def upd {α : Type} (f : Nat → α) (k : Nat) (y : α) : Nat → α := fun j => if j = k then y else f j
theorem upd_same {α : Type} (f : Nat → α) (k : Nat) (y : α) : upd f k y k = y := by simp [upd]
theorem upd_other {α : Type} (f : Nat → α) (k : Nat) (y : α) {j : Nat} (h : j ≠ k) : upd f k y j = f j := by simp [upd,h]
theorem tcells_set (m : Nat) (vi : Value) (v : Nat → Value) (mb k : Nat) (hk : k < 6) (u : Value) : (tcells m vi v mb).setIfInBounds (2 + k) u = tcells m vi (upd v k u) mb := by
 have h : k = 0 ∨ k = 1 ∨ k = 2 ∨ k = 3 ∨ k = 4 ∨ k = 5 := by omega
 rcases h with rfl | rfl | rfl | rfl | rfl | rfl <;> rfl
end Go.Proofs.YtogmdoiecpihdaaGreatDoor
namespace Go.Proofs.YtogmdoiecpihdaaGreatDoor
open Go.RowKit Go.Maps
set_option linter.unusedVariables false
set_option maxHeartbeats 1000000
set_option maxRecDepth 100000
theorem run1_own {P : Program} {w0 w : World} {l : List Thing} (t ty e : TypeId) (i : TypeInfo) (z : Value) (size bytes : Nat) (ht : P.underlying t = some (.slice e)) (hi : P.info? e = some i) (hz : i.zero = some z)
  (hsize : i.size = size) (hby : i.bytes = bytes) (hzs : z.cells.size = size) (hsz : 0 < size) (v : Value) (n : Nat) (xs : List Value) (h : Own w0 w (Row e size v n xs :: l)) (cs : Array Value) (hl : cs.size = size) (h1 : ∀ u ∈ cs.toList,u.oneCell' = true) (h63 : n + 1 ≤ maxLen) (hbytes : (n + 1) * bytes ≤ 140737488355328) :
  ∃ g cap w',(Builtin.append_ #[t,t] ty #[v,.slice (some ⟨w.heap.size,0,none⟩) 1 1]).run P (w.alloc (.cells cs e)) = .ok (.slice (some ⟨g,0,none⟩) (n + 1) cap) w' ∧ Own w0 w' (Row e size (.slice (some ⟨g,0,none⟩) (n + 1) cap) (n + 1) (xs ++ cs.toList) :: l) := by
 have h' := h.alloc (.cells cs e)
 obtain ⟨g,cap,w',hr,ho,hg,hat,hlt⟩ := run_append_lies (P := P) (w := w.alloc (.cells cs e)) t ty 0 e i z size bytes ht hi hz hsize hby hzs hsz v n xs h'.row ⟨w.heap.size,0,none⟩ 1 1 cs.toList (by simp [hl]) (cells_new w cs e _ rfl) h1 (by decide) h63 hbytes (Nat.zero_le _) _ rfl
 refine ⟨g,cap,w',hr,h'.grow ho hg (fun k hk => ?_)⟩
 have hk' : k = g := by simp [Value.ownBlock] at hk; exact hk.symm
 subst hk'
 rcases hat with q | q
 ·exact .inl q
 ·exact .inr (by rw [q]; exact Nat.le_refl _)
theorem Tryz.infoID2 : (Tryz.prog.info? 38).map (fun i => (i.zero,i.size,i.bytes)) = some (some (.int .u32 0),1,4) := by kernel_rfl
theorem Tryz.infoA3 : (Tryz.prog.info? 44).map (fun i => (i.zero,i.size,i.bytes)) = some (some (.agg #[.int .i32 0,.int .i32 0,.int .i32 0]),3,12) := by kernel_rfl
theorem pushI (w0 w : World) (l : List Thing) (b : Nat) (cur : Array Value) (t : TypeId) (p : Nat) (v : Value) (n : Nat) (xs : List Value) (id : Nat) (h : Own w0 w (Cells b cur t :: Row 38 1 v n xs :: l)) (hp : cur[p]? = some v) (hn : n ≤ 1000000) :
  Calls Tryz.prog 254 #[.pointer (some ⟨b,p,none⟩),.int .u32 (id : Int)] w fun e w' => e = .returned (.tuple #[]) ∧ ∃ g cap,Own w0 w' (Cells b (cur.setIfInBounds p (.slice (some ⟨g,0,none⟩) (n + 1) cap)) t :: Row 38 1 (.slice (some ⟨g,0,none⟩) (n + 1) cap) (n + 1) (xs ++ [.int .u32 (id : Int)]) :: l) := by
 obtain ⟨i0,hi,hz0,hz1,hz2⟩ := info_parts Tryz.infoID2
 obtain ⟨ao,cap,rfl⟩ := row_any h.two.row
 have q := h.cell p
 rw [hp] at q
 have H : Hid (Own w0 w (Cells b cur t :: Row 38 1 (.slice ao n cap) n xs :: l)) := h
 have HP : Hid (cur[p]? = some (.slice ao n cap)) := hp
 clear h hp
 go_enter Tryz.func254,Tryz.ntmps254
 go_wp2_with (at_builtin; refine append1_own rfl _ _ 55 rfl 38 i0 (.int .u32 0) 1 4 Tryz.underlying55 hi hz0 hz1 hz2 rfl (by decide) _ _ _ rfl H.out.two _ #[.int .u32 (id : Int)] (by simp) rfl rfl (one_int _ _) (by unfold maxLen; omega) (by omega) ?_)
 intro g1 c1 w1 hO hsz
 have k2 := hO.two.cell p
 rw [HP.out] at k2
 have z2 := hO.two.froz p
 have H1 : Hid (Own w0 w1 _) := hO
 clear hO H q hsz
 go_wp2
 go_end0
 exact ⟨rfl,g1,c1,H1.out.two.setC p _⟩
theorem pushF (w0 w : World) (l : List Thing) (b : Nat) (cur : Array Value) (t : TypeId) (p : Nat) (v : Value) (n : Nat) (xs : List Value) (x : Fs) (h : Own w0 w (Cells b cur t :: Row 44 3 v n xs :: l)) (hp : cur[p]? = some v) (hn : n ≤ 1000000) :
  Calls Tryz.prog 255 #[.pointer (some ⟨b,p,none⟩),.agg #[.int .i32 x.1,.int .i32 x.2.1,.int .i32 x.2.2]] w fun e w' => e = .returned (.tuple #[]) ∧ ∃ g cap,Own w0 w' (Cells b (cur.setIfInBounds p (.slice (some ⟨g,0,none⟩) (n + 1) cap)) t :: Row 44 3 (.slice (some ⟨g,0,none⟩) (n + 1) cap) (n + 1) (xs ++ fc x) :: l) := by
 obtain ⟨i0,hi,hz0,hz1,hz2⟩ := info_parts Tryz.infoA3
 obtain ⟨x0,x1,x2⟩ := x
 show Calls _ _ #[_,.agg #[.int .i32 x0,.int .i32 x1,.int .i32 x2]] _ _
 obtain ⟨ao,cap,rfl⟩ := row_any h.two.row
 have hbw := h.lt
 have hbn : b ≠ w.heap.size := by omega
 have hbn' : w.heap.size ≠ b := by omega
 have hbn1 : b ≠ w.heap.size + 1 := by omega
 have hbn2 : w.heap.size + 1 ≠ b := by omega
 have hbw1 : b < w.heap.size + 1 := by omega
 have hP := h.allocC #[.int .i32 x0,.int .i32 x1,.int .i32 x2] 44
 have p0 := hP.cell 0
 have p1 := hP.cell 1
 have p2 := hP.cell 2
 simp at p0 p1 p2
 have q := hP.two.cell p
 rw [hp] at q
 obtain ⟨g',c',w1,hrun,hO⟩ := run1_own (P := Tryz.prog) 303 303 44 i0 (.agg #[.int .i32 0,.int .i32 0,.int .i32 0]) 3 12 Tryz.underlying303 hi hz0 hz1 hz2 rfl (by decide) _ n _ hP.three.drew #[.int .i32 x0,.int .i32 x1,.int .i32 x2] rfl (by intro u hu; simp at hu; rcases hu with rfl | rfl | rfl <;> rfl) (by unfold maxLen; omega) (by omega)
 have hszz : (w.alloc (.cells #[.int .i32 x0,.int .i32 x1,.int .i32 x2] 44)).drew.heap.size = w.heap.size + 1 := by simp [World.drew]
 rw [hszz] at hrun
 have HRUN : Hid _ := hrun
 clear hrun hszz hP
 have k2 := hO.three.cell p
 rw [hp] at k2
 have z2 := hO.three.froz p
 have H1 : Hid (Own w0 w1 (Cells b cur t :: Row 44 3 (.slice (some ⟨g',0,none⟩) (n + 1) c') (n + 1) (xs ++ [.int .i32 x0,.int .i32 x1,.int .i32 x2]) :: l)) := hO.two.tail.two
 clear hO h hp
 go_enter Tryz.func255,Tryz.ntmps255
 go_wp2_with fail
 go_region_law (refine step_run rfl (.tmp 8) (.tmp 10) 303 303 303 rfl rfl (.slice ao n cap) (.slice (some ⟨w.heap.size + 1,0,none⟩) 1 1) (.slice (some ⟨g',0,none⟩) (n + 1) c') w1 (by simp [Act.eval]) (by simp [Act.eval]) HRUN.out ?_)
 all_goals
  go_wp2
  go_end0
  exact ⟨rfl,g',c',H1.out.setC p _⟩
theorem cat_set3 (G : List Fs) (r : Nat) (x : Fs) : cat fc (G.set r x) = if r < G.length then (((cat fc G).set (r * 3) (.int .i32 x.1)).set (r * 3 + 1) (.int .i32 x.2.1)).set (r * 3 + 2) (.int .i32 x.2.2) else cat fc G := by
 induction G generalizing r with
 | nil => simp [cat]
 | cons y G ih =>
  cases r with
  | zero => simp [cat,fc]
  | succ r =>
   have e := ih r
   simp only [List.set_cons_succ,List.length_cons]
   have e1 : ∀ (A : List Fs) (z : Fs),cat fc (z :: A) = [.int .i32 z.1,.int .i32 z.2.1,.int .i32 z.2.2] ++ cat fc A := fun _ _ => rfl
   rw [e1,e1,e]
   by_cases c : r < G.length
   ·rw [if_pos c,if_pos (by omega),show (r + 1) * 3 = r * 3 + 3 by omega]
    simp
   ·rw [if_neg c,if_neg (by omega)]
theorem cat_take {α : Type} (c : α → List Value) (s : Nat) (hs : ∀ x,(c x).length = s) (L : List α) (n : Nat) : (cat c L).take (n * s) = cat c (L.take n) := by
 induction n generalizing L with
 | zero => simp [cat]
 | succ n ih =>
  cases L with
  | nil => simp [cat]
  | cons x L =>
   rw [List.take_succ_cons]
   show (c x ++ cat c L).take _ = c x ++ cat c (L.take n)
   rw [Nat.succ_mul,Nat.add_comm,← ih L,List.take_append,hs x,List.take_of_length_le (by rw [hs x]; omega),Nat.add_sub_cancel_left]
theorem outr_take {α : Type} (G : List α) (r : Nat) (x : α) (hx : G[G.length - 1]? = some x) : outr G r = (G.set r x).take (G.length - 1) := by
 unfold outr
 have hl : G.getLast? = G[G.length - 1]? := List.getLast?_eq_getElem?
 rw [hl,hx]
 simp [List.dropLast_eq_take]
theorem dropI (w0 w : World) (l : List Thing) (b : Nat) (cur : Array Value) (t : TypeId) (p : Nat) (v : Value) (n : Nat) (I : List Nat) (r : Nat) (h : Own w0 w (Cells b cur t :: Row 38 1 v (n + 1) (irow .u32 I) :: l)) (hl : I.length = n + 1) (hp : cur[p]? = some v) (hr : r < n + 1) (hn : n ≤ 1000000) :
  Calls Tryz.prog 237 #[.pointer (some ⟨b,p,none⟩),.int .i64 (r : Int)] w fun e w' => e = .returned (.tuple #[]) ∧ ∃ g cap,Own w0 w' (Cells b (cur.setIfInBounds p (.slice (some ⟨g,0,none⟩) n cap)) t :: Row 38 1 (.slice (some ⟨g,0,none⟩) n cap) n (irow .u32 (outr I r)) :: l) := by
 obtain ⟨g,cap,rfl,_⟩ := row_shape h.two.row (by omega)
 have hcap := (row_cap h.two.row).2
 have q := h.cell p
 rw [hp] at q
 have zq := h.froz p
 have hgb : g ≠ b := by
  have := h.ne
  simpa [Value.ownBlock] using this
 have hgb' : b ≠ g := fun e => hgb e.symm
 obtain ⟨x,hx⟩ : ∃ x,I[n]? = some x := ⟨_,List.getElem?_eq_getElem (by omega)⟩
 obtain ⟨y,hy⟩ : ∃ y,I[r]? = some y := ⟨_,List.getElem?_eq_getElem (by omega)⟩
 have c1 := h.two.row.cellAt n (by omega)
 rw [getElem?_irow,hx] at c1
 have c2 := h.two.row.cellAt r (by omega)
 rw [getElem?_irow,hy] at c2
 simp only [Option.map_some] at c1 c2
 have zr : w.frozen? ⟨g,r,none⟩ = false := h.two.row.frozenAt r
 have hcap2 : n ≤ cap := by omega
 have hcap3 : ¬ cap = 0 := by omega
 have hr' : (r : Int) < (n : Int) + 1 := by omega
 have HF : Hid (Own w0 ((w.setCell ⟨g,r,none⟩ (.int .u32 (x : Int))).setCell ⟨b,p,none⟩ (.slice (some ⟨g,0,none⟩) n cap)) (Cells b (cur.setIfInBounds p (.slice (some ⟨g,0,none⟩) n cap)) t :: Row 38 1 (.slice (some ⟨g,0,none⟩) n cap) n (irow .u32 (outr I r)) :: l)) := by
  have h1 := ((h.two.setR r (.int .u32 (x : Int))).cut (m := n) (by omega)).two.setC p (.slice (some ⟨g,0,none⟩) n cap)
  have e : (irow .u32 (outr I r)) = ((irow .u32 I).set r (.int .u32 (x : Int))).take (n * 1) := by
   rw [outr_take I r x (by rw [hl]; exact hx),← irow_set,Nat.mul_one,hl,← irow_take]; rfl
  rw [e]; exact h1
 clear h hp hx hy
 go_enter Tryz.func237,Tryz.ntmps237
 go_wp2
 go_region
 all_goals
  go_wp2
  go_end0
  exact ⟨rfl,g,cap,HF.out.drew⟩
end Go.Proofs.YtogmdoiecpihdaaGreatDoor
