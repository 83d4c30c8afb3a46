/- Snapshots and what becomes of them, as lists. -/
import Derived.Test.YtgifeckbflkkpaaGreatDoorQp16
namespace Go.Proofs.YtgifeckbflkkpaaGreatDoor
open Go.RowKit
set_option linter.unusedVariables false
set_option maxHeartbeats 2000000
set_option maxRecDepth 100000
instance : DecidableEq Cp := fun x y => decidable_of_iff (x.k = y.k ∧ x.a = y.a ∧ x.b = y.b ∧ x.c = y.c) (by cases x; cases y; simp)
theorem sorted_one {α : Type} (f : α → Nat) (L : List α) : ∀ (M : List α),L.Pairwise (fun a b => f a < f b) → M.Pairwise (fun a b => f a ≤ f b) → M.Perm L → M = L := by
 induction L with
 | nil => intro M _ _ h; exact h.eq_nil
 | cons x t ih =>
  intro M hL hM h
  cases M with
  | nil => exact absurd h.length_eq (by simp)
  | cons y s =>
   have hy : y ∈ x :: t := h.subset (by simp)
   have hx : x ∈ y :: s := h.symm.subset (by simp)
   have e : y = x := by
    rcases List.mem_cons.1 hy with e | hy
    ·exact e
    ·have h1 := (List.pairwise_cons.1 hL).1 y hy
     rcases List.mem_cons.1 hx with e | hx
     ·exact e.symm
     ·have h2 := (List.pairwise_cons.1 hM).1 x hx
      omega
   subst e
   rw [ih s (List.pairwise_cons.1 hL).2 (List.pairwise_cons.1 hM).2 h.cons_inv]
theorem up_mem {α : Type} (f : α → Nat) {L M : List α} (hL : L.Pairwise (fun a b => f a < f b)) (hM : M.Pairwise (fun a b => f a < f b)) (h : ∀ x,x ∈ L ↔ x ∈ M) : L = M := by
 have n : ∀ {A : List α},A.Pairwise (fun a b => f a < f b) → A.Nodup := fun h => h.imp (fun h e => by subst e; omega)
 exact sorted_one f M L hM (hL.imp (fun h => by omega)) ((List.perm_ext_iff_of_nodup (n hL) (n hM)).2 h)
abbrev En := Nat × List Cp
def un (C : List Cp) : Bool := C.any (fun c => !ktold c.k)
def ent1 (p : Nat) (x : En) : Nat := if x.1 / 1024 < 1 ∨ x.1 ≤ p then 4 else if lst (-1) x.2 ≠ 0 then lst (-1) x.2 else if un x.2 = true then 4 else 0
def fm : Nat → List En → Nat
 | _,[] => 0
 | p,x :: t => if ent1 p x ≠ 0 then ent1 p x else fm x.1 t
def Good (C : List Cp) : Prop := C.Pairwise (fun x y => x.k < y.k) ∧ ∀ q ∈ C,q.k < 6
structure Snap (L : List En) : Prop where
 up : L.Pairwise (fun a b => a.1 < b.1)
 good : ∀ x ∈ L,Good x.2
theorem ent1_ok {p : Nat} {x : En} (h : ent1 p x = 0) : 1 ≤ x.1 / 1024 ∧ p < x.1 ∧ lst (-1) x.2 = 0 ∧ un x.2 = false := by
 unfold ent1 at h
 split at h
 ·cases h
 ·split at h
  ·rename_i h1; exact absurd h h1
  ·split at h
   ·cases h
   ·rename_i h1 h2 h3
    simp only [not_or] at h1
    exact ⟨by omega,by omega,by simpa using h2,by simpa using h3⟩
theorem good_of {C : List Cp} (h : lst (-1) C = 0) : Good C := ⟨(lst_ok h).1,fun q hq => chk_k ((lst_ok h).2 q hq).2⟩
theorem fm_ok {L : List En} : ∀ {p : Nat},fm p L = 0 → Snap L ∧ ∀ x ∈ L,p < x.1 := by
 induction L with
 | nil => intro p _; exact ⟨⟨List.Pairwise.nil,fun x hx => by cases hx⟩,fun x hx => by cases hx⟩
 | cons y t ih =>
  intro p h
  rw [fm] at h
  split at h
  ·rename_i h1; exact absurd h h1
  ·rename_i h1
   have h1 : ent1 p y = 0 := by simpa using h1
   obtain ⟨h2,h3⟩ := ih h
   obtain ⟨e1,e2,e3,e4⟩ := ent1_ok h1
   refine ⟨⟨List.pairwise_cons.2 ⟨fun x hx => h3 x hx,h2.up⟩,fun x hx => ?_⟩,fun x hx => ?_⟩
   ·rcases List.mem_cons.1 hx with rfl | hx
    ·exact good_of e3
    ·exact h2.good x hx
   ·rcases List.mem_cons.1 hx with rfl | hx
    ·exact e2
    ·have := h3 x hx; omega
theorem Snap.of {L : List En} (h : fm 0 L = 0) : Snap L := (fm_ok h).1
theorem Snap.tail {x : En} {L : List En} (h : Snap (x :: L)) : Snap L := ⟨(List.pairwise_cons.1 h.up).2,fun y hy => h.good y (List.mem_cons_of_mem _ hy)⟩
def fst (L : List Cp) (k : Nat) : Option Cp := L.find? (fun q => decide (q.k = k))
def lostN (A B : List Cp) : Nat → Nat
 | 0 => 0
 | n + 1 => lostN A B n + if hasK A n && !hasK B n then 2 ^ n else 0
def lostm (A B : List Cp) : Nat := lostN A B 6
structure Chg where
 id : Nat
 lost : Nat
 new : List Cp
 set : List Cp
def isNew (A : List Cp) (x : Cp) : Bool := !hasK A x.k
def isSet (A : List Cp) (x : Cp) : Bool := match fst A x.k with
 | none => false
 | some y => !decide (y = x)
def chg1 (a b : En) : Chg := ⟨b.1,lostm a.2 b.2,b.2.filter (isNew a.2),b.2.filter (isSet a.2)⟩
def Chg.nil (c : Chg) : Bool := decide (c.lost = 0) && c.new.isEmpty && c.set.isEmpty
structure Dl where
 gone : List Nat
 come : List En
 chg : List Chg
def addG (g : Nat) (d : Dl) : Dl := ⟨g :: d.gone,d.come,d.chg⟩
def addE (e : En) (d : Dl) : Dl := ⟨d.gone,e :: d.come,d.chg⟩
def addC (c : Chg) (d : Dl) : Dl := ⟨d.gone,d.come,if c.nil then d.chg else c :: d.chg⟩
def btw : List En → List En → Dl
 | [],[] => ⟨[],[],[]⟩
 | w :: ws,[] => addG w.1 (btw ws [])
 | [],n :: ns => addE n (btw [] ns)
 | w :: ws,n :: ns => if w.1 < n.1 then addG w.1 (btw ws (n :: ns)) else if n.1 < w.1 then addE n (btw (w :: ws) ns) else addC (chg1 w n) (btw ws ns)
termination_by a b => a.length + b.length
def fstE (L : List En) (i : Nat) : Option En := L.find? (fun e => decide (e.1 = i))
def chgO (W : List En) (e : En) : Option Chg := (fstE W e.1).bind (fun w => if (chg1 w e).nil then none else some (chg1 w e))
def dlt (W N : List En) : Dl := ⟨(W.filter (fun e => (fstE N e.1).isNone)).map (·.1),N.filter (fun e => (fstE W e.1).isNone),N.filterMap (chgO W)⟩
theorem fstE_ne {x : En} {L : List En} {i : Nat} (h : x.1 ≠ i) : fstE (x :: L) i = fstE L i := by simp [fstE,List.find?,h]
theorem fstE_eq {x : En} {L : List En} {i : Nat} (h : x.1 = i) : fstE (x :: L) i = some x := by simp [fstE,List.find?,h]
theorem fstE_none {L : List En} {i : Nat} (h : ∀ x ∈ L,x.1 ≠ i) : fstE L i = none := by
 rw [fstE,List.find?_eq_none]
 intro x hx
 simpa using h x hx
theorem fl_congr {α : Type} {L : List α} {p q : α → Bool} (h : ∀ x ∈ L,p x = q x) : L.filter p = L.filter q := List.filter_congr h
theorem fm_congr {α β : Type} {L : List α} {p q : α → Option β} (h : ∀ x ∈ L,p x = q x) : L.filterMap p = L.filterMap q := by
 induction L with
 | nil => rfl
 | cons a L ih => rw [List.filterMap_cons,List.filterMap_cons,h a (by simp),ih (fun x hx => h x (List.mem_cons_of_mem _ hx))]
theorem btw_dlt (W N : List En) : W.Pairwise (fun a b => a.1 < b.1) → N.Pairwise (fun a b => a.1 < b.1) → btw W N = dlt W N := by
 fun_induction btw W N with
 | case1 => intro _ _; rfl
 | case2 w ws ih =>
  intro hW hN
  rw [ih (List.pairwise_cons.1 hW).2 hN]
  simp [addG,dlt,fstE]
 | case3 n ns ih =>
  intro hW hN
  rw [ih hW (List.pairwise_cons.1 hN).2]
  have e : chgO [] n = none := rfl
  simp [addE,dlt,fstE,e]
 | case4 w ws n ns h ih =>
  intro hW hN
  rw [ih (List.pairwise_cons.1 hW).2 hN]
  have hw : ∀ e ∈ n :: ns,e.1 ≠ w.1 := fun e he => by
   rcases List.mem_cons.1 he with rfl | he
   ·omega
   ·have := (List.pairwise_cons.1 hN).1 e he; omega
  have a1 : (n :: ns).filter (fun e => (fstE (w :: ws) e.1).isNone) = (n :: ns).filter (fun e => (fstE ws e.1).isNone) := fl_congr fun x hx => by rw [fstE_ne (fun e => hw x hx e.symm)]
  have a2 : (n :: ns).filterMap (chgO (w :: ws)) = (n :: ns).filterMap (chgO ws) := fm_congr fun x hx => by unfold chgO; rw [fstE_ne (fun e => hw x hx e.symm)]
  unfold dlt addG
  rw [a1,a2]
  have a3 : (fstE (n :: ns) w.1).isNone = true := by rw [fstE_none hw]; rfl
  rw [List.filter_cons (xs := ws),if_pos a3]
  rfl
 | case5 w ws n ns h h2 ih =>
  intro hW hN
  rw [ih hW (List.pairwise_cons.1 hN).2]
  have hn : ∀ e ∈ w :: ws,e.1 ≠ n.1 := fun e he => by
   rcases List.mem_cons.1 he with rfl | he
   ·omega
   ·have := (List.pairwise_cons.1 hW).1 e he; omega
  have a1 : (w :: ws).filter (fun e => (fstE (n :: ns) e.1).isNone) = (w :: ws).filter (fun e => (fstE ns e.1).isNone) := fl_congr fun x hx => by rw [fstE_ne (fun e => hn x hx e.symm)]
  have a0 := fstE_none hn
  unfold dlt addE
  rw [a1]
  have a3 : (fstE (w :: ws) n.1).isNone = true := by rw [a0]; rfl
  have a4 : chgO (w :: ws) n = none := by unfold chgO; rw [a0]; rfl
  rw [List.filter_cons (xs := ns),if_pos a3,List.filterMap_cons,a4]
 | case6 w ws n ns h h2 ih =>
  intro hW hN
  have he : w.1 = n.1 := by omega
  rw [ih (List.pairwise_cons.1 hW).2 (List.pairwise_cons.1 hN).2]
  have hn : ∀ e ∈ ws,e.1 ≠ n.1 := fun e he' => by have := (List.pairwise_cons.1 hW).1 e he'; omega
  have hw : ∀ e ∈ ns,e.1 ≠ w.1 := fun e he' => by have := (List.pairwise_cons.1 hN).1 e he'; omega
  have a1 : (w :: ws).filter (fun e => (fstE (n :: ns) e.1).isNone) = ws.filter (fun e => (fstE ns e.1).isNone) := by
   rw [List.filter_cons,fstE_eq he.symm]
   simp only [Option.isNone_some]
   exact fl_congr fun x hx => by rw [fstE_ne (fun e => hn x hx e.symm)]
  have a2 : (n :: ns).filter (fun e => (fstE (w :: ws) e.1).isNone) = ns.filter (fun e => (fstE ws e.1).isNone) := by
   rw [List.filter_cons,fstE_eq he]
   simp only [Option.isNone_some]
   exact fl_congr fun x hx => by rw [fstE_ne (fun e => hw x hx e.symm)]
  have a3 : ns.filterMap (chgO (w :: ws)) = ns.filterMap (chgO ws) := fm_congr fun x hx => by unfold chgO; rw [fstE_ne (fun e => hw x hx e.symm)]
  have a4 : chgO (w :: ws) n = if (chg1 w n).nil then none else some (chg1 w n) := by unfold chgO; rw [fstE_eq he]; rfl
  unfold dlt addC
  rw [a1,a2,List.filterMap_cons,a3,a4]
  split <;> rfl
def EntsAt (w : World) (ao : Option Addr) (L : List EnE) : Prop := (L = [] ∨ ∃ g o,ao = some ⟨g,o,none⟩ ∧ ∀ (j : Nat) x,L[j]? = some x → w.cell? ⟨g,o + j * 2,none⟩ = some (.int .u32 (x.id : Int)) ∧ w.cell? ⟨g,o + j * 2 + 1,none⟩ = some (.slice x.ao x.C.length x.cap)) ∧ ∀ x ∈ L,Cs w x.ao x.C
theorem EntsAt.quiet {w w' : World} {ao : Option Addr} {L : List EnE} (h : EntsAt w ao L) (hf : Fr Nobody w w') : EntsAt w' ao L := by
 refine ⟨?_,fun x hx => (h.2 x hx).quiet hf⟩
 rcases h.1 with h | ⟨g,o,ha,hc⟩
 ·exact .inl h
 ·refine .inr ⟨g,o,ha,fun j x hx => ?_⟩
  obtain ⟨h0,h1⟩ := hc j x hx
  have hb := World.block_lt_of_cell? w _ h0
  exact ⟨(hf.cell (p := ⟨g,o + j * 2,none⟩) hb id).trans h0,(hf.cell (p := ⟨g,o + j * 2 + 1,none⟩) hb id).trans h1⟩
theorem EntsAt.at {w : World} {ao : Option Addr} {L : List EnE} (h : EntsAt w ao L) {j : Nat} {x : EnE} (hx : L[j]? = some x) : ∃ g o,ao = some ⟨g,o,none⟩ ∧ w.cell? ⟨g,o + j * 2,none⟩ = some (.int .u32 (x.id : Int)) ∧ w.cell? ⟨g,o + j * 2 + 1,none⟩ = some (.slice x.ao x.C.length x.cap) ∧ Cs w x.ao x.C := by
 rcases h.1 with h0 | ⟨g,o,ha,hc⟩
 ·subst h0; simp at hx
 ·exact ⟨g,o,ha,(hc j x hx).1,(hc j x hx).2,h.2 x (List.mem_of_getElem? hx)⟩
theorem Own.entsAt {w0 w : World} {l : List Thing} {ao : Option Addr} {cap : Nat} {L : List EnE} (h : Own w0 w (EntsT ao cap L :: l)) : EntsAt w ao L := by
 refine ⟨?_,fun x hx => ?_⟩
 ·rcases Nat.eq_zero_or_pos L.length with h0 | h0
  ·exact .inl (List.eq_nil_of_length_eq_zero h0)
  ·obtain ⟨x0,hx0⟩ : ∃ x,L[0]? = some x := ⟨_,List.getElem?_eq_getElem h0⟩
   obtain ⟨⟨g,hg,_,_⟩,_⟩ := h.entAt hx0
   refine .inr ⟨g,0,hg,fun j x hx => ?_⟩
   obtain ⟨⟨g',hg',h1,h2⟩,_⟩ := h.entAt hx
   rw [hg] at hg'
   cases hg'
   rw [Nat.zero_add]
   exact ⟨h1,h2⟩
 ·obtain ⟨j,hj⟩ := List.getElem?_of_mem hx
  exact (h.entAt hj).2
def evs (L : List EnE) : List En := L.map (fun x => (x.id,x.C))
theorem evs_len (L : List EnE) : (evs L).length = L.length := by simp [evs]
theorem evs_at {L : List EnE} {j : Nat} {x : EnE} (h : L[j]? = some x) : (evs L)[j]? = some (x.id,x.C) := by simp [evs,h]
def EIn (L : List EnE) : Prop := ∀ x ∈ L,x.id < 4294967296 ∧ ∀ q ∈ x.C,q.k < 256
def csz : List EnE → Nat
 | [] => 0
 | x :: t => x.C.length + csz t
theorem csz_append (A B : List EnE) : csz (A ++ B) = csz A + csz B := by
 induction A with
 | nil => simp [csz]
 | cons x t ih => simp only [List.cons_append,csz,ih]; omega
theorem csz_take {L : List EnE} {j : Nat} {x : EnE} (h : L[j]? = some x) : csz (L.take (j + 1)) = csz (L.take j) + x.C.length := by
 rw [List.take_add_one,h,csz_append]; simp [csz]
theorem csz_take_le (L : List EnE) (j : Nat) : csz (L.take j) ≤ csz L := by
 have h := csz_append (L.take j) (L.drop j)
 rw [List.take_append_drop] at h
 omega
theorem csz_mem {L : List EnE} {x : EnE} (h : x ∈ L) : x.C.length ≤ csz L := by
 obtain ⟨j,hj⟩ := List.getElem?_of_mem h
 have h1 := csz_take hj
 have h2 := csz_take_le L (j + 1)
 omega
def esz (L : List EnE) : Nat := L.length + csz L
theorem few_any (w : World) (ao : Option Addr) (n cap : Nat) (L : List EnE) (hn : L.length = n) (h : EntsAt w ao L) (hz : esz L ≤ 1048576) :
  Calls Tryz.prog 10 #[.slice ao n cap] w fun e w' => e = .returned (.bool (decide (esz L ≤ 400))) ∧ Fr Nobody w w' := by
 have HL : Hid (L.length = n ∧ EntsAt w ao L) := ⟨hn,h⟩
 have HZ : Hid (esz L = n + csz L) := by show _ = _; unfold esz; rw [hn]
 have hz1 : n + csz L ≤ 1048576 := by unfold esz at hz; omega
 clear hn h hz
 go_enter Tryz.func10,Tryz.ntmps10
 go_wp2
 go_loopw [3,10] (fun s c wr => ∃ (j m : Nat),j ≤ n ∧ c = .int .i64 j ∧ s = .int .i64 m ∧ m = n + csz (L.take j) ∧ Fr Nobody w wr) (fun _ c _ => n - (intOf c).toNat)
 case atStart => exact ⟨0,n,Nat.zero_le _,rfl,rfl,by simp [csz],Fr.refl _ _⟩
 case round =>
  obtain ⟨j,m,hj,rfl,rfl,hm,hf⟩ := hrel
  have HF : Hid (Fr Nobody w wr) := hf
  have HM : Hid (m = n + csz (L.take j)) := hm
  have hm2 : m ≤ 1048576 := by have := csz_take_le L j; omega
  clear hf hm
  by_cases hlt : j < n
  ·obtain ⟨x,hx⟩ : ∃ x,L[j]? = some x := ⟨_,List.getElem?_eq_getElem (by rw [HL.out.1]; exact hlt)⟩
   obtain ⟨g,o,hao,c0,c1,_⟩ := (HL.out.2.quiet HF.out).at hx
   subst hao
   have HS : Hid (m + x.C.length = n + csz (L.take (j + 1))) := by show _ = _; rw [csz_take hx,HM.out]; omega
   have hs2 : m + x.C.length ≤ 1048576 := by have := csz_take_le L (j + 1); have := HS.out; omega
   have hlt' : (j : Int) < (n : Int) := by omega
   clear hx
   obtain ⟨xi,xa,xc,C⟩ := x
   simp only at c0 c1 HS hs2
   generalize C.length = cl at *
   go_wp2
   go_roundw
   case rel => exact ⟨j + 1,m + cl,by omega,by go_num,by go_num,HS.out,HF.out.alloc _⟩
   case measure => simp [intOf]; omega
  ·have hlt' : ¬ (j : Int) < (n : Int) := by omega
   have HT : Hid (esz L = m) := by show _ = _; rw [HZ.out,HM.out,List.take_of_length_le (by rw [HL.out.1]; omega)]
   clear HM
   by_cases h4 : m ≤ 400
   ·have h4' : (m : Int) ≤ 400 := by omega
    have HD : Hid (decide (esz L ≤ 400) = true) := by show _ = _; rw [HT.out]; exact decide_eq_true h4
    go_wp2
    go_ret
    exact ⟨by rw [HD.out]; simp,HF.out⟩
   ·have h4' : ¬ (m : Int) ≤ 400 := by omega
    have HD : Hid (decide (esz L ≤ 400) = false) := by show _ = _; rw [HT.out]; exact decide_eq_false h4
    go_wp2
    go_ret
    exact ⟨by rw [HD.out]; simp,HF.out⟩
theorem lost_val (A B : List Cp) : lostm A B = val (hasK A 0 && !hasK B 0) (hasK A 1 && !hasK B 1) (hasK A 2 && !hasK B 2) (hasK A 3 && !hasK B 3) (hasK A 4 && !hasK B 4) (hasK A 5 && !hasK B 5) := by
 unfold lostm val
 simp only [lostN]
 generalize (hasK A 0 && !hasK B 0) = a
 generalize (hasK A 1 && !hasK B 1) = b
 generalize (hasK A 2 && !hasK B 2) = c
 generalize (hasK A 3 && !hasK B 3) = d
 generalize (hasK A 4 && !hasK B 4) = e
 generalize (hasK A 5 && !hasK B 5) = f
 cases a <;> cases b <;> cases c <;> cases d <;> cases e <;> cases f <;> rfl
def nthB (a b c d e f : Bool) (k : Nat) : Bool := match k with
 | 0 => a
 | 1 => b
 | 2 => c
 | 3 => d
 | 4 => e
 | _ => f
theorem val_and : ∀ (k : Fin 6) (a b c d e f : Bool),decide (2 ^ k.1 &&& val a b c d e f = 0) = !nthB a b c d e f k.1 := by decide
theorem val_zero : ∀ (k : Fin 6) (a b c d e f : Bool),val a b c d e f = 0 → nthB a b c d e f k.1 = false := by decide
theorem nth_lost (A B : List Cp) (k : Nat) (hk : k < 6) : nthB (hasK A 0 && !hasK B 0) (hasK A 1 && !hasK B 1) (hasK A 2 && !hasK B 2) (hasK A 3 && !hasK B 3) (hasK A 4 && !hasK B 4) (hasK A 5 && !hasK B 5) k = (hasK A k && !hasK B k) := by
 have : k = 0 ∨ k = 1 ∨ k = 2 ∨ k = 3 ∨ k = 4 ∨ k = 5 := by omega
 rcases this with rfl | rfl | rfl | rfl | rfl | rfl <;> rfl
theorem msk_one (x : Cp) (h : x.k < 6) : msk [x] = 2 ^ x.k := by
 have : x.k = 0 ∨ x.k = 1 ∨ x.k = 2 ∨ x.k = 3 ∨ x.k = 4 ∨ x.k = 5 := by omega
 rw [msk_val]
 simp only [hasK,List.any_cons,List.any_nil,Bool.or_false]
 rcases this with h | h | h | h | h | h <;> simp [h,val]
def stays (lost : Nat) (x : Cp) : Bool := decide (msk [x] &&& lost = 0)
theorem stays_lost (A B : List Cp) (x : Cp) (h : x.k < 6) : stays (lostm A B) x = !(hasK A x.k && !hasK B x.k) := by
 unfold stays
 rw [msk_one x h,lost_val,val_and ⟨x.k,h⟩,nth_lost A B x.k h]
theorem lost_zero {A B : List Cp} (h : lostm A B = 0) (k : Nat) (hk : k < 6) (hA : hasK A k = true) : hasK B k = true := by
 rw [lost_val] at h
 have := val_zero ⟨k,hk⟩ _ _ _ _ _ _ h
 rw [nth_lost A B k hk,hA] at this
 simpa using this
theorem fst_some {A : List Cp} {k : Nat} {x : Cp} (h : fst A k = some x) : x ∈ A ∧ x.k = k := by
 unfold fst at h
 exact ⟨List.mem_of_find?_eq_some h,by simpa using List.find?_some h⟩
theorem hasK_fst {A : List Cp} {k : Nat} (h : hasK A k = true) : ∃ x,fst A k = some x := by
 unfold hasK at h
 rw [List.any_eq_true] at h
 obtain ⟨x,hx,e⟩ := h
 cases hf : fst A k with
 | some y => exact ⟨y,rfl⟩
 | none =>
  unfold fst at hf
  rw [List.find?_eq_none] at hf
  exact absurd e (hf x hx)
theorem mem_hasK {A : List Cp} {x : Cp} (h : x ∈ A) : hasK A x.k = true := by
 unfold hasK
 rw [List.any_eq_true]
 exact ⟨x,h,by simp⟩
theorem up_one {A : List Cp} (hA : A.Pairwise (fun x y => x.k < y.k)) {x y : Cp} (hx : x ∈ A) (hy : y ∈ A) (h : x.k = y.k) : x = y := by
 induction A with
 | nil => cases hx
 | cons z t ih =>
  obtain ⟨h1,h2⟩ := List.pairwise_cons.1 hA
  rcases List.mem_cons.1 hx with rfl | hx
  ·rcases List.mem_cons.1 hy with rfl | hy
   ·rfl
   ·have := h1 y hy; omega
  ·rcases List.mem_cons.1 hy with e | hy
   ·have := h1 x hx; subst e; omega
   ·exact ih h2 hx hy
theorem fst_mem {A : List Cp} (hA : A.Pairwise (fun x y => x.k < y.k)) {x : Cp} (hx : x ∈ A) : fst A x.k = some x := by
 obtain ⟨y,hy⟩ := hasK_fst (mem_hasK hx)
 obtain ⟨h1,h2⟩ := fst_some hy
 rw [hy,up_one hA h1 hx h2]
theorem isSet_iff {A : List Cp} {x : Cp} : isSet A x = true ↔ ∃ y,fst A x.k = some y ∧ y ≠ x := by
 unfold isSet
 cases h : fst A x.k with
 | none => simp
 | some y => simp
def lat (S : List Cp) (x : Cp) : Cp := (fst S x.k).getD x
theorem lat_k (S : List Cp) (x : Cp) : (lat S x).k = x.k := by
 unfold lat
 cases h : fst S x.k with
 | none => rfl
 | some y => exact (fst_some h).2
theorem lat_to {A B : List Cp} (hA : Good A) (hB : Good B) {x : Cp} (hx : x ∈ A) (hk : hasK B x.k = true) : fst B x.k = some (lat (B.filter (isSet A)) x) := by
 obtain ⟨y,hy⟩ := hasK_fst hk
 obtain ⟨y1,y2⟩ := fst_some hy
 rw [hy]
 unfold lat
 by_cases e : y = x
 ·subst e
  have hn : fst (B.filter (isSet A)) y.k = none := by
   unfold fst
   rw [List.find?_eq_none]
   intro z hz
   obtain ⟨z1,z2⟩ := List.mem_filter.1 hz
   simp only [decide_eq_true_eq]
   intro zk
   have e := up_one hB.1 z1 y1 zk
   subst e
   obtain ⟨u,u1,u2⟩ := isSet_iff.1 z2
   rw [fst_mem hA.1 hx] at u1
   simp only [Option.some.injEq] at u1
   exact u2 u1.symm
  rw [hn]; rfl
 ·have hm : y ∈ B.filter (isSet A) := List.mem_filter.2 ⟨y1,isSet_iff.2 ⟨x,by rw [y2]; exact fst_mem hA.1 hx,fun h => e h.symm⟩⟩
  rw [← y2,fst_mem (hB.1.sublist List.filter_sublist) hm]; rfl
def mid (C : List Cp) (c : Chg) : List Cp := (C.filter (stays c.lost)).map (lat c.set) ++ c.new
def ChgR (C : List Cp) (c : Chg) (M : List Cp) : Prop := M.Perm (mid C c) ∧ M.Pairwise (fun a b => a.k ≤ b.k)
theorem mid_to (i j : Nat) {A B : List Cp} (hA : Good A) (hB : Good B) : (mid A (chg1 (i,A) (j,B))).Perm B := by
 have hst : ∀ x ∈ A,stays (lostm A B) x = true ↔ hasK B x.k = true := fun x hx => by
  rw [stays_lost A B x (hA.2 x hx),mem_hasK hx]; simp
 have nk : ∀ {L : List Cp},(L.map (fun x => x.k)).Nodup → L.Nodup := fun h => (List.pairwise_map.1 h).imp (fun h e => h (by rw [e]))
 have upk : ∀ {L : List Cp},L.Pairwise (fun x y => x.k < y.k) → (L.map (fun x => x.k)).Nodup := fun h => List.pairwise_map.2 (h.imp (fun h => by omega))
 have hnd : (mid A (chg1 (i,A) (j,B))).Nodup := by
  apply nk
  unfold mid chg1
  simp only [List.map_append,List.map_map]
  have e : (fun x : Cp => x.k) ∘ lat (B.filter (isSet A)) = fun x => x.k := by funext x; exact lat_k _ x
  rw [e]
  rw [List.nodup_append]
  refine ⟨upk (hA.1.sublist List.filter_sublist),upk (hB.1.sublist List.filter_sublist),?_⟩
  intro a ha b hb hab
  obtain ⟨x,hx,rfl⟩ := List.mem_map.1 ha
  obtain ⟨y,hy,rfl⟩ := List.mem_map.1 hb
  have h1 := mem_hasK (List.mem_filter.1 hx).1
  have h2 := (List.mem_filter.1 hy).2
  unfold isNew at h2
  rw [← hab,h1] at h2
  cases h2
 rw [List.perm_ext_iff_of_nodup hnd (nk (upk hB.1))]
 intro y
 unfold mid chg1
 simp only [List.mem_append,List.mem_map,List.mem_filter]
 constructor
 ·rintro (⟨x,⟨hx,hs⟩,rfl⟩ | ⟨hy,_⟩)
  ·exact (fst_some (lat_to hA hB hx ((hst x hx).1 hs))).1
  ·exact hy
 ·intro hy
  by_cases hk : hasK A y.k = true
  ·obtain ⟨x,hx⟩ := hasK_fst hk
   obtain ⟨x1,x2⟩ := fst_some hx
   have hkB : hasK B x.k = true := by rw [x2]; exact mem_hasK hy
   refine .inl ⟨x,⟨x1,(hst x x1).2 hkB⟩,?_⟩
   have := lat_to hA hB x1 hkB
   rw [x2,fst_mem hB.1 hy] at this
   simp only [Option.some.injEq] at this
   exact this.symm
  ·exact .inr ⟨hy,by unfold isNew; simpa using hk⟩
theorem chgR_to {i j : Nat} {A B M : List Cp} (hA : Good A) (hB : Good B) (h : ChgR A (chg1 (i,A) (j,B)) M) : M = B :=
 sorted_one (fun x => x.k) B M hB.1 h.2 (h.1.trans (mid_to i j hA hB))
theorem nil_same {a b : En} (hA : Good a.2) (hB : Good b.2) (h : (chg1 a b).nil = true) : a.2 = b.2 := by
 unfold Chg.nil chg1 at h
 simp only [Bool.and_eq_true,decide_eq_true_eq,List.isEmpty_iff,List.filter_eq_nil_iff] at h
 obtain ⟨⟨h1,h2⟩,h3⟩ := h
 have key : ∀ y ∈ b.2,y ∈ a.2 := by
  intro y hy
  have e2 := h2 y hy
  have e3 := h3 y hy
  unfold isNew at e2
  obtain ⟨x,hx⟩ := hasK_fst (A := a.2) (k := y.k) (by simpa using e2)
  have : x = y := by
   apply Decidable.byContradiction
   intro hne
   exact e3 (isSet_iff.2 ⟨x,hx,hne⟩)
  rw [← this]
  exact (fst_some hx).1
 refine up_mem (fun x => x.k) hA.1 hB.1 (fun x => ⟨fun hx => ?_,key x⟩)
 obtain ⟨y,hy⟩ := hasK_fst (lost_zero h1 x.k (hA.2 x hx) (mem_hasK hx))
 obtain ⟨y1,y2⟩ := fst_some hy
 rw [← up_one hA.1 (key y y1) hx y2]
 exact y1
def AftR : List En → List Nat → List Chg → List En → Prop
 | [],_,_,L => L = []
 | x :: t,g,c,L => if g.head? = some x.1 then AftR t g.tail c L else
   match c with
   | [] => ∃ L',L = x :: L' ∧ AftR t g [] L'
   | y :: c' => if y.id = x.1 then ∃ M L',L = (x.1,M) :: L' ∧ ChgR x.2 y M ∧ AftR t g c' L' else ∃ L',L = x :: L' ∧ AftR t g (y :: c') L'
theorem btw_low (W N : List En) (p : Nat) : (∀ x ∈ W,p < x.1) → (∀ x ∈ N,p < x.1) → (∀ g ∈ (btw W N).gone,p < g) ∧ ∀ c ∈ (btw W N).chg,p < c.id := by
 fun_induction btw W N with
 | case1 => intro _ _; simp
 | case2 w ws ih =>
  intro hW hN
  obtain ⟨i1,i2⟩ := ih (fun x hx => hW x (List.mem_cons_of_mem _ hx)) hN
  refine ⟨fun g hg => ?_,i2⟩
  rcases List.mem_cons.1 hg with rfl | hg
  ·exact hW w (by simp)
  ·exact i1 g hg
 | case3 n ns ih =>
  intro hW hN
  exact ih hW (fun x hx => hN x (List.mem_cons_of_mem _ hx))
 | case4 w ws n ns h ih =>
  intro hW hN
  obtain ⟨i1,i2⟩ := ih (fun x hx => hW x (List.mem_cons_of_mem _ hx)) hN
  refine ⟨fun g hg => ?_,i2⟩
  rcases List.mem_cons.1 hg with rfl | hg
  ·exact hW w (by simp)
  ·exact i1 g hg
 | case5 w ws n ns h h2 ih =>
  intro hW hN
  exact ih hW (fun x hx => hN x (List.mem_cons_of_mem _ hx))
 | case6 w ws n ns h h2 ih =>
  intro hW hN
  obtain ⟨i1,i2⟩ := ih (fun x hx => hW x (List.mem_cons_of_mem _ hx)) (fun x hx => hN x (List.mem_cons_of_mem _ hx))
  refine ⟨i1,fun c hc => ?_⟩
  unfold addC at hc
  simp only at hc
  split at hc
  ·exact i2 c hc
  ·rcases List.mem_cons.1 hc with rfl | hc
   ·exact hN n (by simp)
   ·exact i2 c hc
theorem aft_skip {x : En} {t : List En} {g : List Nat} {c : List Chg} {L : List En} (hg : ∀ y ∈ g,x.1 < y) (hc : ∀ y ∈ c,x.1 < y.id) (h : AftR (x :: t) g c L) : ∃ L',L = x :: L' ∧ AftR t g c L' := by
 unfold AftR at h
 rw [if_neg (by
  intro e
  have := hg x.1 (List.mem_of_head? e)
  omega)] at h
 cases c with
 | nil => exact h
 | cons y c' =>
  simp only at h
  rw [if_neg (by have := hc y (by simp); omega)] at h
  exact h
theorem aft_to (W N : List En) : Snap W → Snap N → ∀ L,AftR W (btw W N).gone (btw W N).chg L → (L ++ (btw W N).come).Perm N := by
 fun_induction btw W N with
 | case1 => intro _ _ L h; unfold AftR at h; subst h; exact List.Perm.refl _
 | case2 w ws ih =>
  intro hW hN L h
  unfold AftR addG at h
  simp only [List.head?_cons,if_true,List.tail_cons] at h
  exact ih hW.tail hN L h
 | case3 n ns ih =>
  intro hW hN L h
  have h1 := ih hW hN.tail L h
  unfold addE
  exact List.perm_middle.trans (List.Perm.cons n h1)
 | case4 w ws n ns h0 ih =>
  intro hW hN L h
  unfold AftR addG at h
  simp only [List.head?_cons,if_true,List.tail_cons] at h
  exact ih hW.tail hN L h
 | case5 w ws n ns h0 h2 ih =>
  intro hW hN L h
  have h1 := ih hW hN.tail L h
  unfold addE
  exact List.perm_middle.trans (List.Perm.cons n h1)
 | case6 w ws n ns h0 h2 ih =>
  intro hW hN L h
  have he : w.1 = n.1 := by omega
  obtain ⟨l1,l2⟩ := btw_low ws ns w.1 (fun x hx => (List.pairwise_cons.1 hW.up).1 x hx) (fun x hx => by rw [he]; exact (List.pairwise_cons.1 hN.up).1 x hx)
  have gw := hW.good w (by simp)
  have gn := hN.good n (by simp)
  unfold addC at h ⊢
  simp only at h ⊢
  split at h
  ·rename_i hn
   obtain ⟨L',rfl,h3⟩ := aft_skip l1 l2 h
   have e : w = n := Prod.ext he (nil_same gw gn hn)
   rw [e]
   exact List.Perm.cons n (ih hW.tail hN.tail L' h3)
  ·unfold AftR at h
   rw [if_neg (by
    intro e
    have := l1 w.1 (List.mem_of_head? e)
    omega)] at h
   simp only at h
   rw [if_pos (show (chg1 w n).id = w.1 from he.symm)] at h
   obtain ⟨M,L',rfl,h3,h4⟩ := h
   have e : (w.1,M) = n := Prod.ext he (chgR_to (i := w.1) (j := n.1) gw gn h3)
   rw [e]
   exact List.Perm.cons n (ih hW.tail hN.tail L' h4)
end Go.Proofs.YtgifeckbflkkpaaGreatDoor
