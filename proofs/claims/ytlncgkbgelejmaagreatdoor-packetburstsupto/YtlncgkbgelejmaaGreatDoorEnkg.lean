/-
  Snapshots and what becomes of them, as lists.
-/
import Derived.Test.YtlncgkbgelejmaaGreatDoorEnbg
import Derived.Deep.DeepCutAuto
import Derived.Laws.Rows
namespace Go.Proofs.YtlncgkbgelejmaaGreatDoor
open Go.RowKit
set_option linter.unusedVariables false
set_option maxRecDepth 100000

instance : DecidableEq Cp := fun x y => decidable_of_iff (x.k = y.k ∧ x.a = y.a ∧ x.b = y.b ∧ x.c = y.c) (by cases x; cases y; simp)
theorem sorted_one {α : Type} (f : α → Nat) (L : List α) : ∀ (M : List α), L.Pairwise (fun a b => f a < f b) → M.Pairwise (fun a b => f a ≤ f b) → M.Perm L → M = L := by
  induction L with
  | nil => intro M _ _ h; exact h.eq_nil
  | cons x t ih =>
    intro M hL hM h
    cases M with
    | nil => exact absurd h.length_eq (by simp)
    | cons y s =>
      have hy : y ∈ x :: t := h.subset (by simp)
      have hx : x ∈ y :: s := h.symm.subset (by simp)
      have e : y = x := by
        rcases List.mem_cons.1 hy with e | hy
        · exact e
        · have h1 := (List.pairwise_cons.1 hL).1 y hy
          rcases List.mem_cons.1 hx with e | hx
          · exact e.symm
          · have h2 := (List.pairwise_cons.1 hM).1 x hx
            omega
      subst e
      rw [ih s (List.pairwise_cons.1 hL).2 (List.pairwise_cons.1 hM).2 h.cons_inv]
theorem up_mem {α : Type} (f : α → Nat) {L M : List α} (hL : L.Pairwise (fun a b => f a < f b)) (hM : M.Pairwise (fun a b => f a < f b)) (h : ∀ x, x ∈ L ↔ x ∈ M) : L = M := by
  have n : ∀ {A : List α}, A.Pairwise (fun a b => f a < f b) → A.Nodup := fun h => h.imp (fun h e => by subst e; omega)
  exact sorted_one f M L hM (hL.imp (fun h => by omega)) ((List.perm_ext_iff_of_nodup (n hL) (n hM)).2 h)

/-- an entity: its number and its components -/
abbrev En := Nat × List Cp
def un (C : List Cp) : Bool := C.any (fun c => !ktold c.k)
def ent1 (p : Nat) (x : En) : Nat := if x.1 / 1024 < 1 ∨ x.1 ≤ p then 4 else if lst (-1) x.2 ≠ 0 then lst (-1) x.2 else if un x.2 = true then 4 else 0
/-- is it a snapshot? -/
def fm : Nat → List En → Nat
  | _, [] => 0
  | p, x :: t => if ent1 p x ≠ 0 then ent1 p x else fm x.1 t
def Good (C : List Cp) : Prop := C.Pairwise (fun x y => x.k < y.k) ∧ ∀ q ∈ C, q.k < 6
structure Snap (L : List En) : Prop where
  up : L.Pairwise (fun a b => a.1 < b.1)
  good : ∀ x ∈ L, Good x.2
theorem ent1_ok {p : Nat} {x : En} (h : ent1 p x = 0) : 1 ≤ x.1 / 1024 ∧ p < x.1 ∧ lst (-1) x.2 = 0 ∧ un x.2 = false := by
  unfold ent1 at h
  split at h
  · cases h
  · split at h
    · rename_i h1; exact absurd h h1
    · split at h
      · cases h
      · rename_i h1 h2 h3
        simp only [not_or] at h1
        exact ⟨by omega, by omega, by simpa using h2, by simpa using h3⟩
theorem good_of {C : List Cp} (h : lst (-1) C = 0) : Good C := ⟨(lst_ok h).1, fun q hq => chk_k ((lst_ok h).2 q hq).2⟩
theorem fm_ok {L : List En} : ∀ {p : Nat}, fm p L = 0 → Snap L ∧ ∀ x ∈ L, p < x.1 := by
  induction L with
  | nil => intro p _; exact ⟨⟨List.Pairwise.nil, fun x hx => by cases hx⟩, fun x hx => by cases hx⟩
  | cons y t ih =>
    intro p h
    rw [fm] at h
    split at h
    · rename_i h1; exact absurd h h1
    · rename_i h1
      have h1 : ent1 p y = 0 := by simpa using h1
      obtain ⟨h2, h3⟩ := ih h
      obtain ⟨e1, e2, e3, e4⟩ := ent1_ok h1
      refine ⟨⟨List.pairwise_cons.2 ⟨fun x hx => h3 x hx, h2.up⟩, fun x hx => ?_⟩, fun x hx => ?_⟩
      · rcases List.mem_cons.1 hx with rfl | hx
        · exact good_of e3
        · exact h2.good x hx
      · rcases List.mem_cons.1 hx with rfl | hx
        · exact e2
        · have := h3 x hx; omega
theorem Snap.of {L : List En} (h : fm 0 L = 0) : Snap L := (fm_ok h).1
theorem Snap.tail {x : En} {L : List En} (h : Snap (x :: L)) : Snap L := ⟨(List.pairwise_cons.1 h.up).2, fun y hy => h.good y (List.mem_cons_of_mem _ hy)⟩

/-- the first component of a kind -/
def fst (L : List Cp) (k : Nat) : Option Cp := L.find? (fun q => decide (q.k = k))
def lostN (A B : List Cp) : Nat → Nat
  | 0 => 0
  | n + 1 => lostN A B n + if hasK A n && !hasK B n then 2 ^ n else 0
def lostm (A B : List Cp) : Nat := lostN A B 6
structure Chg where
  id : Nat
  lost : Nat
  new : List Cp
  set : List Cp
def isNew (A : List Cp) (x : Cp) : Bool := !hasK A x.k
def isSet (A : List Cp) (x : Cp) : Bool := match fst A x.k with
  | none => false
  | some y => !decide (y = x)
def chg1 (a b : En) : Chg := ⟨b.1, lostm a.2 b.2, b.2.filter (isNew a.2), b.2.filter (isSet a.2)⟩
def Chg.nil (c : Chg) : Bool := decide (c.lost = 0) && c.new.isEmpty && c.set.isEmpty
/-- a delta -/
structure Dl where
  gone : List Nat
  come : List En
  chg : List Chg
def addG (g : Nat) (d : Dl) : Dl := ⟨g :: d.gone, d.come, d.chg⟩
def addE (e : En) (d : Dl) : Dl := ⟨d.gone, e :: d.come, d.chg⟩
def addC (c : Chg) (d : Dl) : Dl := ⟨d.gone, d.come, if c.nil then d.chg else c :: d.chg⟩
/-- both gone through side by side -/
def btw : List En → List En → Dl
  | [], [] => ⟨[], [], []⟩
  | w :: ws, [] => addG w.1 (btw ws [])
  | [], n :: ns => addE n (btw [] ns)
  | w :: ws, n :: ns => if w.1 < n.1 then addG w.1 (btw ws (n :: ns)) else if n.1 < w.1 then addE n (btw (w :: ws) ns) else addC (chg1 w n) (btw ws ns)
termination_by a b => a.length + b.length
def fstE (L : List En) (i : Nat) : Option En := L.find? (fun e => decide (e.1 = i))
def chgO (W : List En) (e : En) : Option Chg := (fstE W e.1).bind (fun w => if (chg1 w e).nil then none else some (chg1 w e))
/-- ID by ID -/
def dlt (W N : List En) : Dl := ⟨(W.filter (fun e => (fstE N e.1).isNone)).map (·.1), N.filter (fun e => (fstE W e.1).isNone), N.filterMap (chgO W)⟩
theorem fstE_ne {x : En} {L : List En} {i : Nat} (h : x.1 ≠ i) : fstE (x :: L) i = fstE L i := by simp [fstE, List.find?, h]
theorem fstE_eq {x : En} {L : List En} {i : Nat} (h : x.1 = i) : fstE (x :: L) i = some x := by simp [fstE, List.find?, h]
theorem fstE_none {L : List En} {i : Nat} (h : ∀ x ∈ L, x.1 ≠ i) : fstE L i = none := by
  rw [fstE, List.find?_eq_none]
  intro x hx
  simpa using h x hx
theorem fl_congr {α : Type} {L : List α} {p q : α → Bool} (h : ∀ x ∈ L, p x = q x) : L.filter p = L.filter q := List.filter_congr h
theorem fm_congr {α β : Type} {L : List α} {p q : α → Option β} (h : ∀ x ∈ L, p x = q x) : L.filterMap p = L.filterMap q := by
  induction L with
  | nil => rfl
  | cons a L ih => rw [List.filterMap_cons, List.filterMap_cons, h a (by simp), ih (fun x hx => h x (List.mem_cons_of_mem _ hx))]
theorem btw_dlt (W N : List En) : W.Pairwise (fun a b => a.1 < b.1) → N.Pairwise (fun a b => a.1 < b.1) → btw W N = dlt W N := by
  fun_induction btw W N with
  | case1 => intro _ _; rfl
  | case2 w ws ih =>
    intro hW hN
    rw [ih (List.pairwise_cons.1 hW).2 hN]
    simp [addG, dlt, fstE]
  | case3 n ns ih =>
    intro hW hN
    rw [ih hW (List.pairwise_cons.1 hN).2]
    have e : chgO [] n = none := rfl
    simp [addE, dlt, fstE, e]
  | case4 w ws n ns h ih =>
    intro hW hN
    rw [ih (List.pairwise_cons.1 hW).2 hN]
    have hw : ∀ e ∈ n :: ns, e.1 ≠ w.1 := fun e he => by
      rcases List.mem_cons.1 he with rfl | he
      · omega
      · have := (List.pairwise_cons.1 hN).1 e he; omega
    have a1 : (n :: ns).filter (fun e => (fstE (w :: ws) e.1).isNone) = (n :: ns).filter (fun e => (fstE ws e.1).isNone) := fl_congr fun x hx => by rw [fstE_ne (fun e => hw x hx e.symm)]
    have a2 : (n :: ns).filterMap (chgO (w :: ws)) = (n :: ns).filterMap (chgO ws) := fm_congr fun x hx => by unfold chgO; rw [fstE_ne (fun e => hw x hx e.symm)]
    unfold dlt addG
    rw [a1, a2]
    have a3 : (fstE (n :: ns) w.1).isNone = true := by rw [fstE_none hw]; rfl
    rw [List.filter_cons (xs := ws), if_pos a3]
    rfl
  | case5 w ws n ns h h2 ih =>
    intro hW hN
    rw [ih hW (List.pairwise_cons.1 hN).2]
    have hn : ∀ e ∈ w :: ws, e.1 ≠ n.1 := fun e he => by
      rcases List.mem_cons.1 he with rfl | he
      · omega
      · have := (List.pairwise_cons.1 hW).1 e he; omega
    have a1 : (w :: ws).filter (fun e => (fstE (n :: ns) e.1).isNone) = (w :: ws).filter (fun e => (fstE ns e.1).isNone) := fl_congr fun x hx => by rw [fstE_ne (fun e => hn x hx e.symm)]
    have a0 := fstE_none hn
    unfold dlt addE
    rw [a1]
    have a3 : (fstE (w :: ws) n.1).isNone = true := by rw [a0]; rfl
    have a4 : chgO (w :: ws) n = none := by unfold chgO; rw [a0]; rfl
    rw [List.filter_cons (xs := ns), if_pos a3, List.filterMap_cons, a4]
  | case6 w ws n ns h h2 ih =>
    intro hW hN
    have he : w.1 = n.1 := by omega
    rw [ih (List.pairwise_cons.1 hW).2 (List.pairwise_cons.1 hN).2]
    have hn : ∀ e ∈ ws, e.1 ≠ n.1 := fun e he' => by have := (List.pairwise_cons.1 hW).1 e he'; omega
    have hw : ∀ e ∈ ns, e.1 ≠ w.1 := fun e he' => by have := (List.pairwise_cons.1 hN).1 e he'; omega
    have a1 : (w :: ws).filter (fun e => (fstE (n :: ns) e.1).isNone) = ws.filter (fun e => (fstE ns e.1).isNone) := by
      rw [List.filter_cons, fstE_eq he.symm]
      simp only [Option.isNone_some]
      exact fl_congr fun x hx => by rw [fstE_ne (fun e => hn x hx e.symm)]
    have a2 : (n :: ns).filter (fun e => (fstE (w :: ws) e.1).isNone) = ns.filter (fun e => (fstE ws e.1).isNone) := by
      rw [List.filter_cons, fstE_eq he]
      simp only [Option.isNone_some]
      exact fl_congr fun x hx => by rw [fstE_ne (fun e => hw x hx e.symm)]
    have a3 : ns.filterMap (chgO (w :: ws)) = ns.filterMap (chgO ws) := fm_congr fun x hx => by unfold chgO; rw [fstE_ne (fun e => hw x hx e.symm)]
    have a4 : chgO (w :: ws) n = if (chg1 w n).nil then none else some (chg1 w n) := by unfold chgO; rw [fstE_eq he]; rfl
    unfold dlt addC
    rw [a1, a2, List.filterMap_cons, a3, a4]
    split <;> rfl
end Go.Proofs.YtlncgkbgelejmaaGreatDoor


/-
  Lists of entities that can be read: how many there are, whether they are alike.
-/
namespace Go.Proofs.YtlncgkbgelejmaaGreatDoor
open Go.RowKit
set_option linter.unusedVariables false
set_option maxRecDepth 100000

/-- a list of entities that can be read -/
def EntsAt (w : World) (ao : Option Addr) (L : List EnE) : Prop := (L = [] ∨ ∃ g o, ao = some ⟨g, o, none⟩ ∧ ∀ (j : Nat) x, L[j]? = some x → w.cell? ⟨g, o + j * 2, none⟩ = some (.int .u32 (x.id : Int)) ∧ w.cell? ⟨g, o + j * 2 + 1, none⟩ = some (.slice x.ao x.C.length x.cap)) ∧ ∀ x ∈ L, Cs w x.ao x.C
theorem EntsAt.quiet {w w' : World} {ao : Option Addr} {L : List EnE} (h : EntsAt w ao L) (hf : Fr Nobody w w') : EntsAt w' ao L := by
  refine ⟨?_, fun x hx => (h.2 x hx).quiet hf⟩
  rcases h.1 with h | ⟨g, o, ha, hc⟩
  · exact .inl h
  · refine .inr ⟨g, o, ha, fun j x hx => ?_⟩
    obtain ⟨h0, h1⟩ := hc j x hx
    have hb := World.block_lt_of_cell? w _ h0
    exact ⟨(hf.cell (p := ⟨g, o + j * 2, none⟩) hb id).trans h0, (hf.cell (p := ⟨g, o + j * 2 + 1, none⟩) hb id).trans h1⟩
theorem EntsAt.at {w : World} {ao : Option Addr} {L : List EnE} (h : EntsAt w ao L) {j : Nat} {x : EnE} (hx : L[j]? = some x) : ∃ g o, ao = some ⟨g, o, none⟩ ∧ w.cell? ⟨g, o + j * 2, none⟩ = some (.int .u32 (x.id : Int)) ∧ w.cell? ⟨g, o + j * 2 + 1, none⟩ = some (.slice x.ao x.C.length x.cap) ∧ Cs w x.ao x.C := by
  rcases h.1 with h0 | ⟨g, o, ha, hc⟩
  · subst h0; simp at hx
  · exact ⟨g, o, ha, (hc j x hx).1, (hc j x hx).2, h.2 x (List.mem_of_getElem? hx)⟩
theorem Own.entsAt {w0 w : World} {l : List Thing} {ao : Option Addr} {cap : Nat} {L : List EnE} (h : Own w0 w (EntsT ao cap L :: l)) : EntsAt w ao L := by
  refine ⟨?_, fun x hx => ?_⟩
  · rcases Nat.eq_zero_or_pos L.length with h0 | h0
    · exact .inl (List.eq_nil_of_length_eq_zero h0)
    · obtain ⟨x0, hx0⟩ : ∃ x, L[0]? = some x := ⟨_, List.getElem?_eq_getElem h0⟩
      obtain ⟨⟨g, hg, _, _⟩, _⟩ := h.entAt hx0
      refine .inr ⟨g, 0, hg, fun j x hx => ?_⟩
      obtain ⟨⟨g', hg', h1, h2⟩, _⟩ := h.entAt hx
      rw [hg] at hg'
      cases hg'
      rw [Nat.zero_add]
      exact ⟨h1, h2⟩
  · obtain ⟨j, hj⟩ := List.getElem?_of_mem hx
    exact (h.entAt hj).2
/-- what they are -/
def evs (L : List EnE) : List En := L.map (fun x => (x.id, x.C))
theorem evs_len (L : List EnE) : (evs L).length = L.length := by simp [evs]
theorem evs_at {L : List EnE} {j : Nat} {x : EnE} (h : L[j]? = some x) : (evs L)[j]? = some (x.id, x.C) := by simp [evs, h]
/-- numbers and kinds within their types -/
def EIn (L : List EnE) : Prop := ∀ x ∈ L, x.id < 4294967296 ∧ ∀ q ∈ x.C, q.k < 256
/-- how many components -/
def csz : List EnE → Nat
  | [] => 0
  | x :: t => x.C.length + csz t
theorem csz_append (A B : List EnE) : csz (A ++ B) = csz A + csz B := by
  induction A with
  | nil => simp [csz]
  | cons x t ih => simp only [List.cons_append, csz, ih]; omega
theorem csz_take {L : List EnE} {j : Nat} {x : EnE} (h : L[j]? = some x) : csz (L.take (j + 1)) = csz (L.take j) + x.C.length := by
  rw [List.take_add_one, h, csz_append]; simp [csz]
theorem csz_take_le (L : List EnE) (j : Nat) : csz (L.take j) ≤ csz L := by
  have h := csz_append (L.take j) (L.drop j)
  rw [List.take_append_drop] at h
  omega
theorem csz_mem {L : List EnE} {x : EnE} (h : x ∈ L) : x.C.length ≤ csz L := by
  obtain ⟨j, hj⟩ := List.getElem?_of_mem h
  have h1 := csz_take hj
  have h2 := csz_take_le L (j + 1)
  omega
def esz (L : List EnE) : Nat := L.length + csz L

set_option maxHeartbeats 2000000 in
theorem few_any (w : World) (ao : Option Addr) (n cap : Nat) (L : List EnE) (hn : L.length = n) (h : EntsAt w ao L) (hz : esz L ≤ 1048576) :
    Calls Tryz.prog 14 #[.slice ao n cap] w fun e w' => e = .returned (.bool (decide (esz L ≤ 400))) ∧ Fr Nobody w w' := by
  have HL : Hid (L.length = n ∧ EntsAt w ao L) := ⟨hn, h⟩
  have HZ : Hid (esz L = n + csz L) := by show _ = _; unfold esz; rw [hn]
  have hz1 : n + csz L ≤ 1048576 := by unfold esz at hz; omega
  clear hn h hz
  go_enter Tryz.func14, Tryz.ntmps14
  go_wp2
  go_loopw [3, 10] (fun s c wr => ∃ (j m : Nat), j ≤ n ∧ c = .int .i64 j ∧ s = .int .i64 m ∧ m = n + csz (L.take j) ∧ Fr Nobody w wr) (fun _ c _ => n - (intOf c).toNat)
  case atStart => exact ⟨0, n, Nat.zero_le _, rfl, rfl, by simp [csz], Fr.refl _ _⟩
  case round =>
    obtain ⟨j, m, hj, rfl, rfl, hm, hf⟩ := hrel
    have HF : Hid (Fr Nobody w wr) := hf
    have HM : Hid (m = n + csz (L.take j)) := hm
    have hm2 : m ≤ 1048576 := by have := csz_take_le L j; omega
    clear hf hm
    by_cases hlt : j < n
    · obtain ⟨x, hx⟩ : ∃ x, L[j]? = some x := ⟨_, List.getElem?_eq_getElem (by rw [HL.out.1]; exact hlt)⟩
      obtain ⟨g, o, hao, c0, c1, _⟩ := (HL.out.2.quiet HF.out).at hx
      subst hao
      have HS : Hid (m + x.C.length = n + csz (L.take (j + 1))) := by show _ = _; rw [csz_take hx, HM.out]; omega
      have hs2 : m + x.C.length ≤ 1048576 := by have := csz_take_le L (j + 1); have := HS.out; omega
      have hlt' : (j : Int) < (n : Int) := by omega
      clear hx
      obtain ⟨xi, xa, xc, C⟩ := x
      simp only at c0 c1 HS hs2
      generalize C.length = cl at *
      go_wp2
      go_roundw
      case rel => exact ⟨j + 1, m + cl, by omega, by go_num, by go_num, HS.out, HF.out.alloc _⟩
      case measure => simp [intOf]; omega
    · have hlt' : ¬ (j : Int) < (n : Int) := by omega
      have HT : Hid (esz L = m) := by show _ = _; rw [HZ.out, HM.out, List.take_of_length_le (by rw [HL.out.1]; omega)]
      clear HM
      by_cases h4 : m ≤ 400
      · have h4' : (m : Int) ≤ 400 := by omega
        have HD : Hid (decide (esz L ≤ 400) = true) := by show _ = _; rw [HT.out]; exact decide_eq_true h4
        go_wp2
        go_ret
        exact ⟨by rw [HD.out]; simp, HF.out⟩
      · have h4' : ¬ (m : Int) ≤ 400 := by omega
        have HD : Hid (decide (esz L ≤ 400) = false) := by show _ = _; rw [HT.out]; exact decide_eq_false h4
        go_wp2
        go_ret
        exact ⟨by rw [HD.out]; simp, HF.out⟩
end Go.Proofs.YtlncgkbgelejmaaGreatDoor


/-
  Where a delta leads.
-/
namespace Go.Proofs.YtlncgkbgelejmaaGreatDoor
open Go.RowKit
set_option linter.unusedVariables false
set_option maxRecDepth 100000

theorem lost_val (A B : List Cp) : lostm A B = val (hasK A 0 && !hasK B 0) (hasK A 1 && !hasK B 1) (hasK A 2 && !hasK B 2) (hasK A 3 && !hasK B 3) (hasK A 4 && !hasK B 4) (hasK A 5 && !hasK B 5) := by
  unfold lostm val
  simp only [lostN]
  generalize (hasK A 0 && !hasK B 0) = a
  generalize (hasK A 1 && !hasK B 1) = b
  generalize (hasK A 2 && !hasK B 2) = c
  generalize (hasK A 3 && !hasK B 3) = d
  generalize (hasK A 4 && !hasK B 4) = e
  generalize (hasK A 5 && !hasK B 5) = f
  cases a <;> cases b <;> cases c <;> cases d <;> cases e <;> cases f <;> rfl
def nthB (a b c d e f : Bool) (k : Nat) : Bool := match k with
  | 0 => a
  | 1 => b
  | 2 => c
  | 3 => d
  | 4 => e
  | _ => f
theorem val_and : ∀ (k : Fin 6) (a b c d e f : Bool), decide (2 ^ k.1 &&& val a b c d e f = 0) = !nthB a b c d e f k.1 := by decide
theorem val_zero : ∀ (k : Fin 6) (a b c d e f : Bool), val a b c d e f = 0 → nthB a b c d e f k.1 = false := by decide
theorem nth_lost (A B : List Cp) (k : Nat) (hk : k < 6) : nthB (hasK A 0 && !hasK B 0) (hasK A 1 && !hasK B 1) (hasK A 2 && !hasK B 2) (hasK A 3 && !hasK B 3) (hasK A 4 && !hasK B 4) (hasK A 5 && !hasK B 5) k = (hasK A k && !hasK B k) := by
  have : k = 0 ∨ k = 1 ∨ k = 2 ∨ k = 3 ∨ k = 4 ∨ k = 5 := by omega
  rcases this with rfl | rfl | rfl | rfl | rfl | rfl <;> rfl
theorem msk_one (x : Cp) (h : x.k < 6) : msk [x] = 2 ^ x.k := by
  have : x.k = 0 ∨ x.k = 1 ∨ x.k = 2 ∨ x.k = 3 ∨ x.k = 4 ∨ x.k = 5 := by omega
  rw [msk_val]
  simp only [hasK, List.any_cons, List.any_nil, Bool.or_false]
  rcases this with h | h | h | h | h | h <;> simp [h, val]
/-- does it stay? -/
def stays (lost : Nat) (x : Cp) : Bool := decide (msk [x] &&& lost = 0)
theorem stays_lost (A B : List Cp) (x : Cp) (h : x.k < 6) : stays (lostm A B) x = !(hasK A x.k && !hasK B x.k) := by
  unfold stays
  rw [msk_one x h, lost_val, val_and ⟨x.k, h⟩, nth_lost A B x.k h]
theorem lost_zero {A B : List Cp} (h : lostm A B = 0) (k : Nat) (hk : k < 6) (hA : hasK A k = true) : hasK B k = true := by
  rw [lost_val] at h
  have := val_zero ⟨k, hk⟩ _ _ _ _ _ _ h
  rw [nth_lost A B k hk, hA] at this
  simpa using this
theorem fst_some {A : List Cp} {k : Nat} {x : Cp} (h : fst A k = some x) : x ∈ A ∧ x.k = k := by
  unfold fst at h
  exact ⟨List.mem_of_find?_eq_some h, by simpa using List.find?_some h⟩
theorem hasK_fst {A : List Cp} {k : Nat} (h : hasK A k = true) : ∃ x, fst A k = some x := by
  unfold hasK at h
  rw [List.any_eq_true] at h
  obtain ⟨x, hx, e⟩ := h
  cases hf : fst A k with
  | some y => exact ⟨y, rfl⟩
  | none =>
    unfold fst at hf
    rw [List.find?_eq_none] at hf
    exact absurd e (hf x hx)
theorem mem_hasK {A : List Cp} {x : Cp} (h : x ∈ A) : hasK A x.k = true := by
  unfold hasK
  rw [List.any_eq_true]
  exact ⟨x, h, by simp⟩
theorem up_one {A : List Cp} (hA : A.Pairwise (fun x y => x.k < y.k)) {x y : Cp} (hx : x ∈ A) (hy : y ∈ A) (h : x.k = y.k) : x = y := by
  induction A with
  | nil => cases hx
  | cons z t ih =>
    obtain ⟨h1, h2⟩ := List.pairwise_cons.1 hA
    rcases List.mem_cons.1 hx with rfl | hx
    · rcases List.mem_cons.1 hy with rfl | hy
      · rfl
      · have := h1 y hy; omega
    · rcases List.mem_cons.1 hy with e | hy
      · have := h1 x hx; subst e; omega
      · exact ih h2 hx hy
theorem fst_mem {A : List Cp} (hA : A.Pairwise (fun x y => x.k < y.k)) {x : Cp} (hx : x ∈ A) : fst A x.k = some x := by
  obtain ⟨y, hy⟩ := hasK_fst (mem_hasK hx)
  obtain ⟨h1, h2⟩ := fst_some hy
  rw [hy, up_one hA h1 hx h2]
theorem isSet_iff {A : List Cp} {x : Cp} : isSet A x = true ↔ ∃ y, fst A x.k = some y ∧ y ≠ x := by
  unfold isSet
  cases h : fst A x.k with
  | none => simp
  | some y => simp
/-- what it is set to, or itself -/
def lat (S : List Cp) (x : Cp) : Cp := (fst S x.k).getD x
theorem lat_k (S : List Cp) (x : Cp) : (lat S x).k = x.k := by
  unfold lat
  cases h : fst S x.k with
  | none => rfl
  | some y => exact (fst_some h).2
theorem lat_to {A B : List Cp} (hA : Good A) (hB : Good B) {x : Cp} (hx : x ∈ A) (hk : hasK B x.k = true) : fst B x.k = some (lat (B.filter (isSet A)) x) := by
  obtain ⟨y, hy⟩ := hasK_fst hk
  obtain ⟨y1, y2⟩ := fst_some hy
  rw [hy]
  unfold lat
  by_cases e : y = x
  · subst e
    have hn : fst (B.filter (isSet A)) y.k = none := by
      unfold fst
      rw [List.find?_eq_none]
      intro z hz
      obtain ⟨z1, z2⟩ := List.mem_filter.1 hz
      simp only [decide_eq_true_eq]
      intro zk
      have e := up_one hB.1 z1 y1 zk
      subst e
      obtain ⟨u, u1, u2⟩ := isSet_iff.1 z2
      rw [fst_mem hA.1 hx] at u1
      simp only [Option.some.injEq] at u1
      exact u2 u1.symm
    rw [hn]; rfl
  · have hm : y ∈ B.filter (isSet A) := List.mem_filter.2 ⟨y1, isSet_iff.2 ⟨x, by rw [y2]; exact fst_mem hA.1 hx, fun h => e h.symm⟩⟩
    rw [← y2, fst_mem (hB.1.sublist List.filter_sublist) hm]; rfl
def mid (C : List Cp) (c : Chg) : List Cp := (C.filter (stays c.lost)).map (lat c.set) ++ c.new
def ChgR (C : List Cp) (c : Chg) (M : List Cp) : Prop := M.Perm (mid C c) ∧ M.Pairwise (fun a b => a.k ≤ b.k)
theorem mid_to (i j : Nat) {A B : List Cp} (hA : Good A) (hB : Good B) : (mid A (chg1 (i, A) (j, B))).Perm B := by
  have hst : ∀ x ∈ A, stays (lostm A B) x = true ↔ hasK B x.k = true := fun x hx => by
    rw [stays_lost A B x (hA.2 x hx), mem_hasK hx]; simp
  have nk : ∀ {L : List Cp}, (L.map (fun x => x.k)).Nodup → L.Nodup := fun h => (List.pairwise_map.1 h).imp (fun h e => h (by rw [e]))
  have upk : ∀ {L : List Cp}, L.Pairwise (fun x y => x.k < y.k) → (L.map (fun x => x.k)).Nodup := fun h => List.pairwise_map.2 (h.imp (fun h => by omega))
  have hnd : (mid A (chg1 (i, A) (j, B))).Nodup := by
    apply nk
    unfold mid chg1
    simp only [List.map_append, List.map_map]
    have e : (fun x : Cp => x.k) ∘ lat (B.filter (isSet A)) = fun x => x.k := by funext x; exact lat_k _ x
    rw [e]
    rw [List.nodup_append]
    refine ⟨upk (hA.1.sublist List.filter_sublist), upk (hB.1.sublist List.filter_sublist), ?_⟩
    intro a ha b hb hab
    obtain ⟨x, hx, rfl⟩ := List.mem_map.1 ha
    obtain ⟨y, hy, rfl⟩ := List.mem_map.1 hb
    have h1 := mem_hasK (List.mem_filter.1 hx).1
    have h2 := (List.mem_filter.1 hy).2
    unfold isNew at h2
    rw [← hab, h1] at h2
    cases h2
  rw [List.perm_ext_iff_of_nodup hnd (nk (upk hB.1))]
  intro y
  unfold mid chg1
  simp only [List.mem_append, List.mem_map, List.mem_filter]
  constructor
  · rintro (⟨x, ⟨hx, hs⟩, rfl⟩ | ⟨hy, _⟩)
    · exact (fst_some (lat_to hA hB hx ((hst x hx).1 hs))).1
    · exact hy
  · intro hy
    by_cases hk : hasK A y.k = true
    · obtain ⟨x, hx⟩ := hasK_fst hk
      obtain ⟨x1, x2⟩ := fst_some hx
      have hkB : hasK B x.k = true := by rw [x2]; exact mem_hasK hy
      refine .inl ⟨x, ⟨x1, (hst x x1).2 hkB⟩, ?_⟩
      have := lat_to hA hB x1 hkB
      rw [x2, fst_mem hB.1 hy] at this
      simp only [Option.some.injEq] at this
      exact this.symm
    · exact .inr ⟨hy, by unfold isNew; simpa using hk⟩
theorem chgR_to {i j : Nat} {A B M : List Cp} (hA : Good A) (hB : Good B) (h : ChgR A (chg1 (i, A) (j, B)) M) : M = B :=
  sorted_one (fun x => x.k) B M hB.1 h.2 (h.1.trans (mid_to i j hA hB))
theorem nil_same {a b : En} (hA : Good a.2) (hB : Good b.2) (h : (chg1 a b).nil = true) : a.2 = b.2 := by
  unfold Chg.nil chg1 at h
  simp only [Bool.and_eq_true, decide_eq_true_eq, List.isEmpty_iff, List.filter_eq_nil_iff] at h
  obtain ⟨⟨h1, h2⟩, h3⟩ := h
  have key : ∀ y ∈ b.2, y ∈ a.2 := by
    intro y hy
    have e2 := h2 y hy
    have e3 := h3 y hy
    unfold isNew at e2
    obtain ⟨x, hx⟩ := hasK_fst (A := a.2) (k := y.k) (by simpa using e2)
    have : x = y := by
      apply Decidable.byContradiction
      intro hne
      exact e3 (isSet_iff.2 ⟨x, hx, hne⟩)
    rw [← this]
    exact (fst_some hx).1
  refine up_mem (fun x => x.k) hA.1 hB.1 (fun x => ⟨fun hx => ?_, key x⟩)
  obtain ⟨y, hy⟩ := hasK_fst (lost_zero h1 x.k (hA.2 x hx) (mem_hasK hx))
  obtain ⟨y1, y2⟩ := fst_some hy
  rw [← up_one hA.1 (key y y1) hx y2]
  exact y1
theorem same_nil {a : En} {i : Nat} (hA : Good a.2) : (chg1 a (i, a.2)).nil = true := by
  unfold Chg.nil chg1
  simp only [Bool.and_eq_true, decide_eq_true_eq, List.isEmpty_iff, List.filter_eq_nil_iff]
  refine ⟨⟨?_, ?_⟩, ?_⟩
  · rw [lost_val]; simp [val]
  · intro y hy; unfold isNew; rw [mem_hasK hy]; simp
  · intro y hy
    rw [isSet_iff]
    rintro ⟨z, z1, z2⟩
    rw [fst_mem hA.1 hy] at z1
    simp only [Option.some.injEq] at z1
    exact z2 z1.symm
/-- what becomes of those that were there -/
def AftR : List En → List Nat → List Chg → List En → Prop
  | [], _, _, L => L = []
  | x :: t, g, c, L => if g.head? = some x.1 then AftR t g.tail c L else
      match c with
      | [] => ∃ L', L = x :: L' ∧ AftR t g [] L'
      | y :: c' => if y.id = x.1 then ∃ M L', L = (x.1, M) :: L' ∧ ChgR x.2 y M ∧ AftR t g c' L' else ∃ L', L = x :: L' ∧ AftR t g (y :: c') L'
theorem btw_low (W N : List En) (p : Nat) : (∀ x ∈ W, p < x.1) → (∀ x ∈ N, p < x.1) → (∀ g ∈ (btw W N).gone, p < g) ∧ ∀ c ∈ (btw W N).chg, p < c.id := by
  fun_induction btw W N with
  | case1 => intro _ _; simp
  | case2 w ws ih =>
    intro hW hN
    obtain ⟨i1, i2⟩ := ih (fun x hx => hW x (List.mem_cons_of_mem _ hx)) hN
    refine ⟨fun g hg => ?_, i2⟩
    rcases List.mem_cons.1 hg with rfl | hg
    · exact hW w (by simp)
    · exact i1 g hg
  | case3 n ns ih =>
    intro hW hN
    exact ih hW (fun x hx => hN x (List.mem_cons_of_mem _ hx))
  | case4 w ws n ns h ih =>
    intro hW hN
    obtain ⟨i1, i2⟩ := ih (fun x hx => hW x (List.mem_cons_of_mem _ hx)) hN
    refine ⟨fun g hg => ?_, i2⟩
    rcases List.mem_cons.1 hg with rfl | hg
    · exact hW w (by simp)
    · exact i1 g hg
  | case5 w ws n ns h h2 ih =>
    intro hW hN
    exact ih hW (fun x hx => hN x (List.mem_cons_of_mem _ hx))
  | case6 w ws n ns h h2 ih =>
    intro hW hN
    obtain ⟨i1, i2⟩ := ih (fun x hx => hW x (List.mem_cons_of_mem _ hx)) (fun x hx => hN x (List.mem_cons_of_mem _ hx))
    refine ⟨i1, fun c hc => ?_⟩
    unfold addC at hc
    simp only at hc
    split at hc
    · exact i2 c hc
    · rcases List.mem_cons.1 hc with rfl | hc
      · exact hN n (by simp)
      · exact i2 c hc
theorem aft_skip {x : En} {t : List En} {g : List Nat} {c : List Chg} {L : List En} (hg : ∀ y ∈ g, x.1 < y) (hc : ∀ y ∈ c, x.1 < y.id) (h : AftR (x :: t) g c L) : ∃ L', L = x :: L' ∧ AftR t g c L' := by
  unfold AftR at h
  rw [if_neg (by
    intro e
    have := hg x.1 (List.mem_of_head? e)
    omega)] at h
  cases c with
  | nil => exact h
  | cons y c' =>
    simp only at h
    rw [if_neg (by have := hc y (by simp); omega)] at h
    exact h
theorem aft_to (W N : List En) : Snap W → Snap N → ∀ L, AftR W (btw W N).gone (btw W N).chg L → (L ++ (btw W N).come).Perm N := by
  fun_induction btw W N with
  | case1 => intro _ _ L h; unfold AftR at h; subst h; exact List.Perm.refl _
  | case2 w ws ih =>
    intro hW hN L h
    unfold AftR addG at h
    simp only [List.head?_cons, if_true, List.tail_cons] at h
    exact ih hW.tail hN L h
  | case3 n ns ih =>
    intro hW hN L h
    have h1 := ih hW hN.tail L h
    unfold addE
    exact List.perm_middle.trans (List.Perm.cons n h1)
  | case4 w ws n ns h0 ih =>
    intro hW hN L h
    unfold AftR addG at h
    simp only [List.head?_cons, if_true, List.tail_cons] at h
    exact ih hW.tail hN L h
  | case5 w ws n ns h0 h2 ih =>
    intro hW hN L h
    have h1 := ih hW hN.tail L h
    unfold addE
    exact List.perm_middle.trans (List.Perm.cons n h1)
  | case6 w ws n ns h0 h2 ih =>
    intro hW hN L h
    have he : w.1 = n.1 := by omega
    obtain ⟨l1, l2⟩ := btw_low ws ns w.1 (fun x hx => (List.pairwise_cons.1 hW.up).1 x hx) (fun x hx => by rw [he]; exact (List.pairwise_cons.1 hN.up).1 x hx)
    have gw := hW.good w (by simp)
    have gn := hN.good n (by simp)
    unfold addC at h ⊢
    simp only at h ⊢
    split at h
    · rename_i hn
      obtain ⟨L', rfl, h3⟩ := aft_skip l1 l2 h
      have e : w = n := Prod.ext he (nil_same gw gn hn)
      rw [e]
      exact List.Perm.cons n (ih hW.tail hN.tail L' h3)
    · unfold AftR at h
      rw [if_neg (by
        intro e
        have := l1 w.1 (List.mem_of_head? e)
        omega)] at h
      simp only at h
      rw [if_pos (show (chg1 w n).id = w.1 from he.symm)] at h
      obtain ⟨M, L', rfl, h3, h4⟩ := h
      have e : (w.1, M) = n := Prod.ext he (chgR_to (i := w.1) (j := n.1) gw gn h3)
      rw [e]
      exact List.Perm.cons n (ih hW.tail hN.tail L' h4)
/-- WHERE IT LEADS: one that is put upon its own snapshot leads there. -/
theorem aft_one {W N L M : List En} (hW : Snap W) (hN : Snap N) (h : AftR W (btw W N).gone (btw W N).chg L) (hM : M.Perm (L ++ (btw W N).come)) (hs : M.Pairwise (fun a b => a.1 ≤ b.1)) : M = N :=
  sorted_one (fun x : En => x.1) N M hN.up hs (hM.trans (aft_to W N hW hN L h))
theorem btw_self (W : List En) (h : Snap W) : btw W W = ⟨[], [], []⟩ := by
  induction W with
  | nil => unfold btw; rfl
  | cons w t ih =>
    unfold btw
    rw [if_neg (by omega), if_neg (by omega), ih h.tail]
    unfold addC
    rw [if_pos (same_nil (a := w) (i := w.1) (h.good w (by simp)))]
theorem aft_same (W : List En) : AftR W [] [] W := by
  induction W with
  | nil => rfl
  | cons x t ih => unfold AftR; rw [if_neg (by simp)]; exact ⟨t, rfl, ih⟩
theorem btw_empty {W N : List En} (hW : Snap W) (hN : Snap N) (h1 : (btw W N).gone = []) (h2 : (btw W N).come = []) (h3 : (btw W N).chg = []) : W = N := by
  refine aft_one hW hN (L := W) ?_ (by rw [h2, List.append_nil]) (hW.up.imp fun h => by omega)
  rw [h1, h3]
  exact aft_same W
end Go.Proofs.YtlncgkbgelejmaaGreatDoor


/-
  Where the component of a kind stands; changes in lists.
-/
namespace Go.Proofs.YtlncgkbgelejmaaGreatDoor
open Go.RowKit
set_option linter.unusedVariables false
set_option maxRecDepth 100000

set_option maxHeartbeats 400000 in
theorem placeP_any (w : World) (bk k : Nat) (hk : w.cell? ⟨bk, 0, none⟩ = some (.int .u8 (k : Int))) (q : Cp) :
    Calls Tryz.prog 177 #[.agg #[.int .u8 (q.k : Int), .int .i32 q.a, .int .i32 q.b, .int .i32 q.c], .pointer (some ⟨bk, 0, none⟩)] w fun e w' => e = .returned (.bool (decide (q.k = k))) ∧ Fr Nobody w w' := by
  have hlt : bk < w.heap.size := World.block_lt_of_cell? w _ hk
  have hne : bk ≠ w.heap.size := by omega
  have hne2 : w.heap.size ≠ bk := by omega
  by_cases h : q.k = k
  · subst h
    go_enter Tryz.func177, Tryz.ntmps177
    go_wp2
    go_ret
    exact ⟨by simp, (Fr.refl _ _).alloc _⟩
  · have h' : ((q.k : Int) == (k : Int)) = false := by simp; omega
    rw [decide_eq_false h]
    go_enter Tryz.func177, Tryz.ntmps177
    go_wp2
    go_ret
    exact ⟨rfl, (Fr.refl _ _).alloc _⟩
/-- where the component of a kind stands, or -1 -/
def PlR (C : List Cp) (k : Nat) (r : Int) : Prop := (r = -1 ∧ fst C k = none) ∨ ∃ (j : Nat) (q : Cp), r = (j : Int) ∧ C[j]? = some q ∧ fst C k = some q
theorem fst_hit {C : List Cp} {j k : Nat} {q : Cp} (hq : C[j]? = some q) (hn : fst (C.take j) k = none) (h : q.k = k) : fst C k = some q := by
  have hj := List.getElem?_eq_some_iff.1 hq
  have e : C = C.take j ++ q :: C.drop (j + 1) := by
    rw [← hj.2, ← List.drop_eq_getElem_cons hj.1, List.take_append_drop]
  unfold fst at hn ⊢
  rw [e, List.find?_append, hn]
  simp [h]
theorem fst_miss {C : List Cp} {j k : Nat} {q : Cp} (hq : C[j]? = some q) (hn : fst (C.take j) k = none) (h : q.k ≠ k) : fst (C.take (j + 1)) k = none := by
  unfold fst at hn ⊢
  rw [take_snoc C j q hq, List.find?_append, hn]
  simp [h]
set_option maxHeartbeats 2000000 in
theorem idxK_any (w : World) (ao : Option Addr) (n cap : Nat) (C : List Cp) (hn : C.length = n) (hs : Cs w ao C) (hm : n ≤ 2097152) (bk k : Nat) (hk : w.cell? ⟨bk, 0, none⟩ = some (.int .u8 (k : Int))) :
    Calls Tryz.prog 124 #[.slice ao n cap, .func (.func 177) #[] #[.pointer (some ⟨bk, 0, none⟩)]] w fun e w' => ∃ r : Int, e = .returned (.int .i64 r) ∧ PlR C k r ∧ Fr Nobody w w' := by
  have HL : Hid (C.length = n ∧ Cs w ao C ∧ w.cell? ⟨bk, 0, none⟩ = some (.int .u8 (k : Int)) ∧ bk < w.heap.size) := ⟨hn, hs, hk, World.block_lt_of_cell? w _ hk⟩
  clear hn hs hk
  go_enter Tryz.func124, Tryz.ntmps124
  go_wp2
  go_loopw [8] (fun cc wr => ∃ j : Nat, j ≤ n ∧ cc = .int .i64 j ∧ Fr Nobody w wr ∧ fst (C.take j) k = none) (fun cc _ => n - (intOf cc).toNat)
  case atStart => exact ⟨0, Nat.zero_le _, rfl, Fr.refl _ _, by simp [fst]⟩
  case round =>
    obtain ⟨j, hj, rfl, hf, hno⟩ := hrel
    have HF : Hid (Fr Nobody w wr) := hf
    have HN : Hid (fst (C.take j) k = none) := hno
    clear hf hno
    by_cases hlt : j < n
    · obtain ⟨q, hq⟩ : ∃ q, C[j]? = some q := ⟨_, List.getElem?_eq_getElem (by rw [HL.out.1]; exact hlt)⟩
      obtain ⟨g, o, hao, _, c0, c1, c2, c3⟩ := (HL.out.2.1.quiet HF.out).at j q hq
      subst hao
      have hlt' : (j : Int) < (n : Int) := by omega
      have HP : Hid (Calls _ _ _ _ _) := placeP_any wr bk k ((HF.out.cell (p := ⟨bk, 0, none⟩) HL.out.2.2.2 id).trans HL.out.2.2.1) q
      have HQ : Hid (C[j]? = some q) := hq
      clear hq
      by_cases he : q.k = k
      · have HH : Hid (PlR C k (j : Int)) := .inr ⟨j, q, rfl, HQ.out, fst_hit HQ.out HN.out he⟩
        rw [decide_eq_true he] at HP
        clear he HQ
        obtain ⟨qk, qa, qb, qc⟩ := q
        simp only at c0 c1 c2 c3 HP
        go_wp2_with fail
        refine HP.out.mono ?_
        rintro e w2 ⟨rfl, hf⟩
        have HF2 : Hid (Fr Nobody w w2) := HF.out.trans hf
        clear hf HP
        go_wp2
        go_ret
        exact ⟨(j : Int), rfl, HH.out, HF2.out⟩
      · have HH : Hid (fst (C.take (j + 1)) k = none) := fst_miss HQ.out HN.out he
        rw [decide_eq_false he] at HP
        clear he HQ
        obtain ⟨qk, qa, qb, qc⟩ := q
        simp only at c0 c1 c2 c3 HP
        go_wp2_with fail
        refine HP.out.mono ?_
        rintro e w2 ⟨rfl, hf⟩
        have HF2 : Hid (Fr Nobody w w2) := HF.out.trans hf
        clear hf HP
        go_wp2
        go_roundw
        case rel => exact ⟨j + 1, by omega, by go_num, HF2.out, HH.out⟩
        case measure => simp [intOf]; omega
    · have hlt' : ¬ (j : Int) < (n : Int) := by omega
      have HU : Hid (PlR C k (-1)) := .inl ⟨rfl, by have := HN.out; rw [List.take_of_length_le (by rw [HL.out.1]; omega)] at this; exact this⟩
      go_wp2
      go_ret
      exact ⟨-1, rfl, HU.out, HF.out⟩
set_option maxHeartbeats 1000000 in
theorem place_any (w : World) (ao : Option Addr) (n cap : Nat) (C : List Cp) (hn : C.length = n) (hs : Cs w ao C) (hm : n ≤ 2097152) (k : Nat) :
    Calls Tryz.prog 156 #[.slice ao n cap, .int .u8 (k : Int)] w fun e w' => ∃ r : Int, e = .returned (.int .i64 r) ∧ PlR C k r ∧ Fr Nobody w w' := by
  have h0 := ((Own.start w).allocC #[.int .u8 (k : Int)] 5).cell 0
  have HI : Hid (Calls _ _ _ _ _) := idxK_any (w.alloc (.cells #[.int .u8 (k : Int)] 5)) ao n cap C hn (hs.quiet ((Fr.refl _ _).alloc _)) hm w.heap.size k h0
  have HF : Hid (Fr Nobody w (w.alloc (.cells #[.int .u8 (k : Int)] 5))) := (Fr.refl _ _).alloc _
  clear hn hs h0
  go_enter Tryz.func156, Tryz.ntmps156
  go_wp2_with fail
  refine HI.out.mono ?_
  rintro e w2 ⟨r, rfl, hr, hf⟩
  have HR : Hid (PlR C k r) := hr
  have HF2 : Hid (Fr Nobody w w2) := HF.out.trans hf
  clear hf HI hr
  go_wp2
  go_ret
  exact ⟨r, rfl, HR.out, HF2.out⟩
/-- a change in a list: its parts, and where they lie -/
structure ChE where
  id : Nat
  lost : Nat
  N : List Cp
  na : Option Addr
  nc : Nat
  S : List Cp
  sa : Option Addr
  sc : Nat
def ChE.cs (x : ChE) : List Value := [.int .u32 (x.id : Int), .int .u8 (x.lost : Int), .slice x.na x.N.length x.nc, .slice x.sa x.S.length x.sc]
def ChE.v (x : ChE) : Chg := ⟨x.id, x.lost, x.N, x.S⟩
def ChE.nrow (x : ChE) : Thing := Row 69 4 (.slice x.na x.N.length x.nc) x.N.length (ccat x.N)
def ChE.srow (x : ChE) : Thing := Row 69 4 (.slice x.sa x.S.length x.sc) x.S.length (ccat x.S)
def ChE.rows (x : ChE) : List Thing := [x.nrow, x.srow]
theorem Tryz.infoChg : (Tryz.prog.info? 62).map (fun i => (i.zero, i.size, i.bytes)) = some (some (.agg #[.int .u32 0, .int .u8 0, .slice none 0 0, .slice none 0 0]), 4, 56) := by kernel_rfl
end Go.Proofs.YtlncgkbgelejmaaGreatDoor


/-
  Components, entities, lists of entities: are they alike?
-/
namespace Go.Proofs.YtlncgkbgelejmaaGreatDoor
open Go.RowKit
set_option linter.unusedVariables false
set_option maxRecDepth 100000

theorem cp_eq (x y : Cp) : ((((x.k : Int) == (y.k : Int))) && ((x.a == y.a) && (x.b == y.b) && (x.c == y.c))) = decide (x = y) := by
  rw [Bool.eq_iff_iff]
  cases x; cases y
  simp
  omega
theorem take_ne {α : Type} [DecidableEq α] {A B : List α} {k : Nat} {x y : α} (hx : A[k]? = some x) (hy : B[k]? = some y) (h : decide (x = y) = false) : decide (A = B) = false := by
  apply decide_eq_false
  intro e
  rw [e, hy] at hx
  have : y = x := by simpa using hx
  exact of_decide_eq_false h this.symm
theorem take_eq {α : Type} [DecidableEq α] {A B : List α} {k : Nat} {x y : α} (hx : A[k]? = some x) (hy : B[k]? = some y) (h : decide (x = y) = true) (ht : A.take k = B.take k) : A.take (k + 1) = B.take (k + 1) := by
  rw [List.take_add_one, List.take_add_one, hx, hy, ht, of_decide_eq_true h]
theorem take_all {α : Type} [DecidableEq α] {A B : List α} {k : Nat} (hA : A.length ≤ k) (hB : B.length ≤ k) (ht : A.take k = B.take k) : decide (A = B) = true := by
  rw [List.take_of_length_le hA, List.take_of_length_le hB] at ht
  exact decide_eq_true ht
theorem len_ne {α : Type} [DecidableEq α] {A B : List α} (h : A.length ≠ B.length) : decide (A = B) = false := decide_eq_false (fun e => h (by rw [e]))
set_option maxHeartbeats 2000000 in
theorem eqCs_p (w : World) (a1 a2 : Option Addr) (n1 n2 c1 c2 : Nat) (A B : List Cp) (h1 : Cs w a1 A) (h2 : Cs w a2 B) (hn1 : A.length = n1) (hn2 : B.length = n2) (hm1 : n1 ≤ 2097152) (hm2 : n2 ≤ 2097152) :
    Calls Tryz.prog 175 #[.slice a1 n1 c1, .slice a2 n2 c2] w fun e w' => e = .returned (.bool (decide (A = B))) ∧ Fr Nobody w w' := by
  by_cases hne : n1 = n2
  · have H1 : Hid (Cs w a1 A ∧ Cs w a2 B ∧ A.length = n1 ∧ B.length = n1) := ⟨h1, h2, hn1, by rw [hn2, hne]⟩
    rw [← hne]
    clear h1 h2 hn1 hn2 hne hm2
    have hne' : ((n1 : Int) != (n1 : Int)) = false := by simp
    go_enter Tryz.func175, Tryz.ntmps175
    go_wp2
    clear hne'
    go_loopw [13] (fun cc wr => ∃ k : Nat, k ≤ n1 ∧ cc = .int .i64 k ∧ Fr Nobody w wr ∧ A.take k = B.take k) (fun cc _ => n1 - (intOf cc).toNat)
    case atStart => exact ⟨0, Nat.zero_le _, rfl, Fr.refl _ _, by simp⟩
    case round =>
      obtain ⟨k, hk, rfl, hf, heq⟩ := hrel
      have HF : Hid (Fr Nobody w wr) := hf
      have HE : Hid (A.take k = B.take k) := heq
      clear hf heq
      by_cases hlt : k < n1
      · obtain ⟨x, hx⟩ : ∃ x, A[k]? = some x := ⟨_, List.getElem?_eq_getElem (by rw [H1.out.2.2.1]; exact hlt)⟩
        obtain ⟨y, hy⟩ : ∃ y, B[k]? = some y := ⟨_, List.getElem?_eq_getElem (by rw [H1.out.2.2.2]; exact hlt)⟩
        obtain ⟨g1, o1, hg1, _, p0, p1, p2, p3⟩ := (H1.out.1.quiet HF.out).at k x hx
        obtain ⟨g2, o2, hg2, _, q0, q1, q2, q3⟩ := (H1.out.2.1.quiet HF.out).at k y hy
        subst hg1 hg2
        have hlt' : (k : Int) < (n1 : Int) := by omega
        have HXY : Hid (A[k]? = some x ∧ B[k]? = some y) := ⟨hx, hy⟩
        obtain ⟨r0, e0⟩ : ∃ r, ((x.k : Int) == (y.k : Int)) = r := ⟨_, rfl⟩
        obtain ⟨r1, e1⟩ : ∃ r, ((x.a == y.a) && (x.b == y.b) && (x.c == y.c)) = r := ⟨_, rfl⟩
        have HD : Hid (decide (x = y) = (r0 && r1)) := by show _ = _; rw [← cp_eq, e0, e1]
        have eqa : ∀ d w, (Op.equalIn (d + 1 + 1) 67 (.agg #[.int .i32 x.a, .int .i32 x.b, .int .i32 x.c]) (.agg #[.int .i32 y.a, .int .i32 y.b, .int .i32 y.c])).run Tryz.prog w = .ok r1 w := fun d w => by rw [eq_a3, e1]
        clear hx hy e1
        obtain ⟨xk, xa, xb, xc⟩ := x
        obtain ⟨yk, ya, yb, yc⟩ := y
        simp only at p0 p1 p2 p3 q0 q1 q2 q3 e0 eqa
        by_cases hb : (r0 && r1) = true
        · obtain ⟨rfl, rfl⟩ : r0 = true ∧ r1 = true := by simpa using hb
          have HN : Hid (A.take (k + 1) = B.take (k + 1)) := take_eq HXY.out.1 HXY.out.2 HD.out HE.out
          go_wp2
          go_quiet (fail)
          go_wp2
          go_roundw
          case rel => exact ⟨k + 1, by omega, by go_num, HF.out.drewN _, HN.out⟩
          case measure => simp [intOf]; omega
        · have HN : Hid (decide (A = B) = false) := take_ne HXY.out.1 HXY.out.2 (by rw [HD.out]; simpa using hb)
          have hb2 : (r0 && r1) = false := by simpa using hb
          have hc : r0 = false ∨ (r0 = true ∧ r1 = false) := by cases r0 <;> cases r1 <;> simp at hb2 ⊢
          clear hb hb2
          rcases hc with rfl | ⟨rfl, rfl⟩
          all_goals
            go_wp2
            go_quiet (fail)
            go_wp2
            go_ret
            exact ⟨by rw [HN.out]; rfl, HF.out.drewN _⟩
      · have hlt' : ¬ (k : Int) < (n1 : Int) := by omega
        have HN : Hid (decide (A = B) = true) := take_all (by rw [H1.out.2.2.1]; omega) (by rw [H1.out.2.2.2]; omega) HE.out
        go_wp2
        go_ret
        exact ⟨by rw [HN.out]; rfl, HF.out⟩
  · have HN : Hid (decide (A = B) = false) := len_ne (by rw [hn1, hn2]; exact hne)
    have hne' : ((n1 : Int) != (n2 : Int)) = true := by rw [bne_iff_ne]; omega
    clear h1 h2 hn1 hn2 hne
    go_enter Tryz.func175, Tryz.ntmps175
    go_wp2
    go_ret
    exact ⟨by rw [HN.out]; rfl, Fr.refl _ _⟩
set_option maxHeartbeats 1000000 in
theorem eqEn_p (w : World) (i1 i2 : Nat) (a1 a2 : Option Addr) (n1 n2 c1 c2 : Nat) (A B : List Cp) (h1 : Cs w a1 A) (h2 : Cs w a2 B) (hn1 : A.length = n1) (hn2 : B.length = n2) (hm1 : n1 ≤ 2097152) (hm2 : n2 ≤ 2097152) :
    Calls Tryz.prog 174 #[.agg #[.int .u32 (i1 : Int), .slice a1 n1 c1], .agg #[.int .u32 (i2 : Int), .slice a2 n2 c2]] w fun e w' => e = .returned (.bool (decide ((i1, A) = (i2, B)))) ∧ Fr Nobody w w' := by
  have HF : Hid (Fr Nobody w ((w.alloc (.cells #[.int .u32 (i1 : Int), .slice a1 n1 c1] 71)).alloc (.cells #[.int .u32 (i2 : Int), .slice a2 n2 c2] 71))) := ((Fr.refl _ _).alloc _).alloc _
  have HS : Hid (Calls _ _ _ _ _) := eqCs_p _ a1 a2 n1 n2 c1 c2 A B (h1.quiet HF.out) (h2.quiet HF.out) hn1 hn2 hm1 hm2
  by_cases hi : i1 = i2
  · have HD : Hid (decide ((i1, A) = (i2, B)) = decide (A = B)) := by show _ = _; simp [hi]
    have hii : ((i1 : Int) == (i2 : Int)) = true := by simp [hi]
    generalize decide (A = B) = r at *
    clear h1 h2 hn1 hn2 hi
    go_enter Tryz.func174, Tryz.ntmps174
    go_wp2_with fail
    refine HS.out.mono ?_
    rintro e w1 ⟨rfl, hf⟩
    have H1 : Hid (Fr Nobody w w1) := HF.out.trans hf
    clear hf HS
    go_wp2
    go_ret
    exact ⟨by rw [HD.out]; rfl, H1.out⟩
  · have HD : Hid (decide ((i1, A) = (i2, B)) = false) := by show _ = _; simp [hi]
    have hii : ((i1 : Int) == (i2 : Int)) = false := by simp; omega
    clear h1 h2 hn1 hn2 hi HS
    go_enter Tryz.func174, Tryz.ntmps174
    go_wp2
    go_ret
    exact ⟨by rw [HD.out]; rfl, HF.out⟩
end Go.Proofs.YtlncgkbgelejmaaGreatDoor


/-
  Lists of entities of their own: the document's Twins, the program's Copy.
-/
namespace Go.Proofs.YtlncgkbgelejmaaGreatDoor
open Go.RowKit
set_option linter.unusedVariables false
set_option maxRecDepth 100000

theorem Own.dropA {w0 w : World} {A l : List Thing} (h : Own w0 w (A ++ l)) : Own w0 w l := by
  induction A with
  | nil => exact h
  | cons a t ih => exact ih h.tail
theorem step_cs {w0 w : World} {l : List Thing} {ops : Array Oper} {o : Oper} {a : Act} {K : Act → World → Prop} {Q : Exit → Act → World → Prop} {E : Prop} (hgd : o.guard = none) (sx x : Operand)
    (ho : o.op = .call { callee := .builtin .append, args := #[sx, x], argTypes := #[60, 60] })
    (i : TypeInfo) (hi : Tryz.prog.info? 69 = some i) (z : Value) (hz : i.zero = some z) (hsize : i.size = 4) (hby : i.bytes = 16) (hzs : z.cells.size = 4)
    (v : Value) (n : Nat) (xs : List Value) (hs : a.eval sx = v) (xa : Option Addr) (m xc : Nat) (C : List Cp) (hx : a.eval x = .slice xa m xc) (hC : C.length = m) (hc : Cs w xa C) (hown : Own w0 w (Row 69 4 v n xs :: l))
    (h63 : n + m ≤ maxLen) (hbytes : (n + m) * 16 ≤ 140737488355328)
    (h : ∀ ao cap w', Own w0 w' (Row 69 4 (.slice ao (n + m) cap) (n + m) (xs ++ ccat C) :: l) → K (a.put o.dst (.slice ao (n + m) cap)) w') :
    if Region.wanted o (yielded ops a.tmps) = true then Oper.wp Tryz.prog o a w K Q else E := by
  have hw : Region.wanted o (yielded ops a.tmps) = true := by simp [Region.wanted, hgd]
  rw [if_pos hw]
  rcases Nat.eq_zero_or_pos m with h0 | h0
  · subst h0
    have hy : C = [] := List.eq_nil_of_length_eq_zero hC
    subst hy
    obtain ⟨va, vc, rfl⟩ := row_any hown.row
    have hr := run_append_empty (P := Tryz.prog) w 0 60 o.type 69 i 4 Tryz.underlying60 hi _ n xs hown.row xa xc
    unfold Oper.wp
    simp [execOp, ho, resolve, invoke, builtin, hs, hx, hr, Result.andThen]
    have := h va vc w (by simpa [ccat, cat] using hown)
    simp at this
    exact this
  · rcases hc with hc | ⟨g, o', rfl, hc⟩
    · subst hc; simp at hC; omega
    refine wp_append_lies w sx x 60 ho 0 69 i z 4 16 Tryz.underlying60 hi hz hsize hby hzs (by decide) v n xs hs hown.row ⟨g, o', none⟩ m xc (ccat C) hx (by rw [length_ccat, hC]) (Cs.cells hc) (one_cat Cp.cs cs_one C) h0 h63 hbytes (Nat.zero_le _) _ rfl ?_
    intro g' cap' w' h2 h3 h4 h5
    refine h _ _ w' (hown.grow h2 h3 (fun k hk => ?_))
    have hk' : g' = k := by simpa [Value.ownBlock] using hk
    subst hk'
    rcases h4 with h4 | h4
    · exact .inl h4
    · exact .inr (by omega)

set_option maxHeartbeats 8000000 in
theorem rtwins_any (w0 w : World) (l : List Thing) (h : Own w0 w l) (ae : Option Addr) (n ce : Nat) (L : List EnE) (hQ : ∀ w', Own w0 w' l → EntsAt w' ae L) (hn : L.length = n) (hz : esz L ≤ 1000000) :
    Calls Tryz.prog 10 #[.slice ae n ce] w fun e w' => ∃ (ao : Option Addr) (cap : Nat), e = .returned (.slice ao n cap) ∧ ∃ M : List EnE, M.length = n ∧ evs M = evs L ∧ Own w0 w' (EntsT ao cap M :: l) := by
  obtain ⟨i0, hi, hz0, hz1, hz2⟩ := info3w Tryz.infoEnt
  obtain ⟨i1, hi1, hy0, hy1, hy2⟩ := info_parts Tryz.infoComp
  have HN : Hid (L.length = n) := hn
  have HQ : Hid (∀ w', Own w0 w' l → EntsAt w' ae L) := hQ
  have HC : Hid (∀ x ∈ L, x.C.length ≤ 1000000) := fun x hx => by have := csz_mem hx; unfold esz at hz; omega
  have hl : n ≤ 1000000 := by unfold esz at hz; omega
  have H : Hid (Own w0 w l) := h
  clear h hn hQ hz
  go_enter Tryz.func10, Tryz.ntmps10
  go_wp2
  go_loopw [3, 8] (fun vo vi wr => ∃ (j : Nat) (M : List EnE) (ao : Option Addr) (cap : Nat), j ≤ n ∧ vi = .int .i64 (j : Int) ∧ vo = .slice ao j cap ∧ M.length = j ∧ evs M = evs (L.take j) ∧ Own w0 wr (Row 71 2 (.slice ao j cap) j (cat EnE.cs M) :: (M.map erow ++ l))) (fun _ vi _ => n - (intOf vi).toNat)
  case atStart => exact ⟨0, [], none, 0, Nat.zero_le _, rfl, rfl, rfl, rfl, H.out.nilRow _ _⟩
  case round =>
    obtain ⟨j, M, ao, cap, hj, rfl, rfl, hMl, hM, hO⟩ := hrel
    have HM : Hid (M.length = j ∧ evs M = evs (L.take j)) := ⟨hMl, hM⟩
    clear H hMl hM
    by_cases hlt : j < n
    · have hlt' : (j : Int) < (n : Int) := by omega
      obtain ⟨x, hx⟩ : ∃ x, L[j]? = some x := ⟨_, List.getElem?_eq_getElem (by rw [HN.out]; exact hlt)⟩
      obtain ⟨g, o, hg, c0, c1, hcs⟩ := (HQ.out wr hO.tail.dropA).at hx
      have hcl := HC.out x (List.mem_of_getElem? hx)
      have hB := hO.allocC #[.int .u32 (x.id : Int), .slice x.ao x.C.length x.cap] 71
      have HTW : Hid (Calls _ _ _ _ _) := twin_any w0 _ _ hB.drew x.ao x.C.length x.cap x.C rfl (hcs.quiet ((Fr.refl _ _).alloc _).drew) hcl
      have HM2 : Hid (∀ a c, evs (M ++ [EnE.mk x.id a c x.C]) = evs (L.take (j + 1))) := by
        intro a c
        have e := HM.out.2
        unfold evs at e ⊢
        rw [List.map_append, e, List.take_add_one, hx]
        simp
      subst hg
      obtain ⟨xi, xa, xc, C⟩ := x
      simp only at c0 c1 HTW HM2
      have HB : Hid (Own w0 _ _) := hB
      generalize hcl2 : C.length = cl at *
      have HCL : Hid (C.length = cl) := hcl2
      clear hO hB hx hcs hcl2
      go_wp2
      generalize hWg : wr.alloc (.cells #[.int .u32 (xi : Int), .slice xa cl xc] 71) = W1 at *
      generalize wr.heap.size = b5 at *
      clear hWg c0 c1
      have p0 := HB.out.cell 0
      have p1 := HB.out.cell 1
      simp at p0 p1
      go_region_held3 (fun w' => w'.cell? ⟨b5, 0, none⟩ = some (.int .u32 (xi : Int)) ∧ w'.cell? ⟨b5, 1, none⟩ = some (.slice xa cl xc)) (go_keep)
        (first
          | (go_at_call 38; refine HTW.out.mono ?_; rintro e w5 ⟨a5, c5, rfl, h5⟩
             have u0 := h5.two.cell 0
             have u1 := h5.two.cell 1
             simp at u0 u1
             have h5b := h5.three.alloc (.cells #[.int .u32 (xi : Int), .slice a5 cl c5] 71)
             have h5c := (h5.litRow #[.int .u32 (xi : Int), .slice a5 cl c5] 71 2 1 (by decide) rfl).row
             have v0 := h5b.three.cell 0
             have v1 := h5b.three.cell 1
             simp at v0 v1
             have H5 : Hid (Own w0 _ _) := h5b
             have H5C : Hid (World.ownsRow _ _ _ _ _ _ _) := h5c
             clear h5 h5b h5c)
          | (refine step_allW rfl _ _ 25 rfl 71 i0 (.agg #[.int .u32 0, .slice none 0 0]) 2 32 Tryz.underlying25 hi hz0 hz1 hz2 rfl (by decide) _ _ _ rfl _ _ _ _ rfl H5.out H5C.out (by intro u hu; simp at hu; rcases hu with rfl | rfl <;> rfl) (by unfold maxLen; omega) (by omega) ?_
             intro g6 c6 w6 hO6
             have t0 := hO6.three.cell 0
             have t1 := hO6.three.cell 1
             simp at t0 t1
             have H6 : Hid (Own w0 w6 _) := hO6
             clear hO6))
      have H7 : Hid (Own w0 w6 (Row 71 2 (.slice g6 (j + 1) c6) (j + 1) (cat EnE.cs (M ++ [EnE.mk xi a5 c5 C])) :: ((M ++ [EnE.mk xi a5 c5 C]).map erow ++ l))) := by
        have e1 : cat EnE.cs (M ++ [EnE.mk xi a5 c5 C]) = cat EnE.cs M ++ [.int .u32 (xi : Int), .slice a5 cl c5] := by
          rw [cat_append]
          congr 1
          simp [cat, EnE.cs, HCL.out]
        have e2 : (M ++ [EnE.mk xi a5 c5 C]).map erow ++ l = M.map erow ++ (Row 69 4 (.slice a5 cl c5) cl (ccat C) :: l) := by
          simp [erow, HCL.out]
        show Own _ _ _
        rw [e1, e2]
        have h8 := H6.out.three.tail
        exact h8.perm (List.Perm.cons _ List.perm_middle.symm)
      clear H6 H5 H5C HTW HB u0 u1 v0 v1 t0 t1 p0 p1
      go_wp2
      go_roundw
      case rel => exact ⟨j + 1, M ++ [EnE.mk xi a5 c5 C], g6, c6, by omega, by go_num, rfl, by rw [List.length_append, HM.out.1]; rfl, HM2.out a5 c5, H7.out⟩
      case measure => simp [intOf]; omega
    · have hlt' : ¬ (j : Int) < (n : Int) := by omega
      have hjn : j = n := by omega
      subst hjn
      have HF : Hid (evs M = evs L) := by
        have := HM.out.2
        rw [List.take_of_length_le (by rw [HN.out]; exact Nat.le_refl _)] at this
        exact this
      have HE : Hid (Own w0 wr (EntsT ao cap M :: l)) := by
        have h1 := hO
        rw [← HM.out.1] at h1
        exact Own.ents h1
      clear hO
      go_wp2
      go_ret
      exact ⟨ao, cap, rfl, M, HM.out.1, HF.out, HE.out⟩

set_option maxHeartbeats 8000000 in
theorem copy_any (w0 w : World) (l : List Thing) (h : Own w0 w l) (ae : Option Addr) (n ce : Nat) (L : List EnE) (hQ : ∀ w', Own w0 w' l → EntsAt w' ae L) (hn : L.length = n) (hz : esz L ≤ 1000000) :
    Calls Tryz.prog 129 #[.slice ae n ce] w fun e w' => ∃ (ao : Option Addr) (cap : Nat), e = .returned (.slice ao n cap) ∧ ∃ M : List EnE, M.length = n ∧ evs M = evs L ∧ Own w0 w' (EntsT ao cap M :: l) := by
  obtain ⟨i0, hi, hz0, hz1, hz2⟩ := info3w Tryz.infoEnt
  obtain ⟨i1, hi1, hy0, hy1, hy2⟩ := info_parts Tryz.infoComp
  have HN : Hid (L.length = n) := hn
  have HQ : Hid (∀ w', Own w0 w' l → EntsAt w' ae L) := hQ
  have HC : Hid (∀ x ∈ L, x.C.length ≤ 1000000) := fun x hx => by have := csz_mem hx; unfold esz at hz; omega
  have hl : n ≤ 1000000 := by unfold esz at hz; omega
  have H : Hid (Own w0 w l) := h
  clear h hn hQ hz
  go_enter Tryz.func129, Tryz.ntmps129
  go_wp2
  go_loopw [3, 8] (fun vo vi wr => ∃ (j : Nat) (M : List EnE) (ao : Option Addr) (cap : Nat), j ≤ n ∧ vi = .int .i64 (j : Int) ∧ vo = .slice ao j cap ∧ M.length = j ∧ evs M = evs (L.take j) ∧ Own w0 wr (Row 71 2 (.slice ao j cap) j (cat EnE.cs M) :: (M.map erow ++ l))) (fun _ vi _ => n - (intOf vi).toNat)
  case atStart => exact ⟨0, [], none, 0, Nat.zero_le _, rfl, rfl, rfl, rfl, H.out.nilRow _ _⟩
  case round =>
    obtain ⟨j, M, ao, cap, hj, rfl, rfl, hMl, hM, hO⟩ := hrel
    have HM : Hid (M.length = j ∧ evs M = evs (L.take j)) := ⟨hMl, hM⟩
    clear H hMl hM
    by_cases hlt : j < n
    · have hlt' : (j : Int) < (n : Int) := by omega
      obtain ⟨x, hx⟩ : ∃ x, L[j]? = some x := ⟨_, List.getElem?_eq_getElem (by rw [HN.out]; exact hlt)⟩
      obtain ⟨g, o, hg, c0, c1, hcs⟩ := (HQ.out wr hO.tail.dropA).at hx
      have hcl := HC.out x (List.mem_of_getElem? hx)
      have hB := hO.allocC #[.int .u32 (x.id : Int), .slice x.ao x.C.length x.cap] 71
      have HTW : Hid (Cs (wr.alloc (.cells #[.int .u32 (x.id : Int), .slice x.ao x.C.length x.cap] 71)).drew x.ao x.C) := hcs.quiet ((Fr.refl _ _).alloc _).drew
      have HM2 : Hid (∀ a c, evs (M ++ [EnE.mk x.id a c x.C]) = evs (L.take (j + 1))) := by
        intro a c
        have e := HM.out.2
        unfold evs at e ⊢
        rw [List.map_append, e, List.take_add_one, hx]
        simp
      subst hg
      obtain ⟨xi, xa, xc, C⟩ := x
      simp only at c0 c1 HTW HM2
      have HB : Hid (Own w0 _ _) := hB
      generalize hcl2 : C.length = cl at *
      have HCL : Hid (C.length = cl) := hcl2
      clear hO hB hx hcs hcl2
      go_wp2
      generalize hWg : wr.alloc (.cells #[.int .u32 (xi : Int), .slice xa cl xc] 71) = W1 at *
      generalize wr.heap.size = b5 at *
      clear hWg c0 c1
      have p0 := HB.out.cell 0
      have p1 := HB.out.cell 1
      simp at p0 p1
      go_region_held3 (fun w' => w'.cell? ⟨b5, 0, none⟩ = some (.int .u32 (xi : Int)) ∧ w'.cell? ⟨b5, 1, none⟩ = some (.slice xa cl xc)) (go_keep)
        (first
          | (refine step_cs rfl _ _ rfl i1 hi1 _ hy0 hy1 hy2 rfl _ 0 [] rfl _ _ _ C rfl HCL.out HTW.out (HB.out.drew.nilRow _ _) (by unfold maxLen; omega) (by omega) ?_
             intro a5 c5 w5 h5r
             have h5 : Own w0 w5 (Row 69 4 (.slice a5 cl c5) cl (ccat C) :: Cells b5 #[.int .u32 (xi : Int), .slice xa cl xc] 71 :: Row 71 2 (.slice ao j cap) j (cat EnE.cs M) :: (M.map erow ++ l)) := by simpa using h5r
             clear h5r
             rw [Nat.zero_add]
             have u0 := h5.two.cell 0
             have u1 := h5.two.cell 1
             simp at u0 u1
             have h5b := h5.three.alloc (.cells #[.int .u32 (xi : Int), .slice a5 cl c5] 71)
             have h5c := (h5.litRow #[.int .u32 (xi : Int), .slice a5 cl c5] 71 2 1 (by decide) rfl).row
             have v0 := h5b.three.cell 0
             have v1 := h5b.three.cell 1
             simp at v0 v1
             have H5 : Hid (Own w0 _ _) := h5b
             have H5C : Hid (World.ownsRow _ _ _ _ _ _ _) := h5c
             clear h5 h5b h5c)
          | (refine step_allW rfl _ _ 25 rfl 71 i0 (.agg #[.int .u32 0, .slice none 0 0]) 2 32 Tryz.underlying25 hi hz0 hz1 hz2 rfl (by decide) _ _ _ rfl _ _ _ _ rfl H5.out H5C.out (by intro u hu; simp at hu; rcases hu with rfl | rfl <;> rfl) (by unfold maxLen; omega) (by omega) ?_
             intro g6 c6 w6 hO6
             have t0 := hO6.three.cell 0
             have t1 := hO6.three.cell 1
             simp at t0 t1
             have H6 : Hid (Own w0 w6 _) := hO6
             clear hO6))
      have H7 : Hid (Own w0 w6 (Row 71 2 (.slice g6 (j + 1) c6) (j + 1) (cat EnE.cs (M ++ [EnE.mk xi a5 c5 C])) :: ((M ++ [EnE.mk xi a5 c5 C]).map erow ++ l))) := by
        have e1 : cat EnE.cs (M ++ [EnE.mk xi a5 c5 C]) = cat EnE.cs M ++ [.int .u32 (xi : Int), .slice a5 cl c5] := by
          rw [cat_append]
          congr 1
          simp [cat, EnE.cs, HCL.out]
        have e2 : (M ++ [EnE.mk xi a5 c5 C]).map erow ++ l = M.map erow ++ (Row 69 4 (.slice a5 cl c5) cl (ccat C) :: l) := by
          simp [erow, HCL.out]
        show Own _ _ _
        rw [e1, e2]
        have h8 := H6.out.three.tail
        exact h8.perm (List.Perm.cons _ List.perm_middle.symm)
      clear H6 H5 H5C HTW HB u0 u1 v0 v1 t0 t1 p0 p1
      go_wp2
      go_roundw
      case rel => exact ⟨j + 1, M ++ [EnE.mk xi a5 c5 C], g6, c6, by omega, by go_num, rfl, by rw [List.length_append, HM.out.1]; rfl, HM2.out a5 c5, H7.out⟩
      case measure => simp [intOf]; omega
    · have hlt' : ¬ (j : Int) < (n : Int) := by omega
      have hjn : j = n := by omega
      subst hjn
      have HF : Hid (evs M = evs L) := by
        have := HM.out.2
        rw [List.take_of_length_le (by rw [HN.out]; exact Nat.le_refl _)] at this
        exact this
      have HE : Hid (Own w0 wr (EntsT ao cap M :: l)) := by
        have h1 := hO
        rw [← HM.out.1] at h1
        exact Own.ents h1
      clear hO
      go_wp2
      go_ret
      exact ⟨ao, cap, rfl, M, HM.out.1, HF.out, HE.out⟩
end Go.Proofs.YtlncgkbgelejmaaGreatDoor


/-
  What becomes of one entity.
-/
namespace Go.Proofs.YtlncgkbgelejmaaGreatDoor
open Go.RowKit
set_option linter.unusedVariables false
set_option maxRecDepth 100000

theorem val_not : ∀ (a b c d e f a' b' c' d' e' f' : Bool), bits .andNot .u8 ((val a b c d e f : Nat) : Int) ((val a' b' c' d' e' f' : Nat) : Int) = ((val (a && !a') (b && !b') (c && !c') (d && !d') (e && !e') (f && !f') : Nat) : Int) := by decide
theorem msk_not (A B : List Cp) : bits .andNot .u8 ((msk A : Nat) : Int) ((msk B : Nat) : Int) = ((lostm A B : Nat) : Int) := by
  rw [msk_val, msk_val, lost_val]
  exact val_not _ _ _ _ _ _ _ _ _ _ _ _
theorem lost_lt (A B : List Cp) : lostm A B < 64 := by
  rw [lost_val]
  generalize (hasK A 0 && !hasK B 0) = a
  generalize (hasK A 1 && !hasK B 1) = b
  generalize (hasK A 2 && !hasK B 2) = c
  generalize (hasK A 3 && !hasK B 3) = d
  generalize (hasK A 4 && !hasK B 4) = e
  generalize (hasK A 5 && !hasK B 5) = f
  revert a b c d e f
  decide
theorem Own.l4 {w0 w : World} {A B C D P : Thing} {m : List Thing} (h : Own w0 w (A :: B :: C :: D :: P :: m)) : Own w0 w (P :: A :: B :: C :: D :: m) := Own.lift (l := [A, B, C, D]) h
theorem Own.l5 {w0 w : World} {A B C D E P : Thing} {m : List Thing} (h : Own w0 w (A :: B :: C :: D :: E :: P :: m)) : Own w0 w (P :: A :: B :: C :: D :: E :: m) := Own.lift (l := [A, B, C, D, E]) h
theorem Own.l6 {w0 w : World} {A B C D E F P : Thing} {m : List Thing} (h : Own w0 w (A :: B :: C :: D :: E :: F :: P :: m)) : Own w0 w (P :: A :: B :: C :: D :: E :: F :: m) := Own.lift (l := [A, B, C, D, E, F]) h
def newsL (A B : List Cp) (j : Nat) : List Cp := (B.take j).filter (isNew A)
def setsL (A B : List Cp) (j : Nat) : List Cp := (B.take j).filter (isSet A)
theorem fst_has {A : List Cp} {k : Nat} (h : fst A k = none) : hasK A k = false := by
  cases hh : hasK A k with
  | false => rfl
  | true => obtain ⟨x, hx⟩ := hasK_fst hh; rw [h] at hx; cases hx
theorem news_none {A B : List Cp} {j : Nat} {q : Cp} (hq : B[j]? = some q) (h : fst A q.k = none) : newsL A B (j + 1) = newsL A B j ++ [q] ∧ setsL A B (j + 1) = setsL A B j := by
  have e1 : isNew A q = true := by unfold isNew; rw [fst_has h]; rfl
  have e2 : isSet A q = false := by unfold isSet; rw [h]
  unfold newsL setsL
  rw [take_snoc B j q hq, List.filter_append, List.filter_append]
  simp [e1, e2]
theorem news_some {A B : List Cp} {j : Nat} {q y : Cp} (hq : B[j]? = some q) (h : fst A q.k = some y) : newsL A B (j + 1) = newsL A B j ∧ setsL A B (j + 1) = setsL A B j ++ (if decide (y = q) = true then [] else [q]) := by
  have e1 : isNew A q = false := by
    have := mem_hasK (fst_some h).1
    rw [(fst_some h).2] at this
    unfold isNew; rw [this]; rfl
  have e2 : isSet A q = !decide (y = q) := by unfold isSet; rw [h]
  unfold newsL setsL
  rw [take_snoc B j q hq, List.filter_append, List.filter_append]
  cases hd : decide (y = q) <;> simp [e1, e2, hd]
theorem newsL_le (A B : List Cp) (j : Nat) : (newsL A B j).length ≤ j := by
  unfold newsL
  have h1 := List.length_filter_le (isNew A) (B.take j)
  rw [List.length_take] at h1
  omega
theorem setsL_le (A B : List Cp) (j : Nat) : (setsL A B j).length ≤ j := by
  unfold setsL
  have h1 := List.length_filter_le (isSet A) (B.take j)
  rw [List.length_take] at h1
  omega
theorem perm_d (P Q R : Thing) (m : List Thing) : (P :: Q :: R :: m).Perm (R :: Q :: P :: m) := (List.Perm.swap Q P (R :: m)).trans (((List.Perm.swap R P m).cons Q).trans (List.Perm.swap R Q (P :: m)))
theorem Own.dropMid {w0 w : World} {A B C D E : Thing} {m : List Thing} (h : Own w0 w (A :: B :: C :: D :: E :: m)) : Own w0 w (A :: B :: m) := (h.perm (List.perm_append_comm_assoc [A, B] [C, D, E] m)).tail.tail.tail
theorem perm_c (P Q R : Thing) (m : List Thing) : (P :: Q :: R :: m).Perm (Q :: R :: P :: m) := (List.Perm.swap Q P (R :: m)).trans ((List.Perm.swap R P m).cons Q)
set_option maxHeartbeats 16000000 in
theorem change_any (w0 w : World) (l : List Thing) (h : Own w0 w l) (i1 i2 : Nat) (a1 a2 : Option Addr) (n1 n2 c1 c2 : Nat) (A B : List Cp) (hQ : ∀ w', Own w0 w' l → Cs w' a1 A ∧ Cs w' a2 B) (hn1 : A.length = n1) (hn2 : B.length = n2) (hk1 : ∀ q ∈ A, q.k < 256) (hk2 : ∀ q ∈ B, q.k < 256) (hm1 : n1 ≤ 1000000) (hm2 : n2 ≤ 1000000) :
    Calls Tryz.prog 127 #[.agg #[.int .u32 (i1 : Int), .slice a1 n1 c1], .agg #[.int .u32 (i2 : Int), .slice a2 n2 c2]] w fun e w' => ∃ (x : ChE), e = .returned (.agg #[.int .u32 (i2 : Int), .int .u8 (x.lost : Int), .slice x.na x.N.length x.nc, .slice x.sa x.S.length x.sc]) ∧ x.v = chg1 (i1, A) (i2, B) ∧ Own w0 w' (x.nrow :: x.srow :: l) := by
  obtain ⟨ic, hic, hz0, hz1, hz2⟩ := info_parts Tryz.infoComp
  obtain ⟨lo, hlo⟩ : ∃ lo, lo = lostm A B := ⟨_, rfl⟩
  have hlo6 : lo < 64 := by rw [hlo]; exact lost_lt A B
  obtain ⟨ma, hma⟩ : ∃ m, m = msk A := ⟨_, rfl⟩
  obtain ⟨mb, hmb⟩ : ∃ m, m = msk B := ⟨_, rfl⟩
  have hnot : bits .andNot .u8 (ma : Int) (mb : Int) = (lo : Int) := by rw [hma, hmb, hlo]; exact msk_not A B
  have hB4 := ((h.allocC #[.int .u32 (i1 : Int), .slice a1 n1 c1] 71).allocC #[.int .u32 (i2 : Int), .slice a2 n2 c2] 71).allocC #[.int .u32 0, .int .u8 0, .slice none 0 0, .slice none 0 0] 62
  have HQ : Hid (∀ w', Own w0 w' l → Cs w' a1 A ∧ Cs w' a2 B) := hQ
  have HL : Hid (A.length = n1 ∧ B.length = n2 ∧ (∀ q ∈ A, q.k < 256) ∧ ∀ q ∈ B, q.k < 256) := ⟨hn1, hn2, hk1, hk2⟩
  have HMA : Hid (∀ W X, Own w0 W (X ++ l) → Calls Tryz.prog 100 #[.slice a1 n1 c1] W fun e w' => e = .returned (.int .u8 (ma : Int)) ∧ Own w0 w' (X ++ l)) := fun W X hX => by
    refine (mask_any W a1 n1 c1 A hn1 (hQ W hX.dropA).1 hk1 hm1).mono ?_
    rintro e w' ⟨rfl, hf⟩
    exact ⟨by rw [hma], hX.quiet hf⟩
  have HMB : Hid (∀ W X, Own w0 W (X ++ l) → Calls Tryz.prog 100 #[.slice a2 n2 c2] W fun e w' => e = .returned (.int .u8 (mb : Int)) ∧ Own w0 w' (X ++ l)) := fun W X hX => by
    refine (mask_any W a2 n2 c2 B hn2 (hQ W hX.dropA).2 hk2 hm2).mono ?_
    rintro e w' ⟨rfl, hf⟩
    exact ⟨by rw [hmb], hX.quiet hf⟩
  have HLO : Hid (lo = lostm A B) := hlo
  have e3 : (w.alloc (.cells #[.int .u32 (i1 : Int), .slice a1 n1 c1] 71)).heap.size = w.heap.size + 1 := by simp
  have e4 : ((w.alloc (.cells #[.int .u32 (i1 : Int), .slice a1 n1 c1] 71)).alloc (.cells #[.int .u32 (i2 : Int), .slice a2 n2 c2] 71)).heap.size = w.heap.size + 2 := by simp
  rw [e4, e3] at hB4
  have HB4 : Hid (Own w0 _ _) := hB4
  clear h hQ hn1 hn2 hk1 hk2 hlo hma hmb hB4 e3 e4
  go_enter Tryz.func127, Tryz.ntmps127
  go_wp2
  generalize hWg : ((w.alloc (.cells #[.int .u32 (i1 : Int), .slice a1 n1 c1] 71)).alloc (.cells #[.int .u32 (i2 : Int), .slice a2 n2 c2] 71)).alloc (.cells #[.int .u32 0, .int .u8 0, .slice none 0 0, .slice none 0 0] 62) = W1 at *
  clear hWg
  generalize w.heap.size + 2 = b4 at *
  generalize w.heap.size + 1 = b3 at *
  generalize w.heap.size = b2 at *
  have HMA3 : Hid (∀ W, Own w0 W (Cells b4 #[.int .u32 0, .int .u8 0, .slice none 0 0, .slice none 0 0] 62 :: Cells b3 #[.int .u32 (i2 : Int), .slice a2 n2 c2] 71 :: Cells b2 #[.int .u32 (i1 : Int), .slice a1 n1 c1] 71 :: l) → Calls Tryz.prog 100 #[.slice a1 n1 c1] W fun e w' => e = .returned (.int .u8 (ma : Int)) ∧ Own w0 w' (Cells b4 #[.int .u32 0, .int .u8 0, .slice none 0 0, .slice none 0 0] 62 :: Cells b3 #[.int .u32 (i2 : Int), .slice a2 n2 c2] 71 :: Cells b2 #[.int .u32 (i1 : Int), .slice a1 n1 c1] 71 :: l)) := fun W hX => HMA.out W [_, _, _] hX
  have HMA4 : Hid (∀ W X, Own w0 W (X :: Cells b4 #[.int .u32 0, .int .u8 0, .slice none 0 0, .slice none 0 0] 62 :: Cells b3 #[.int .u32 (i2 : Int), .slice a2 n2 c2] 71 :: Cells b2 #[.int .u32 (i1 : Int), .slice a1 n1 c1] 71 :: l) → Calls Tryz.prog 100 #[.slice a1 n1 c1] W fun e w' => e = .returned (.int .u8 (ma : Int)) ∧ Own w0 w' (X :: Cells b4 #[.int .u32 0, .int .u8 0, .slice none 0 0, .slice none 0 0] 62 :: Cells b3 #[.int .u32 (i2 : Int), .slice a2 n2 c2] 71 :: Cells b2 #[.int .u32 (i1 : Int), .slice a1 n1 c1] 71 :: l)) := fun W X hX => HMA.out W [X, _, _, _] hX
  have HMB3 : Hid (∀ W, Own w0 W (Cells b4 #[.int .u32 0, .int .u8 0, .slice none 0 0, .slice none 0 0] 62 :: Cells b3 #[.int .u32 (i2 : Int), .slice a2 n2 c2] 71 :: Cells b2 #[.int .u32 (i1 : Int), .slice a1 n1 c1] 71 :: l) → Calls Tryz.prog 100 #[.slice a2 n2 c2] W fun e w' => e = .returned (.int .u8 (mb : Int)) ∧ Own w0 w' (Cells b4 #[.int .u32 0, .int .u8 0, .slice none 0 0, .slice none 0 0] 62 :: Cells b3 #[.int .u32 (i2 : Int), .slice a2 n2 c2] 71 :: Cells b2 #[.int .u32 (i1 : Int), .slice a1 n1 c1] 71 :: l)) := fun W hX => HMB.out W [_, _, _] hX
  have HMB4 : Hid (∀ W X, Own w0 W (X :: Cells b4 #[.int .u32 0, .int .u8 0, .slice none 0 0, .slice none 0 0] 62 :: Cells b3 #[.int .u32 (i2 : Int), .slice a2 n2 c2] 71 :: Cells b2 #[.int .u32 (i1 : Int), .slice a1 n1 c1] 71 :: l) → Calls Tryz.prog 100 #[.slice a2 n2 c2] W fun e w' => e = .returned (.int .u8 (mb : Int)) ∧ Own w0 w' (X :: Cells b4 #[.int .u32 0, .int .u8 0, .slice none 0 0, .slice none 0 0] 62 :: Cells b3 #[.int .u32 (i2 : Int), .slice a2 n2 c2] 71 :: Cells b2 #[.int .u32 (i1 : Int), .slice a1 n1 c1] 71 :: l)) := fun W X hX => HMB.out W [X, _, _, _] hX
  clear HMA HMB
  go_cut [5] (fun s5 wc => ∃ b5 : Nat, s5 = .pointer (some ⟨b5, 0, none⟩) ∧ Own w0 wc (Cells b5 #[.int .u32 (i2 : Int), .int .u8 (lo : Int), .slice none 0 0, .slice none 0 0] 62 :: Cells b4 #[.int .u32 0, .int .u8 0, .slice none 0 0, .slice none 0 0] 62 :: Cells b3 #[.int .u32 (i2 : Int), .slice a2 n2 c2] 71 :: Cells b2 #[.int .u32 (i1 : Int), .slice a1 n1 c1] 71 :: l))
  case first =>
    have p0 := HB4.out.two.cell 0
    have p1 := HB4.out.two.cell 1
    have p2 := HB4.out.three.cell 1
    simp at p0 p1 p2
    have O1 := HB4.out.drew
    have O1b := (HB4.out.allocC #[.int .u32 0, .int .u8 0, .slice none 0 0, .slice none 0 0] 62).drew
    have z3 : W1.heap.size ≠ b3 := by have := (Own.two HB4.out).lt; omega
    have z4 : W1.heap.size ≠ b2 := by have := (Own.three HB4.out).lt; omega
    clear HB4
    go_region_held3 (fun w' => w'.cell? ⟨b3, 0, none⟩ = some (.int .u32 (i2 : Int)) ∧ w'.cell? ⟨b3, 1, none⟩ = some (.slice a2 n2 c2) ∧ w'.cell? ⟨b2, 1, none⟩ = some (.slice a1 n1 c1)) (go_keep)
      (first
        | (go_at_call 100; with_reducible refine (HMA3.out _ O1).mono ?_; rintro e w5 ⟨rfl, O5⟩
           have u0 := (Own.two O5).cell 0
           have u1 := (Own.two O5).cell 1
           have u2 := (Own.three O5).cell 1
           have z1 : w5.heap.size ≠ b3 := by have := (Own.two O5).lt; omega
           have z2 : w5.heap.size ≠ b2 := by have := (Own.three O5).lt; omega
           simp at u0 u1 u2)
        | (go_at_call 100; with_reducible refine (HMB3.out _ O5).mono ?_; rintro e w6 ⟨rfl, O6⟩
           have u0 := (Own.two O6).cell 0
           have u1 := (Own.two O6).cell 1
           have u2 := (Own.three O6).cell 1
           simp at u0 u1 u2)
        | (go_at_call 100; with_reducible refine (HMA4.out _ _ O1b).mono ?_; rintro e w7 ⟨rfl, O7⟩
           have u0 := (Own.three O7).cell 0
           have u1 := (Own.three O7).cell 1
           have u2 := (Own.four O7).cell 1
           have x0 := Own.cell O7 0
           have x1 := Own.cell O7 1
           have x2 := Own.cell O7 2
           have x3 := Own.cell O7 3
           have y0 := Own.froz O7 0
           have y1 := Own.froz O7 1
           have y2 := Own.froz O7 2
           have y3 := Own.froz O7 3
           simp at u0 u1 u2 x0 x1 x2 x3)
        | (go_at_call 100; with_reducible refine (HMB4.out _ _ (O5.allocC _ _)).mono ?_; rintro e w8 ⟨rfl, O8⟩
           have u0 := (Own.three O8).cell 0
           have u1 := (Own.three O8).cell 1
           have u2 := (Own.four O8).cell 1
           have x0 := Own.cell O8 0
           have x1 := Own.cell O8 1
           have x2 := Own.cell O8 2
           have x3 := Own.cell O8 3
           have y0 := Own.froz O8 0
           have y1 := Own.froz O8 1
           have y2 := Own.froz O8 2
           have y3 := Own.froz O8 3
           simp at u0 u1 u2 x0 x1 x2 x3)
        | (go_at_call 100; with_reducible refine (HMB4.out _ _ O7).mono ?_; rintro e w8 ⟨rfl, O8⟩
           have u0 := (Own.three O8).cell 0
           have u1 := (Own.three O8).cell 1
           have u2 := (Own.four O8).cell 1
           have x0 := Own.cell O8 0
           have x1 := Own.cell O8 1
           have x2 := Own.cell O8 2
           have x3 := Own.cell O8 3
           have y0 := Own.froz O8 0
           have y1 := Own.froz O8 1
           have y2 := Own.froz O8 2
           have y3 := Own.froz O8 3
           simp at u0 u1 u2 x0 x1 x2 x3)
        | fail)
    all_goals
      go_wp2
      go_meet
      case rel =>
        first
          | exact ⟨_, rfl, O6.allocC _ _⟩
          | exact ⟨_, rfl, by simpa using (((O8.setC 0 _).setC 1 _).setC 2 _).setC 3 _⟩
  case rest =>
    obtain ⟨b5, rfl, hO0⟩ := hcut
    have HO0 : Hid (Own w0 wc (Row 69 4 (.slice none (newsL A B 0).length 0) (newsL A B 0).length (ccat (newsL A B 0)) :: Row 69 4 (.slice none (setsL A B 0).length 0) (setsL A B 0).length (ccat (setsL A B 0)) :: Cells b5 #[.int .u32 (i2 : Int), .int .u8 (lo : Int), .slice none (newsL A B 0).length 0, .slice none (setsL A B 0).length 0] 62 :: Cells b4 #[.int .u32 0, .int .u8 0, .slice none 0 0, .slice none 0 0] 62 :: Cells b3 #[.int .u32 (i2 : Int), .slice a2 n2 c2] 71 :: Cells b2 #[.int .u32 (i1 : Int), .slice a1 n1 c1] 71 :: l)) := (hO0.nilRow _ _).nilRow _ _
    have p1 := (Own.three hO0).cell 1
    simp at p1
    clear hO0 HB4 HMA3 HMA4 HMB3 HMB4 hnot
    go_wp2
    go_loopw [22] (fun cc wr => ∃ (j : Nat) (na sa : Option Addr) (nc sc : Nat), j ≤ n2 ∧ cc = .int .i64 j ∧ Own w0 wr (Row 69 4 (.slice na (newsL A B j).length nc) (newsL A B j).length (ccat (newsL A B j)) :: Row 69 4 (.slice sa (setsL A B j).length sc) (setsL A B j).length (ccat (setsL A B j)) :: Cells b5 #[.int .u32 (i2 : Int), .int .u8 (lo : Int), .slice na (newsL A B j).length nc, .slice sa (setsL A B j).length sc] 62 :: Cells b4 #[.int .u32 0, .int .u8 0, .slice none 0 0, .slice none 0 0] 62 :: Cells b3 #[.int .u32 (i2 : Int), .slice a2 n2 c2] 71 :: Cells b2 #[.int .u32 (i1 : Int), .slice a1 n1 c1] 71 :: l)) (fun cc _ => n2 - (intOf cc).toNat)
    case atStart => exact ⟨0, none, none, 0, 0, Nat.zero_le _, rfl, HO0.out⟩
    case round =>
      obtain ⟨j, na, sa, nc, sc, hj, rfl, hO⟩ := hrel
      clear HO0 p1
      have hln := newsL_le A B j
      have hls := setsL_le A B j
      by_cases hlt : j < n2
      · obtain ⟨q, hq⟩ : ∃ q, B[j]? = some q := ⟨_, List.getElem?_eq_getElem (by rw [HL.out.2.1]; exact hlt)⟩
        obtain ⟨g, o, hao, _, y0, y1, y2, y3⟩ := (HQ.out wr hO.tail.tail.tail.tail.tail.tail).2.at j q hq
        subst hao
        have hq8 := HL.out.2.2.2 q (List.mem_of_getElem? hq)
        have hlt' : (j : Int) < (n2 : Int) := by omega
        have hB := hO.allocC #[.int .u8 (q.k : Int), .int .i32 q.a, .int .i32 q.b, .int .i32 q.c] 69
        have d2 : wr.cell? ⟨b2, 1, none⟩ = some (.slice a1 n1 c1) := (Own.l5 hO).cell 1
        have lt2 := (Own.l5 hO).lt
        have ne2 : wr.heap.size ≠ b2 := by omega
        have HPL : Hid (Calls _ _ _ _ _) := place_any _ a1 n1 c1 A HL.out.1 ((HQ.out _ hB.tail.tail.tail.tail.tail.tail.tail).1) (by omega) q.k
        have HB : Hid (Own w0 _ _) := hB
        have HQJ : Hid (B[j]? = some q) := hq
        clear hO hB hq
        obtain ⟨qk, qa, qb, qc⟩ := q
        simp only at y0 y1 y2 y3 hq8 HPL HB
        go_wp2_with fail
        refine HPL.out.mono ?_
        rintro e w2 ⟨r, rfl, hr, hf⟩
        have hB2 := HB.out.quiet hf
        have t0 := hB2.cell 0
        have t1 := hB2.cell 1
        have t2 := hB2.cell 2
        have t3 := hB2.cell 3
        have f2 := (Own.four hB2).cell 2
        have f3 := (Own.four hB2).cell 3
        have d2 := (Own.l6 hB2).cell 1
        simp at t0 t1 t2 t3 f2 f3 d2
        generalize wr.heap.size = b7 at *
        have ne7 : w2.heap.size ≠ b5 := by have := (Own.four hB2).lt; omega
        have HB2 : Hid (Own w0 w2 _) := hB2
        clear HPL HB hf y0 y1 y2 y3 lt2 ne2
        rcases hr with ⟨rfl, hnone⟩ | ⟨i, y, rfl, hy, hsome⟩
        · obtain ⟨en, es⟩ := news_none HQJ.out hnone
          have HEN : Hid (newsL A B (j + 1) = newsL A B j ++ [⟨qk, qa, qb, qc⟩] ∧ setsL A B (j + 1) = setsL A B j) := ⟨en, es⟩
          have HN : Hid (Own w0 w2 _) := hB2.two
          clear hnone en es hB2
          go_wp2_with (at_builtin; refine append1_own rfl _ _ 60 rfl 69 ic _ 4 16 Tryz.underlying60 hic hz0 hz1 hz2 rfl (by decide) _ _ _ rfl HN.out _ #[.int .u8 (qk : Int), .int .i32 qa, .int .i32 qb, .int .i32 qc] (by simp) rfl rfl (by intro u hu; simp at hu; rcases hu with rfl | rfl | rfl | rfl <;> rfl) (by unfold maxLen; omega) (by omega) ?_)
          intro g6 c6 w6 hO6 hsz6
          have k2 := (Own.four hO6).cell 2
          have k3 := (Own.four hO6).froz 2
          simp at k2
          have H7 := (Own.four hO6).setC 2 (.slice (some ⟨g6, 0, none⟩) ((newsL A B j).length + 1) c6)
          have H8 : Hid (Own w0 (w6.setCell ⟨b5, 2, none⟩ (.slice (some ⟨g6, 0, none⟩) ((newsL A B j).length + 1) c6)) (Row 69 4 (.slice (some ⟨g6, 0, none⟩) (newsL A B (j + 1)).length c6) (newsL A B (j + 1)).length (ccat (newsL A B (j + 1))) :: Row 69 4 (.slice sa (setsL A B (j + 1)).length sc) (setsL A B (j + 1)).length (ccat (setsL A B (j + 1))) :: Cells b5 #[.int .u32 (i2 : Int), .int .u8 (lo : Int), .slice (some ⟨g6, 0, none⟩) (newsL A B (j + 1)).length c6, .slice sa (setsL A B (j + 1)).length sc] 62 :: Cells b4 #[.int .u32 0, .int .u8 0, .slice none 0 0, .slice none 0 0] 62 :: Cells b3 #[.int .u32 (i2 : Int), .slice (some ⟨g, o, none⟩) n2 c2] 71 :: Cells b2 #[.int .u32 (i1 : Int), .slice a1 n1 c1] 71 :: l)) := by
            show Own _ _ _
            have e1 : (newsL A B (j + 1)).length = (newsL A B j).length + 1 := by rw [HEN.out.1, List.length_append]; rfl
            have e2 : ccat (newsL A B (j + 1)) = ccat (newsL A B j) ++ [.int .u8 (qk : Int), .int .i32 qa, .int .i32 qb, .int .i32 qc] := by rw [HEN.out.1]; simp [ccat, cat, Cp.cs]
            rw [e1, e2, HEN.out.2]
            have h9 := (Own.three H7).tail
            simp at h9
            exact h9.perm (perm_c _ _ _ _)
          have HL6 : Hid ((newsL A B j).length + 1 = (newsL A B (j + 1)).length) := by show _ = _; rw [HEN.out.1, List.length_append]; rfl
          clear hO6 hsz6 H7 HN HB2 f2 f3 t0 t1 t2 t3 d2
          go_wp2
          go_roundw
          case rel => exact ⟨j + 1, some ⟨g6, 0, none⟩, sa, c6, sc, by omega, by go_num, H8.out⟩
          case measure => simp [intOf]; omega
        · obtain ⟨en, es⟩ := news_some HQJ.out hsome
          obtain ⟨ga, oa, hga, _, x0, x1, x2, x3⟩ := (HQ.out w2 hB2.tail.tail.tail.tail.tail.tail.tail).1.at i y hy
          subst hga
          have hin : (i : Int) < (n1 : Int) := by have := (List.getElem?_eq_some_iff.1 hy).1; have := HL.out.1; omega
          obtain ⟨r0, e0⟩ : ∃ r, ((y.k : Int) == (qk : Int)) = r := ⟨_, rfl⟩
          obtain ⟨r1, e1⟩ : ∃ r, ((y.a == qa) && (y.b == qb) && (y.c == qc)) = r := ⟨_, rfl⟩
          have HD : Hid (decide (y = ⟨qk, qa, qb, qc⟩) = (r0 && r1)) := by show _ = _; rw [← cp_eq, e0, e1]
          have eqa : ∀ d w, (Op.equalIn (d + 1 + 1) 67 (.agg #[.int .i32 y.a, .int .i32 y.b, .int .i32 y.c]) (.agg #[.int .i32 qa, .int .i32 qb, .int .i32 qc])).run Tryz.prog w = .ok r1 w := fun d w => by rw [eq_a3, e1]
          have HEN : Hid (newsL A B (j + 1) = newsL A B j ∧ setsL A B (j + 1) = setsL A B j ++ (if (r0 && r1) = true then [] else [⟨qk, qa, qb, qc⟩])) := ⟨en, by rw [es, HD.out]⟩
          clear hsome en es e1 hy
          obtain ⟨yk, ya, yb, yc⟩ := y
          simp only at x0 x1 x2 x3 e0 eqa
          by_cases hb : (r0 && r1) = true
          · obtain ⟨rfl, rfl⟩ : r0 = true ∧ r1 = true := by simpa using hb
            have H8 : Hid (∀ w', Fr Nobody w2 w' → Own w0 w' (Row 69 4 (.slice na (newsL A B (j + 1)).length nc) (newsL A B (j + 1)).length (ccat (newsL A B (j + 1))) :: Row 69 4 (.slice sa (setsL A B (j + 1)).length sc) (setsL A B (j + 1)).length (ccat (setsL A B (j + 1))) :: Cells b5 #[.int .u32 (i2 : Int), .int .u8 (lo : Int), .slice na (newsL A B (j + 1)).length nc, .slice sa (setsL A B (j + 1)).length sc] 62 :: Cells b4 #[.int .u32 0, .int .u8 0, .slice none 0 0, .slice none 0 0] 62 :: Cells b3 #[.int .u32 (i2 : Int), .slice (some ⟨g, o, none⟩) n2 c2] 71 :: Cells b2 #[.int .u32 (i1 : Int), .slice (some ⟨ga, oa, none⟩) n1 c1] 71 :: l)) := fun w' hf => by
              have e3 : setsL A B (j + 1) = setsL A B j := by rw [HEN.out.2]; simp
              rw [HEN.out.1, e3]
              exact (hB2.quiet hf).tail
            clear hb hB2 HB2
            go_wp2
            go_quiet (fail)
            go_wp2
            go_roundw
            case rel => exact ⟨j + 1, na, sa, nc, sc, by omega, by go_num, H8.out _ ((Fr.refl _ _).drewN _)⟩
            case measure => simp [intOf]; omega
          · have hb2 : (r0 && r1) = false := by simpa using hb
            have HEN2 : Hid (newsL A B (j + 1) = newsL A B j ∧ setsL A B (j + 1) = setsL A B j ++ [⟨qk, qa, qb, qc⟩]) := ⟨HEN.out.1, by rw [HEN.out.2, hb2]; simp⟩
            have hc : r0 = false ∨ (r0 = true ∧ r1 = false) := by cases r0 <;> cases r1 <;> simp at hb2 ⊢
            have HN : Hid (∀ k, Own w0 (w2.drewN k) _) := fun k => (hB2.drewN k).three
            clear hb hb2 hB2 HB2 HEN HD
            rcases hc with rfl | ⟨rfl, rfl⟩
            all_goals
              go_wp2
              go_quiet (fail)
              go_wp2_with (at_builtin; refine append1_own rfl _ _ 60 rfl 69 ic _ 4 16 Tryz.underlying60 hic hz0 hz1 hz2 rfl (by decide) _ _ _ rfl (HN.out _) _ #[.int .u8 (qk : Int), .int .i32 qa, .int .i32 qb, .int .i32 qc] (by simp) rfl rfl (by intro u hu; simp at hu; rcases hu with rfl | rfl | rfl | rfl <;> rfl) (by unfold maxLen; omega) (by omega) ?_)
              intro g6 c6 w6 hO6 hsz6
              have k2 := (Own.four hO6).cell 3
              have k3 := (Own.four hO6).froz 3
              simp at k2
              have H7 := (Own.four hO6).setC 3 (.slice (some ⟨g6, 0, none⟩) ((setsL A B j).length + 1) c6)
              have H8 : Hid (Own w0 (w6.setCell ⟨b5, 3, none⟩ (.slice (some ⟨g6, 0, none⟩) ((setsL A B j).length + 1) c6)) (Row 69 4 (.slice na (newsL A B (j + 1)).length nc) (newsL A B (j + 1)).length (ccat (newsL A B (j + 1))) :: Row 69 4 (.slice (some ⟨g6, 0, none⟩) (setsL A B (j + 1)).length c6) (setsL A B (j + 1)).length (ccat (setsL A B (j + 1))) :: Cells b5 #[.int .u32 (i2 : Int), .int .u8 (lo : Int), .slice na (newsL A B (j + 1)).length nc, .slice (some ⟨g6, 0, none⟩) (setsL A B (j + 1)).length c6] 62 :: Cells b4 #[.int .u32 0, .int .u8 0, .slice none 0 0, .slice none 0 0] 62 :: Cells b3 #[.int .u32 (i2 : Int), .slice (some ⟨g, o, none⟩) n2 c2] 71 :: Cells b2 #[.int .u32 (i1 : Int), .slice (some ⟨ga, oa, none⟩) n1 c1] 71 :: l)) := by
                show Own _ _ _
                have e1 : (setsL A B (j + 1)).length = (setsL A B j).length + 1 := by rw [HEN2.out.2, List.length_append]; rfl
                have e2 : ccat (setsL A B (j + 1)) = ccat (setsL A B j) ++ [.int .u8 (qk : Int), .int .i32 qa, .int .i32 qb, .int .i32 qc] := by rw [HEN2.out.2]; simp [ccat, cat, Cp.cs]
                rw [e1, e2, HEN2.out.1]
                have h9 := (Own.three H7).tail
                simp at h9
                exact h9.perm (perm_d _ _ _ _)
              clear hO6 hsz6 H7 HN f2 f3 t0 t1 t2 t3 d2 x0 x1 x2 x3
              go_wp2
              go_roundw
              case rel => exact ⟨j + 1, na, some ⟨g6, 0, none⟩, nc, c6, by omega, by go_num, H8.out⟩
              case measure => simp [intOf]; omega
      · have hlt' : ¬ (j : Int) < (n2 : Int) := by omega
        have hT : B.take j = B := List.take_of_length_le (by rw [HL.out.2.1]; omega)
        have m0 := (Own.three hO).cell 0
        have m1 := (Own.three hO).cell 1
        have m2 := (Own.three hO).cell 2
        have m3 := (Own.three hO).cell 3
        have r0 := (Own.four hO).cell 0
        have r1 := (Own.four hO).cell 1
        have r2 := (Own.four hO).cell 2
        have r3 := (Own.four hO).cell 3
        have z0 := (Own.four hO).froz 0
        have z1 := (Own.four hO).froz 1
        have z2 := (Own.four hO).froz 2
        have z3 := (Own.four hO).froz 3
        simp at m0 m1 m2 m3 r0 r1 r2 r3
        have HV : Hid (ChE.v ⟨i2, lo, newsL A B j, na, nc, setsL A B j, sa, sc⟩ = chg1 (i1, A) (i2, B)) := by
          show _ = _
          unfold ChE.v chg1 newsL setsL
          rw [hT, HLO.out]
        have H9 := ((((Own.four hO).setC 0 (.int .u32 (i2 : Int))).setC 1 (.int .u8 (lo : Int))).setC 2 (.slice na (newsL A B j).length nc)).setC 3 (.slice sa (setsL A B j).length sc)
        simp at H9
        have H10 : Hid (Own w0 _ _) := H9
        clear hO hT H9
        go_wp2
        (try simp only [Exit.inBlock, Exit.then])
        refine bodyPost_ret (results_cell_row rfl _ _ b4 62 #[.int .u32 (i2 : Int), .int .u8 (lo : Int), .slice na (newsL A B j).length nc, .slice sa (setsL A B j).length sc] _ _ rfl H10.out.obj Tryz.underlying62 rfl (by kernel_rfl)) rfl ?_
        refine ⟨⟨i2, lo, newsL A B j, na, nc, setsL A B j, sa, sc⟩, rfl, HV.out, ?_⟩
        exact H10.out.tail.perm (List.Perm.trans (List.Perm.refl _) (List.Perm.refl _)) |>.dropMid
end Go.Proofs.YtlncgkbgelejmaaGreatDoor


/-
  Deltas in memory; is there no change?
-/
namespace Go.Proofs.YtlncgkbgelejmaaGreatDoor
open Go.RowKit
set_option linter.unusedVariables false
set_option maxRecDepth 100000

theorem nil_len (x : ChE) : x.v.nil = (decide (x.lost = 0) && decide (x.N.length = 0) && decide (x.S.length = 0)) := by
  unfold Chg.nil ChE.v
  rw [Bool.eq_iff_iff]
  simp [List.isEmpty_iff]
set_option maxHeartbeats 1000000 in
theorem isNone_any (w : World) (x : ChE) (hl : x.lost < 256) (h1 : x.N.length ≤ 2097152) (h2 : x.S.length ≤ 2097152) :
    Calls Tryz.prog 128 #[.agg #[.int .u32 (x.id : Int), .int .u8 (x.lost : Int), .slice x.na x.N.length x.nc, .slice x.sa x.S.length x.sc]] w fun e w' => e = .returned (.bool x.v.nil) ∧ Fr Nobody w w' := by
  rw [nil_len]
  obtain ⟨id, lo, N, na, nc, S, sa, sc⟩ := x
  simp only at hl h1 h2 ⊢
  generalize N.length = n at *
  generalize S.length = s at *
  by_cases c0 : lo = 0
  · subst c0
    by_cases c1 : n = 0
    · subst c1
      by_cases c2 : s = 0
      · subst c2
        go_enter Tryz.func128, Tryz.ntmps128
        go_wp2
        go_ret
        exact ⟨rfl, (Fr.refl _ _).alloc _⟩
      · have e2 : ((s : Int) == 0) = false := by rw [beq_eq_false_iff_ne]; omega
        rw [decide_eq_false c2]
        clear c2
        go_enter Tryz.func128, Tryz.ntmps128
        go_wp2
        go_ret
        exact ⟨rfl, (Fr.refl _ _).alloc _⟩
    · have e2 : ((n : Int) == 0) = false := by rw [beq_eq_false_iff_ne]; omega
      rw [decide_eq_false c1]
      clear c1
      go_enter Tryz.func128, Tryz.ntmps128
      go_wp2
      go_ret
      exact ⟨by simp, (Fr.refl _ _).alloc _⟩
  · have e2 : ((lo : Int) == 0) = false := by rw [beq_eq_false_iff_ne]; omega
    rw [decide_eq_false c0]
    clear c0
    go_enter Tryz.func128, Tryz.ntmps128
    go_wp2
    go_ret
    exact ⟨by simp, (Fr.refl _ _).alloc _⟩
/-- a delta in memory -/
structure DlE where
  G : List Nat
  ga : Option Addr
  gc : Nat
  M : List EnE
  ma : Option Addr
  mc : Nat
  H : List ChE
  ha : Option Addr
  hc : Nat
def DlE.vs (d : DlE) : Array Value := #[.slice d.ga d.G.length d.gc, .slice d.ma d.M.length d.mc, .slice d.ha d.H.length d.hc]
def DlE.v (d : DlE) : Dl := ⟨d.G, evs d.M, d.H.map ChE.v⟩
def hrows (H : List ChE) : List Thing := H.flatMap ChE.rows
def grow1 (G : List Nat) (ga : Option Addr) (gc : Nat) : Thing := Row 58 1 (.slice ga G.length gc) G.length (irow .u32 G)
def hrow1 (H : List ChE) (ha : Option Addr) (hc : Nat) : Thing := Row 62 4 (.slice ha H.length hc) H.length (cat ChE.cs H)
def DlE.things (d : DlE) : List Thing := grow1 d.G d.ga d.gc :: EntsT d.ma d.mc d.M :: hrow1 d.H d.ha d.hc :: hrows d.H
def Dl.app (a b : Dl) : Dl := ⟨a.gone ++ b.gone, a.come ++ b.come, a.chg ++ b.chg⟩
theorem app_nil (b : Dl) : Dl.app ⟨[], [], []⟩ b = b := by cases b; rfl
theorem app_end (a : Dl) : a.app (btw [] []) = a := by cases a; simp [Dl.app, btw]
theorem EntsAt.tail {w : World} {g o : Nat} {x : EnE} {t : List EnE} (h : EntsAt w (some ⟨g, o, none⟩) (x :: t)) : EntsAt w (some ⟨g, o + 2, none⟩) t := by
  refine ⟨?_, fun y hy => h.2 y (List.mem_cons_of_mem _ hy)⟩
  rcases h.1 with h0 | ⟨g', o', ha, hc⟩
  · cases h0
  · cases ha
    refine .inr ⟨g, o + 2, rfl, fun j y hy => ?_⟩
    have := hc (j + 1) y (by simpa using hy)
    have e : o + (j + 1) * 2 = o + 2 + j * 2 := by omega
    rw [e] at this
    exact this
theorem EntsAt.nil (w : World) (ao : Option Addr) : EntsAt w ao [] := ⟨.inl rfl, fun x hx => by cases hx⟩
theorem EntsAt.head {w : World} {ao : Option Addr} {x : EnE} {t : List EnE} (h : EntsAt w ao (x :: t)) : ∃ g o, ao = some ⟨g, o, none⟩ ∧ w.cell? ⟨g, o, none⟩ = some (.int .u32 (x.id : Int)) ∧ w.cell? ⟨g, o + 1, none⟩ = some (.slice x.ao x.C.length x.cap) ∧ Cs w x.ao x.C := by
  obtain ⟨g, o, ha, h0, h1, h2⟩ := h.at (j := 0) (x := x) rfl
  exact ⟨g, o, ha, by simpa using h0, by simpa using h1, h2⟩
theorem btw_g {x : EnE} {t N : List EnE} (h : N = [] ∨ ∃ y s, N = y :: s ∧ x.id < y.id) : btw (evs (x :: t)) (evs N) = addG x.id (btw (evs t) (evs N)) := by
  rcases h with rfl | ⟨y, s, rfl, hlt⟩
  · simp [evs, btw]
  · simp [evs, btw, hlt]
theorem btw_e {y : EnE} {W s : List EnE} (h : W = [] ∨ ∃ x t, W = x :: t ∧ y.id < x.id) : btw (evs W) (evs (y :: s)) = addE (y.id, y.C) (btw (evs W) (evs s)) := by
  rcases h with rfl | ⟨x, t, rfl, hlt⟩
  · simp [evs, btw]
  · have : ¬ x.id < y.id := by omega
    simp [evs, btw, hlt, this]
theorem btw_c {x y : EnE} {t s : List EnE} (h : x.id = y.id) : btw (evs (x :: t)) (evs (y :: s)) = addC (chg1 (x.id, x.C) (y.id, y.C)) (btw (evs t) (evs s)) := by
  simp [evs, btw, h]
theorem app_g (a b : Dl) (g : Nat) : a.app (addG g b) = (⟨a.gone ++ [g], a.come, a.chg⟩ : Dl).app b := by simp [Dl.app, addG]
theorem app_e (a b : Dl) (e : En) : a.app (addE e b) = (⟨a.gone, a.come ++ [e], a.chg⟩ : Dl).app b := by simp [Dl.app, addE]
theorem app_c0 (a b : Dl) (c : Chg) (h : c.nil = true) : a.app (addC c b) = a.app b := by simp [Dl.app, addC, h]
theorem app_c1 (a b : Dl) (c : Chg) (h : c.nil = false) : a.app (addC c b) = (⟨a.gone, a.come, a.chg ++ [c]⟩ : Dl).app b := by simp [Dl.app, addC, h]
theorem Tryz.infoIDk : (Tryz.prog.info? 58).map (fun i => (i.zero, i.size, i.bytes)) = some (some (.int .u32 0), 1, 4) := by kernel_rfl
def lenV : Value → Nat
  | .slice _ n _ => n
  | _ => 0
end Go.Proofs.YtlncgkbgelejmaaGreatDoor

