/-
  Snapshots and what becomes of them, as lists.
-/
import Derived.Test.YtfhfcfobgemcpaaGreatDoorSn
import Derived.Test.YtfhfcfobgemcpaaGreatDoorEnbg
import Derived.Test.YtfhfcfobgemcpaaGreatDoorXb
import Derived.Test.YtfhfcfobgemcpaaGreatDoorYa
import Derived.Test.YtfhfcfobgemcpaaGreatDoorYx
import Derived.Laws.Rows
namespace Go.Proofs.YtfhfcfobgemcpaaGreatDoor
open Go.RowKit
set_option linter.unusedVariables false
set_option maxRecDepth 100000

instance : DecidableEq Cp := fun x y => decidable_of_iff (x.k = y.k ∧ x.a = y.a ∧ x.b = y.b ∧ x.c = y.c) (by cases x; cases y; simp)
theorem sorted_one {α : Type} (f : α → Nat) (L : List α) : ∀ (M : List α), L.Pairwise (fun a b => f a < f b) → M.Pairwise (fun a b => f a ≤ f b) → M.Perm L → M = L := by
  induction L with
  | nil => intro M _ _ h; exact h.eq_nil
  | cons x t ih =>
    intro M hL hM h
    cases M with
    | nil => exact absurd h.length_eq (by simp)
    | cons y s =>
      have hy : y ∈ x :: t := h.subset (by simp)
      have hx : x ∈ y :: s := h.symm.subset (by simp)
      have e : y = x := by
        rcases List.mem_cons.1 hy with e | hy
        · exact e
        · have h1 := (List.pairwise_cons.1 hL).1 y hy
          rcases List.mem_cons.1 hx with e | hx
          · exact e.symm
          · have h2 := (List.pairwise_cons.1 hM).1 x hx
            omega
      subst e
      rw [ih s (List.pairwise_cons.1 hL).2 (List.pairwise_cons.1 hM).2 h.cons_inv]
theorem up_mem {α : Type} (f : α → Nat) {L M : List α} (hL : L.Pairwise (fun a b => f a < f b)) (hM : M.Pairwise (fun a b => f a < f b)) (h : ∀ x, x ∈ L ↔ x ∈ M) : L = M := by
  have n : ∀ {A : List α}, A.Pairwise (fun a b => f a < f b) → A.Nodup := fun h => h.imp (fun h e => by subst e; omega)
  exact sorted_one f M L hM (hL.imp (fun h => by omega)) ((List.perm_ext_iff_of_nodup (n hL) (n hM)).2 h)

/-- an entity: its number and its components -/
abbrev En := Nat × List Cp
def un (C : List Cp) : Bool := C.any (fun c => !ktold c.k)
def ent1 (p : Nat) (x : En) : Nat := if x.1 / 1024 < 1 ∨ x.1 ≤ p then 4 else if lst (-1) x.2 ≠ 0 then lst (-1) x.2 else if un x.2 = true then 4 else 0
/-- is it a snapshot? -/
def fm : Nat → List En → Nat
  | _, [] => 0
  | p, x :: t => if ent1 p x ≠ 0 then ent1 p x else fm x.1 t
def Good (C : List Cp) : Prop := C.Pairwise (fun x y => x.k < y.k) ∧ ∀ q ∈ C, q.k < 6
structure Snap (L : List En) : Prop where
  up : L.Pairwise (fun a b => a.1 < b.1)
  good : ∀ x ∈ L, Good x.2
theorem ent1_ok {p : Nat} {x : En} (h : ent1 p x = 0) : 1 ≤ x.1 / 1024 ∧ p < x.1 ∧ lst (-1) x.2 = 0 ∧ un x.2 = false := by
  unfold ent1 at h
  split at h
  · cases h
  · split at h
    · rename_i h1; exact absurd h h1
    · split at h
      · cases h
      · rename_i h1 h2 h3
        simp only [not_or] at h1
        exact ⟨by omega, by omega, by simpa using h2, by simpa using h3⟩
theorem good_of {C : List Cp} (h : lst (-1) C = 0) : Good C := ⟨(lst_ok h).1, fun q hq => chk_k ((lst_ok h).2 q hq).2⟩
theorem fm_ok {L : List En} : ∀ {p : Nat}, fm p L = 0 → Snap L ∧ ∀ x ∈ L, p < x.1 := by
  induction L with
  | nil => intro p _; exact ⟨⟨List.Pairwise.nil, fun x hx => by cases hx⟩, fun x hx => by cases hx⟩
  | cons y t ih =>
    intro p h
    rw [fm] at h
    split at h
    · rename_i h1; exact absurd h h1
    · rename_i h1
      have h1 : ent1 p y = 0 := by simpa using h1
      obtain ⟨h2, h3⟩ := ih h
      obtain ⟨e1, e2, e3, e4⟩ := ent1_ok h1
      refine ⟨⟨List.pairwise_cons.2 ⟨fun x hx => h3 x hx, h2.up⟩, fun x hx => ?_⟩, fun x hx => ?_⟩
      · rcases List.mem_cons.1 hx with rfl | hx
        · exact good_of e3
        · exact h2.good x hx
      · rcases List.mem_cons.1 hx with rfl | hx
        · exact e2
        · have := h3 x hx; omega
theorem Snap.of {L : List En} (h : fm 0 L = 0) : Snap L := (fm_ok h).1
theorem Snap.tail {x : En} {L : List En} (h : Snap (x :: L)) : Snap L := ⟨(List.pairwise_cons.1 h.up).2, fun y hy => h.good y (List.mem_cons_of_mem _ hy)⟩

/-- the first component of a kind -/
def fst (L : List Cp) (k : Nat) : Option Cp := L.find? (fun q => decide (q.k = k))
def lostN (A B : List Cp) : Nat → Nat
  | 0 => 0
  | n + 1 => lostN A B n + if hasK A n && !hasK B n then 2 ^ n else 0
def lostm (A B : List Cp) : Nat := lostN A B 6
structure Chg where
  id : Nat
  lost : Nat
  new : List Cp
  set : List Cp
def isNew (A : List Cp) (x : Cp) : Bool := !hasK A x.k
def isSet (A : List Cp) (x : Cp) : Bool := match fst A x.k with
  | none => false
  | some y => !decide (y = x)
def chg1 (a b : En) : Chg := ⟨b.1, lostm a.2 b.2, b.2.filter (isNew a.2), b.2.filter (isSet a.2)⟩
def Chg.nil (c : Chg) : Bool := decide (c.lost = 0) && c.new.isEmpty && c.set.isEmpty
/-- a delta -/
structure Dl where
  gone : List Nat
  come : List En
  chg : List Chg
def addG (g : Nat) (d : Dl) : Dl := ⟨g :: d.gone, d.come, d.chg⟩
def addE (e : En) (d : Dl) : Dl := ⟨d.gone, e :: d.come, d.chg⟩
def addCh (c : Chg) (d : Dl) : Dl := ⟨d.gone, d.come, if c.nil then d.chg else c :: d.chg⟩
/-- both gone through side by side -/
def btw : List En → List En → Dl
  | [], [] => ⟨[], [], []⟩
  | w :: ws, [] => addG w.1 (btw ws [])
  | [], n :: ns => addE n (btw [] ns)
  | w :: ws, n :: ns => if w.1 < n.1 then addG w.1 (btw ws (n :: ns)) else if n.1 < w.1 then addE n (btw (w :: ws) ns) else addCh (chg1 w n) (btw ws ns)
termination_by a b => a.length + b.length
def fstE (L : List En) (i : Nat) : Option En := L.find? (fun e => decide (e.1 = i))
def chgO (W : List En) (e : En) : Option Chg := (fstE W e.1).bind (fun w => if (chg1 w e).nil then none else some (chg1 w e))
/-- ID by ID -/
def dlt (W N : List En) : Dl := ⟨(W.filter (fun e => (fstE N e.1).isNone)).map (·.1), N.filter (fun e => (fstE W e.1).isNone), N.filterMap (chgO W)⟩
theorem fstE_ne {x : En} {L : List En} {i : Nat} (h : x.1 ≠ i) : fstE (x :: L) i = fstE L i := by simp [fstE, List.find?, h]
theorem fstE_eq {x : En} {L : List En} {i : Nat} (h : x.1 = i) : fstE (x :: L) i = some x := by simp [fstE, List.find?, h]
theorem fstE_none {L : List En} {i : Nat} (h : ∀ x ∈ L, x.1 ≠ i) : fstE L i = none := by
  rw [fstE, List.find?_eq_none]
  intro x hx
  simpa using h x hx
theorem fl_congr {α : Type} {L : List α} {p q : α → Bool} (h : ∀ x ∈ L, p x = q x) : L.filter p = L.filter q := List.filter_congr h
theorem fm_congr {α β : Type} {L : List α} {p q : α → Option β} (h : ∀ x ∈ L, p x = q x) : L.filterMap p = L.filterMap q := by
  induction L with
  | nil => rfl
  | cons a L ih => rw [List.filterMap_cons, List.filterMap_cons, h a (by simp), ih (fun x hx => h x (List.mem_cons_of_mem _ hx))]
theorem btw_dlt (W N : List En) : W.Pairwise (fun a b => a.1 < b.1) → N.Pairwise (fun a b => a.1 < b.1) → btw W N = dlt W N := by
  fun_induction btw W N with
  | case1 => intro _ _; rfl
  | case2 w ws ih =>
    intro hW hN
    rw [ih (List.pairwise_cons.1 hW).2 hN]
    simp [addG, dlt, fstE]
  | case3 n ns ih =>
    intro hW hN
    rw [ih hW (List.pairwise_cons.1 hN).2]
    have e : chgO [] n = none := rfl
    simp [addE, dlt, fstE, e]
  | case4 w ws n ns h ih =>
    intro hW hN
    rw [ih (List.pairwise_cons.1 hW).2 hN]
    have hw : ∀ e ∈ n :: ns, e.1 ≠ w.1 := fun e he => by
      rcases List.mem_cons.1 he with rfl | he
      · omega
      · have := (List.pairwise_cons.1 hN).1 e he; omega
    have a1 : (n :: ns).filter (fun e => (fstE (w :: ws) e.1).isNone) = (n :: ns).filter (fun e => (fstE ws e.1).isNone) := fl_congr fun x hx => by rw [fstE_ne (fun e => hw x hx e.symm)]
    have a2 : (n :: ns).filterMap (chgO (w :: ws)) = (n :: ns).filterMap (chgO ws) := fm_congr fun x hx => by unfold chgO; rw [fstE_ne (fun e => hw x hx e.symm)]
    unfold dlt addG
    rw [a1, a2]
    have a3 : (fstE (n :: ns) w.1).isNone = true := by rw [fstE_none hw]; rfl
    rw [List.filter_cons (xs := ws), if_pos a3]
    rfl
  | case5 w ws n ns h h2 ih =>
    intro hW hN
    rw [ih hW (List.pairwise_cons.1 hN).2]
    have hn : ∀ e ∈ w :: ws, e.1 ≠ n.1 := fun e he => by
      rcases List.mem_cons.1 he with rfl | he
      · omega
      · have := (List.pairwise_cons.1 hW).1 e he; omega
    have a1 : (w :: ws).filter (fun e => (fstE (n :: ns) e.1).isNone) = (w :: ws).filter (fun e => (fstE ns e.1).isNone) := fl_congr fun x hx => by rw [fstE_ne (fun e => hn x hx e.symm)]
    have a0 := fstE_none hn
    unfold dlt addE
    rw [a1]
    have a3 : (fstE (w :: ws) n.1).isNone = true := by rw [a0]; rfl
    have a4 : chgO (w :: ws) n = none := by unfold chgO; rw [a0]; rfl
    rw [List.filter_cons (xs := ns), if_pos a3, List.filterMap_cons, a4]
  | case6 w ws n ns h h2 ih =>
    intro hW hN
    have he : w.1 = n.1 := by omega
    rw [ih (List.pairwise_cons.1 hW).2 (List.pairwise_cons.1 hN).2]
    have hn : ∀ e ∈ ws, e.1 ≠ n.1 := fun e he' => by have := (List.pairwise_cons.1 hW).1 e he'; omega
    have hw : ∀ e ∈ ns, e.1 ≠ w.1 := fun e he' => by have := (List.pairwise_cons.1 hN).1 e he'; omega
    have a1 : (w :: ws).filter (fun e => (fstE (n :: ns) e.1).isNone) = ws.filter (fun e => (fstE ns e.1).isNone) := by
      rw [List.filter_cons, fstE_eq he.symm]
      simp only [Option.isNone_some]
      exact fl_congr fun x hx => by rw [fstE_ne (fun e => hn x hx e.symm)]
    have a2 : (n :: ns).filter (fun e => (fstE (w :: ws) e.1).isNone) = ns.filter (fun e => (fstE ws e.1).isNone) := by
      rw [List.filter_cons, fstE_eq he]
      simp only [Option.isNone_some]
      exact fl_congr fun x hx => by rw [fstE_ne (fun e => hw x hx e.symm)]
    have a3 : ns.filterMap (chgO (w :: ws)) = ns.filterMap (chgO ws) := fm_congr fun x hx => by unfold chgO; rw [fstE_ne (fun e => hw x hx e.symm)]
    have a4 : chgO (w :: ws) n = if (chg1 w n).nil then none else some (chg1 w n) := by unfold chgO; rw [fstE_eq he]; rfl
    unfold dlt addCh
    rw [a1, a2, List.filterMap_cons, a3, a4]
    split <;> rfl
end Go.Proofs.YtfhfcfobgemcpaaGreatDoor

/-
  Lists of entities that can be read: how many there are, whether they are alike.
-/
namespace Go.Proofs.YtfhfcfobgemcpaaGreatDoor
open Go.RowKit
set_option linter.unusedVariables false
set_option maxRecDepth 100000

/-- a list of entities that can be read -/
def EntsAt (w : World) (ao : Option Addr) (L : List EnE) : Prop := (L = [] ∨ ∃ g o, ao = some ⟨g, o, none⟩ ∧ ∀ (j : Nat) x, L[j]? = some x → w.cell? ⟨g, o + j * 2, none⟩ = some (.int .u32 (x.id : Int)) ∧ w.cell? ⟨g, o + j * 2 + 1, none⟩ = some (.slice x.ao x.C.length x.cap)) ∧ ∀ x ∈ L, Cs w x.ao x.C
theorem EntsAt.quiet {w w' : World} {ao : Option Addr} {L : List EnE} (h : EntsAt w ao L) (hf : Fr Nobody w w') : EntsAt w' ao L := by
  refine ⟨?_, fun x hx => (h.2 x hx).quiet hf⟩
  rcases h.1 with h | ⟨g, o, ha, hc⟩
  · exact .inl h
  · refine .inr ⟨g, o, ha, fun j x hx => ?_⟩
    obtain ⟨h0, h1⟩ := hc j x hx
    have hb := World.block_lt_of_cell? w _ h0
    exact ⟨(hf.cell (p := ⟨g, o + j * 2, none⟩) hb id).trans h0, (hf.cell (p := ⟨g, o + j * 2 + 1, none⟩) hb id).trans h1⟩
theorem EntsAt.at {w : World} {ao : Option Addr} {L : List EnE} (h : EntsAt w ao L) {j : Nat} {x : EnE} (hx : L[j]? = some x) : ∃ g o, ao = some ⟨g, o, none⟩ ∧ w.cell? ⟨g, o + j * 2, none⟩ = some (.int .u32 (x.id : Int)) ∧ w.cell? ⟨g, o + j * 2 + 1, none⟩ = some (.slice x.ao x.C.length x.cap) ∧ Cs w x.ao x.C := by
  rcases h.1 with h0 | ⟨g, o, ha, hc⟩
  · subst h0; simp at hx
  · exact ⟨g, o, ha, (hc j x hx).1, (hc j x hx).2, h.2 x (List.mem_of_getElem? hx)⟩
theorem Own.entsAt {w0 w : World} {l : List Thing} {ao : Option Addr} {cap : Nat} {L : List EnE} (h : Own w0 w (EntsT ao cap L :: l)) : EntsAt w ao L := by
  refine ⟨?_, fun x hx => ?_⟩
  · rcases Nat.eq_zero_or_pos L.length with h0 | h0
    · exact .inl (List.eq_nil_of_length_eq_zero h0)
    · obtain ⟨x0, hx0⟩ : ∃ x, L[0]? = some x := ⟨_, List.getElem?_eq_getElem h0⟩
      obtain ⟨⟨g, hg, _, _⟩, _⟩ := h.entAt hx0
      refine .inr ⟨g, 0, hg, fun j x hx => ?_⟩
      obtain ⟨⟨g', hg', h1, h2⟩, _⟩ := h.entAt hx
      rw [hg] at hg'
      cases hg'
      rw [Nat.zero_add]
      exact ⟨h1, h2⟩
  · obtain ⟨j, hj⟩ := List.getElem?_of_mem hx
    exact (h.entAt hj).2
/-- what they are -/
def evs (L : List EnE) : List En := L.map (fun x => (x.id, x.C))
theorem evs_len (L : List EnE) : (evs L).length = L.length := by simp [evs]
theorem evs_at {L : List EnE} {j : Nat} {x : EnE} (h : L[j]? = some x) : (evs L)[j]? = some (x.id, x.C) := by simp [evs, h]
/-- numbers and kinds within their types -/
def EIn (L : List EnE) : Prop := ∀ x ∈ L, x.id < 4294967296 ∧ ∀ q ∈ x.C, q.k < 256
/-- how many components -/
def csz : List EnE → Nat
  | [] => 0
  | x :: t => x.C.length + csz t
theorem csz_append (A B : List EnE) : csz (A ++ B) = csz A + csz B := by
  induction A with
  | nil => simp [csz]
  | cons x t ih => simp only [List.cons_append, csz, ih]; omega
theorem csz_take {L : List EnE} {j : Nat} {x : EnE} (h : L[j]? = some x) : csz (L.take (j + 1)) = csz (L.take j) + x.C.length := by
  rw [List.take_add_one, h, csz_append]; simp [csz]
theorem csz_take_le (L : List EnE) (j : Nat) : csz (L.take j) ≤ csz L := by
  have h := csz_append (L.take j) (L.drop j)
  rw [List.take_append_drop] at h
  omega
theorem csz_mem {L : List EnE} {x : EnE} (h : x ∈ L) : x.C.length ≤ csz L := by
  obtain ⟨j, hj⟩ := List.getElem?_of_mem h
  have h1 := csz_take hj
  have h2 := csz_take_le L (j + 1)
  omega
def esz (L : List EnE) : Nat := L.length + csz L

set_option maxHeartbeats 2000000 in
theorem few_any (w : World) (ao : Option Addr) (n cap : Nat) (L : List EnE) (hn : L.length = n) (h : EntsAt w ao L) (hz : esz L ≤ 1048576) :
    Calls Tryz.prog 39 #[.slice ao n cap] w fun e w' => e = .returned (.bool (decide (esz L ≤ 400))) ∧ Fr Nobody w w' := by
  have HL : Hid (L.length = n ∧ EntsAt w ao L) := ⟨hn, h⟩
  have HZ : Hid (esz L = n + csz L) := by show _ = _; unfold esz; rw [hn]
  have hz1 : n + csz L ≤ 1048576 := by unfold esz at hz; omega
  clear hn h hz
  go_enter Tryz.func39, Tryz.ntmps39
  go_wp2
  go_loopw [3, 10] (fun s c wr => ∃ (j m : Nat), j ≤ n ∧ c = .int .i64 j ∧ s = .int .i64 m ∧ m = n + csz (L.take j) ∧ Fr Nobody w wr) (fun _ c _ => n - (intOf c).toNat)
  case atStart => exact ⟨0, n, Nat.zero_le _, rfl, rfl, by simp [csz], Fr.refl _ _⟩
  case round =>
    obtain ⟨j, m, hj, rfl, rfl, hm, hf⟩ := hrel
    have HF : Hid (Fr Nobody w wr) := hf
    have HM : Hid (m = n + csz (L.take j)) := hm
    have hm2 : m ≤ 1048576 := by have := csz_take_le L j; omega
    clear hf hm
    by_cases hlt : j < n
    · obtain ⟨x, hx⟩ : ∃ x, L[j]? = some x := ⟨_, List.getElem?_eq_getElem (by rw [HL.out.1]; exact hlt)⟩
      obtain ⟨g, o, hao, c0, c1, _⟩ := (HL.out.2.quiet HF.out).at hx
      subst hao
      have HS : Hid (m + x.C.length = n + csz (L.take (j + 1))) := by show _ = _; rw [csz_take hx, HM.out]; omega
      have hs2 : m + x.C.length ≤ 1048576 := by have := csz_take_le L (j + 1); have := HS.out; omega
      have hlt' : (j : Int) < (n : Int) := by omega
      clear hx
      obtain ⟨xi, xa, xc, C⟩ := x
      simp only at c0 c1 HS hs2
      generalize C.length = cl at *
      go_wp2
      go_roundw
      case rel => exact ⟨j + 1, m + cl, by omega, by go_num, by go_num, HS.out, HF.out.alloc _⟩
      case measure => simp [intOf]; omega
    · have hlt' : ¬ (j : Int) < (n : Int) := by omega
      have HT : Hid (esz L = m) := by show _ = _; rw [HZ.out, HM.out, List.take_of_length_le (by rw [HL.out.1]; omega)]
      clear HM
      by_cases h4 : m ≤ 400
      · have h4' : (m : Int) ≤ 400 := by omega
        have HD : Hid (decide (esz L ≤ 400) = true) := by show _ = _; rw [HT.out]; exact decide_eq_true h4
        go_wp2
        go_ret
        exact ⟨by rw [HD.out]; simp, HF.out⟩
      · have h4' : ¬ (m : Int) ≤ 400 := by omega
        have HD : Hid (decide (esz L ≤ 400) = false) := by show _ = _; rw [HT.out]; exact decide_eq_false h4
        go_wp2
        go_ret
        exact ⟨by rw [HD.out]; simp, HF.out⟩
end Go.Proofs.YtfhfcfobgemcpaaGreatDoor

/-
  Components, entities, lists of entities: are they alike?
-/
namespace Go.Proofs.YtfhfcfobgemcpaaGreatDoor
open Go.RowKit
set_option linter.unusedVariables false
set_option maxRecDepth 100000

theorem cp_eq (x y : Cp) : ((((x.k : Int) == (y.k : Int))) && ((x.a == y.a) && (x.b == y.b) && (x.c == y.c))) = decide (x = y) := by
  rw [Bool.eq_iff_iff]
  cases x; cases y
  simp
  omega
theorem take_ne {α : Type} [DecidableEq α] {A B : List α} {k : Nat} {x y : α} (hx : A[k]? = some x) (hy : B[k]? = some y) (h : decide (x = y) = false) : decide (A = B) = false := by
  apply decide_eq_false
  intro e
  rw [e, hy] at hx
  have : y = x := by simpa using hx
  exact of_decide_eq_false h this.symm
theorem take_eq {α : Type} [DecidableEq α] {A B : List α} {k : Nat} {x y : α} (hx : A[k]? = some x) (hy : B[k]? = some y) (h : decide (x = y) = true) (ht : A.take k = B.take k) : A.take (k + 1) = B.take (k + 1) := by
  rw [List.take_add_one, List.take_add_one, hx, hy, ht, of_decide_eq_true h]
theorem take_all {α : Type} [DecidableEq α] {A B : List α} {k : Nat} (hA : A.length ≤ k) (hB : B.length ≤ k) (ht : A.take k = B.take k) : decide (A = B) = true := by
  rw [List.take_of_length_le hA, List.take_of_length_le hB] at ht
  exact decide_eq_true ht
theorem len_ne {α : Type} [DecidableEq α] {A B : List α} (h : A.length ≠ B.length) : decide (A = B) = false := decide_eq_false (fun e => h (by rw [e]))
set_option maxHeartbeats 2000000 in
theorem eqCs_r (w : World) (a1 a2 : Option Addr) (n1 n2 c1 c2 : Nat) (A B : List Cp) (h1 : Cs w a1 A) (h2 : Cs w a2 B) (hn1 : A.length = n1) (hn2 : B.length = n2) (hm1 : n1 ≤ 2097152) (hm2 : n2 ≤ 2097152) :
    Calls Tryz.prog 42 #[.slice a1 n1 c1, .slice a2 n2 c2] w fun e w' => e = .returned (.bool (decide (A = B))) ∧ Fr Nobody w w' := by
  by_cases hne : n1 = n2
  · have H1 : Hid (Cs w a1 A ∧ Cs w a2 B ∧ A.length = n1 ∧ B.length = n1) := ⟨h1, h2, hn1, by rw [hn2, hne]⟩
    rw [← hne]
    clear h1 h2 hn1 hn2 hne hm2
    have hne' : ((n1 : Int) != (n1 : Int)) = false := by simp
    go_enter Tryz.func42, Tryz.ntmps42
    go_wp2
    clear hne'
    go_loopw [13] (fun cc wr => ∃ k : Nat, k ≤ n1 ∧ cc = .int .i64 k ∧ Fr Nobody w wr ∧ A.take k = B.take k) (fun cc _ => n1 - (intOf cc).toNat)
    case atStart => exact ⟨0, Nat.zero_le _, rfl, Fr.refl _ _, by simp⟩
    case round =>
      obtain ⟨k, hk, rfl, hf, heq⟩ := hrel
      have HF : Hid (Fr Nobody w wr) := hf
      have HE : Hid (A.take k = B.take k) := heq
      clear hf heq
      by_cases hlt : k < n1
      · obtain ⟨x, hx⟩ : ∃ x, A[k]? = some x := ⟨_, List.getElem?_eq_getElem (by rw [H1.out.2.2.1]; exact hlt)⟩
        obtain ⟨y, hy⟩ : ∃ y, B[k]? = some y := ⟨_, List.getElem?_eq_getElem (by rw [H1.out.2.2.2]; exact hlt)⟩
        obtain ⟨g1, o1, hg1, _, p0, p1, p2, p3⟩ := (H1.out.1.quiet HF.out).at k x hx
        obtain ⟨g2, o2, hg2, _, q0, q1, q2, q3⟩ := (H1.out.2.1.quiet HF.out).at k y hy
        subst hg1 hg2
        have hlt' : (k : Int) < (n1 : Int) := by omega
        have HXY : Hid (A[k]? = some x ∧ B[k]? = some y) := ⟨hx, hy⟩
        obtain ⟨r0, e0⟩ : ∃ r, ((x.k : Int) == (y.k : Int)) = r := ⟨_, rfl⟩
        obtain ⟨r1, e1⟩ : ∃ r, ((x.a == y.a) && (x.b == y.b) && (x.c == y.c)) = r := ⟨_, rfl⟩
        have HD : Hid (decide (x = y) = (r0 && r1)) := by show _ = _; rw [← cp_eq, e0, e1]
        have eqa : ∀ d w, (Op.equalIn (d + 1 + 1) 44 (.agg #[.int .i32 x.a, .int .i32 x.b, .int .i32 x.c]) (.agg #[.int .i32 y.a, .int .i32 y.b, .int .i32 y.c])).run Tryz.prog w = .ok r1 w := fun d w => by rw [eq_a3, e1]
        clear hx hy e1
        obtain ⟨xk, xa, xb, xc⟩ := x
        obtain ⟨yk, ya, yb, yc⟩ := y
        simp only at p0 p1 p2 p3 q0 q1 q2 q3 e0 eqa
        by_cases hb : (r0 && r1) = true
        · obtain ⟨rfl, rfl⟩ : r0 = true ∧ r1 = true := by simpa using hb
          have HN : Hid (A.take (k + 1) = B.take (k + 1)) := take_eq HXY.out.1 HXY.out.2 HD.out HE.out
          go_wp2
          go_quiet (fail)
          go_wp2
          go_roundw
          case rel => exact ⟨k + 1, by omega, by go_num, HF.out.drewN _, HN.out⟩
          case measure => simp [intOf]; omega
        · have HN : Hid (decide (A = B) = false) := take_ne HXY.out.1 HXY.out.2 (by rw [HD.out]; simpa using hb)
          have hb2 : (r0 && r1) = false := by simpa using hb
          have hc : r0 = false ∨ (r0 = true ∧ r1 = false) := by cases r0 <;> cases r1 <;> simp at hb2 ⊢
          clear hb hb2
          rcases hc with rfl | ⟨rfl, rfl⟩
          all_goals
            go_wp2
            go_quiet (fail)
            go_wp2
            go_ret
            exact ⟨by rw [HN.out]; rfl, HF.out.drewN _⟩
      · have hlt' : ¬ (k : Int) < (n1 : Int) := by omega
        have HN : Hid (decide (A = B) = true) := take_all (by rw [H1.out.2.2.1]; omega) (by rw [H1.out.2.2.2]; omega) HE.out
        go_wp2
        go_ret
        exact ⟨by rw [HN.out]; rfl, HF.out⟩
  · have HN : Hid (decide (A = B) = false) := len_ne (by rw [hn1, hn2]; exact hne)
    have hne' : ((n1 : Int) != (n2 : Int)) = true := by rw [bne_iff_ne]; omega
    clear h1 h2 hn1 hn2 hne
    go_enter Tryz.func42, Tryz.ntmps42
    go_wp2
    go_ret
    exact ⟨by rw [HN.out]; rfl, Fr.refl _ _⟩
set_option maxHeartbeats 1000000 in
theorem eqEn_r (w : World) (i1 i2 : Nat) (a1 a2 : Option Addr) (n1 n2 c1 c2 : Nat) (A B : List Cp) (h1 : Cs w a1 A) (h2 : Cs w a2 B) (hn1 : A.length = n1) (hn2 : B.length = n2) (hm1 : n1 ≤ 2097152) (hm2 : n2 ≤ 2097152) :
    Calls Tryz.prog 83 #[.agg #[.int .u32 (i1 : Int), .slice a1 n1 c1], .agg #[.int .u32 (i2 : Int), .slice a2 n2 c2]] w fun e w' => e = .returned (.bool (decide ((i1, A) = (i2, B)))) ∧ Fr Nobody w w' := by
  have HF : Hid (Fr Nobody w ((w.alloc (.cells #[.int .u32 (i1 : Int), .slice a1 n1 c1] 67)).alloc (.cells #[.int .u32 (i2 : Int), .slice a2 n2 c2] 67))) := ((Fr.refl _ _).alloc _).alloc _
  have HS : Hid (Calls _ _ _ _ _) := eqCs_r _ a1 a2 n1 n2 c1 c2 A B (h1.quiet HF.out) (h2.quiet HF.out) hn1 hn2 hm1 hm2
  by_cases hi : i1 = i2
  · have HD : Hid (decide ((i1, A) = (i2, B)) = decide (A = B)) := by show _ = _; simp [hi]
    have hii : ((i1 : Int) == (i2 : Int)) = true := by simp [hi]
    generalize decide (A = B) = r at *
    clear h1 h2 hn1 hn2 hi
    go_enter Tryz.func83, Tryz.ntmps83
    go_wp2_with fail
    refine HS.out.mono ?_
    rintro e w1 ⟨rfl, hf⟩
    have H1 : Hid (Fr Nobody w w1) := HF.out.trans hf
    clear hf HS
    go_wp2
    go_ret
    exact ⟨by rw [HD.out]; rfl, H1.out⟩
  · have HD : Hid (decide ((i1, A) = (i2, B)) = false) := by show _ = _; simp [hi]
    have hii : ((i1 : Int) == (i2 : Int)) = false := by simp; omega
    clear h1 h2 hn1 hn2 hi HS
    go_enter Tryz.func83, Tryz.ntmps83
    go_wp2
    go_ret
    exact ⟨by rw [HD.out]; rfl, HF.out⟩
set_option maxHeartbeats 2000000 in
theorem eqCs_p (w : World) (a1 a2 : Option Addr) (n1 n2 c1 c2 : Nat) (A B : List Cp) (h1 : Cs w a1 A) (h2 : Cs w a2 B) (hn1 : A.length = n1) (hn2 : B.length = n2) (hm1 : n1 ≤ 2097152) (hm2 : n2 ≤ 2097152) :
    Calls Tryz.prog 175 #[.slice a1 n1 c1, .slice a2 n2 c2] w fun e w' => e = .returned (.bool (decide (A = B))) ∧ Fr Nobody w w' := by
  by_cases hne : n1 = n2
  · have H1 : Hid (Cs w a1 A ∧ Cs w a2 B ∧ A.length = n1 ∧ B.length = n1) := ⟨h1, h2, hn1, by rw [hn2, hne]⟩
    rw [← hne]
    clear h1 h2 hn1 hn2 hne hm2
    have hne' : ((n1 : Int) != (n1 : Int)) = false := by simp
    go_enter Tryz.func175, Tryz.ntmps175
    go_wp2
    clear hne'
    go_loopw [13] (fun cc wr => ∃ k : Nat, k ≤ n1 ∧ cc = .int .i64 k ∧ Fr Nobody w wr ∧ A.take k = B.take k) (fun cc _ => n1 - (intOf cc).toNat)
    case atStart => exact ⟨0, Nat.zero_le _, rfl, Fr.refl _ _, by simp⟩
    case round =>
      obtain ⟨k, hk, rfl, hf, heq⟩ := hrel
      have HF : Hid (Fr Nobody w wr) := hf
      have HE : Hid (A.take k = B.take k) := heq
      clear hf heq
      by_cases hlt : k < n1
      · obtain ⟨x, hx⟩ : ∃ x, A[k]? = some x := ⟨_, List.getElem?_eq_getElem (by rw [H1.out.2.2.1]; exact hlt)⟩
        obtain ⟨y, hy⟩ : ∃ y, B[k]? = some y := ⟨_, List.getElem?_eq_getElem (by rw [H1.out.2.2.2]; exact hlt)⟩
        obtain ⟨g1, o1, hg1, _, p0, p1, p2, p3⟩ := (H1.out.1.quiet HF.out).at k x hx
        obtain ⟨g2, o2, hg2, _, q0, q1, q2, q3⟩ := (H1.out.2.1.quiet HF.out).at k y hy
        subst hg1 hg2
        have hlt' : (k : Int) < (n1 : Int) := by omega
        have HXY : Hid (A[k]? = some x ∧ B[k]? = some y) := ⟨hx, hy⟩
        obtain ⟨r0, e0⟩ : ∃ r, ((x.k : Int) == (y.k : Int)) = r := ⟨_, rfl⟩
        obtain ⟨r1, e1⟩ : ∃ r, ((x.a == y.a) && (x.b == y.b) && (x.c == y.c)) = r := ⟨_, rfl⟩
        have HD : Hid (decide (x = y) = (r0 && r1)) := by show _ = _; rw [← cp_eq, e0, e1]
        have eqa : ∀ d w, (Op.equalIn (d + 1 + 1) 44 (.agg #[.int .i32 x.a, .int .i32 x.b, .int .i32 x.c]) (.agg #[.int .i32 y.a, .int .i32 y.b, .int .i32 y.c])).run Tryz.prog w = .ok r1 w := fun d w => by rw [eq_a3, e1]
        clear hx hy e1
        obtain ⟨xk, xa, xb, xc⟩ := x
        obtain ⟨yk, ya, yb, yc⟩ := y
        simp only at p0 p1 p2 p3 q0 q1 q2 q3 e0 eqa
        by_cases hb : (r0 && r1) = true
        · obtain ⟨rfl, rfl⟩ : r0 = true ∧ r1 = true := by simpa using hb
          have HN : Hid (A.take (k + 1) = B.take (k + 1)) := take_eq HXY.out.1 HXY.out.2 HD.out HE.out
          go_wp2
          go_quiet (fail)
          go_wp2
          go_roundw
          case rel => exact ⟨k + 1, by omega, by go_num, HF.out.drewN _, HN.out⟩
          case measure => simp [intOf]; omega
        · have HN : Hid (decide (A = B) = false) := take_ne HXY.out.1 HXY.out.2 (by rw [HD.out]; simpa using hb)
          have hb2 : (r0 && r1) = false := by simpa using hb
          have hc : r0 = false ∨ (r0 = true ∧ r1 = false) := by cases r0 <;> cases r1 <;> simp at hb2 ⊢
          clear hb hb2
          rcases hc with rfl | ⟨rfl, rfl⟩
          all_goals
            go_wp2
            go_quiet (fail)
            go_wp2
            go_ret
            exact ⟨by rw [HN.out]; rfl, HF.out.drewN _⟩
      · have hlt' : ¬ (k : Int) < (n1 : Int) := by omega
        have HN : Hid (decide (A = B) = true) := take_all (by rw [H1.out.2.2.1]; omega) (by rw [H1.out.2.2.2]; omega) HE.out
        go_wp2
        go_ret
        exact ⟨by rw [HN.out]; rfl, HF.out⟩
  · have HN : Hid (decide (A = B) = false) := len_ne (by rw [hn1, hn2]; exact hne)
    have hne' : ((n1 : Int) != (n2 : Int)) = true := by rw [bne_iff_ne]; omega
    clear h1 h2 hn1 hn2 hne
    go_enter Tryz.func175, Tryz.ntmps175
    go_wp2
    go_ret
    exact ⟨by rw [HN.out]; rfl, Fr.refl _ _⟩
set_option maxHeartbeats 1000000 in
theorem eqEn_p (w : World) (i1 i2 : Nat) (a1 a2 : Option Addr) (n1 n2 c1 c2 : Nat) (A B : List Cp) (h1 : Cs w a1 A) (h2 : Cs w a2 B) (hn1 : A.length = n1) (hn2 : B.length = n2) (hm1 : n1 ≤ 2097152) (hm2 : n2 ≤ 2097152) :
    Calls Tryz.prog 118 #[.agg #[.int .u32 (i1 : Int), .slice a1 n1 c1], .agg #[.int .u32 (i2 : Int), .slice a2 n2 c2]] w fun e w' => e = .returned (.bool (decide ((i1, A) = (i2, B)))) ∧ Fr Nobody w w' := by
  have HF : Hid (Fr Nobody w ((w.alloc (.cells #[.int .u32 (i1 : Int), .slice a1 n1 c1] 67)).alloc (.cells #[.int .u32 (i2 : Int), .slice a2 n2 c2] 67))) := ((Fr.refl _ _).alloc _).alloc _
  have HS : Hid (Calls _ _ _ _ _) := eqCs_p _ a1 a2 n1 n2 c1 c2 A B (h1.quiet HF.out) (h2.quiet HF.out) hn1 hn2 hm1 hm2
  by_cases hi : i1 = i2
  · have HD : Hid (decide ((i1, A) = (i2, B)) = decide (A = B)) := by show _ = _; simp [hi]
    have hii : ((i1 : Int) == (i2 : Int)) = true := by simp [hi]
    generalize decide (A = B) = r at *
    clear h1 h2 hn1 hn2 hi
    go_enter Tryz.func118, Tryz.ntmps118
    go_wp2_with fail
    refine HS.out.mono ?_
    rintro e w1 ⟨rfl, hf⟩
    have H1 : Hid (Fr Nobody w w1) := HF.out.trans hf
    clear hf HS
    go_wp2
    go_ret
    exact ⟨by rw [HD.out]; rfl, H1.out⟩
  · have HD : Hid (decide ((i1, A) = (i2, B)) = false) := by show _ = _; simp [hi]
    have hii : ((i1 : Int) == (i2 : Int)) = false := by simp; omega
    clear h1 h2 hn1 hn2 hi HS
    go_enter Tryz.func118, Tryz.ntmps118
    go_wp2
    go_ret
    exact ⟨by rw [HD.out]; rfl, HF.out⟩
end Go.Proofs.YtfhfcfobgemcpaaGreatDoor

/-
  Lists of entities: alike; where one stands; is it a snapshot?
-/
namespace Go.Proofs.YtfhfcfobgemcpaaGreatDoor
open Go.RowKit
set_option linter.unusedVariables false
set_option maxRecDepth 100000

set_option maxHeartbeats 8000000 in
theorem sameEnts_any (w : World) (a1 a2 : Option Addr) (n1 n2 c1 c2 : Nat) (L M : List EnE) (h1 : EntsAt w a1 L) (h2 : EntsAt w a2 M) (hn1 : L.length = n1) (hn2 : M.length = n2) (hz1 : esz L ≤ 2097152) (hz2 : esz M ≤ 2097152) :
    Calls Tryz.prog 32 #[.slice a1 n1 c1, .slice a2 n2 c2] w fun e w' => e = .returned (.bool (decide (evs L = evs M))) ∧ Fr Nobody w w' := by
  have hm1 : n1 ≤ 2097152 := by unfold esz at hz1; omega
  have HZ : Hid ((∀ x ∈ L, x.C.length ≤ 2097152) ∧ ∀ x ∈ M, x.C.length ≤ 2097152) := ⟨fun x hx => by have := csz_mem hx; unfold esz at hz1; omega, fun x hx => by have := csz_mem hx; unfold esz at hz2; omega⟩
  have hlL := evs_len L
  have hlM := evs_len M
  by_cases hne : n1 = n2
  · have H1 : Hid (EntsAt w a1 L ∧ EntsAt w a2 M ∧ L.length = n1 ∧ M.length = n1) := ⟨h1, h2, hn1, by rw [hn2, hne]⟩
    have HLL : Hid ((evs L).length ≤ n1 ∧ (evs M).length ≤ n1) := ⟨by omega, by omega⟩
    rw [← hne]
    clear h1 h2 hn1 hn2 hne hz1 hz2 hlL hlM
    have hne' : ((n1 : Int) != (n1 : Int)) = false := by simp
    go_enter Tryz.func32, Tryz.ntmps32
    go_wp2
    clear hne'
    go_loopw [13] (fun cc wr => ∃ k : Nat, k ≤ n1 ∧ cc = .int .i64 k ∧ Fr Nobody w wr ∧ (evs L).take k = (evs M).take k) (fun cc _ => n1 - (intOf cc).toNat)
    case atStart => exact ⟨0, Nat.zero_le _, rfl, Fr.refl _ _, by simp⟩
    case round =>
      obtain ⟨k, hk, rfl, hf, heq⟩ := hrel
      have HF : Hid (Fr Nobody w wr) := hf
      have HE : Hid ((evs L).take k = (evs M).take k) := heq
      clear hf heq
      by_cases hlt : k < n1
      · obtain ⟨x, hx⟩ : ∃ x, L[k]? = some x := ⟨_, List.getElem?_eq_getElem (by rw [H1.out.2.2.1]; exact hlt)⟩
        obtain ⟨y, hy⟩ : ∃ y, M[k]? = some y := ⟨_, List.getElem?_eq_getElem (by rw [H1.out.2.2.2]; exact hlt)⟩
        obtain ⟨g1, o1, hg1, _, _, _⟩ := (H1.out.1.quiet HF.out).at hx
        obtain ⟨g2, o2, hg2, _, _, _⟩ := (H1.out.2.1.quiet HF.out).at hy
        subst hg1 hg2
        have hlt' : (k : Int) < (n1 : Int) := by omega
        have r0 : ∀ f : FrOf wr, f.val.cell? ⟨g1, o1 + k * 2, none⟩ = some (.int .u32 (x.id : Int)) := fun f => by
          obtain ⟨g, o, hg, h0, h1, _⟩ := (H1.out.1.quiet (HF.out.trans f.fr)).at hx
          cases hg; exact h0
        have r1 : ∀ f : FrOf wr, f.val.cell? ⟨g1, o1 + k * 2 + 1, none⟩ = some (.slice x.ao x.C.length x.cap) := fun f => by
          obtain ⟨g, o, hg, h0, h1, _⟩ := (H1.out.1.quiet (HF.out.trans f.fr)).at hx
          cases hg; exact h1
        have s0 : ∀ f : FrOf wr, f.val.cell? ⟨g2, o2 + k * 2, none⟩ = some (.int .u32 (y.id : Int)) := fun f => by
          obtain ⟨g, o, hg, h0, h1, _⟩ := (H1.out.2.1.quiet (HF.out.trans f.fr)).at hy
          cases hg; exact h0
        have s1 : ∀ f : FrOf wr, f.val.cell? ⟨g2, o2 + k * 2 + 1, none⟩ = some (.slice y.ao y.C.length y.cap) := fun f => by
          obtain ⟨g, o, hg, h0, h1, _⟩ := (H1.out.2.1.quiet (HF.out.trans f.fr)).at hy
          cases hg; exact h1
        obtain ⟨r, hr⟩ : ∃ r, decide ((x.id, x.C) = (y.id, y.C)) = r := ⟨_, rfl⟩
        have CS : Hid (∀ f : FrOf wr, Calls Tryz.prog 83 #[.agg #[.int .u32 (x.id : Int), .slice x.ao x.C.length x.cap], .agg #[.int .u32 (y.id : Int), .slice y.ao y.C.length y.cap]] f.val fun e w' => e = .returned (.bool r) ∧ Fr Nobody f.val w') := fun f => by
          rw [← hr]
          exact eqEn_r f.val x.id y.id x.ao y.ao x.C.length y.C.length x.cap y.cap x.C y.C ((H1.out.1.quiet (HF.out.trans f.fr)).2 x (List.mem_of_getElem? hx)) ((H1.out.2.1.quiet (HF.out.trans f.fr)).2 y (List.mem_of_getElem? hy)) rfl rfl (HZ.out.1 x (List.mem_of_getElem? hx)) (HZ.out.2 y (List.mem_of_getElem? hy))
        have HXY : Hid ((evs L)[k]? = some (x.id, x.C) ∧ (evs M)[k]? = some (y.id, y.C)) := ⟨evs_at hx, evs_at hy⟩
        have HR : Hid (decide ((x.id, x.C) = (y.id, y.C)) = r) := hr
        clear hx hy hr
        obtain ⟨xi, xa, xc, xC⟩ := x
        obtain ⟨yi, ya, yc, yC⟩ := y
        simp only at r0 r1 s0 s1 CS HXY HR
        generalize xC.length = xl at *
        generalize yC.length = yl at *
        go_wp2
        refine wp_region_fr (by kernel_rfl) (by kernel_rfl) ?_
        repeat (with_reducible refine wpQuiet_step (fun K hK => ?_)
                go_simp
                first
                  | (refine hK _ ?_; clear hK K)
                  | (apply Exists.intro
                     refine ⟨fun _ => ?_, hK _ ?_⟩
                     (go_at_call 83; with_reducible refine Calls.fr_of (CS.out _))
                     clear hK K))
        refine wpQuiet_nil ?_
        rintro w' ⟨f, rfl⟩
        have HF2 : Hid (Fr Nobody w f.val) := HF.out.trans f.fr
        clear r0 r1 s0 s1 CS
        cases r
        · have HN : Hid (decide (evs L = evs M) = false) := take_ne HXY.out.1 HXY.out.2 HR.out
          go_wp2
          go_ret
          exact ⟨by rw [HN.out]; rfl, HF2.out⟩
        · have HN : Hid ((evs L).take (k + 1) = (evs M).take (k + 1)) := take_eq HXY.out.1 HXY.out.2 HR.out HE.out
          go_wp2
          go_roundw
          case rel => exact ⟨k + 1, by omega, by go_num, HF2.out, HN.out⟩
          case measure => simp [intOf]; omega
      · have hlt' : ¬ (k : Int) < (n1 : Int) := by omega
        have HN : Hid (decide (evs L = evs M) = true) := take_all (by have := HLL.out.1; omega) (by have := HLL.out.2; omega) HE.out
        go_wp2
        go_ret
        exact ⟨by rw [HN.out]; rfl, HF.out⟩
  · have HN : Hid (decide (evs L = evs M) = false) := len_ne (by omega)
    have hne' : ((n1 : Int) != (n2 : Int)) = true := by rw [bne_iff_ne]; omega
    clear h1 h2 hn1 hn2 hne hlL hlM hz1 hz2
    go_enter Tryz.func32, Tryz.ntmps32
    go_wp2
    go_ret
    exact ⟨by rw [HN.out]; rfl, Fr.refl _ _⟩

set_option maxHeartbeats 4000000 in
theorem equalEnts_any (w : World) (a1 a2 : Option Addr) (n1 n2 c1 c2 : Nat) (L M : List EnE) (h1 : EntsAt w a1 L) (h2 : EntsAt w a2 M) (hn1 : L.length = n1) (hn2 : M.length = n2) (hz1 : esz L ≤ 2097152) (hz2 : esz M ≤ 2097152) :
    Calls Tryz.prog 117 #[.slice a1 n1 c1, .slice a2 n2 c2, .func (.func 118) #[] #[]] w fun e w' => e = .returned (.bool (decide (evs L = evs M))) ∧ Fr Nobody w w' := by
  have hm1 : n1 ≤ 2097152 := by unfold esz at hz1; omega
  have HZ : Hid ((∀ x ∈ L, x.C.length ≤ 2097152) ∧ ∀ x ∈ M, x.C.length ≤ 2097152) := ⟨fun x hx => by have := csz_mem hx; unfold esz at hz1; omega, fun x hx => by have := csz_mem hx; unfold esz at hz2; omega⟩
  have hlL := evs_len L
  have hlM := evs_len M
  by_cases hne : n1 = n2
  · have H1 : Hid (EntsAt w a1 L ∧ EntsAt w a2 M ∧ L.length = n1 ∧ M.length = n1) := ⟨h1, h2, hn1, by rw [hn2, hne]⟩
    have HLL : Hid ((evs L).length ≤ n1 ∧ (evs M).length ≤ n1) := ⟨by omega, by omega⟩
    rw [← hne]
    clear h1 h2 hn1 hn2 hne hz1 hz2 hlL hlM
    have hne' : ((n1 : Int) != (n1 : Int)) = false := by simp
    go_enter Tryz.func117, Tryz.ntmps117
    go_wp2
    clear hne'
    go_loopw [17] (fun cc wr => ∃ k : Nat, k ≤ n1 ∧ cc = .int .i64 k ∧ Fr Nobody w wr ∧ (evs L).take k = (evs M).take k) (fun cc _ => n1 - (intOf cc).toNat)
    case atStart => exact ⟨0, Nat.zero_le _, rfl, Fr.refl _ _, by simp⟩
    case round =>
      obtain ⟨k, hk, rfl, hf, heq⟩ := hrel
      have HF : Hid (Fr Nobody w wr) := hf
      have HE : Hid ((evs L).take k = (evs M).take k) := heq
      clear hf heq
      by_cases hlt : k < n1
      · obtain ⟨x, hx⟩ : ∃ x, L[k]? = some x := ⟨_, List.getElem?_eq_getElem (by rw [H1.out.2.2.1]; exact hlt)⟩
        obtain ⟨y, hy⟩ : ∃ y, M[k]? = some y := ⟨_, List.getElem?_eq_getElem (by rw [H1.out.2.2.2]; exact hlt)⟩
        obtain ⟨g1, o1, hg1, r0, r1, k1⟩ := (H1.out.1.quiet HF.out).at hx
        obtain ⟨g2, o2, hg2, s0, s1, k2⟩ := (H1.out.2.1.quiet HF.out).at hy
        subst hg1 hg2
        have hb1 : g1 < wr.heap.size := World.block_lt_of_cell? wr _ r0
        have hb2 : g2 < wr.heap.size := World.block_lt_of_cell? wr _ s0
        have hb3 : wr.heap.size ≠ g1 := by omega
        have hb4 : wr.heap.size ≠ g2 := by omega
        have hlt' : (k : Int) < (n1 : Int) := by omega
        obtain ⟨r, hr⟩ : ∃ r, decide ((x.id, x.C) = (y.id, y.C)) = r := ⟨_, rfl⟩
        have hal : Fr Nobody wr ((wr.alloc (.cells #[.int .u32 (x.id : Int), .slice x.ao x.C.length x.cap] 67)).alloc (.cells #[.int .u32 (y.id : Int), .slice y.ao y.C.length y.cap] 67)) := ((Fr.refl _ _).alloc _).alloc _
        have CS : Hid (Calls Tryz.prog 118 #[.agg #[.int .u32 (x.id : Int), .slice x.ao x.C.length x.cap], .agg #[.int .u32 (y.id : Int), .slice y.ao y.C.length y.cap]] ((wr.alloc (.cells #[.int .u32 (x.id : Int), .slice x.ao x.C.length x.cap] 67)).alloc (.cells #[.int .u32 (y.id : Int), .slice y.ao y.C.length y.cap] 67)) fun e w' => e = .returned (.bool r) ∧ Fr Nobody ((wr.alloc (.cells #[.int .u32 (x.id : Int), .slice x.ao x.C.length x.cap] 67)).alloc (.cells #[.int .u32 (y.id : Int), .slice y.ao y.C.length y.cap] 67)) w') := by
          rw [← hr]
          exact eqEn_p _ x.id y.id x.ao y.ao x.C.length y.C.length x.cap y.cap x.C y.C (k1.quiet hal) (k2.quiet hal) rfl rfl (HZ.out.1 x (List.mem_of_getElem? hx)) (HZ.out.2 y (List.mem_of_getElem? hy))
        have HF1 : Hid (Fr Nobody w ((wr.alloc (.cells #[.int .u32 (x.id : Int), .slice x.ao x.C.length x.cap] 67)).alloc (.cells #[.int .u32 (y.id : Int), .slice y.ao y.C.length y.cap] 67))) := HF.out.trans hal
        have HXY : Hid ((evs L)[k]? = some (x.id, x.C) ∧ (evs M)[k]? = some (y.id, y.C)) := ⟨evs_at hx, evs_at hy⟩
        have HR : Hid (decide ((x.id, x.C) = (y.id, y.C)) = r) := hr
        clear hx hy hr k1 k2 hal
        obtain ⟨xi, xa, xc, xC⟩ := x
        obtain ⟨yi, ya, yc, yC⟩ := y
        simp only at r0 r1 s0 s1 CS HXY HR HF1
        generalize xC.length = xl at *
        generalize yC.length = yl at *
        go_wp2_with fail
        refine CS.out.mono ?_
        rintro e w' ⟨rfl, hf2⟩
        have HF2 : Hid (Fr Nobody w w') := HF1.out.trans hf2
        clear r0 r1 s0 s1 CS hf2 hb1 hb2 hb3 hb4
        cases r
        · have HN : Hid (decide (evs L = evs M) = false) := take_ne HXY.out.1 HXY.out.2 HR.out
          go_wp2
          go_ret
          exact ⟨by rw [HN.out]; rfl, HF2.out⟩
        · have HN : Hid ((evs L).take (k + 1) = (evs M).take (k + 1)) := take_eq HXY.out.1 HXY.out.2 HR.out HE.out
          go_wp2
          go_roundw
          case rel => exact ⟨k + 1, by omega, by go_num, HF2.out, HN.out⟩
          case measure => simp [intOf]; omega
      · have hlt' : ¬ (k : Int) < (n1 : Int) := by omega
        have HN : Hid (decide (evs L = evs M) = true) := take_all (by have := HLL.out.1; omega) (by have := HLL.out.2; omega) HE.out
        go_wp2
        go_ret
        exact ⟨by rw [HN.out]; rfl, HF.out⟩
  · have HN : Hid (decide (evs L = evs M) = false) := len_ne (by omega)
    have hne' : ((n1 : Int) != (n2 : Int)) = true := by rw [bne_iff_ne]; omega
    clear h1 h2 hn1 hn2 hne hlL hlM hz1 hz2
    go_enter Tryz.func117, Tryz.ntmps117
    go_wp2
    go_ret
    exact ⟨by rw [HN.out]; rfl, Fr.refl _ _⟩
set_option maxHeartbeats 1000000 in
theorem snapSame_any (w : World) (a1 a2 : Option Addr) (n1 n2 c1 c2 : Nat) (L M : List EnE) (h1 : EntsAt w a1 L) (h2 : EntsAt w a2 M) (hn1 : L.length = n1) (hn2 : M.length = n2) (hz1 : esz L ≤ 2097152) (hz2 : esz M ≤ 2097152) :
    Calls Tryz.prog 57 #[.slice a1 n1 c1, .slice a2 n2 c2] w fun e w' => e = .returned (.bool (decide (evs L = evs M))) ∧ Fr Nobody w w' := by
  have HS : Hid (Calls _ _ _ _ _) := equalEnts_any w a1 a2 n1 n2 c1 c2 L M h1 h2 hn1 hn2 hz1 hz2
  generalize decide (evs L = evs M) = r at *
  clear h1 h2 hn1 hn2 hz1 hz2
  go_enter Tryz.func57, Tryz.ntmps57
  go_wp2_with fail
  refine HS.out.mono ?_
  rintro e w' ⟨rfl, hf⟩
  have HF : Hid (Fr Nobody w w') := hf
  clear hf HS
  go_wp2
  go_ret
  exact ⟨rfl, HF.out⟩
/-- where an entity stands in a list -/
def FindR (L : List EnE) (i : Nat) (r : Int) : Prop := (r = -1 ∧ ∀ x ∈ L, x.id ≠ i) ∨ ∃ (j : Nat) (x : EnE), r = (j : Int) ∧ L[j]? = some x ∧ x.id = i ∧ ∀ y ∈ L.take j, y.id ≠ i
set_option maxHeartbeats 2000000 in
theorem rfindE_any (w : World) (ao : Option Addr) (n cap : Nat) (L : List EnE) (h : EntsAt w ao L) (hn : L.length = n) (hm : n ≤ 2097152) (i : Nat) :
    Calls Tryz.prog 46 #[.slice ao n cap, .int .u32 (i : Int)] w fun e w' => ∃ r : Int, e = .returned (.int .i64 r) ∧ FindR L i r ∧ Fr Nobody w w' := by
  have HL : Hid (L.length = n ∧ EntsAt w ao L) := ⟨hn, h⟩
  clear hn h
  go_enter Tryz.func46, Tryz.ntmps46
  go_wp2
  go_loopw [9] (fun c wr => ∃ j : Nat, j ≤ n ∧ c = .int .i64 j ∧ Fr Nobody w wr ∧ ∀ y ∈ L.take j, y.id ≠ i) (fun c _ => n - (intOf c).toNat)
  case atStart => exact ⟨0, Nat.zero_le _, rfl, Fr.refl _ _, by simp⟩
  case round =>
    obtain ⟨j, hj, rfl, hf, hno⟩ := hrel
    have HF : Hid (Fr Nobody w wr) := hf
    have HN : Hid (∀ y ∈ L.take j, y.id ≠ i) := hno
    clear hf hno
    by_cases hlt : j < n
    · obtain ⟨x, hx⟩ : ∃ x, L[j]? = some x := ⟨_, List.getElem?_eq_getElem (by rw [HL.out.1]; exact hlt)⟩
      obtain ⟨g, o, hao, c0, c1, _⟩ := (HL.out.2.quiet HF.out).at hx
      subst hao
      have hlt' : (j : Int) < (n : Int) := by omega
      have HX : Hid (L[j]? = some x) := hx
      by_cases he : x.id = i
      · have HE : Hid (x.id = i) := he
        have he' : ((x.id : Int) == (i : Int)) = true := by rw [he]; simp
        clear hx he
        have HP : Hid (FindR L i (j : Int)) := .inr ⟨j, x, rfl, HX.out, HE.out, HN.out⟩
        clear HX HE
        obtain ⟨xi, xa, xc, C⟩ := x
        simp only at c0 c1 he'
        go_wp2
        go_ret
        exact ⟨(j : Int), rfl, HP.out, HF.out.alloc _⟩
      · have HE : Hid (∀ y ∈ L.take (j + 1), y.id ≠ i) := by
          show ∀ y ∈ L.take (j + 1), y.id ≠ i
          intro y hy
          rw [List.take_add_one, hx] at hy
          rcases List.mem_append.1 hy with hy | hy
          · exact HN.out y hy
          · simp at hy; rw [hy]; exact he
        have he' : ((x.id : Int) == (i : Int)) = false := by rw [beq_eq_false_iff_ne]; omega
        clear hx he HX
        obtain ⟨xi, xa, xc, C⟩ := x
        simp only at c0 c1 he'
        go_wp2
        go_roundw
        case rel => exact ⟨j + 1, by omega, by go_num, HF.out.alloc _, HE.out⟩
        case measure => simp [intOf]; omega
    · have hlt' : ¬ (j : Int) < (n : Int) := by omega
      have HP : Hid (FindR L i (-1)) := .inl ⟨rfl, fun x hx => HN.out x (by rw [List.take_of_length_le (by rw [HL.out.1]; omega)]; exact hx)⟩
      go_wp2
      go_ret
      exact ⟨-1, rfl, HP.out, HF.out⟩
end Go.Proofs.YtfhfcfobgemcpaaGreatDoor

/-
  Is it a snapshot?
-/
namespace Go.Proofs.YtfhfcfobgemcpaaGreatDoor
open Go.RowKit
set_option linter.unusedVariables false
set_option maxRecDepth 100000

set_option maxHeartbeats 1000000 in
theorem rgen_e (id : Nat) (w : World) (h : id < 4294967296) : Calls Tryz.prog 102 #[.int .u32 (id : Int)] w fun e w' => e = .returned (.int .i64 ((id / 1024 : Nat) : Int)) ∧ w' = w := by
  go_enter Tryz.func102, Tryz.ntmps102
  go_wp2
  go_ret
  exact ⟨by go_num, rfl⟩
set_option maxHeartbeats 1000000 in
theorem isID_any (id : Nat) (w : World) (h : id < 4294967296) : Calls Tryz.prog 98 #[.int .u32 (id : Int)] w fun e w' => e = .returned (.bool (decide (1 ≤ id / 1024))) ∧ w' = w := by
  have HS : Hid (∀ W, Calls Tryz.prog 158 #[.int .u32 (id : Int)] W fun e w' => e = .returned (.int .i64 ((id % 1024 : Nat) : Int)) ∧ w' = W) := fun W => slot_any id W h
  have HG : Hid (∀ W, Calls Tryz.prog 159 #[.int .u32 (id : Int)] W fun e w' => e = .returned (.int .i64 ((id / 1024 : Nat) : Int)) ∧ w' = W) := fun W => gen_any id W h
  obtain ⟨s, hs⟩ : ∃ s, id % 1024 = s := ⟨_, rfl⟩
  obtain ⟨g, hg⟩ : ∃ g, id / 1024 = g := ⟨_, rfl⟩
  have hs2 : s < 1024 := by omega
  have hg2 : g ≤ 4194303 := by omega
  rw [hs] at HS
  rw [hg] at HG ⊢
  clear hs hg h
  by_cases h1 : 1 ≤ g
  · have HM : Hid (∀ W, Calls Tryz.prog 157 #[.int .i64 (s : Int), .int .i64 (g : Int)] W fun e w' => e = .returned (.tuple #[.int .u32 ((g * 1024 + s : Nat) : Int), .int .i64 0]) ∧ w' = W) := fun W => make_yes s g W hs2 h1 hg2
    rw [decide_eq_true h1]
    go_enter Tryz.func98, Tryz.ntmps98
    go_wp2_with fail
    refine (HS.out _).mono ?_
    rintro e w1 ⟨rfl, rfl⟩
    go_wp2_with fail
    refine (HG.out _).mono ?_
    rintro e w1 ⟨rfl, rfl⟩
    go_wp2_with fail
    refine (HM.out _).mono ?_
    rintro e w1 ⟨rfl, rfl⟩
    go_wp2
    go_ret
    exact ⟨rfl, rfl⟩
  · have HM : Hid (∀ W, Calls Tryz.prog 157 #[.int .i64 (s : Int), .int .i64 (g : Int)] W fun e w' => e = .returned (.tuple #[.int .u32 0, .int .i64 1]) ∧ w' = W) := fun W => make_no s g W (.inr (.inr (.inl (by omega))))
    rw [decide_eq_false h1]
    go_enter Tryz.func98, Tryz.ntmps98
    go_wp2_with fail
    refine (HS.out _).mono ?_
    rintro e w1 ⟨rfl, rfl⟩
    go_wp2_with fail
    refine (HG.out _).mono ?_
    rintro e w1 ⟨rfl, rfl⟩
    go_wp2_with fail
    refine (HM.out _).mono ?_
    rintro e w1 ⟨rfl, rfl⟩
    go_wp2
    go_ret
    exact ⟨rfl, rfl⟩
set_option maxHeartbeats 1000000 in
theorem untold_any (w : World) (ht : Tab w) (q : Cp) (hk : q.k < 256) : Calls Tryz.prog 101 #[.agg #[.int .u8 (q.k : Int), .int .i32 q.a, .int .i32 q.b, .int .i32 q.c]] w fun e w' => e = .returned (.bool (!ktold q.k)) ∧ Fr Nobody w w' := by
  have HT : Hid (Calls _ _ _ _ _) := told_any (w.alloc (.cells #[.int .u8 (q.k : Int), .int .i32 q.a, .int .i32 q.b, .int .i32 q.c] 46)) (ht.quiet ((Fr.refl _ _).alloc _)) q.k hk
  have HF : Hid (Fr Nobody w (w.alloc (.cells #[.int .u8 (q.k : Int), .int .i32 q.a, .int .i32 q.b, .int .i32 q.c] 46))) := (Fr.refl _ _).alloc _
  generalize ktold q.k = r at *
  obtain ⟨qk, qa, qb, qc⟩ := q
  simp only at HT HF hk
  clear ht
  go_enter Tryz.func101, Tryz.ntmps101
  go_wp2_with fail
  refine HT.out.mono ?_
  rintro e w1 ⟨rfl, rfl⟩
  go_wp2
  go_ret
  exact ⟨rfl, HF.out⟩
theorem un_snoc (C : List Cp) (q : Cp) : un (C ++ [q]) = (un C || !ktold q.k) := by simp [un]
theorem un_mem {C : List Cp} {q : Cp} (h : q ∈ C) (hq : ktold q.k = false) : un C = true := by
  unfold un
  rw [List.any_eq_true]
  exact ⟨q, h, by simp [hq]⟩
set_option maxHeartbeats 2000000 in
theorem idxUn_any (w : World) (ht : Tab w) (ao : Option Addr) (n cap : Nat) (C : List Cp) (hn : C.length = n) (hs : Cs w ao C) (hk : ∀ q ∈ C, q.k < 256) (hm : n ≤ 2097152) :
    Calls Tryz.prog 160 #[.slice ao n cap, .func (.func 101) #[] #[]] w fun e w' => ∃ r : Int, e = .returned (.int .i64 r) ∧ Fr Nobody w w' ∧ ((r = -1 ∧ un C = false) ∨ (0 ≤ r ∧ un C = true)) := by
  have HL : Hid (C.length = n ∧ Cs w ao C ∧ (∀ q ∈ C, q.k < 256) ∧ Tab w) := ⟨hn, hs, hk, ht⟩
  clear hn hs hk ht
  go_enter Tryz.func160, Tryz.ntmps160
  go_wp2
  go_loopw [8] (fun cc wr => ∃ j : Nat, j ≤ n ∧ cc = .int .i64 j ∧ Fr Nobody w wr ∧ un (C.take j) = false) (fun cc _ => n - (intOf cc).toNat)
  case atStart => exact ⟨0, Nat.zero_le _, rfl, Fr.refl _ _, by simp [un]⟩
  case round =>
    obtain ⟨j, hj, rfl, hf, hno⟩ := hrel
    have HF : Hid (Fr Nobody w wr) := hf
    have HN : Hid (un (C.take j) = false) := hno
    clear hf hno
    by_cases hlt : j < n
    · obtain ⟨q, hq⟩ : ∃ q, C[j]? = some q := ⟨_, List.getElem?_eq_getElem (by rw [HL.out.1]; exact hlt)⟩
      obtain ⟨g, o, hao, _, c0, c1, c2, c3⟩ := (HL.out.2.1.quiet HF.out).at j q hq
      subst hao
      have hlt' : (j : Int) < (n : Int) := by omega
      have HP : Hid (Calls _ _ _ _ _) := untold_any wr (HL.out.2.2.2.quiet HF.out) q (HL.out.2.2.1 q (List.mem_of_getElem? hq))
      have HU1 : Hid (ktold q.k = false → un C = true) := fun e => un_mem (List.mem_of_getElem? hq) e
      have HU2 : Hid (ktold q.k = true → un (C.take (j + 1)) = false) := fun e => by rw [take_snoc C j q hq, un_snoc, HN.out, e]; rfl
      clear hq
      generalize ktold q.k = r at *
      obtain ⟨qk, qa, qb, qc⟩ := q
      simp only at c0 c1 c2 c3 HP
      go_wp2_with fail
      refine HP.out.mono ?_
      rintro e w2 ⟨rfl, hf⟩
      have HF2 : Hid (Fr Nobody w w2) := HF.out.trans hf
      clear hf HP
      cases r
      · have HU : Hid (un C = true) := HU1.out rfl
        go_wp2
        go_ret
        exact ⟨(j : Int), rfl, HF2.out, .inr ⟨by omega, HU.out⟩⟩
      · have HU : Hid (un (C.take (j + 1)) = false) := HU2.out rfl
        go_wp2
        go_roundw
        case rel => exact ⟨j + 1, by omega, by go_num, HF2.out, HU.out⟩
        case measure => simp [intOf]; omega
    · have hlt' : ¬ (j : Int) < (n : Int) := by omega
      have HU : Hid (un C = false) := by have := HN.out; rw [List.take_of_length_le (by rw [HL.out.1]; omega)] at this; exact this
      go_wp2
      go_ret
      exact ⟨-1, rfl, HF.out, .inl ⟨rfl, HU.out⟩⟩
set_option maxHeartbeats 1000000 in
theorem hasUn_any (w : World) (ht : Tab w) (ao : Option Addr) (n cap : Nat) (C : List Cp) (hn : C.length = n) (hs : Cs w ao C) (hk : ∀ q ∈ C, q.k < 256) (hm : n ≤ 2097152) :
    Calls Tryz.prog 100 #[.slice ao n cap, .func (.func 101) #[] #[]] w fun e w' => e = .returned (.bool (un C)) ∧ Fr Nobody w w' := by
  have HI : Hid (Calls _ _ _ _ _) := idxUn_any w ht ao n cap C hn hs hk hm
  clear ht hn hs hk
  generalize un C = u at *
  go_enter Tryz.func100, Tryz.ntmps100
  go_wp2_with fail
  refine HI.out.mono ?_
  rintro e w2 ⟨r, rfl, hf, hr⟩
  have HF : Hid (Fr Nobody w w2) := hf
  clear hf HI
  rcases hr with ⟨rfl, rfl⟩ | ⟨h0, rfl⟩
  · go_wp2
    go_ret
    exact ⟨rfl, HF.out⟩
  · go_wp2
    go_ret
    exact ⟨by simp, HF.out⟩
/-- the ID ahead of place j -/
def prvE (L : List En) (j : Nat) : Nat := match j with
  | 0 => 0
  | i + 1 => (((L[i]?).map (fun x => x.1)).getD 0)
theorem fm_bad {L : List En} {j : Nat} {x : En} (hx : L[j]? = some x) (h : fm (prvE L j) (L.drop j) = fm 0 L) (hc : ent1 (prvE L j) x ≠ 0) : fm 0 L = ent1 (prvE L j) x := by
  have hj := (List.getElem?_eq_some_iff.1 hx)
  rw [← h, List.drop_eq_getElem_cons hj.1, hj.2, fm, if_pos hc]
theorem fm_on {L : List En} {j : Nat} {x : En} (hx : L[j]? = some x) (h : fm (prvE L j) (L.drop j) = fm 0 L) (hc : ent1 (prvE L j) x = 0) : fm (prvE L (j + 1)) (L.drop (j + 1)) = fm 0 L := by
  have hj := (List.getElem?_eq_some_iff.1 hx)
  rw [← h, List.drop_eq_getElem_cons hj.1, hj.2, fm, if_neg (by simp [hc])]
  simp [prvE, hx]
theorem fm_end {L : List En} {j : Nat} (h : fm (prvE L j) (L.drop j) = fm 0 L) (hj : L.length ≤ j) : fm 0 L = 0 := by
  rw [← h, List.drop_eq_nil_of_le hj, fm]
theorem ent1_a {p : Nat} {x : En} (h : x.1 / 1024 < 1 ∨ x.1 ≤ p) : ent1 p x = 4 := by unfold ent1; rw [if_pos h]
theorem ent1_b {p : Nat} {x : En} (h : ¬ (x.1 / 1024 < 1 ∨ x.1 ≤ p)) (h2 : lst (-1) x.2 ≠ 0) : ent1 p x = lst (-1) x.2 := by unfold ent1; rw [if_neg h, if_pos h2]
theorem ent1_c {p : Nat} {x : En} (h : ¬ (x.1 / 1024 < 1 ∨ x.1 ≤ p)) (h2 : lst (-1) x.2 = 0) (h3 : un x.2 = true) : ent1 p x = 4 := by unfold ent1; rw [if_neg h, if_neg (by simp [h2]), if_pos h3]
theorem ent1_d {p : Nat} {x : En} (h : ¬ (x.1 / 1024 < 1 ∨ x.1 ≤ p)) (h2 : lst (-1) x.2 = 0) (h3 : un x.2 = false) : ent1 p x = 0 := by unfold ent1; rw [if_neg h, if_neg (by simp [h2]), if_neg (by simp [h3])]
theorem lst_small (L : List Cp) : lst (-1) L < 4294967296 := by
  have key : ∀ (L : List Cp) (p : Int), lst p L ≤ 5 := by
    intro L
    induction L with
    | nil => intro p; simp [lst]
    | cons q t ih =>
      intro p
      rw [lst]
      split
      · exact chk_lt q
      · split
        · omega
        · exact ih _
  have := key L (-1)
  omega
end Go.Proofs.YtfhfcfobgemcpaaGreatDoor

/-
  What is told of components.
-/
namespace Go.Proofs.YtfhfcfobgemcpaaGreatDoor
open Go.RowKit
set_option linter.unusedVariables false
set_option maxRecDepth 100000

def toldL (C : List Cp) : List Cp := C.filter (fun c => ktold c.k)
theorem told_snoc (C : List Cp) (q : Cp) : toldL (C ++ [q]) = toldL C ++ (if ktold q.k = true then [q] else []) := by
  unfold toldL
  rw [List.filter_append]
  cases h : ktold q.k <;> simp [h]
theorem toldL_le (C : List Cp) : (toldL C).length ≤ C.length := List.length_filter_le _ _
theorem told_told (C : List Cp) : toldL (toldL C) = toldL C := by simp [toldL]

set_option maxHeartbeats 4000000 in
theorem told_l (w0 w : World) (ht : Tab w0) (l : List Thing) (h : Own w0 w l) (ao : Option Addr) (len cap : Nat) (C : List Cp) (hCl : C.length = len) (hCs : ∀ w', Own w0 w' l → Cs w' ao C) (hCk : ∀ q ∈ C, q.k < 256) (hlen : len ≤ 1000000) :
    Calls Tryz.prog 43 #[.slice ao len cap] w fun e w' => ∃ ao' cap', e = .returned (.slice ao' (toldL C).length cap') ∧ Own w0 w' (Row 46 4 (.slice ao' (toldL C).length cap') (toldL C).length (ccat (toldL C)) :: l) := by
  obtain ⟨i0, hi, hz0, hz1, hz2⟩ := info_parts Tryz.infoComp
  have HCS : Hid (C.length = len ∧ (∀ w', Own w0 w' l → Cs w' ao C) ∧ ∀ q ∈ C, q.k < 256) := ⟨hCl, hCs, hCk⟩
  have H : Hid (Own w0 w l) := h
  have HT : Hid (Tab w0) := ht
  clear ht
  clear h hCl hCs hCk
  go_enter Tryz.func43, Tryz.ntmps43
  go_wp2
  go_loopw [3, 8] (fun v3 v8 wr => ∃ j : Nat, j ≤ len ∧ v8 = .int .i64 j ∧ ∃ (S : List Cp) (a1 : Option Addr) (c1 n : Nat), toldL (C.take j) = S ∧ n = S.length ∧ n ≤ j ∧ v3 = .slice a1 n c1 ∧ Own w0 wr (Row 46 4 (.slice a1 n c1) n (ccat S) :: l)) (fun _ v8 _ => len - (intOf v8).toNat)
  case atStart => exact ⟨0, Nat.zero_le _, rfl, [], none, 0, 0, rfl, rfl, Nat.le_refl _, rfl, H.out.nilRow _ _⟩
  case round =>
    obtain ⟨j, hj, rfl, S, a1, c1, n, hS, hn, hnj, rfl, hO⟩ := hrel
    have HS : Hid (toldL (C.take j) = S ∧ n = S.length) := ⟨hS, hn⟩
    clear H hS hn
    by_cases hlt : j < len
    · obtain ⟨q, hq⟩ : ∃ q, C[j]? = some q := ⟨_, List.getElem?_eq_getElem (by rw [HCS.out.1]; exact hlt)⟩
      obtain ⟨gg, o0, hao, _, y0, y1, y2, y3⟩ := (HCS.out.2.1 wr hO.tail).at j q hq
      subst hao
      have hq8 := HCS.out.2.2 q (List.mem_of_getElem? hq)
      have HST : Hid (toldL (C.take (j + 1)) = S ++ (if ktold q.k = true then [q] else [])) := by show _ = _; rw [take_snoc C j q hq, told_snoc, HS.out.1]
      have hlt' : (j : Int) < (len : Int) := by omega
      have hA := hO.allocC #[.int .u8 (q.k : Int), .int .i32 q.a, .int .i32 q.b, .int .i32 q.c] 46
      have HU : Hid (Calls _ _ _ _ _) := untold_any _ (HT.out.quiet hA.fr) q hq8
      have HA : Hid (Own w0 _ _) := hA
      clear hq hO
      generalize ktold q.k = r at *
      obtain ⟨qk, qa, qb, qc⟩ := q
      simp only at y0 y1 y2 y3 hq8 HST HA HU
      clear hA
      go_wp2_with fail
      refine HU.out.mono ?_
      rintro e w2 ⟨rfl, hf2⟩
      have hA2 := HA.out.quiet hf2
      have t0 := hA2.cell 0
      have t1 := hA2.cell 1
      have t2 := hA2.cell 2
      have t3 := hA2.cell 3
      simp at t0 t1 t2 t3
      generalize wr.heap.size = b7 at *
      have HA2 : Hid (Own w0 w2 _) := hA2.two
      clear hf2 hA2 HA HU y0 y1 y2 y3
      cases r
      · have HST2 : Hid (toldL (C.take (j + 1)) = S) := by show _ = _; have := HST.out; simpa using this
        have HE : Hid (Own w0 w2 (Row 46 4 (.slice a1 n c1) n (ccat S) :: l)) := HA2.out.two.tail
        go_wp2
        go_roundw
        case rel => exact ⟨j + 1, by omega, by go_num, S, _, _, n, HST2.out, HS.out.2, by omega, rfl, HE.out⟩
        case measure => simp [intOf]; omega
      · have HST2 : Hid (toldL (C.take (j + 1)) = S ++ [⟨qk, qa, qb, qc⟩]) := by show _ = _; have := HST.out; simpa using this
        go_wp2_with (at_builtin; refine append1_own rfl _ _ 39 rfl 46 i0 _ 4 16 Tryz.underlying39 hi hz0 hz1 hz2 rfl (by decide) _ _ _ rfl HA2.out _ #[.int .u8 (qk : Int), .int .i32 qa, .int .i32 qb, .int .i32 qc] (by simp) rfl rfl (by intro u hu; simp at hu; rcases hu with rfl | rfl | rfl | rfl <;> rfl) (by unfold maxLen; omega) (by omega) ?_)
        intro g6 c6 w6 hO6 hsz6
        have HE : Hid (Own w0 w6 (Row 46 4 (.slice (some ⟨g6, 0, none⟩) (n + 1) c6) (n + 1) (ccat (S ++ [⟨qk, qa, qb, qc⟩])) :: l)) := by
          have e2 : ccat (S ++ [⟨qk, qa, qb, qc⟩]) = ccat S ++ [.int .u8 (qk : Int), .int .i32 qa, .int .i32 qb, .int .i32 qc] := by simp [ccat, cat, Cp.cs]
          show Own _ _ _
          rw [e2]
          exact hO6.two.tail
        have HL6 : Hid (n + 1 = (S ++ [(⟨qk, qa, qb, qc⟩ : Cp)]).length) := by show _ = _; rw [List.length_append, HS.out.2]; rfl
        clear hO6 hsz6 HA2 t0 t1 t2 t3
        go_wp2
        go_roundw
        case rel => exact ⟨j + 1, by omega, by go_num, _, _, _, n + 1, HST2.out, HL6.out, by omega, rfl, HE.out⟩
        case measure => simp [intOf]; omega
    · have hlt' : ¬ (j : Int) < (len : Int) := by omega
      have HF : Hid (toldL C = S ∧ n = S.length) := by
        have := HS.out
        rw [List.take_of_length_le (by rw [HCS.out.1]; omega)] at this
        exact this
      have HO : Hid (Own w0 wr _) := hO
      clear hO HS
      go_wp2
      go_ret
      refine ⟨a1, c1, ?_, ?_⟩
      · rw [HF.out.1, ← HF.out.2]; rfl
      · rw [HF.out.1, ← HF.out.2]; exact HO.out

set_option maxHeartbeats 4000000 in
theorem rtold_l (w0 w : World) (l : List Thing) (h : Own w0 w l) (ao : Option Addr) (len cap : Nat) (C : List Cp) (hCl : C.length = len) (hCs : ∀ w', Own w0 w' l → Cs w' ao C) (hCk : ∀ q ∈ C, q.k < 256) (hlen : len ≤ 1000000) :
    Calls Tryz.prog 44 #[.slice ao len cap] w fun e w' => ∃ ao' cap', e = .returned (.slice ao' (toldL C).length cap') ∧ Own w0 w' (Row 46 4 (.slice ao' (toldL C).length cap') (toldL C).length (ccat (toldL C)) :: l) := by
  obtain ⟨i0, hi, hz0, hz1, hz2⟩ := info_parts Tryz.infoComp
  have HCS : Hid (C.length = len ∧ (∀ w', Own w0 w' l → Cs w' ao C) ∧ ∀ q ∈ C, q.k < 256) := ⟨hCl, hCs, hCk⟩
  have H : Hid (Own w0 w l) := h
  clear h hCl hCs hCk
  go_enter Tryz.func44, Tryz.ntmps44
  go_wp2
  go_loopw [3, 8] (fun v3 v8 wr => ∃ j : Nat, j ≤ len ∧ v8 = .int .i64 j ∧ ∃ (S : List Cp) (a1 : Option Addr) (c1 n : Nat), toldL (C.take j) = S ∧ n = S.length ∧ n ≤ j ∧ v3 = .slice a1 n c1 ∧ Own w0 wr (Row 46 4 (.slice a1 n c1) n (ccat S) :: l)) (fun _ v8 _ => len - (intOf v8).toNat)
  case atStart => exact ⟨0, Nat.zero_le _, rfl, [], none, 0, 0, rfl, rfl, Nat.le_refl _, rfl, H.out.nilRow _ _⟩
  case round =>
    obtain ⟨j, hj, rfl, S, a1, c1, n, hS, hn, hnj, rfl, hO⟩ := hrel
    have HS : Hid (toldL (C.take j) = S ∧ n = S.length) := ⟨hS, hn⟩
    clear H hS hn
    by_cases hlt : j < len
    · obtain ⟨q, hq⟩ : ∃ q, C[j]? = some q := ⟨_, List.getElem?_eq_getElem (by rw [HCS.out.1]; exact hlt)⟩
      obtain ⟨gg, o0, hao, _, y0, y1, y2, y3⟩ := (HCS.out.2.1 wr hO.tail).at j q hq
      subst hao
      have hq8 := HCS.out.2.2 q (List.mem_of_getElem? hq)
      have HST : Hid (toldL (C.take (j + 1)) = S ++ (if ktold q.k = true then [q] else [])) := by show _ = _; rw [take_snoc C j q hq, told_snoc, HS.out.1]
      have hlt' : (j : Int) < (len : Int) := by omega
      have hA := hO.allocC #[.int .u8 (q.k : Int), .int .i32 q.a, .int .i32 q.b, .int .i32 q.c] 46
      have HU : Hid (Calls _ _ _ _ _) := rtold_any (wr.alloc (.cells #[.int .u8 (q.k : Int), .int .i32 q.a, .int .i32 q.b, .int .i32 q.c] 46)) q.k hq8
      have HA : Hid (Own w0 _ _) := hA
      clear hq hO
      generalize ktold q.k = r at *
      obtain ⟨qk, qa, qb, qc⟩ := q
      simp only at y0 y1 y2 y3 hq8 HST HA HU
      clear hA
      go_wp2_with fail
      refine HU.out.mono ?_
      rintro e w2 ⟨rfl, hf2⟩
      have hA2 := HA.out.quiet hf2
      have t0 := hA2.cell 0
      have t1 := hA2.cell 1
      have t2 := hA2.cell 2
      have t3 := hA2.cell 3
      simp at t0 t1 t2 t3
      generalize wr.heap.size = b7 at *
      have HA2 : Hid (Own w0 w2 _) := hA2.two
      clear hf2 hA2 HA HU y0 y1 y2 y3
      cases r
      · have HST2 : Hid (toldL (C.take (j + 1)) = S) := by show _ = _; have := HST.out; simpa using this
        have HE : Hid (Own w0 w2 (Row 46 4 (.slice a1 n c1) n (ccat S) :: l)) := HA2.out.two.tail
        go_wp2
        go_roundw
        case rel => exact ⟨j + 1, by omega, by go_num, S, _, _, n, HST2.out, HS.out.2, by omega, rfl, HE.out⟩
        case measure => simp [intOf]; omega
      · have HST2 : Hid (toldL (C.take (j + 1)) = S ++ [⟨qk, qa, qb, qc⟩]) := by show _ = _; have := HST.out; simpa using this
        go_wp2_with (at_builtin; refine append1_own rfl _ _ 39 rfl 46 i0 _ 4 16 Tryz.underlying39 hi hz0 hz1 hz2 rfl (by decide) _ _ _ rfl HA2.out _ #[.int .u8 (qk : Int), .int .i32 qa, .int .i32 qb, .int .i32 qc] (by simp) rfl rfl (by intro u hu; simp at hu; rcases hu with rfl | rfl | rfl | rfl <;> rfl) (by unfold maxLen; omega) (by omega) ?_)
        intro g6 c6 w6 hO6 hsz6
        have HE : Hid (Own w0 w6 (Row 46 4 (.slice (some ⟨g6, 0, none⟩) (n + 1) c6) (n + 1) (ccat (S ++ [⟨qk, qa, qb, qc⟩])) :: l)) := by
          have e2 : ccat (S ++ [⟨qk, qa, qb, qc⟩]) = ccat S ++ [.int .u8 (qk : Int), .int .i32 qa, .int .i32 qb, .int .i32 qc] := by simp [ccat, cat, Cp.cs]
          show Own _ _ _
          rw [e2]
          exact hO6.two.tail
        have HL6 : Hid (n + 1 = (S ++ [(⟨qk, qa, qb, qc⟩ : Cp)]).length) := by show _ = _; rw [List.length_append, HS.out.2]; rfl
        clear hO6 hsz6 HA2 t0 t1 t2 t3
        go_wp2
        go_roundw
        case rel => exact ⟨j + 1, by omega, by go_num, _, _, _, n + 1, HST2.out, HL6.out, by omega, rfl, HE.out⟩
        case measure => simp [intOf]; omega
    · have hlt' : ¬ (j : Int) < (len : Int) := by omega
      have HF : Hid (toldL C = S ∧ n = S.length) := by
        have := HS.out
        rw [List.take_of_length_le (by rw [HCS.out.1]; omega)] at this
        exact this
      have HO : Hid (Own w0 wr _) := hO
      clear hO HS
      go_wp2
      go_ret
      refine ⟨a1, c1, ?_, ?_⟩
      · rw [HF.out.1, ← HF.out.2]; rfl
      · rw [HF.out.1, ← HF.out.2]; exact HO.out
end Go.Proofs.YtfhfcfobgemcpaaGreatDoor

/-
  Slices of numbers that can be read; Same of two lists of IDs.
-/
namespace Go.Proofs.YtfhfcfobgemcpaaGreatDoor
open Go.RowKit
set_option linter.unusedVariables false

/-- a slice that can be read: these numbers -/
def Nums (k : IntKind) (w : World) (v : Value) (X : List Nat) : Prop := ∃ ao cap, v = .slice ao X.length cap ∧ (X = [] ∨ ∃ g o, ao = some ⟨g, o, none⟩ ∧ ∀ (j x : Nat), X[j]? = some x → w.cell? ⟨g, o + j, none⟩ = some (.int k (x : Int)))
theorem Own.nums {w0 w : World} {l : List Thing} {e : TypeId} {k : IntKind} {v : Value} {X : List Nat} (h : Own w0 w (Row e 1 v X.length (irow k X) :: l)) : Nums k w v X := by
  have r := h.row
  obtain ⟨ao, cap, rfl⟩ := row_any r
  refine ⟨ao, cap, rfl, ?_⟩
  by_cases h0 : X.length = 0
  · exact .inl (List.eq_nil_of_length_eq_zero h0)
  · right
    obtain ⟨g, c, he, _⟩ := row_shape r (by omega)
    cases he
    refine ⟨g, 0, rfl, fun j x hx => ?_⟩
    have hj := (List.getElem?_eq_some_iff.1 hx).1
    rw [Nat.zero_add, r.cellAt _ (by omega), getElem?_irow, hx]; rfl
theorem Nums.quiet {k : IntKind} {w w' : World} {v : Value} {X : List Nat} (h : Nums k w v X) (hf : Fr Nobody w w') : Nums k w' v X := by
  obtain ⟨ao, cap, rfl, h⟩ := h
  refine ⟨ao, cap, rfl, ?_⟩
  rcases h with h | ⟨g, o, ha, hc⟩
  · exact .inl h
  · refine .inr ⟨g, o, ha, fun j x hx => ?_⟩
    have h1 := hc j x hx
    exact (hf.cell (p := ⟨g, o + j, none⟩) (World.block_lt_of_cell? w _ h1) id).trans h1

set_option maxHeartbeats 1000000 in
set_option maxRecDepth 100000 in
theorem same_ok (w : World) (v1 v2 : Value) (X : List Nat) (h1 : Nums .u32 w v1 X) (h2 : Nums .u32 w v2 X) (hX : X.length ≤ 100000000) :
    Calls Tryz.prog 26 #[v1, v2] w fun e w' => e = .returned (.bool true) ∧ Fr Nobody w w' := by
  obtain ⟨a1, c1, rfl, h1⟩ := h1
  obtain ⟨a2, c2, rfl, h2⟩ := h2
  obtain ⟨n, hn⟩ : ∃ n, n = X.length := ⟨_, rfl⟩
  rw [← hn] at hX ⊢
  have HN : Hid (n = X.length) := hn
  have H1 : Hid (X = [] ∨ ∃ g o, a1 = some ⟨g, o, none⟩ ∧ ∀ (j x : Nat), X[j]? = some x → w.cell? ⟨g, o + j, none⟩ = some (.int .u32 (x : Int))) := h1
  have H2 : Hid (X = [] ∨ ∃ g o, a2 = some ⟨g, o, none⟩ ∧ ∀ (j x : Nat), X[j]? = some x → w.cell? ⟨g, o + j, none⟩ = some (.int .u32 (x : Int))) := h2
  clear h1 h2 hn
  have hne : ((n : Int) != (n : Int)) = false := by simp
  go_enter Tryz.func26, Tryz.ntmps26
  go_wp2
  clear hne
  go_loopw [13] (fun cc wr => ∃ k : Nat, k ≤ n ∧ cc = .int .i64 k ∧ Fr Nobody w wr) (fun cc _ => n - (intOf cc).toNat)
  case atStart => exact ⟨0, Nat.zero_le _, rfl, Fr.refl _ _⟩
  case round =>
    obtain ⟨k, hk, rfl, hf⟩ := hrel
    have HF : Hid (Fr Nobody w wr) := hf
    clear hf
    by_cases hlt : k < n
    · obtain ⟨x, hx⟩ : ∃ x, X[k]? = some x := ⟨_, List.getElem?_eq_getElem (by rw [← HN.out]; exact hlt)⟩
      obtain ⟨g1, o1, rfl, d1⟩ : ∃ g o, a1 = some ⟨g, o, none⟩ ∧ wr.cell? ⟨g, o + k, none⟩ = some (.int .u32 (x : Int)) := by
        rcases H1.out with h | ⟨g, o, ha, hc⟩
        · rw [h] at hx; simp at hx
        · have h1 := hc k x hx
          exact ⟨g, o, ha, (HF.out.cell (p := ⟨g, o + k, none⟩) (World.block_lt_of_cell? w _ h1) id).trans h1⟩
      obtain ⟨g2, o2, rfl, d2⟩ : ∃ g o, a2 = some ⟨g, o, none⟩ ∧ wr.cell? ⟨g, o + k, none⟩ = some (.int .u32 (x : Int)) := by
        rcases H2.out with h | ⟨g, o, ha, hc⟩
        · rw [h] at hx; simp at hx
        · have h1 := hc k x hx
          exact ⟨g, o, ha, (HF.out.cell (p := ⟨g, o + k, none⟩) (World.block_lt_of_cell? w _ h1) id).trans h1⟩
      clear hx
      have hxx : ((x : Int) != (x : Int)) = false := by simp
      go_wp2
      go_quiet (fail)
      go_wp2
      go_roundw
      case rel => exact ⟨k + 1, by omega, by go_num, HF.out.drewN _⟩
      case measure => simp [intOf]; omega
    · go_wp2
      go_ret
      exact ⟨rfl, HF.out⟩

end Go.Proofs.YtfhfcfobgemcpaaGreatDoor

/-
  Entities as they are told; IDs that rise; entities taken out of a world.
-/
namespace Go.Proofs.YtfhfcfobgemcpaaGreatDoor
open Go.RowKit
set_option linter.unusedVariables false
set_option maxRecDepth 100000

set_option maxHeartbeats 4000000 in
theorem toldE_any (w0 w : World) (ht : Tab w0) (l : List Thing) (h : Own w0 w l) (id : Nat) (ao : Option Addr) (len cap : Nat) (C : List Cp) (hCl : C.length = len) (hCs : ∀ w', Own w0 w' l → Cs w' ao C) (hCk : ∀ q ∈ C, q.k < 256) (hlen : len ≤ 1000000) :
    Calls Tryz.prog 106 #[.agg #[.int .u32 (id : Int), .slice ao len cap]] w fun e w' => ∃ ao' cap', e = .returned (.agg #[.int .u32 (id : Int), .slice ao' (toldL C).length cap']) ∧ Own w0 w' (Row 46 4 (.slice ao' (toldL C).length cap') (toldL C).length (ccat (toldL C)) :: l) := by
  have hB := (h.allocC #[.int .u32 (id : Int), .slice ao len cap] 67).allocC #[.int .u32 0, .slice none 0 0] 67
  have e1 : (w.alloc (.cells #[.int .u32 (id : Int), .slice ao len cap] 67)).heap.size = w.heap.size + 1 := by simp
  rw [e1] at hB
  have HTL : Hid (Calls _ _ _ _ _) := told_l w0 _ ht _ hB.drew ao len cap C hCl (fun w' hw => hCs w' hw.tail.tail) hCk hlen
  have HB : Hid (Own w0 _ _) := hB
  generalize hn : (toldL C).length = n at *
  have HN : Hid ((toldL C).length = n) := hn
  clear h hCl hCs hCk hB e1 hn ht
  go_enter Tryz.func106, Tryz.ntmps106
  go_wp2
  generalize hWg : (w.alloc (.cells #[.int .u32 (id : Int), .slice ao len cap] 67)).alloc (.cells #[.int .u32 0, .slice none 0 0] 67) = W1 at *
  clear hWg
  have hne : w.heap.size + 1 ≠ w.heap.size := by omega
  generalize w.heap.size + 1 = b2 at *
  generalize w.heap.size = b1 at *
  have p0 := HB.out.two.cell 0
  have p1 := HB.out.two.cell 1
  simp at p0 p1
  go_region_held3 (fun w' => w'.cell? ⟨b1, 0, none⟩ = some (.int .u32 (id : Int)) ∧ w'.cell? ⟨b1, 1, none⟩ = some (.slice ao len cap)) (go_keep)
    (first
      | (go_at_call 43; refine HTL.out.mono ?_; rintro e w5 ⟨a5, c5, rfl, h5⟩
         have u0 := h5.three.cell 0
         have u1 := h5.three.cell 1
         have x0 := h5.two.cell 0
         have x1 := h5.two.cell 1
         have y0 := h5.two.froz 0
         have y1 := h5.two.froz 1
         simp at u0 u1 x0 x1)
      | fail)
  have h6 := (h5.two.setC 0 (.int .u32 (id : Int))).setC 1 (.slice a5 n c5)
  simp at h6
  have H6 : Hid (Own w0 _ _) := h6
  clear h5 h6 HTL HB u0 u1 x0 x1 y0 y1 p0 p1
  go_wp2
  (try simp only [Exit.inBlock, Exit.then])
  refine bodyPost_ret (results_cell_row rfl _ _ b2 67 #[.int .u32 (id : Int), .slice a5 n c5] _ _ rfl H6.out.obj Tryz.underlying67 rfl (by kernel_rfl)) rfl ?_
  exact ⟨a5, c5, rfl, H6.out.two.in23.two.tail.two.tail⟩
/-- do they rise? -/
def risB : List Nat → Bool
  | x :: y :: t => decide (x < y) && risB (y :: t)
  | _ => true
theorem ris_take {L : List Nat} {j x y : Nat} (hx : L[j]? = some x) (hy : L[j + 1]? = some y) (h : risB (L.take (j + 1)) = true) : risB (L.take (j + 2)) = decide (x < y) := by
  induction L generalizing j with
  | nil => simp at hx
  | cons a t ih =>
    cases j with
    | zero =>
      simp at hx hy
      subst hx
      cases t with
      | nil => simp at hy
      | cons b s => simp at hy; subst hy; simp [risB]
    | succ j =>
      cases t with
      | nil => simp at hy
      | cons b s =>
        simp at hx hy
        have h1 : risB ((b :: s).take (j + 1)) = true ∧ a < b := by
          cases j with
          | zero => simp [risB] at h ⊢; exact h
          | succ j => simp [risB] at h ⊢; exact ⟨h.2, h.1⟩
        have h2 := ih (j := j) (by simpa using hx) (by simpa using hy) h1.1
        have e : ((a :: b :: s).take (j + 1 + 2)) = a :: ((b :: s).take (j + 2)) := by simp
        rw [e]
        have e2 : (b :: s).take (j + 2) = b :: s.take (j + 1) := by simp
        rw [e2] at h2 ⊢
        rw [risB, h2]
        simp [h1.2]
theorem ris_no {L : List Nat} {j : Nat} (h : risB (L.take j) = false) : risB L = false := by
  induction L generalizing j with
  | nil => simp [risB] at h
  | cons a t ih =>
    cases j with
    | zero => simp [risB] at h
    | succ j =>
      cases t with
      | nil => simp [risB] at h
      | cons b s =>
        cases j with
        | zero => simp [risB] at h
        | succ j =>
          have e : (a :: b :: s).take (j + 1 + 1) = a :: b :: s.take j := by simp
          rw [e, risB] at h
          rw [risB]
          by_cases hab : a < b
          · simp only [decide_eq_true hab, Bool.true_and] at h ⊢
            exact ih (j := j + 1) (by simpa using h)
          · simp [hab]
set_option maxHeartbeats 2000000 in
theorem rising_any (w : World) (v : Value) (X : List Nat) (h : Nums .u32 w v X) (hX : X.length ≤ 1000000) :
    Calls Tryz.prog 105 #[v] w fun e w' => e = .returned (.bool (risB X)) ∧ Fr Nobody w w' := by
  obtain ⟨ao, cap, rfl, h⟩ := h
  obtain ⟨n, hn⟩ : ∃ n, n = X.length := ⟨_, rfl⟩
  rw [← hn] at hX ⊢
  have HX : Hid (n = X.length ∧ (X = [] ∨ ∃ g o, ao = some ⟨g, o, none⟩ ∧ ∀ (j x : Nat), X[j]? = some x → w.cell? ⟨g, o + j, none⟩ = some (.int .u32 (x : Int)))) := ⟨hn, h⟩
  have HS : Hid (risB (X.take 1) = true) := by
    show _ = _
    cases X with
    | nil => rfl
    | cons a t => simp [risB]
  clear hn h
  go_enter Tryz.func105, Tryz.ntmps105
  go_wp2
  go_loopw [3] (fun cc wr => ∃ k : Nat, 1 ≤ k ∧ (k ≤ n ∨ k = 1) ∧ cc = .int .i64 k ∧ Fr Nobody w wr ∧ risB (X.take k) = true) (fun cc _ => n - (intOf cc).toNat)
  case atStart => exact ⟨1, Nat.le_refl _, .inr rfl, rfl, Fr.refl _ _, HS.out⟩
  case round =>
    obtain ⟨k, hk1, hk2, rfl, hf, hr⟩ := hrel
    have HF : Hid (Fr Nobody w wr) := hf
    have HR : Hid (risB (X.take k) = true) := hr
    clear hf hr HS
    by_cases hlt : k < n
    · obtain ⟨i, hi⟩ : ∃ i, k = i + 1 := ⟨k - 1, by omega⟩
      subst hi
      obtain ⟨x, hx⟩ : ∃ x, X[i]? = some x := ⟨_, List.getElem?_eq_getElem (by rw [← HX.out.1]; omega)⟩
      obtain ⟨y, hy⟩ : ∃ y, X[i + 1]? = some y := ⟨_, List.getElem?_eq_getElem (by rw [← HX.out.1]; omega)⟩
      obtain ⟨g, o, hao, d1, d2⟩ : ∃ g o, ao = some ⟨g, o, none⟩ ∧ wr.cell? ⟨g, o + i, none⟩ = some (.int .u32 (x : Int)) ∧ wr.cell? ⟨g, o + (i + 1), none⟩ = some (.int .u32 (y : Int)) := by
        rcases HX.out.2 with h0 | ⟨g, o, ha, hc⟩
        · rw [h0] at hx; simp at hx
        · have h1 := hc i x hx
          have h2 := hc (i + 1) y hy
          exact ⟨g, o, ha, (HF.out.cell (p := ⟨g, o + i, none⟩) (World.block_lt_of_cell? w _ h1) id).trans h1, (HF.out.cell (p := ⟨g, o + (i + 1), none⟩) (World.block_lt_of_cell? w _ h2) id).trans h2⟩
      subst hao
      have HRT : Hid (risB (X.take (i + 2)) = decide (x < y)) := ris_take hx hy HR.out
      have hlt' : ((i : Int) + 1) < (n : Int) := by omega
      have hin : (i : Int) < (n : Int) := by omega
      have hwi : IntKind.i64.wrap (i : Int) = (i : Int) := by rw [IntKind.wrap_i64]; omega
      clear hx hy
      by_cases hle : y ≤ x
      · have hle' : (y : Int) ≤ (x : Int) := by omega
        have HN : Hid (risB X = false) := ris_no (j := i + 2) (by rw [HRT.out]; simp; omega)
        go_wp2
        go_quiet (fail)
        go_wp2
        go_ret
        exact ⟨by rw [HN.out]; rfl, HF.out.drewN _⟩
      · have hle' : ¬ (y : Int) ≤ (x : Int) := by omega
        have HN : Hid (risB (X.take (i + 1 + 1)) = true) := by show _ = _; rw [HRT.out]; simp; omega
        go_wp2
        go_quiet (fail)
        go_wp2
        go_roundw
        case rel => exact ⟨i + 1 + 1, by omega, .inl (by omega), by go_num, HF.out.drewN _, HN.out⟩
        case measure => simp [intOf]; omega
    · have hlt' : ¬ (k : Int) < (n : Int) := by omega
      have HN : Hid (risB X = true) := by have := HR.out; rw [List.take_of_length_le (by rw [← HX.out.1]; omega)] at this; exact this
      go_wp2
      go_ret
      exact ⟨by rw [HN.out]; rfl, HF.out⟩
end Go.Proofs.YtfhfcfobgemcpaaGreatDoor

/-
  Lists of entities of their own: the document's Twins, the program's Copy.
-/
namespace Go.Proofs.YtfhfcfobgemcpaaGreatDoor
open Go.RowKit
set_option linter.unusedVariables false
set_option maxRecDepth 100000

theorem Own.dropA {w0 w : World} {A l : List Thing} (h : Own w0 w (A ++ l)) : Own w0 w l := by
  induction A with
  | nil => exact h
  | cons a t ih => exact ih h.tail
theorem step_cs {w0 w : World} {l : List Thing} {ops : Array Oper} {o : Oper} {a : Act} {K : Act → World → Prop} {Q : Exit → Act → World → Prop} {E : Prop} (hgd : o.guard = none) (sx x : Operand)
    (ho : o.op = .call { callee := .builtin .append, args := #[sx, x], argTypes := #[39, 39] })
    (i : TypeInfo) (hi : Tryz.prog.info? 46 = some i) (z : Value) (hz : i.zero = some z) (hsize : i.size = 4) (hby : i.bytes = 16) (hzs : z.cells.size = 4)
    (v : Value) (n : Nat) (xs : List Value) (hs : a.eval sx = v) (xa : Option Addr) (m xc : Nat) (C : List Cp) (hx : a.eval x = .slice xa m xc) (hC : C.length = m) (hc : Cs w xa C) (hown : Own w0 w (Row 46 4 v n xs :: l))
    (h63 : n + m ≤ maxLen) (hbytes : (n + m) * 16 ≤ 140737488355328)
    (h : ∀ ao cap w', Own w0 w' (Row 46 4 (.slice ao (n + m) cap) (n + m) (xs ++ ccat C) :: l) → K (a.put o.dst (.slice ao (n + m) cap)) w') :
    if Region.wanted o (yielded ops a.tmps) = true then Oper.wp Tryz.prog o a w K Q else E := by
  have hw : Region.wanted o (yielded ops a.tmps) = true := by simp [Region.wanted, hgd]
  rw [if_pos hw]
  rcases Nat.eq_zero_or_pos m with h0 | h0
  · subst h0
    have hy : C = [] := List.eq_nil_of_length_eq_zero hC
    subst hy
    obtain ⟨va, vc, rfl⟩ := row_any hown.row
    have hr := run_append_empty (P := Tryz.prog) w 0 39 o.type 46 i 4 Tryz.underlying39 hi _ n xs hown.row xa xc
    unfold Oper.wp
    simp [execOp, ho, resolve, invoke, builtin, hs, hx, hr, Result.andThen]
    have := h va vc w (by simpa [ccat, cat] using hown)
    simp at this
    exact this
  · rcases hc with hc | ⟨g, o', rfl, hc⟩
    · subst hc; simp at hC; omega
    refine wp_append_lies w sx x 39 ho 0 46 i z 4 16 Tryz.underlying39 hi hz hsize hby hzs (by decide) v n xs hs hown.row ⟨g, o', none⟩ m xc (ccat C) hx (by rw [length_ccat, hC]) (Cs.cells hc) (one_cat Cp.cs cs_one C) h0 h63 hbytes (Nat.zero_le _) _ rfl ?_
    intro g' cap' w' h2 h3 h4 h5
    refine h _ _ w' (hown.grow h2 h3 (fun k hk => ?_))
    have hk' : g' = k := by simpa [Value.ownBlock] using hk
    subst hk'
    rcases h4 with h4 | h4
    · exact .inl h4
    · exact .inr (by omega)

set_option maxHeartbeats 8000000 in
theorem rtwins_any (w0 w : World) (l : List Thing) (h : Own w0 w l) (ae : Option Addr) (n ce : Nat) (L : List EnE) (hQ : ∀ w', Own w0 w' l → EntsAt w' ae L) (hn : L.length = n) (hz : esz L ≤ 1000000) :
    Calls Tryz.prog 33 #[.slice ae n ce] w fun e w' => ∃ (ao : Option Addr) (cap : Nat), e = .returned (.slice ao n cap) ∧ ∃ M : List EnE, M.length = n ∧ evs M = evs L ∧ Own w0 w' (EntsT ao cap M :: l) := by
  obtain ⟨i0, hi, hz0, hz1, hz2⟩ := info3w Tryz.infoEnt
  obtain ⟨i1, hi1, hy0, hy1, hy2⟩ := info_parts Tryz.infoComp
  have HN : Hid (L.length = n) := hn
  have HQ : Hid (∀ w', Own w0 w' l → EntsAt w' ae L) := hQ
  have HC : Hid (∀ x ∈ L, x.C.length ≤ 1000000) := fun x hx => by have := csz_mem hx; unfold esz at hz; omega
  have hl : n ≤ 1000000 := by unfold esz at hz; omega
  have H : Hid (Own w0 w l) := h
  clear h hn hQ hz
  go_enter Tryz.func33, Tryz.ntmps33
  go_wp2
  go_loopw [3, 8] (fun vo vi wr => ∃ (j : Nat) (M : List EnE) (ao : Option Addr) (cap : Nat), j ≤ n ∧ vi = .int .i64 (j : Int) ∧ vo = .slice ao j cap ∧ M.length = j ∧ evs M = evs (L.take j) ∧ Own w0 wr (Row 67 2 (.slice ao j cap) j (cat EnE.cs M) :: (M.map erow ++ l))) (fun _ vi _ => n - (intOf vi).toNat)
  case atStart => exact ⟨0, [], none, 0, Nat.zero_le _, rfl, rfl, rfl, rfl, H.out.nilRow _ _⟩
  case round =>
    obtain ⟨j, M, ao, cap, hj, rfl, rfl, hMl, hM, hO⟩ := hrel
    have HM : Hid (M.length = j ∧ evs M = evs (L.take j)) := ⟨hMl, hM⟩
    clear H hMl hM
    by_cases hlt : j < n
    · have hlt' : (j : Int) < (n : Int) := by omega
      obtain ⟨x, hx⟩ : ∃ x, L[j]? = some x := ⟨_, List.getElem?_eq_getElem (by rw [HN.out]; exact hlt)⟩
      obtain ⟨g, o, hg, c0, c1, hcs⟩ := (HQ.out wr hO.tail.dropA).at hx
      have hcl := HC.out x (List.mem_of_getElem? hx)
      have hB := hO.allocC #[.int .u32 (x.id : Int), .slice x.ao x.C.length x.cap] 67
      have HTW : Hid (Calls _ _ _ _ _) := twin_any w0 _ _ hB.drew x.ao x.C.length x.cap x.C rfl (hcs.quiet ((Fr.refl _ _).alloc _).drew) hcl
      have HM2 : Hid (∀ a c, evs (M ++ [EnE.mk x.id a c x.C]) = evs (L.take (j + 1))) := by
        intro a c
        have e := HM.out.2
        unfold evs at e ⊢
        rw [List.map_append, e, List.take_add_one, hx]
        simp
      subst hg
      obtain ⟨xi, xa, xc, C⟩ := x
      simp only at c0 c1 HTW HM2
      have HB : Hid (Own w0 _ _) := hB
      generalize hcl2 : C.length = cl at *
      have HCL : Hid (C.length = cl) := hcl2
      clear hO hB hx hcs hcl2
      go_wp2
      generalize hWg : wr.alloc (.cells #[.int .u32 (xi : Int), .slice xa cl xc] 67) = W1 at *
      generalize wr.heap.size = b5 at *
      clear hWg c0 c1
      have p0 := HB.out.cell 0
      have p1 := HB.out.cell 1
      simp at p0 p1
      go_region_held3 (fun w' => w'.cell? ⟨b5, 0, none⟩ = some (.int .u32 (xi : Int)) ∧ w'.cell? ⟨b5, 1, none⟩ = some (.slice xa cl xc)) (go_keep)
        (first
          | (go_at_call 58; refine HTW.out.mono ?_; rintro e w5 ⟨a5, c5, rfl, h5⟩
             have u0 := h5.two.cell 0
             have u1 := h5.two.cell 1
             simp at u0 u1
             have h5b := h5.three.alloc (.cells #[.int .u32 (xi : Int), .slice a5 cl c5] 67)
             have h5c := (h5.litRow #[.int .u32 (xi : Int), .slice a5 cl c5] 67 2 1 (by decide) rfl).row
             have v0 := h5b.three.cell 0
             have v1 := h5b.three.cell 1
             simp at v0 v1
             have H5 : Hid (Own w0 _ _) := h5b
             have H5C : Hid (World.ownsRow _ _ _ _ _ _ _) := h5c
             clear h5 h5b h5c)
          | (refine step_allW rfl _ _ 64 rfl 67 i0 (.agg #[.int .u32 0, .slice none 0 0]) 2 32 Tryz.underlying64 hi hz0 hz1 hz2 rfl (by decide) _ _ _ rfl _ _ _ _ rfl H5.out H5C.out (by intro u hu; simp at hu; rcases hu with rfl | rfl <;> rfl) (by unfold maxLen; omega) (by omega) ?_
             intro g6 c6 w6 hO6
             have t0 := hO6.three.cell 0
             have t1 := hO6.three.cell 1
             simp at t0 t1
             have H6 : Hid (Own w0 w6 _) := hO6
             clear hO6))
      have H7 : Hid (Own w0 w6 (Row 67 2 (.slice g6 (j + 1) c6) (j + 1) (cat EnE.cs (M ++ [EnE.mk xi a5 c5 C])) :: ((M ++ [EnE.mk xi a5 c5 C]).map erow ++ l))) := by
        have e1 : cat EnE.cs (M ++ [EnE.mk xi a5 c5 C]) = cat EnE.cs M ++ [.int .u32 (xi : Int), .slice a5 cl c5] := by
          rw [cat_append]
          congr 1
          simp [cat, EnE.cs, HCL.out]
        have e2 : (M ++ [EnE.mk xi a5 c5 C]).map erow ++ l = M.map erow ++ (Row 46 4 (.slice a5 cl c5) cl (ccat C) :: l) := by
          simp [erow, HCL.out]
        show Own _ _ _
        rw [e1, e2]
        have h8 := H6.out.three.tail
        exact h8.perm (List.Perm.cons _ List.perm_middle.symm)
      clear H6 H5 H5C HTW HB u0 u1 v0 v1 t0 t1 p0 p1
      go_wp2
      go_roundw
      case rel => exact ⟨j + 1, M ++ [EnE.mk xi a5 c5 C], g6, c6, by omega, by go_num, rfl, by rw [List.length_append, HM.out.1]; rfl, HM2.out a5 c5, H7.out⟩
      case measure => simp [intOf]; omega
    · have hlt' : ¬ (j : Int) < (n : Int) := by omega
      have hjn : j = n := by omega
      subst hjn
      have HF : Hid (evs M = evs L) := by
        have := HM.out.2
        rw [List.take_of_length_le (by rw [HN.out]; exact Nat.le_refl _)] at this
        exact this
      have HE : Hid (Own w0 wr (EntsT ao cap M :: l)) := by
        have h1 := hO
        rw [← HM.out.1] at h1
        exact Own.ents h1
      clear hO
      go_wp2
      go_ret
      exact ⟨ao, cap, rfl, M, HM.out.1, HF.out, HE.out⟩

set_option maxHeartbeats 8000000 in
theorem copy_any (w0 w : World) (l : List Thing) (h : Own w0 w l) (ae : Option Addr) (n ce : Nat) (L : List EnE) (hQ : ∀ w', Own w0 w' l → EntsAt w' ae L) (hn : L.length = n) (hz : esz L ≤ 1000000) :
    Calls Tryz.prog 56 #[.slice ae n ce] w fun e w' => ∃ (ao : Option Addr) (cap : Nat), e = .returned (.slice ao n cap) ∧ ∃ M : List EnE, M.length = n ∧ evs M = evs L ∧ Own w0 w' (EntsT ao cap M :: l) := by
  obtain ⟨i0, hi, hz0, hz1, hz2⟩ := info3w Tryz.infoEnt
  obtain ⟨i1, hi1, hy0, hy1, hy2⟩ := info_parts Tryz.infoComp
  have HN : Hid (L.length = n) := hn
  have HQ : Hid (∀ w', Own w0 w' l → EntsAt w' ae L) := hQ
  have HC : Hid (∀ x ∈ L, x.C.length ≤ 1000000) := fun x hx => by have := csz_mem hx; unfold esz at hz; omega
  have hl : n ≤ 1000000 := by unfold esz at hz; omega
  have H : Hid (Own w0 w l) := h
  clear h hn hQ hz
  go_enter Tryz.func56, Tryz.ntmps56
  go_wp2
  go_loopw [3, 8] (fun vo vi wr => ∃ (j : Nat) (M : List EnE) (ao : Option Addr) (cap : Nat), j ≤ n ∧ vi = .int .i64 (j : Int) ∧ vo = .slice ao j cap ∧ M.length = j ∧ evs M = evs (L.take j) ∧ Own w0 wr (Row 67 2 (.slice ao j cap) j (cat EnE.cs M) :: (M.map erow ++ l))) (fun _ vi _ => n - (intOf vi).toNat)
  case atStart => exact ⟨0, [], none, 0, Nat.zero_le _, rfl, rfl, rfl, rfl, H.out.nilRow _ _⟩
  case round =>
    obtain ⟨j, M, ao, cap, hj, rfl, rfl, hMl, hM, hO⟩ := hrel
    have HM : Hid (M.length = j ∧ evs M = evs (L.take j)) := ⟨hMl, hM⟩
    clear H hMl hM
    by_cases hlt : j < n
    · have hlt' : (j : Int) < (n : Int) := by omega
      obtain ⟨x, hx⟩ : ∃ x, L[j]? = some x := ⟨_, List.getElem?_eq_getElem (by rw [HN.out]; exact hlt)⟩
      obtain ⟨g, o, hg, c0, c1, hcs⟩ := (HQ.out wr hO.tail.dropA).at hx
      have hcl := HC.out x (List.mem_of_getElem? hx)
      have hB := hO.allocC #[.int .u32 (x.id : Int), .slice x.ao x.C.length x.cap] 67
      have HTW : Hid (Cs (wr.alloc (.cells #[.int .u32 (x.id : Int), .slice x.ao x.C.length x.cap] 67)).drew x.ao x.C) := hcs.quiet ((Fr.refl _ _).alloc _).drew
      have HM2 : Hid (∀ a c, evs (M ++ [EnE.mk x.id a c x.C]) = evs (L.take (j + 1))) := by
        intro a c
        have e := HM.out.2
        unfold evs at e ⊢
        rw [List.map_append, e, List.take_add_one, hx]
        simp
      subst hg
      obtain ⟨xi, xa, xc, C⟩ := x
      simp only at c0 c1 HTW HM2
      have HB : Hid (Own w0 _ _) := hB
      generalize hcl2 : C.length = cl at *
      have HCL : Hid (C.length = cl) := hcl2
      clear hO hB hx hcs hcl2
      go_wp2
      generalize hWg : wr.alloc (.cells #[.int .u32 (xi : Int), .slice xa cl xc] 67) = W1 at *
      generalize wr.heap.size = b5 at *
      clear hWg c0 c1
      have p0 := HB.out.cell 0
      have p1 := HB.out.cell 1
      simp at p0 p1
      go_region_held3 (fun w' => w'.cell? ⟨b5, 0, none⟩ = some (.int .u32 (xi : Int)) ∧ w'.cell? ⟨b5, 1, none⟩ = some (.slice xa cl xc)) (go_keep)
        (first
          | (refine step_cs rfl _ _ rfl i1 hi1 _ hy0 hy1 hy2 rfl _ 0 [] rfl _ _ _ C rfl HCL.out HTW.out (HB.out.drew.nilRow _ _) (by unfold maxLen; omega) (by omega) ?_
             intro a5 c5 w5 h5r
             have h5 : Own w0 w5 (Row 46 4 (.slice a5 cl c5) cl (ccat C) :: Cells b5 #[.int .u32 (xi : Int), .slice xa cl xc] 67 :: Row 67 2 (.slice ao j cap) j (cat EnE.cs M) :: (M.map erow ++ l)) := by simpa using h5r
             clear h5r
             rw [Nat.zero_add]
             have u0 := h5.two.cell 0
             have u1 := h5.two.cell 1
             simp at u0 u1
             have h5b := h5.three.alloc (.cells #[.int .u32 (xi : Int), .slice a5 cl c5] 67)
             have h5c := (h5.litRow #[.int .u32 (xi : Int), .slice a5 cl c5] 67 2 1 (by decide) rfl).row
             have v0 := h5b.three.cell 0
             have v1 := h5b.three.cell 1
             simp at v0 v1
             have H5 : Hid (Own w0 _ _) := h5b
             have H5C : Hid (World.ownsRow _ _ _ _ _ _ _) := h5c
             clear h5 h5b h5c)
          | (refine step_allW rfl _ _ 64 rfl 67 i0 (.agg #[.int .u32 0, .slice none 0 0]) 2 32 Tryz.underlying64 hi hz0 hz1 hz2 rfl (by decide) _ _ _ rfl _ _ _ _ rfl H5.out H5C.out (by intro u hu; simp at hu; rcases hu with rfl | rfl <;> rfl) (by unfold maxLen; omega) (by omega) ?_
             intro g6 c6 w6 hO6
             have t0 := hO6.three.cell 0
             have t1 := hO6.three.cell 1
             simp at t0 t1
             have H6 : Hid (Own w0 w6 _) := hO6
             clear hO6))
      have H7 : Hid (Own w0 w6 (Row 67 2 (.slice g6 (j + 1) c6) (j + 1) (cat EnE.cs (M ++ [EnE.mk xi a5 c5 C])) :: ((M ++ [EnE.mk xi a5 c5 C]).map erow ++ l))) := by
        have e1 : cat EnE.cs (M ++ [EnE.mk xi a5 c5 C]) = cat EnE.cs M ++ [.int .u32 (xi : Int), .slice a5 cl c5] := by
          rw [cat_append]
          congr 1
          simp [cat, EnE.cs, HCL.out]
        have e2 : (M ++ [EnE.mk xi a5 c5 C]).map erow ++ l = M.map erow ++ (Row 46 4 (.slice a5 cl c5) cl (ccat C) :: l) := by
          simp [erow, HCL.out]
        show Own _ _ _
        rw [e1, e2]
        have h8 := H6.out.three.tail
        exact h8.perm (List.Perm.cons _ List.perm_middle.symm)
      clear H6 H5 H5C HTW HB u0 u1 v0 v1 t0 t1 p0 p1
      go_wp2
      go_roundw
      case rel => exact ⟨j + 1, M ++ [EnE.mk xi a5 c5 C], g6, c6, by omega, by go_num, rfl, by rw [List.length_append, HM.out.1]; rfl, HM2.out a5 c5, H7.out⟩
      case measure => simp [intOf]; omega
    · have hlt' : ¬ (j : Int) < (n : Int) := by omega
      have hjn : j = n := by omega
      subst hjn
      have HF : Hid (evs M = evs L) := by
        have := HM.out.2
        rw [List.take_of_length_le (by rw [HN.out]; exact Nat.le_refl _)] at this
        exact this
      have HE : Hid (Own w0 wr (EntsT ao cap M :: l)) := by
        have h1 := hO
        rw [← HM.out.1] at h1
        exact Own.ents h1
      clear hO
      go_wp2
      go_ret
      exact ⟨ao, cap, rfl, M, HM.out.1, HF.out, HE.out⟩
end Go.Proofs.YtfhfcfobgemcpaaGreatDoor

/-
  Entities taken out of a world; the document's examples of layer 18.
-/
namespace Go.Proofs.YtfhfcfobgemcpaaGreatDoor
open Go.RowKit
set_option linter.unusedVariables false
set_option maxRecDepth 100000

theorem wentT (w0 w : World) (l : List Thing) (b K n : Nat) (x : Wd) (hσ : x.σ.Ok) (id : Nat) (hid : id < 4294967296) (hl : x.σ.S.isLive id = true) (hK : K ≤ 1000000) (h : Own w0 w (WdT b x K n :: l)) :
    Calls Tryz.prog 82 #[.pointer (some ⟨b, 0, none⟩), .int .u32 (id : Int)] w fun e w' => ∃ ao cap, e = .returned (.tuple #[.agg #[.int .u32 (id : Int), .slice ao (x.σ.cps id).length cap], .int .i64 0]) ∧ Own w0 w' (Row 46 4 (.slice ao (x.σ.cps id).length cap) (x.σ.cps id).length (ccat (x.σ.cps id)) :: WdT b x K n :: l) := by
  obtain ⟨bs, bw, mp, pv, h⟩ := h.wdO
  refine (went w0 w _ b bs _ x.σ K h rfl hσ id hid hl hK).mono ?_
  rintro e w' ⟨ao, cap, rfl, h2⟩
  exact ⟨ao, cap, rfl, Own.ex2.2 ⟨(bs, bw, mp, pv), h2⟩⟩
theorem Sto.cps_in {σ : Sto} (hσ : σ.Ok) {id : Nat} (hl : σ.S.isLive id = true) : (∀ q ∈ σ.cps id, q.k < 256) ∧ (σ.cps id).length ≤ 6 := by
  obtain ⟨r, C, hr, he, hlC, _⟩ := hσ.ent hl
  rw [Sto.cps_of hr he]
  exact ⟨fun q hq => by have := chk_k ((lst_ok hlC).2 q hq).2; omega, lst_len6 hlC⟩
theorem Own.k4 {w0 w : World} {A B C D P : Thing} {m : List Thing} (h : Own w0 w (A :: B :: C :: D :: P :: m)) : Own w0 w (P :: A :: B :: C :: D :: m) := Own.lift (l := [A, B, C, D]) h
/-- these entities, as they are told -/
def tks (σ : Sto) (ids : List Nat) : List En := ids.map (fun id => (id, toldL (σ.cps id)))
theorem tks_take {σ : Sto} {ids : List Nat} {j id : Nat} (h : ids[j]? = some id) : tks σ (ids.take (j + 1)) = tks σ (ids.take j) ++ [(id, toldL (σ.cps id))] := by
  unfold tks
  rw [List.take_add_one, h]
  simp
set_option maxHeartbeats 2000000 in
theorem take_fall (w0 w : World) (l : List Thing) (h : Own w0 w l) (pw v : Value) (ids : List Nat) (hN : Nums .u32 w v ids) (hX : ids.length ≤ 1000000) (hr : risB ids = false) :
    Calls Tryz.prog 48 #[pw, v] w fun e w' => e = .returned (.tuple #[.slice none 0 0, .int .i64 4]) ∧ Own w0 w' l := by
  have HR : Hid (Calls _ _ _ _ _) := rising_any w v ids hN hX
  rw [hr] at HR
  have H : Hid (Own w0 w l) := h
  clear hr hN h
  go_enter Tryz.func48, Tryz.ntmps48
  go_wp2_with fail
  refine HR.out.mono ?_
  rintro e w1 ⟨rfl, hf⟩
  have H1 : Hid (Own w0 w1 l) := H.out.quiet hf
  clear hf HR H
  go_wp2
  go_ret2
  exact ⟨rfl, H1.out⟩
set_option maxHeartbeats 8000000 in
theorem take_live (w0 w : World) (ht : Tab w0) (l : List Thing) (b K n : Nat) (x : Wd) (hσ : x.σ.Ok) (hK : K ≤ 1000000) (ia : Option Addr) (ic : Nat) (ids : List Nat) (hN : ∀ w', Own w0 w' l → Nums .u32 w' (.slice ia ids.length ic) ids) (hX : ids.length ≤ 1000000) (hr : risB ids = true) (hl : ∀ id ∈ ids, x.σ.S.isLive id = true ∧ id < 4294967296) (h : Own w0 w (WdT b x K n :: l)) :
    Calls Tryz.prog 48 #[.pointer (some ⟨b, 0, none⟩), .slice ia ids.length ic] w fun e w' => ∃ (ao : Option Addr) (cap : Nat), e = .returned (.tuple #[.slice ao ids.length cap, .int .i64 0]) ∧ ∃ M : List EnE, M.length = ids.length ∧ evs M = tks x.σ ids ∧ Own w0 w' (EntsT ao cap M :: WdT b x K n :: l) := by
  obtain ⟨i0, hi, hz0, hz1, hz2⟩ := info3w Tryz.infoEnt
  have HR : Hid (Calls _ _ _ _ _) := rising_any w _ ids (hN w h.tail) hX
  rw [hr] at HR
  obtain ⟨m, hm⟩ : ∃ m, m = ids.length := ⟨_, rfl⟩
  have HM : Hid (m = ids.length) := hm
  have HN : Hid (∀ w', Own w0 w' l → Nums .u32 w' (.slice ia ids.length ic) ids) := hN
  have HL : Hid (∀ id ∈ ids, x.σ.S.isLive id = true ∧ id < 4294967296) := hl
  have HT : Hid (Tab w0) := ht
  have HOK : Hid (x.σ.Ok) := hσ
  have H : Hid (Own w0 w _) := h
  rw [← hm] at HR hX ⊢
  clear h hN hl hr ht hσ hm
  go_enter Tryz.func48, Tryz.ntmps48
  go_wp2_with fail
  refine HR.out.mono ?_
  rintro e w1 ⟨rfl, hf⟩
  have H1 : Hid (Own w0 w1 (WdT b x K n :: l)) := H.out.quiet hf
  clear hf HR H
  go_wp2
  go_loopw [6, 16] (fun v6 v16 wr => ∃ (j : Nat) (M : List EnE) (ao : Option Addr) (cap : Nat), j ≤ m ∧ v16 = .int .i64 (j : Int) ∧ v6 = .slice ao j cap ∧ M.length = j ∧ evs M = tks x.σ (ids.take j) ∧ Own w0 wr (Row 67 2 (.slice ao j cap) j (cat EnE.cs M) :: (M.map erow ++ (WdT b x K n :: l)))) (fun _ v16 _ => m - (intOf v16).toNat)
  case atStart => exact ⟨0, [], none, 0, Nat.zero_le _, rfl, rfl, rfl, rfl, H1.out.nilRow _ _⟩
  case round =>
    obtain ⟨j, M, ao, cap, hj, rfl, rfl, hMl, hMv, hO⟩ := hrel
    have HMM : Hid (M.length = j ∧ evs M = tks x.σ (ids.take j)) := ⟨hMl, hMv⟩
    clear H1 hMl hMv
    by_cases hlt : j < m
    · have hlt' : (j : Int) < (m : Int) := by omega
      obtain ⟨id, hid⟩ : ∃ id, ids[j]? = some id := ⟨_, List.getElem?_eq_getElem (by rw [← HM.out]; exact hlt)⟩
      obtain ⟨hlv, h32⟩ := HL.out id (List.mem_of_getElem? hid)
      obtain ⟨g, o, hia, hc0⟩ : ∃ g o, ia = some ⟨g, o, none⟩ ∧ wr.cell? ⟨g, o + j, none⟩ = some (.int .u32 (id : Int)) := by
        obtain ⟨a2, c2, e2, h2⟩ := HN.out wr (hO.tail.dropA).tail
        simp only [Value.slice.injEq] at e2
        rcases h2 with h2 | ⟨g, o, ha, hc⟩
        · rw [h2] at hid; simp at hid
        · exact ⟨g, o, by rw [e2.1, ha], hc j id hid⟩
      have h2 := Own.lift (l := Row 67 2 (.slice ao j cap) j (cat EnE.cs M) :: M.map erow) hO
      have HEN : Hid (Calls _ _ _ _ _) := wentT w0 wr _ b K n x HOK.out id h32 hlv hK h2
      have HMV : Hid (∀ a c, evs (M ++ [EnE.mk id a c (toldL (x.σ.cps id))]) = tks x.σ (ids.take (j + 1))) := fun a c => by
        rw [tks_take hid, ← HMM.out.2]; simp [evs]
      obtain ⟨hck, hcl⟩ := Sto.cps_in HOK.out hlv
      have HCK : Hid (∀ q ∈ x.σ.cps id, q.k < 256) := hck
      generalize hCe : x.σ.cps id = C at *
      generalize hcl2 : C.length = cl at *
      have HCL : Hid (C.length = cl) := hcl2
      have htl := toldL_le C
      rw [hcl2] at htl
      generalize htl2 : (toldL C).length = tl at *
      have HTL : Hid ((toldL C).length = tl) := htl2
      subst hia
      clear hO h2 hlv hid hck hCe hcl2 htl2
      go_wp2_with fail
      refine HEN.out.mono ?_
      rintro e w2 ⟨a2, c2, rfl, h3⟩
      have hB := h3.allocC #[.int .u32 (id : Int), .slice a2 cl c2] 67
      have HTD : Hid (Calls _ _ _ _ _) := toldE_any w0 _ HT.out _ hB id a2 cl c2 C HCL.out (fun w' hw => Own.rcs hw.tail HCL.out) HCK.out (by omega)
      simp only [HTL.out] at HTD
      clear h3 hB HEN hc0
      go_wp2_with fail
      refine HTD.out.mono ?_
      rintro e w3 ⟨a3, c3, rfl, h4⟩
      have H4 : Hid (Own w0 w3 _) := Own.k4 h4
      clear h4 HTD
      go_wp2_with (at_builtin; refine append1_own rfl _ _ 64 rfl 67 i0 (.agg #[.int .u32 0, .slice none 0 0]) 2 32 Tryz.underlying64 hi hz0 hz1 hz2 rfl (by decide) _ _ _ rfl H4.out _ #[.int .u32 (id : Int), .slice a3 tl c3] (by simp) rfl rfl (by intro u hu; simp at hu; rcases hu with rfl | rfl <;> rfl) (by unfold maxLen; omega) (by omega) ?_)
      intro g6 c6 w6 hO6 hsz6
      have H7 : Hid (Own w0 w6 (Row 67 2 (.slice (some ⟨g6, 0, none⟩) (j + 1) c6) (j + 1) (cat EnE.cs (M ++ [EnE.mk id a3 c3 (toldL C)])) :: ((M ++ [EnE.mk id a3 c3 (toldL C)]).map erow ++ (WdT b x K n :: l)))) := by
        have e1 : cat EnE.cs (M ++ [EnE.mk id a3 c3 (toldL C)]) = cat EnE.cs M ++ [.int .u32 (id : Int), .slice a3 tl c3] := by
          rw [cat_append]
          congr 1
          simp [cat, EnE.cs, HTL.out]
        have e2 : (M ++ [EnE.mk id a3 c3 (toldL C)]).map erow ++ (WdT b x K n :: l) = M.map erow ++ ([Row 46 4 (.slice a3 tl c3) tl (ccat (toldL C)), WdT b x K n] ++ l) := by
          simp [erow, HTL.out]
        show Own _ _ _
        rw [e1, e2]
        have h8 := hO6.three.tail.three.tail
        exact h8.perm (List.Perm.cons _ (List.perm_append_comm_assoc [Row 46 4 (.slice a3 tl c3) tl (ccat (toldL C)), WdT b x K n] (M.map erow) l))
      clear hO6 hsz6 H4
      go_wp2
      go_roundw
      case rel => exact ⟨j + 1, M ++ [EnE.mk id a3 c3 (toldL C)], _, _, by omega, by go_num, rfl, by rw [List.length_append, HMM.out.1]; rfl, HMV.out a3 c3, H7.out⟩
      case measure => simp [intOf]; omega
    · have hlt' : ¬ (j : Int) < (m : Int) := by omega
      have hjm : j = m := by omega
      subst hjm
      have HF : Hid (evs M = tks x.σ ids) := by
        have := HMM.out.2
        rw [List.take_of_length_le (by rw [← HM.out]; exact Nat.le_refl _)] at this
        exact this
      have HE : Hid (Own w0 wr (EntsT ao cap M :: WdT b x K n :: l)) := by
        have h1 := hO
        rw [← HMM.out.1] at h1
        exact Own.ents h1
      clear hO
      go_wp2
      go_ret2
      exact ⟨ao, cap, rfl, M, HMM.out.1, HF.out, HE.out⟩
end Go.Proofs.YtfhfcfobgemcpaaGreatDoor

/-
  The document's examples of layer 18.
-/
namespace Go.Proofs.YtfhfcfobgemcpaaGreatDoor
open Go.RowKit
set_option linter.unusedVariables false
set_option maxRecDepth 100000

def spC18 : List Cp := [⟨0, 0, 0, 0⟩, ⟨4, 0, 0, 0⟩, ⟨5, 9, 9, 0⟩]
def o18 : OrdE := ⟨1, 0, 0, spC18, none, 0⟩
def s18 : Sto := (runs stq (Sto.new 5 1, 0) [o18]).2.1.sys
theorem k18 : o18.ck = 0 := by kernel_rfl
theorem l18 : s18.S.isLive 1024 = true := by kernel_rfl
theorem t18 : tks s18 [1024] = [(1024, [⟨0, 0, 0, 0⟩, ⟨4, 0, 0, 0⟩])] := by kernel_rfl
theorem in18 (a : Option Addr) (c : Nat) : OrdE.In ⟨1, 0, 0, spC18, a, c⟩ := ⟨by show (1 : Nat) < 256; decide, by show (0 : Nat) < 4294967296; decide, by show (0 : Nat) < 256; decide, by intro q hq; simp [spC18] at hq; rcases hq with rfl | rfl | rfl <;> decide, by show (3 : Nat) ≤ 1000000; decide⟩
theorem step18 (w0 w : World) (l : List Thing) (b : Nat) (ht : Tab w0) (a : Option Addr) (c : Nat) (h : Own w0 w (WdT b ⟨0, Sto.new 5 1, [⟨1, 0, 0, spC18, a, c⟩], no15, []⟩ 0 0 :: l)) :
    Calls Tryz.prog 22 #[.pointer (some ⟨b, 0, none⟩)] w fun e w' => ∃ (ra : Option Addr) (rc K' n' : Nat) (S : Nat → Nat → Option SgE) (P : List PlE), e = .returned (.tuple #[.slice ra 1 rc, .int .i64 0]) ∧ K' ≤ 10000 ∧ s18.Ok ∧ Own w0 w' (WdT b ⟨1, s18, [], S, P⟩ K' n' :: l) := by
  have hr : runs stq (Sto.new 5 1, 0) [⟨1, 0, 0, spC18, a, c⟩] = runs stq (Sto.new 5 1, 0) [o18] := runs_is _ _ _ rfl
  have hx : ∀ P, (Wd.next ⟨0, Sto.new 5 1, [⟨1, 0, 0, spC18, a, c⟩], no15, []⟩ 0 P) = ⟨1, s18, [], mapOf no15 1 (allS s18), P⟩ := fun P => by
    unfold Wd.next
    simp only [hr]
    rfl
  refine (wstep w0 w l b 0 0 _ ht (Sto.new_ok 5 1 (by decide) (by decide) (by decide) (by decide)) (by decide) (by decide) (by show (0 : Nat) < 4294967295; decide) (by show (1 : Nat) ≤ 1000; decide) (fun o ho => by
    have : o = ⟨1, 0, 0, spC18, a, c⟩ := by simpa using ho
    rw [this]; exact in18 a c) h).mono ?_
  rintro e w' ⟨ra, rc, K', n', P, rfl, hK, hn, hok, hP, hO⟩
  rw [hx P] at hok hP hO
  exact ⟨ra, rc, K', n', _, P, rfl, Nat.le_trans hK (by show 0 + 2 * 1 + 2048 ≤ 10000; decide), hok, hO.tail⟩
set_option maxHeartbeats 16000000 in
theorem awake18 (w : World) (ht : Tab w) : Calls Tryz.prog 38 #[] w fun e w' => e = .returned (.bool true) ∧ Fr Nobody w w' := by
  have HT : Hid (Tab w) := ht
  have HN : Hid (Calls _ _ _ _ _) := wnew w w [] 5 1 0 (Own.start w) (by decide) (by decide) (by decide) (by decide)
  clear ht
  go_enter Tryz.func38, Tryz.ntmps38
  go_wp2_with fail
  refine HN.out.mono ?_
  rintro e w1 ⟨b, rfl, h1⟩
  have h2 := h1.litRow #[.int .u8 0, .int .i32 0, .int .i32 0, .int .i32 0, .int .u8 4, .int .i32 0, .int .i32 0, .int .i32 0, .int .u8 5, .int .i32 9, .int .i32 9, .int .i32 0] 46 4 3 (by decide) rfl
  have HP : Hid (Calls _ _ _ _ _) := wpush w _ _ b 0 0 _ HT.out h2.two ⟨1, 0, 0, spC18, some ⟨w1.heap.size, 0, none⟩, 3⟩ (in18 _ _) (fun w' hw => Own.rcs hw rfl)
  have hpc : pcode [] ⟨1, 0, 0, spC18, some ⟨w1.heap.size, 0, none⟩, 3⟩ = 0 := by kernel_rfl
  simp only [hpc] at HP
  have hov : OrdE.ag ⟨1, 0, 0, spC18, some ⟨w1.heap.size, 0, none⟩, 3⟩ = .agg #[.int .u8 1, .int .u32 0, .int .u8 0, .slice (some ⟨w1.heap.size, 0, none⟩) 3 3] := rfl
  rw [hov] at HP
  clear h1 HN hpc hov h2
  go_wp2_with fail
  refine HP.out.mono ?_
  rintro e w3 ⟨E', rfl, hE, h3⟩
  have hE2 : ∃ a c, E' = [⟨1, 0, 0, spC18, a, c⟩] := by
    unfold PushTo at hE
    rw [if_pos ⟨k18, by decide⟩] at hE
    obtain ⟨a, c, rfl⟩ := hE
    exact ⟨a, c, rfl⟩
  obtain ⟨a, c, rfl⟩ := hE2
  have H3 : Hid (Calls _ _ _ _ _) := step18 w w3 _ b HT.out a c h3
  clear h3 hE HP
  go_wp2_with fail
  refine H3.out.mono ?_
  rintro e w4 ⟨ra, rc, K1, n1, S1, P1, rfl, hK1, hok1, h4⟩
  have h5 := h4.litRow #[.int .u32 1024] 38 1 1 (by decide) rfl
  have HTK : Hid (Calls _ _ _ _ _) := take_live w _ HT.out _ b K1 n1 _ hok1 (by omega) (some ⟨w4.heap.size, 0, none⟩) 1 [1024] (fun w' hw => Own.nums hw) (by decide) rfl (fun id hid => by
    have : id = 1024 := by simpa using hid
    rw [this]; exact ⟨l18, by decide⟩) h5.two
  clear h4 h5 H3 hok1
  go_wp2_with fail
  refine HTK.out.mono ?_
  rintro e w5 ⟨ma, mc, rfl, M, hMl, hMv, h6⟩
  have hM1 : ∃ e : EnE, M = [e] ∧ e.C = [⟨0, 0, 0, 0⟩, ⟨4, 0, 0, 0⟩] := by
    match M, hMl with
    | [e], _ =>
      rw [t18] at hMv
      simp [evs] at hMv
      exact ⟨e, rfl, hMv.2⟩
  obtain ⟨e1, rfl, hec⟩ := hM1
  have h7 := h6.litRow #[.int .u32 1025, .int .u32 1024] 38 1 2 (by decide) rfl
  have HTF : Hid (Calls _ _ _ _ _) := take_fall w _ _ h7 (.pointer (some ⟨b, 0, none⟩)) (.slice (some ⟨w5.heap.size, 0, none⟩) 2 2) [1025, 1024] (Own.nums h7) (by decide) rfl
  clear h6 h7 HTK hMl hMv
  go_wp2_with fail
  refine HTF.out.mono ?_
  rintro e w6 ⟨rfl, h8⟩
  have HF : Hid (Fr Nobody w w6) := h8.fr
  obtain ⟨⟨g, hg, q0, q1⟩, hcs⟩ := h8.two.entAt (j := 0) (x := e1) rfl
  rw [hec] at hcs q1
  obtain ⟨gc, oc, hgc, hall, hat⟩ := hcs.at 1 ⟨4, 0, 0, 0⟩ rfl
  rw [hgc] at q1
  subst hg
  have k0 := hat.1
  simp at q0 q1 k0
  clear h8 HTF hat hall hcs hgc hec
  go_wp2
  go_ret
  exact ⟨by simp, HF.out⟩
end Go.Proofs.YtfhfcfobgemcpaaGreatDoor
