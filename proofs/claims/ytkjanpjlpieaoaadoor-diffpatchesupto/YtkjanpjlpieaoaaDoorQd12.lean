/-
  Entities in lists, with their components; regions that only read.
-/
import Derived.Test.YtkjanpjlpieaoaaDoorQd07
import Derived.Deep.QuietTactic
import Derived.Deep.RegionHeld3
import Derived.Deep.AppendLies
import Derived.Test.YtkjanpjlpieaoaaDoorQd08
namespace Go.Proofs.YtkjanpjlpieaoaaDoor
open Go.RowKit
set_option linter.unusedVariables false
set_option maxRecDepth 100000

/-- an entity in a list: its number, its components, and where they lie -/
structure EnE where
  id : Nat
  ao : Option Addr
  cap : Nat
  C : List Cp
def EnE.cs (x : EnE) : List Value := [.int .u32 (x.id : Int), .slice x.ao x.C.length x.cap]
def erow (x : EnE) : Thing := Row 46 4 (.slice x.ao x.C.length x.cap) x.C.length (ccat x.C)
theorem Tryd.infoEnt : (Tryd.prog.info? 43).map (fun i => (i.zero, i.size, i.bytes)) = some (some (.agg #[.int .u32 0, .slice none 0 0]), 2, 32) := by kernel_rfl
theorem info3w {P : Program} {t : TypeId} {z : Option Value} {s b : Nat} (h : (P.info? t).map (fun i => (i.zero, i.size, i.bytes)) = some (z, s, b)) : ∃ i, P.info? t = some i ∧ i.zero = z ∧ i.size = s ∧ i.bytes = b := by
  cases hi : P.info? t with
  | none => rw [hi] at h; simp at h
  | some i => rw [hi] at h; simp at h; exact ⟨i, rfl, h.1, h.2.1, h.2.2⟩
theorem ene_one (x : EnE) : ∀ u ∈ x.cs.toArray.toList, u.oneCell' = true := by
  intro u hu
  simp [EnE.cs] at hu
  rcases hu with rfl | rfl <;> rfl
/-- a list of entities with all its components -/
def EntsT (ao : Option Addr) (cap : Nat) (L : List EnE) : Thing := Ex (fun _ : Unit => Row 43 2 (.slice ao L.length cap) L.length (cat EnE.cs L) :: L.map erow)
theorem Own.ents {w0 w : World} {l : List Thing} {ao : Option Addr} {cap : Nat} {L : List EnE} (h : Own w0 w ((Row 43 2 (.slice ao L.length cap) L.length (cat EnE.cs L) :: L.map erow) ++ l)) : Own w0 w (EntsT ao cap L :: l) := Own.ex_iff.2 ⟨(), h⟩
theorem Own.entAt {w0 w : World} {l : List Thing} {ao : Option Addr} {cap : Nat} {L : List EnE} (h : Own w0 w (EntsT ao cap L :: l)) {j : Nat} {x : EnE} (hx : L[j]? = some x) :
    (∃ g, ao = some ⟨g, 0, none⟩ ∧ w.cell? ⟨g, j * 2, none⟩ = some (.int .u32 (x.id : Int)) ∧ w.cell? ⟨g, j * 2 + 1, none⟩ = some (.slice x.ao x.C.length x.cap)) ∧ Cs w x.ao x.C := by
  obtain ⟨_, h1⟩ := Own.ex_iff.1 h
  have hj := (List.getElem?_eq_some_iff.1 hx).1
  constructor
  · obtain ⟨g, cp, hv, _⟩ := row_shape h1.row (by omega)
    have hva := (Value.slice.inj hv).1
    subst hva
    have hr := h1.row
    refine ⟨g, rfl, ?_, ?_⟩
    · rw [hr.cellAt _ (by omega)]
      exact cat_at EnE.cs 2 (fun _ => rfl) L j 0 x hx (by decide)
    · rw [hr.cellAt _ (by omega)]
      exact cat_at EnE.cs 2 (fun _ => rfl) L j 1 x hx (by decide)
  · obtain ⟨L1, L2, rfl⟩ := List.append_of_mem (List.mem_of_getElem? hx)
    have h2 : Own w0 w (erow x :: (L1.map erow ++ (L2.map erow ++ l))) := by
      have h3 : Own w0 w ((L1 ++ x :: L2).map erow ++ l) := h1.tail
      refine h3.perm ?_
      have e : (L1 ++ x :: L2).map erow ++ l = L1.map erow ++ (erow x :: (L2.map erow ++ l)) := by simp
      rw [e]
      exact List.perm_middle
    exact Own.cs (h2.view (by decide)) rfl
/-- a world in which all that was there is as it was -/
structure FrOf (w : World) where
  val : World
  fr : Fr Nobody w val
instance (w : World) : Inhabited (FrOf w) := ⟨⟨w, Fr.refl _ _⟩⟩
theorem wp_region_fr {P : Program} {id : Nat} {Q : Exit → Act → World → Prop} {a : Act} {w : World} {l : List Oper} (hm : P.follows .mixedOrders = true) (hB : Region.lexB .any l.toArray = true)
    (h : wpQuiet P l.toArray (fun w' => ∃ f : FrOf w, w' = f.val) (fun a' => ∀ w', (∃ f : FrOf w, w' = f.val) → Q .normal a' w') l a) : (Code.region id l.toArray true).wp P Q a w :=
  wp_region_quiet (C := fun w' => ∃ f : FrOf w, w' = f.val) hm hB ⟨⟨_, (Fr.refl _ w).drew⟩, rfl⟩ (by simpa using h)
theorem Calls.fr_of {P : Program} {f : FuncId} {args : Array Value} {w : World} {v : Value} {g : FrOf w}
    (h : Calls P f args g.val fun e w' => e = .returned v ∧ Fr Nobody g.val w') : Calls P f args g.val fun e w'' => e = .returned v ∧ ∃ f : FrOf w, w'' = f.val :=
  h.mono fun _ w' ⟨he, hf⟩ => ⟨he, ⟨w', g.fr.trans hf⟩, rfl⟩
theorem Calls.fr_same {P : Program} {f : FuncId} {args : Array Value} {w : World} {v : Value} {g : FrOf w}
    (h : Calls P f args g.val fun e w' => e = .returned v ∧ w' = g.val) : Calls P f args g.val fun e w'' => e = .returned v ∧ ∃ f : FrOf w, w'' = f.val :=
  h.mono fun _ w' ⟨he, hf⟩ => ⟨he, g, hf⟩
theorem step_allW {P : Program} {w0 w : World} {l : List Thing} {ops : Array Oper} {o : Oper} {a : Act} {K : Act → World → Prop} {Q : Exit → Act → World → Prop} {E : Prop} (hgd : o.guard = none) (sx x : Operand) (t : TypeId)
    (ho : o.op = .call { callee := .builtin .append, args := #[sx, x], argTypes := #[t, t] })
    (e : TypeId) (i : TypeInfo) (z : Value) (size bytes : Nat) (ht : P.underlying t = some (.slice e)) (hi : P.info? e = some i) (hz : i.zero = some z)
    (hsize : i.size = size) (hby : i.bytes = bytes) (hzs : z.cells.size = size) (hsz : 0 < size)
    (v : Value) (n : Nat) (xs : List Value) (hs : a.eval sx = v) (xa : Option Addr) (m xc : Nat) (ys : List Value) (hx : a.eval x = .slice xa m xc) (hown : Own w0 w (Row e size v n xs :: l)) (hr : w.ownsRow 0 e size (.slice xa m xc) m ys) (h1 : ∀ u ∈ ys, u.oneCell' = true)
    (h63 : n + m ≤ maxLen) (hbytes : (n + m) * bytes ≤ 140737488355328)
    (h : ∀ ao cap w', Own w0 w' (Row e size (.slice ao (n + m) cap) (n + m) (xs ++ ys) :: l) → K (a.put o.dst (.slice ao (n + m) cap)) w') :
    if Region.wanted o (yielded ops a.tmps) = true then Oper.wp P o a w K Q else E := by
  have hw : Region.wanted o (yielded ops a.tmps) = true := by simp [Region.wanted, hgd]
  rw [if_pos hw]
  rcases Nat.eq_zero_or_pos m with h0 | h0
  · subst h0
    have hy : ys = [] := List.eq_nil_of_length_eq_zero (by rw [hr.1]; simp)
    subst hy
    obtain ⟨va, vc, rfl⟩ := row_any hown.row
    have hr := run_append_empty (P := P) w 0 t o.type e i size ht hi _ n xs hown.row xa xc
    unfold Oper.wp
    simp [execOp, ho, resolve, invoke, builtin, hs, hx, hr, Result.andThen]
    have := h va vc w (by simpa using hown)
    simp at this
    exact this
  · obtain ⟨g, cap, hv, _⟩ := row_shape hr h0
    have hxa := (Value.slice.inj hv).1
    subst hxa
    refine wp_append_lies w sx x t ho 0 e i z size bytes ht hi hz hsize hby hzs hsz v n xs hs hown.row ⟨g, 0, none⟩ m xc ys hx hr.1 (fun j u hu => by
      rw [addr_add, Nat.zero_add, hr.cellAt j (by rw [← hr.1]; exact (List.getElem?_eq_some_iff.1 hu).1)]; exact hu) h1 h0 h63 hbytes (Nat.zero_le _) _ rfl ?_
    intro g' cap' w' h2 h3 h4 h5
    refine h _ _ w' (hown.grow h2 h3 (fun k hk => ?_))
    have hk' : g' = k := by simpa [Value.ownBlock] using hk
    subst hk'
    rcases h4 with h4 | h4
    · exact .inl h4
    · exact .inr (by omega)

end Go.Proofs.YtkjanpjlpieaoaaDoor

/-
  Lists of entities that can be read: how many there are, whether they are alike.
-/
namespace Go.Proofs.YtkjanpjlpieaoaaDoor
open Go.RowKit
set_option linter.unusedVariables false
set_option maxRecDepth 100000

/-- a list of entities that can be read -/
def EntsAt (w : World) (ao : Option Addr) (L : List EnE) : Prop := (L = [] ∨ ∃ g o, ao = some ⟨g, o, none⟩ ∧ ∀ (j : Nat) x, L[j]? = some x → w.cell? ⟨g, o + j * 2, none⟩ = some (.int .u32 (x.id : Int)) ∧ w.cell? ⟨g, o + j * 2 + 1, none⟩ = some (.slice x.ao x.C.length x.cap)) ∧ ∀ x ∈ L, Cs w x.ao x.C
theorem EntsAt.quiet {w w' : World} {ao : Option Addr} {L : List EnE} (h : EntsAt w ao L) (hf : Fr Nobody w w') : EntsAt w' ao L := by
  refine ⟨?_, fun x hx => (h.2 x hx).quiet hf⟩
  rcases h.1 with h | ⟨g, o, ha, hc⟩
  · exact .inl h
  · refine .inr ⟨g, o, ha, fun j x hx => ?_⟩
    obtain ⟨h0, h1⟩ := hc j x hx
    have hb := World.block_lt_of_cell? w _ h0
    exact ⟨(hf.cell (p := ⟨g, o + j * 2, none⟩) hb id).trans h0, (hf.cell (p := ⟨g, o + j * 2 + 1, none⟩) hb id).trans h1⟩
theorem EntsAt.at {w : World} {ao : Option Addr} {L : List EnE} (h : EntsAt w ao L) {j : Nat} {x : EnE} (hx : L[j]? = some x) : ∃ g o, ao = some ⟨g, o, none⟩ ∧ w.cell? ⟨g, o + j * 2, none⟩ = some (.int .u32 (x.id : Int)) ∧ w.cell? ⟨g, o + j * 2 + 1, none⟩ = some (.slice x.ao x.C.length x.cap) ∧ Cs w x.ao x.C := by
  rcases h.1 with h0 | ⟨g, o, ha, hc⟩
  · subst h0; simp at hx
  · exact ⟨g, o, ha, (hc j x hx).1, (hc j x hx).2, h.2 x (List.mem_of_getElem? hx)⟩
theorem Own.entsAt {w0 w : World} {l : List Thing} {ao : Option Addr} {cap : Nat} {L : List EnE} (h : Own w0 w (EntsT ao cap L :: l)) : EntsAt w ao L := by
  refine ⟨?_, fun x hx => ?_⟩
  · rcases Nat.eq_zero_or_pos L.length with h0 | h0
    · exact .inl (List.eq_nil_of_length_eq_zero h0)
    · obtain ⟨x0, hx0⟩ : ∃ x, L[0]? = some x := ⟨_, List.getElem?_eq_getElem h0⟩
      obtain ⟨⟨g, hg, _, _⟩, _⟩ := h.entAt hx0
      refine .inr ⟨g, 0, hg, fun j x hx => ?_⟩
      obtain ⟨⟨g', hg', h1, h2⟩, _⟩ := h.entAt hx
      rw [hg] at hg'
      cases hg'
      rw [Nat.zero_add]
      exact ⟨h1, h2⟩
  · obtain ⟨j, hj⟩ := List.getElem?_of_mem hx
    exact (h.entAt hj).2
/-- what they are -/
def evs (L : List EnE) : List En := L.map (fun x => (x.id, x.C))
theorem evs_len (L : List EnE) : (evs L).length = L.length := by simp [evs]
theorem evs_at {L : List EnE} {j : Nat} {x : EnE} (h : L[j]? = some x) : (evs L)[j]? = some (x.id, x.C) := by simp [evs, h]
/-- numbers and kinds within their types -/
def EIn (L : List EnE) : Prop := ∀ x ∈ L, x.id < 4294967296 ∧ ∀ q ∈ x.C, q.k < 256
/-- how many components -/
def csz : List EnE → Nat
  | [] => 0
  | x :: t => x.C.length + csz t
theorem csz_append (A B : List EnE) : csz (A ++ B) = csz A + csz B := by
  induction A with
  | nil => simp [csz]
  | cons x t ih => simp only [List.cons_append, csz, ih]; omega
theorem csz_take {L : List EnE} {j : Nat} {x : EnE} (h : L[j]? = some x) : csz (L.take (j + 1)) = csz (L.take j) + x.C.length := by
  rw [List.take_add_one, h, csz_append]; simp [csz]
theorem csz_take_le (L : List EnE) (j : Nat) : csz (L.take j) ≤ csz L := by
  have h := csz_append (L.take j) (L.drop j)
  rw [List.take_append_drop] at h
  omega
theorem csz_mem {L : List EnE} {x : EnE} (h : x ∈ L) : x.C.length ≤ csz L := by
  obtain ⟨j, hj⟩ := List.getElem?_of_mem h
  have h1 := csz_take hj
  have h2 := csz_take_le L (j + 1)
  omega
def esz (L : List EnE) : Nat := L.length + csz L

set_option maxHeartbeats 2000000 in
theorem few_any (w : World) (ao : Option Addr) (n cap : Nat) (L : List EnE) (hn : L.length = n) (h : EntsAt w ao L) (hz : esz L ≤ 1048576) :
    Calls Tryd.prog 5 #[.slice ao n cap] w fun e w' => e = .returned (.bool (decide (esz L ≤ 400))) ∧ Fr Nobody w w' := by
  have HL : Hid (L.length = n ∧ EntsAt w ao L) := ⟨hn, h⟩
  have HZ : Hid (esz L = n + csz L) := by show _ = _; unfold esz; rw [hn]
  have hz1 : n + csz L ≤ 1048576 := by unfold esz at hz; omega
  clear hn h hz
  go_enter Tryd.func5, Tryd.ntmps5
  go_wp2
  go_loopw [3, 10] (fun s c wr => ∃ (j m : Nat), j ≤ n ∧ c = .int .i64 j ∧ s = .int .i64 m ∧ m = n + csz (L.take j) ∧ Fr Nobody w wr) (fun _ c _ => n - (intOf c).toNat)
  case atStart => exact ⟨0, n, Nat.zero_le _, rfl, rfl, by simp [csz], Fr.refl _ _⟩
  case round =>
    obtain ⟨j, m, hj, rfl, rfl, hm, hf⟩ := hrel
    have HF : Hid (Fr Nobody w wr) := hf
    have HM : Hid (m = n + csz (L.take j)) := hm
    have hm2 : m ≤ 1048576 := by have := csz_take_le L j; omega
    clear hf hm
    by_cases hlt : j < n
    · obtain ⟨x, hx⟩ : ∃ x, L[j]? = some x := ⟨_, List.getElem?_eq_getElem (by rw [HL.out.1]; exact hlt)⟩
      obtain ⟨g, o, hao, c0, c1, _⟩ := (HL.out.2.quiet HF.out).at hx
      subst hao
      have HS : Hid (m + x.C.length = n + csz (L.take (j + 1))) := by show _ = _; rw [csz_take hx, HM.out]; omega
      have hs2 : m + x.C.length ≤ 1048576 := by have := csz_take_le L (j + 1); have := HS.out; omega
      have hlt' : (j : Int) < (n : Int) := by omega
      clear hx
      obtain ⟨xi, xa, xc, C⟩ := x
      simp only at c0 c1 HS hs2
      generalize C.length = cl at *
      go_wp2
      go_roundw
      case rel => exact ⟨j + 1, m + cl, by omega, by go_num, by go_num, HS.out, HF.out.alloc _⟩
      case measure => simp [intOf]; omega
    · have hlt' : ¬ (j : Int) < (n : Int) := by omega
      have HT : Hid (esz L = m) := by show _ = _; rw [HZ.out, HM.out, List.take_of_length_le (by rw [HL.out.1]; omega)]
      clear HM
      by_cases h4 : m ≤ 400
      · have h4' : (m : Int) ≤ 400 := by omega
        have HD : Hid (decide (esz L ≤ 400) = true) := by show _ = _; rw [HT.out]; exact decide_eq_true h4
        go_wp2
        go_ret
        exact ⟨by rw [HD.out]; simp, HF.out⟩
      · have h4' : ¬ (m : Int) ≤ 400 := by omega
        have HD : Hid (decide (esz L ≤ 400) = false) := by show _ = _; rw [HT.out]; exact decide_eq_false h4
        go_wp2
        go_ret
        exact ⟨by rw [HD.out]; simp, HF.out⟩
end Go.Proofs.YtkjanpjlpieaoaaDoor

