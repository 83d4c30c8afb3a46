/-
  Entities in lists, with their components; regions that only read.
-/
import Derived.Test.YtcmofbhfdagpcaaGreatDoorSng
import Derived.Test.YtcmofbhfdagpcaaGreatDoorOwg
import Derived.Deep.QuietTactic
import Derived.Deep.RegionHeld3
import Derived.Deep.AppendLies
namespace Go.Proofs.YtcmofbhfdagpcaaGreatDoor
open Go.RowKit
set_option linter.unusedVariables false
set_option maxRecDepth 100000

/-- an entity in a list: its number, its components, and where they lie -/
structure EnE where
  id : Nat
  ao : Option Addr
  cap : Nat
  C : List Cp
def EnE.cs (x : EnE) : List Value := [.int .u32 (x.id : Int), .slice x.ao x.C.length x.cap]
def erow (x : EnE) : Thing := Row 96 4 (.slice x.ao x.C.length x.cap) x.C.length (ccat x.C)
theorem Tryz.infoEnt : (Tryz.prog.info? 90).map (fun i => (i.zero, i.size, i.bytes)) = some (some (.agg #[.int .u32 0, .slice none 0 0]), 2, 32) := by kernel_rfl
theorem info3w {P : Program} {t : TypeId} {z : Option Value} {s b : Nat} (h : (P.info? t).map (fun i => (i.zero, i.size, i.bytes)) = some (z, s, b)) : ∃ i, P.info? t = some i ∧ i.zero = z ∧ i.size = s ∧ i.bytes = b := by
  cases hi : P.info? t with
  | none => rw [hi] at h; simp at h
  | some i => rw [hi] at h; simp at h; exact ⟨i, rfl, h.1, h.2.1, h.2.2⟩
theorem ene_one (x : EnE) : ∀ u ∈ x.cs.toArray.toList, u.oneCell' = true := by
  intro u hu
  simp [EnE.cs] at hu
  rcases hu with rfl | rfl <;> rfl
/-- a list of entities with all its components -/
def EntsT (ao : Option Addr) (cap : Nat) (L : List EnE) : Thing := Ex (fun _ : Unit => Row 90 2 (.slice ao L.length cap) L.length (cat EnE.cs L) :: L.map erow)
theorem Own.ents {w0 w : World} {l : List Thing} {ao : Option Addr} {cap : Nat} {L : List EnE} (h : Own w0 w ((Row 90 2 (.slice ao L.length cap) L.length (cat EnE.cs L) :: L.map erow) ++ l)) : Own w0 w (EntsT ao cap L :: l) := Own.ex_iff.2 ⟨(), h⟩
theorem Own.entAt {w0 w : World} {l : List Thing} {ao : Option Addr} {cap : Nat} {L : List EnE} (h : Own w0 w (EntsT ao cap L :: l)) {j : Nat} {x : EnE} (hx : L[j]? = some x) :
    (∃ g, ao = some ⟨g, 0, none⟩ ∧ w.cell? ⟨g, j * 2, none⟩ = some (.int .u32 (x.id : Int)) ∧ w.cell? ⟨g, j * 2 + 1, none⟩ = some (.slice x.ao x.C.length x.cap)) ∧ Cs w x.ao x.C := by
  obtain ⟨_, h1⟩ := Own.ex_iff.1 h
  have hj := (List.getElem?_eq_some_iff.1 hx).1
  constructor
  · obtain ⟨g, cp, hv, _⟩ := row_shape h1.row (by omega)
    have hva := (Value.slice.inj hv).1
    subst hva
    have hr := h1.row
    refine ⟨g, rfl, ?_, ?_⟩
    · rw [hr.cellAt _ (by omega)]
      exact cat_at EnE.cs 2 (fun _ => rfl) L j 0 x hx (by decide)
    · rw [hr.cellAt _ (by omega)]
      exact cat_at EnE.cs 2 (fun _ => rfl) L j 1 x hx (by decide)
  · obtain ⟨L1, L2, rfl⟩ := List.append_of_mem (List.mem_of_getElem? hx)
    have h2 : Own w0 w (erow x :: (L1.map erow ++ (L2.map erow ++ l))) := by
      have h3 : Own w0 w ((L1 ++ x :: L2).map erow ++ l) := h1.tail
      refine h3.perm ?_
      have e : (L1 ++ x :: L2).map erow ++ l = L1.map erow ++ (erow x :: (L2.map erow ++ l)) := by simp
      rw [e]
      exact List.perm_middle
    exact Own.cs (h2.view (by decide)) rfl
/-- a world in which all that was there is as it was -/
structure FrOf (w : World) where
  val : World
  fr : Fr Nobody w val
instance (w : World) : Inhabited (FrOf w) := ⟨⟨w, Fr.refl _ _⟩⟩
theorem wp_region_fr {P : Program} {id : Nat} {Q : Exit → Act → World → Prop} {a : Act} {w : World} {l : List Oper} (hm : P.follows .mixedOrders = true) (hB : Region.lexB .any l.toArray = true)
    (h : wpQuiet P l.toArray (fun w' => ∃ f : FrOf w, w' = f.val) (fun a' => ∀ w', (∃ f : FrOf w, w' = f.val) → Q .normal a' w') l a) : (Code.region id l.toArray true).wp P Q a w :=
  wp_region_quiet (C := fun w' => ∃ f : FrOf w, w' = f.val) hm hB ⟨⟨_, (Fr.refl _ w).drew⟩, rfl⟩ (by simpa using h)
theorem Calls.fr_of {P : Program} {f : FuncId} {args : Array Value} {w : World} {v : Value} {g : FrOf w}
    (h : Calls P f args g.val fun e w' => e = .returned v ∧ Fr Nobody g.val w') : Calls P f args g.val fun e w'' => e = .returned v ∧ ∃ f : FrOf w, w'' = f.val :=
  h.mono fun _ w' ⟨he, hf⟩ => ⟨he, ⟨w', g.fr.trans hf⟩, rfl⟩
theorem Calls.fr_same {P : Program} {f : FuncId} {args : Array Value} {w : World} {v : Value} {g : FrOf w}
    (h : Calls P f args g.val fun e w' => e = .returned v ∧ w' = g.val) : Calls P f args g.val fun e w'' => e = .returned v ∧ ∃ f : FrOf w, w'' = f.val :=
  h.mono fun _ w' ⟨he, hf⟩ => ⟨he, g, hf⟩
theorem Own.frCells {w0 w : World} {l : List Thing} {b : Nat} {cur : Array Value} {t : TypeId} (h : Own w0 w (Cells b cur t :: l)) (f : FrOf w) (i : Nat) : f.val.cell? ⟨b, i, none⟩ = cur[i]? := (h.quiet f.fr).cell i
theorem step_allW {P : Program} {w0 w : World} {l : List Thing} {ops : Array Oper} {o : Oper} {a : Act} {K : Act → World → Prop} {Q : Exit → Act → World → Prop} {E : Prop} (hgd : o.guard = none) (sx x : Operand) (t : TypeId)
    (ho : o.op = .call { callee := .builtin .append, args := #[sx, x], argTypes := #[t, t] })
    (e : TypeId) (i : TypeInfo) (z : Value) (size bytes : Nat) (ht : P.underlying t = some (.slice e)) (hi : P.info? e = some i) (hz : i.zero = some z)
    (hsize : i.size = size) (hby : i.bytes = bytes) (hzs : z.cells.size = size) (hsz : 0 < size)
    (v : Value) (n : Nat) (xs : List Value) (hs : a.eval sx = v) (xa : Option Addr) (m xc : Nat) (ys : List Value) (hx : a.eval x = .slice xa m xc) (hown : Own w0 w (Row e size v n xs :: l)) (hr : w.ownsRow 0 e size (.slice xa m xc) m ys) (h1 : ∀ u ∈ ys, u.oneCell' = true)
    (h63 : n + m ≤ maxLen) (hbytes : (n + m) * bytes ≤ 140737488355328)
    (h : ∀ ao cap w', Own w0 w' (Row e size (.slice ao (n + m) cap) (n + m) (xs ++ ys) :: l) → K (a.put o.dst (.slice ao (n + m) cap)) w') :
    if Region.wanted o (yielded ops a.tmps) = true then Oper.wp P o a w K Q else E := by
  have hw : Region.wanted o (yielded ops a.tmps) = true := by simp [Region.wanted, hgd]
  rw [if_pos hw]
  rcases Nat.eq_zero_or_pos m with h0 | h0
  · subst h0
    have hy : ys = [] := List.eq_nil_of_length_eq_zero (by rw [hr.1]; simp)
    subst hy
    obtain ⟨va, vc, rfl⟩ := row_any hown.row
    have hr := run_append_empty (P := P) w 0 t o.type e i size ht hi _ n xs hown.row xa xc
    unfold Oper.wp
    simp [execOp, ho, resolve, invoke, builtin, hs, hx, hr, Result.andThen]
    have := h va vc w (by simpa using hown)
    simp at this
    exact this
  · obtain ⟨g, cap, hv, _⟩ := row_shape hr h0
    have hxa := (Value.slice.inj hv).1
    subst hxa
    refine wp_append_lies w sx x t ho 0 e i z size bytes ht hi hz hsize hby hzs hsz v n xs hs hown.row ⟨g, 0, none⟩ m xc ys hx hr.1 (fun j u hu => by
      rw [addr_add, Nat.zero_add, hr.cellAt j (by rw [← hr.1]; exact (List.getElem?_eq_some_iff.1 hu).1)]; exact hu) h1 h0 h63 hbytes (Nat.zero_le _) _ rfl ?_
    intro g' cap' w' h2 h3 h4 h5
    refine h _ _ w' (hown.grow h2 h3 (fun k hk => ?_))
    have hk' : g' = k := by simpa [Value.ownBlock] using hk
    subst hk'
    rcases h4 with h4 | h4
    · exact .inl h4
    · exact .inr (by omega)

end Go.Proofs.YtcmofbhfdagpcaaGreatDoor

