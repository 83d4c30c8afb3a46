/-
  Entities in lists, with their components; regions that only read.
-/
import Derived.Test.YtbencjopjdjepaaGreatDoorM15
import Derived.Deep.QuietTactic
import Derived.Deep.RegionHeld3
import Derived.Deep.AppendLies
import Derived.Test.YtbencjopjdjepaaGreatDoorM07
import Derived.Test.YtbencjopjdjepaaGreatDoorM14
import Derived.Test.YtbencjopjdjepaaGreatDoorM06
namespace Go.Proofs.YtbencjopjdjepaaGreatDoor
open Go.RowKit
set_option linter.unusedVariables false
set_option maxRecDepth 100000

/-- an entity in a list: its number, its components, and where they lie -/
structure EnE where
  id : Nat
  ao : Option Addr
  cap : Nat
  C : List Cp
def EnE.cs (x : EnE) : List Value := [.int .u32 (x.id : Int), .slice x.ao x.C.length x.cap]
def erow (x : EnE) : Thing := Row 68 4 (.slice x.ao x.C.length x.cap) x.C.length (ccat x.C)
theorem Tryz.infoEnt : (Tryz.prog.info? 65).map (fun i => (i.zero, i.size, i.bytes)) = some (some (.agg #[.int .u32 0, .slice none 0 0]), 2, 32) := by kernel_rfl
theorem info3w {P : Program} {t : TypeId} {z : Option Value} {s b : Nat} (h : (P.info? t).map (fun i => (i.zero, i.size, i.bytes)) = some (z, s, b)) : ∃ i, P.info? t = some i ∧ i.zero = z ∧ i.size = s ∧ i.bytes = b := by
  cases hi : P.info? t with
  | none => rw [hi] at h; simp at h
  | some i => rw [hi] at h; simp at h; exact ⟨i, rfl, h.1, h.2.1, h.2.2⟩
/-- a list of entities with all its components -/
def EntsT (ao : Option Addr) (cap : Nat) (L : List EnE) : Thing := Ex (fun _ : Unit => Row 65 2 (.slice ao L.length cap) L.length (cat EnE.cs L) :: L.map erow)
theorem Own.ents {w0 w : World} {l : List Thing} {ao : Option Addr} {cap : Nat} {L : List EnE} (h : Own w0 w ((Row 65 2 (.slice ao L.length cap) L.length (cat EnE.cs L) :: L.map erow) ++ l)) : Own w0 w (EntsT ao cap L :: l) := Own.ex_iff.2 ⟨(), h⟩
theorem Own.entAt {w0 w : World} {l : List Thing} {ao : Option Addr} {cap : Nat} {L : List EnE} (h : Own w0 w (EntsT ao cap L :: l)) {j : Nat} {x : EnE} (hx : L[j]? = some x) :
    (∃ g, ao = some ⟨g, 0, none⟩ ∧ w.cell? ⟨g, j * 2, none⟩ = some (.int .u32 (x.id : Int)) ∧ w.cell? ⟨g, j * 2 + 1, none⟩ = some (.slice x.ao x.C.length x.cap)) ∧ Cs w x.ao x.C := by
  obtain ⟨_, h1⟩ := Own.ex_iff.1 h
  have hj := (List.getElem?_eq_some_iff.1 hx).1
  constructor
  · obtain ⟨g, cp, hv, _⟩ := row_shape h1.row (by omega)
    have hva := (Value.slice.inj hv).1
    subst hva
    have hr := h1.row
    refine ⟨g, rfl, ?_, ?_⟩
    · rw [hr.cellAt _ (by omega)]
      exact cat_at EnE.cs 2 (fun _ => rfl) L j 0 x hx (by decide)
    · rw [hr.cellAt _ (by omega)]
      exact cat_at EnE.cs 2 (fun _ => rfl) L j 1 x hx (by decide)
  · obtain ⟨L1, L2, rfl⟩ := List.append_of_mem (List.mem_of_getElem? hx)
    have h2 : Own w0 w (erow x :: (L1.map erow ++ (L2.map erow ++ l))) := by
      have h3 : Own w0 w ((L1 ++ x :: L2).map erow ++ l) := h1.tail
      refine h3.perm ?_
      have e : (L1 ++ x :: L2).map erow ++ l = L1.map erow ++ (erow x :: (L2.map erow ++ l)) := by simp
      rw [e]
      exact List.perm_middle
    exact Own.cs (h2.view (by decide)) rfl
/-- a world in which all that was there is as it was -/
structure FrOf (w : World) where
  val : World
  fr : Fr Nobody w val
instance (w : World) : Inhabited (FrOf w) := ⟨⟨w, Fr.refl _ _⟩⟩
theorem wp_region_fr {P : Program} {id : Nat} {Q : Exit → Act → World → Prop} {a : Act} {w : World} {l : List Oper} (hm : P.follows .mixedOrders = true) (hB : Region.lexB .any l.toArray = true)
    (h : wpQuiet P l.toArray (fun w' => ∃ f : FrOf w, w' = f.val) (fun a' => ∀ w', (∃ f : FrOf w, w' = f.val) → Q .normal a' w') l a) : (Code.region id l.toArray true).wp P Q a w :=
  wp_region_quiet (C := fun w' => ∃ f : FrOf w, w' = f.val) hm hB ⟨⟨_, (Fr.refl _ w).drew⟩, rfl⟩ (by simpa using h)
theorem Calls.fr_of {P : Program} {f : FuncId} {args : Array Value} {w : World} {v : Value} {g : FrOf w}
    (h : Calls P f args g.val fun e w' => e = .returned v ∧ Fr Nobody g.val w') : Calls P f args g.val fun e w'' => e = .returned v ∧ ∃ f : FrOf w, w'' = f.val :=
  h.mono fun _ w' ⟨he, hf⟩ => ⟨he, ⟨w', g.fr.trans hf⟩, rfl⟩
theorem Calls.fr_same {P : Program} {f : FuncId} {args : Array Value} {w : World} {v : Value} {g : FrOf w}
    (h : Calls P f args g.val fun e w' => e = .returned v ∧ w' = g.val) : Calls P f args g.val fun e w'' => e = .returned v ∧ ∃ f : FrOf w, w'' = f.val :=
  h.mono fun _ w' ⟨he, hf⟩ => ⟨he, g, hf⟩
theorem Own.frCells {w0 w : World} {l : List Thing} {b : Nat} {cur : Array Value} {t : TypeId} (h : Own w0 w (Cells b cur t :: l)) (f : FrOf w) (i : Nat) : f.val.cell? ⟨b, i, none⟩ = cur[i]? := (h.quiet f.fr).cell i
theorem step_allW {P : Program} {w0 w : World} {l : List Thing} {ops : Array Oper} {o : Oper} {a : Act} {K : Act → World → Prop} {Q : Exit → Act → World → Prop} {E : Prop} (hgd : o.guard = none) (sx x : Operand) (t : TypeId)
    (ho : o.op = .call { callee := .builtin .append, args := #[sx, x], argTypes := #[t, t] })
    (e : TypeId) (i : TypeInfo) (z : Value) (size bytes : Nat) (ht : P.underlying t = some (.slice e)) (hi : P.info? e = some i) (hz : i.zero = some z)
    (hsize : i.size = size) (hby : i.bytes = bytes) (hzs : z.cells.size = size) (hsz : 0 < size)
    (v : Value) (n : Nat) (xs : List Value) (hs : a.eval sx = v) (xa : Option Addr) (m xc : Nat) (ys : List Value) (hx : a.eval x = .slice xa m xc) (hown : Own w0 w (Row e size v n xs :: l)) (hr : w.ownsRow 0 e size (.slice xa m xc) m ys) (h1 : ∀ u ∈ ys, u.oneCell' = true)
    (h63 : n + m ≤ maxLen) (hbytes : (n + m) * bytes ≤ 140737488355328)
    (h : ∀ ao cap w', Own w0 w' (Row e size (.slice ao (n + m) cap) (n + m) (xs ++ ys) :: l) → K (a.put o.dst (.slice ao (n + m) cap)) w') :
    if Region.wanted o (yielded ops a.tmps) = true then Oper.wp P o a w K Q else E := by
  have hw : Region.wanted o (yielded ops a.tmps) = true := by simp [Region.wanted, hgd]
  rw [if_pos hw]
  rcases Nat.eq_zero_or_pos m with h0 | h0
  · subst h0
    have hy : ys = [] := List.eq_nil_of_length_eq_zero (by rw [hr.1]; simp)
    subst hy
    obtain ⟨va, vc, rfl⟩ := row_any hown.row
    have hr := run_append_empty (P := P) w 0 t o.type e i size ht hi _ n xs hown.row xa xc
    unfold Oper.wp
    simp [execOp, ho, resolve, invoke, builtin, hs, hx, hr, Result.andThen]
    have := h va vc w (by simpa using hown)
    simp at this
    exact this
  · obtain ⟨g, cap, hv, _⟩ := row_shape hr h0
    have hxa := (Value.slice.inj hv).1
    subst hxa
    refine wp_append_lies w sx x t ho 0 e i z size bytes ht hi hz hsize hby hzs hsz v n xs hs hown.row ⟨g, 0, none⟩ m xc ys hx hr.1 (fun j u hu => by
      rw [addr_add, Nat.zero_add, hr.cellAt j (by rw [← hr.1]; exact (List.getElem?_eq_some_iff.1 hu).1)]; exact hu) h1 h0 h63 hbytes (Nat.zero_le _) _ rfl ?_
    intro g' cap' w' h2 h3 h4 h5
    refine h _ _ w' (hown.grow h2 h3 (fun k hk => ?_))
    have hk' : g' = k := by simpa [Value.ownBlock] using hk
    subst hk'
    rcases h4 with h4 | h4
    · exact .inl h4
    · exact .inr (by omega)

end Go.Proofs.YtbencjopjdjepaaGreatDoor


/-
  Bits in lists as things: the document's Var, In, Put; components whole and behind others.
-/
namespace Go.Proofs.YtbencjopjdjepaaGreatDoor
open Go.RowKit
set_option linter.unusedVariables false
set_option maxRecDepth 100000

/-- bits in a list, as a thing -/
def BT (v : Value) (L : List Bool) : Thing := Row 4 1 v L.length (brow L)
theorem Own.bits {w0 w w' : World} {l : List Thing} {v : Value} {L : List Bool} (h : Own w0 w l) (hb : Bo w.heap.size w' v L) (hf : Fr Nobody w w') : Own w0 w' (BT v L :: l) :=
  h.new (BT v L) (fun j => v.ownBlock = some j) ⟨row_weak hb, fun _ => Iff.rfl⟩ hf (fun j hj => (World.ownsRow.lt hb j hj).1)
theorem Own.bs {w0 w : World} {l : List Thing} {v : Value} {L : List Bool} (h : Own w0 w (BT v L :: l)) : Bs w v L := Bs.of_row (Own.row h)
theorem rvarT (w0 w : World) (l : List Thing) (h : Own w0 w l) (v : Nat) (hv : v < 18446744073709551616) : Calls Tryz.prog 49 #[.int .u64 (v : Int)] w fun e w' => ∃ u, e = .returned u ∧ Own w0 w' (BT u (var v) :: l) := by
  refine (rvar_any w v hv).mono ?_
  rintro e w' ⟨u, rfl, hb, hf⟩
  exact ⟨u, rfl, h.bits hb hf⟩
theorem rinT (w0 w : World) (l : List Thing) (h : Own w0 w l) (n lo hi : Int) (d : Nat) (hd : n = lo + (d : Int)) (h0 : -9223372036854775808 ≤ lo) (h1 : hi ≤ 9223372036854775807) (ha : lo ≤ n) (hb : n ≤ hi) :
    Calls Tryz.prog 102 #[.int .i64 n, .int .i64 lo, .int .i64 hi] w fun e w' => ∃ u, e = .returned (.tuple #[u, .int .i64 0]) ∧ Own w0 w' (BT u (bitsN (wid lo hi) d) :: l) := by
  refine (rin_ok n lo hi d w hd h0 h1 ha hb).mono ?_
  rintro e w' ⟨u, rfl, hb, hf⟩
  exact ⟨u, rfl, h.bits hb hf⟩
theorem rputCT (w0 w : World) (l : List Thing) (h : Own w0 w l) (k : Nat) (hk : k < 256) (F : Nat → Int) (h0 : chk k F = 0) :
    Calls Tryz.prog 103 #[.agg (cmp k F)] w fun e w' => ∃ u, e = .returned (.tuple #[u, .int .i64 0]) ∧ Own w0 w' (BT u (cb k F (cnt k)) :: l) := by
  refine (rputC_ok w k hk F h0).mono ?_
  rintro e w' ⟨u, rfl, hb, hf⟩
  exact ⟨u, rfl, h.bits hb hf⟩
theorem rstepT (w0 w : World) (l : List Thing) (h : Own w0 w l) (k : Nat) (hk : k < 256) (F G : Nat → Int) (h1 : chk k F = 0) (h2 : chk k G = 0) :
    Calls Tryz.prog 55 #[.agg (cmp k F), .agg (cmp k G)] w fun e w' => ∃ u, e = .returned (.tuple #[u, .int .i64 0]) ∧ Own w0 w' (BT u (sbs k F G (cnt k)) :: l) := by
  refine (rstep_ok w k hk F G h1 h2).mono ?_
  rintro e w' ⟨u, rfl, hb, hf⟩
  exact ⟨u, rfl, h.bits hb hf⟩
theorem rputT (w0 w : World) (l : List Thing) (v : Value) (L : List Bool) (x n : Nat) (h : Own w0 w (BT v L :: l)) (hn : n ≤ 64) (hx : x < 2 ^ n) (hx2 : x < 18446744073709551616) (hl : L.length + n ≤ 1048576) :
    Calls Tryz.prog 51 #[v, .int .u64 x, .int .i64 n] w fun e w' => ∃ u, e = .returned (.tuple #[u, .int .i64 0]) ∧ Own w0 w' (BT u (L ++ bitsN n x) :: l) := by
  have hd : x / 2 ^ n = 0 := Nat.div_eq_of_lt hx
  refine (rput_main w v L (L ++ bitsN n x) 0 x n h.bs (by omega) hx2 hn (.inl ⟨hd, hl, rfl, rfl⟩)).mono ?_
  rintro e w' ⟨u, rfl, hR, hf⟩
  rcases hR with ⟨_, hb⟩ | ⟨hc, _⟩
  · exact ⟨u, rfl, h.tail.bits hb hf⟩
  · exact absurd rfl hc
/-- 'l = append(l, more...)', both things -/
theorem app_bits {w0 w : World} {l : List Thing} {ops : Array Oper} {rest : List Oper} {o : Oper} {a : Act} {Q : Exit → Act → World → Prop} (hgd : o.guard = none) (s x : Operand)
    (ho : o.op = .call { callee := .builtin .append, args := #[s, x], argTypes := #[80, 80] }) (v u : Value) (L M : List Bool) (h : Own w0 w (BT u M :: BT v L :: l)) (hM0 : 0 < M.length) (hL : L.length + M.length ≤ 100000000)
    (hs : a.eval s = v) (hx : a.eval x = u)
    (hK : ∀ v' w', Own w0 w' (BT v' (L ++ M) :: l) → wpList Tryz.prog ops Q rest (a.put o.dst v') w') :
    wpList Tryz.prog ops Q (o :: rest) a w := by
  obtain ⟨i0, hi, hz0, hz1, hz2⟩ := info_parts Tryz.infoBool
  have hr : w.ownsRow 0 4 1 u M.length (brow M) := Own.row h
  obtain ⟨g, cap, rfl, _⟩ := row_shape hr hM0
  refine wpList_append_ours w hgd s x 80 ho 4 i0 (.bool false) 1 1 Tryz.underlying80 hi hz0 hz1 hz2 rfl (by decide) v L.length (brow L) hs (Own.row h.two) ⟨g, 0, none⟩ M.length cap (brow M) hx (by rw [length_brow]; omega) (fun j u hu => hr.cells rfl j u hu) (one_brow M) hM0 (by unfold maxLen; omega) (by omega) ?_
  intro v' w' ho' hg' hn'
  have key : Own w0 w' (BT v' (L ++ M) :: BT (.slice (some ⟨g, 0, none⟩) M.length cap) M :: l) := by
    refine Own.grow (show Own w0 w (Row 4 1 v L.length (brow L) :: BT (.slice (some ⟨g, 0, none⟩) M.length cap) M :: l) from h.two) ?_ hg' ?_
    · rw [brow_append, List.length_append]; exact ho'
    · obtain ⟨g', cap', rfl, hx'⟩ := hn'
      intro k hk
      cases hk
      exact hx'
  exact hK v' w' key.two.tail
end Go.Proofs.YtbencjopjdjepaaGreatDoor

/-
  Writers as things: New, Put, Len, Bytes; PutVar and PutIn of package nums.
-/
namespace Go.Proofs.YtbencjopjdjepaaGreatDoor
open Go.RowKit
set_option linter.unusedVariables false
set_option maxRecDepth 100000

/-- a writer: its block and its bytes' -/
def WrT (b : Nat) (L : List Bool) : Thing where
  is := fun w A => ∃ g, Wr 0 w b g L ∧ ∀ j, A j ↔ At b g j
  lt := by
    rintro w A j ⟨g, h, hA⟩ a
    rcases (hA j).1 a with rfl | e
    · exact h.lt
    · exact h.glt j e.symm
  keep := by
    rintro w w' A B ⟨g, h, hA⟩ hf hn
    exact ⟨g, h.keep hf (hn b ((hA b).2 (.inl rfl))) (fun k hk => hn k ((hA k).2 (.inr hk.symm))), hA⟩
theorem Own.wr {w0 w : World} {l : List Thing} {b : Nat} {L : List Bool} (h : Own w0 w (WrT b L :: l)) : ∃ g, Wr 0 w b g L ∧ ∀ (w' : World) (g' : Option Nat) (L' : List Bool), Wr 0 w' b g' L' → Step w b g w' g' → Own w0 w' (WrT b L' :: l) := by
  obtain ⟨A, ⟨g, hw, hA⟩, hlo, act⟩ := h.act
  refine ⟨g, hw, fun w' g' L' hw' hs => act w' (WrT b L') (At b g') ⟨g', hw', fun _ => Iff.rfl⟩ (hs.fr.mono (fun k _ hk => (hA k).2 hk)) (fun k hk => ?_)⟩
  rcases hk with rfl | hk
  · exact .inl ((hA _).2 (.inl rfl))
  · rcases hs.row with e | ⟨j, e, hj⟩
    · exact .inl ((hA k).2 (.inr (hk.trans e)))
    · rw [e] at hk; cases hk; exact .inr hj
theorem new_own (w0 w : World) (l : List Thing) (h : Own w0 w l) : Calls Tryz.prog 41 #[] w fun e w' => ∃ b, e = .returned (.pointer (some ⟨b, 0, none⟩)) ∧ Own w0 w' (WrT b [] :: l) := by
  refine (new_ow w w (Fr.refl _ _)).mono ?_
  rintro e w' ⟨b, rfl, hb, g, hw, hf⟩
  refine ⟨b, rfl, h.new (WrT b []) (At b g) ⟨g, hw.mono (Nat.zero_le _), fun _ => Iff.rfl⟩ hf (fun k hk => ?_)⟩
  exact hw.lowAt k hk
theorem len_own (w0 w : World) (l : List Thing) (b : Nat) (L : List Bool) (h : Own w0 w (WrT b L :: l)) : Calls Tryz.prog 168 #[.pointer (some ⟨b, 0, none⟩)] w fun e w' => e = .returned (.int .i64 (L.length : Int)) ∧ Own w0 w' (WrT b L :: l) := by
  obtain ⟨g, hw, k⟩ := h.wr
  refine (len_any 0 w b g L hw).mono ?_
  rintro e w' ⟨rfl, rfl⟩
  exact ⟨rfl, h⟩
theorem putW_own (w0 w : World) (l : List Thing) (b : Nat) (L : List Bool) (v n : Nat) (x y : Int) (hx : x = (v : Int)) (hy : y = (n : Int)) (h : Own w0 w (WrT b L :: l)) (hn : n ≤ 64) (hv : v < 2 ^ n) (hv2 : v < 18446744073709551616) (hl : L.length + n ≤ 1048576) :
    Calls Tryz.prog 138 #[.pointer (some ⟨b, 0, none⟩), .int .u64 x, .int .i64 y] w fun e w' => e = .returned (.int .i64 0) ∧ Own w0 w' (WrT b (L ++ bitsN n v) :: l) := by
  subst hx hy
  obtain ⟨g, hw, k⟩ := h.wr
  refine (put_ok 0 w b g L v n hw hn hv hv2 hl).mono ?_
  rintro e w' ⟨rfl, g', hw', hs⟩
  exact ⟨rfl, k w' g' _ hw' hs⟩
set_option maxHeartbeats 1000000 in
theorem putVarW (w0 w : World) (l : List Thing) (b : Nat) (L : List Bool) (v : Nat) (h : Own w0 w (WrT b L :: l)) (hv : v < 18446744073709551616) (hl : L.length + 5 * grp v ≤ 1048576) :
    Calls Tryz.prog 137 #[.pointer (some ⟨b, 0, none⟩), .int .u64 v] w fun e w' => e = .returned (.int .i64 0) ∧ Own w0 w' (WrT b (L ++ var v) :: l) := by
  have hg := grp_bd v hv
  have H : Hid (Own w0 w (WrT b L :: l)) := h
  have HV : Hid (var v = varTo v (grp v) (grp v)) := rfl
  clear h
  have hgr := groups_any v w hv
  generalize var v = vv at *
  generalize grp v = n at *
  go_enter Tryz.func137, Tryz.ntmps137
  go_wp2_with fail
  refine hgr.mono ?_
  clear hgr
  rintro e w' ⟨rfl, rfl⟩
  go_wp2_with fail
  refine (len_own w0 _ l b L H.out).mono ?_
  rintro e w1 ⟨rfl, hW⟩
  have H1 : Hid (Own w0 w1 (WrT b L :: l)) := hW
  clear hW H
  have hlong : ¬ (1048576 : Int) - (L.length : Int) < (n : Int) * 5 := by omega
  go_wp2
  clear hlong
  go_loopw [22] (fun c wr => ∃ k : Nat, k ≤ n ∧ c = .int .i64 k ∧ Own w0 wr (WrT b (L ++ varTo v n k) :: l)) (fun c _ => n - (intOf c).toNat)
  case atStart => exact ⟨0, Nat.zero_le _, rfl, by simpa [varTo] using H1.out⟩
  case round =>
    obtain ⟨k, hk, rfl, hW⟩ := hrel
    by_cases hlt : k < n
    · by_cases hlast : k + 1 < n
      · have hla : (k : Int) < (n : Int) - 1 := by omega
        go_wp2_with fail
        refine (putW_own w0 wr l b _ (grpAt v n k) 5 _ 5 (by rw [grpAt, if_pos hlast]; exact more_val v k) rfl hW (by decide) (grpAt_lt v n k) (Nat.lt_trans (grpAt_lt v n k) (by decide)) (by rw [List.length_append, length_varTo]; omega)).mono ?_
        rintro e w2 ⟨rfl, hW2⟩
        have H2 : Hid (Own w0 w2 (WrT b (L ++ varTo v n (k + 1)) :: l)) := by rw [varTo, ← List.append_assoc]; exact hW2
        clear hW hW2 H1
        go_wp2
        go_roundw
        case rel => exact ⟨k + 1, by omega, by go_num, H2.out⟩
        case measure => simp [intOf]; omega
      · have hla : ¬ (k : Int) < (n : Int) - 1 := by omega
        go_wp2_with fail
        refine (putW_own w0 wr l b _ (grpAt v n k) 5 _ 5 (by rw [grpAt, if_neg hlast]; exact part_val v k) rfl hW (by decide) (grpAt_lt v n k) (Nat.lt_trans (grpAt_lt v n k) (by decide)) (by rw [List.length_append, length_varTo]; omega)).mono ?_
        rintro e w2 ⟨rfl, hW2⟩
        have H2 : Hid (Own w0 w2 (WrT b (L ++ varTo v n (k + 1)) :: l)) := by rw [varTo, ← List.append_assoc]; exact hW2
        clear hW hW2 H1
        go_wp2
        go_roundw
        case rel => exact ⟨k + 1, by omega, by go_num, H2.out⟩
        case measure => simp [intOf]; omega
    · go_wp2
      go_ret
      have e : k = n := by omega
      subst e
      exact ⟨rfl, by rw [HV.out]; exact hW⟩


set_option maxHeartbeats 400000 in
theorem putInW (w0 w : World) (l : List Thing) (b : Nat) (L : List Bool) (n lo hi : Int) (d : Nat) (hd : n = lo + (d : Int)) (h : Own w0 w (WrT b L :: l)) (h0 : -9223372036854775808 ≤ lo) (h1 : hi ≤ 9223372036854775807) (ha : lo ≤ n) (hb : n ≤ hi) (hl : L.length + 64 ≤ 1048576) :
    Calls Tryz.prog 136 #[.pointer (some ⟨b, 0, none⟩), .int .i64 n, .int .i64 lo, .int .i64 hi] w fun e w' => e = .returned (.int .i64 0) ∧ Own w0 w' (WrT b (L ++ bitsN (wid lo hi) d) :: l) := by
  have hle : lo ≤ hi := by omega
  have H : Hid (Own w0 w (WrT b L :: l)) := h
  have ed : (n - lo).toNat = d := by omega
  have HI : Hid (d < 2 ^ wid lo hi) := ed ▸ in_lt n lo hi h0 h1 ha hb
  have HW : Hid (wid lo hi ≤ 64) := wid_le lo hi h0 h1
  have G1 : Hid _ := fun w => span_any lo n d w h0 (by omega) hd
  have G2 : Hid _ := fun w => width_any lo hi w h0 h1 (by omega) (by omega)
  have hdl : d < 18446744073709551616 := by omega
  clear h hd ed
  generalize wid lo hi = m at *
  go_enter Tryz.func136, Tryz.ntmps136
  go_wp2_with fail
  refine (G1.out _).mono ?_
  rintro e w' ⟨rfl, rfl⟩
  go_wp2_with fail
  refine (G2.out _).mono ?_
  rintro e w' ⟨rfl, rfl⟩
  go_wp2_with fail
  refine (putW_own w0 _ l b L d m _ _ rfl rfl H.out HW.out HI.out hdl (by have := HW.out; omega)).mono ?_
  rintro e w1 ⟨rfl, hW⟩
  go_wp2
  go_ret
  exact ⟨rfl, hW⟩


theorem bytesW (w0 w : World) (l : List Thing) (b : Nat) (L : List Bool) (h : Own w0 w (WrT b L :: l)) (hl : L.length ≤ 1048576) :
    Calls Tryz.prog 45 #[.pointer (some ⟨b, 0, none⟩)] w fun e w' => ∃ v', e = .returned v' ∧ Own w0 w' (Row 5 1 v' (nb L.length) (vrow (pack L)) :: WrT b L :: l) := by
  obtain ⟨g, hw, k⟩ := h.wr
  refine (bytes_any 0 w b g L hw hl).mono ?_
  rintro e w' ⟨v', rfl, hr, hf, hk⟩
  exact ⟨v', rfl, h.new (Row 5 1 v' (nb L.length) (vrow (pack L))) (fun k => v'.ownBlock = some k) ⟨hr, fun _ => Iff.rfl⟩ hf hk⟩
end Go.Proofs.YtbencjopjdjepaaGreatDoor

