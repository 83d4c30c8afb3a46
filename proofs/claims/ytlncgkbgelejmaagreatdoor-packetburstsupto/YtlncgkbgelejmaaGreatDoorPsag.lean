/-
  Bits in lists as things: the document's Var, In, Put; components whole and behind others.
-/
import Derived.Test.YtlncgkbgelejmaaGreatDoorVag
import Derived.Test.YtlncgkbgelejmaaGreatDoorKstg
import Derived.Test.YtlncgkbgelejmaaGreatDoorEnbg
namespace Go.Proofs.YtlncgkbgelejmaaGreatDoor
open Go.RowKit
set_option linter.unusedVariables false
set_option maxRecDepth 100000

/-- bits in a list, as a thing -/
def BT (v : Value) (L : List Bool) : Thing := Row 4 1 v L.length (brow L)
theorem Own.bits {w0 w w' : World} {l : List Thing} {v : Value} {L : List Bool} (h : Own w0 w l) (hb : Bo w.heap.size w' v L) (hf : Fr Nobody w w') : Own w0 w' (BT v L :: l) :=
  h.new (BT v L) (fun j => v.ownBlock = some j) ⟨row_weak hb, fun _ => Iff.rfl⟩ hf (fun j hj => (World.ownsRow.lt hb j hj).1)
theorem Own.bs {w0 w : World} {l : List Thing} {v : Value} {L : List Bool} (h : Own w0 w (BT v L :: l)) : Bs w v L := Bs.of_row (Own.row h)
theorem rvarT (w0 w : World) (l : List Thing) (h : Own w0 w l) (v : Nat) (hv : v < 18446744073709551616) : Calls Tryz.prog 20 #[.int .u64 (v : Int)] w fun e w' => ∃ u, e = .returned u ∧ Own w0 w' (BT u (var v) :: l) := by
  refine (rvar_any w v hv).mono ?_
  rintro e w' ⟨u, rfl, hb, hf⟩
  exact ⟨u, rfl, h.bits hb hf⟩
theorem rinT (w0 w : World) (l : List Thing) (h : Own w0 w l) (n lo hi : Int) (d : Nat) (hd : n = lo + (d : Int)) (h0 : -9223372036854775808 ≤ lo) (h1 : hi ≤ 9223372036854775807) (ha : lo ≤ n) (hb : n ≤ hi) :
    Calls Tryz.prog 45 #[.int .i64 n, .int .i64 lo, .int .i64 hi] w fun e w' => ∃ u, e = .returned (.tuple #[u, .int .i64 0]) ∧ Own w0 w' (BT u (bitsN (wid lo hi) d) :: l) := by
  refine (rin_ok n lo hi d w hd h0 h1 ha hb).mono ?_
  rintro e w' ⟨u, rfl, hb, hf⟩
  exact ⟨u, rfl, h.bits hb hf⟩
theorem rputCT (w0 w : World) (l : List Thing) (h : Own w0 w l) (k : Nat) (hk : k < 256) (F : Nat → Int) (h0 : chk k F = 0) :
    Calls Tryz.prog 49 #[.agg (cmp k F)] w fun e w' => ∃ u, e = .returned (.tuple #[u, .int .i64 0]) ∧ Own w0 w' (BT u (cb k F (cnt k)) :: l) := by
  refine (rputC_ok w k hk F h0).mono ?_
  rintro e w' ⟨u, rfl, hb, hf⟩
  exact ⟨u, rfl, h.bits hb hf⟩
theorem rstepT (w0 w : World) (l : List Thing) (h : Own w0 w l) (k : Nat) (hk : k < 256) (F G : Nat → Int) (h1 : chk k F = 0) (h2 : chk k G = 0) :
    Calls Tryz.prog 26 #[.agg (cmp k F), .agg (cmp k G)] w fun e w' => ∃ u, e = .returned (.tuple #[u, .int .i64 0]) ∧ Own w0 w' (BT u (sbs k F G (cnt k)) :: l) := by
  refine (rstep_ok w k hk F G h1 h2).mono ?_
  rintro e w' ⟨u, rfl, hb, hf⟩
  exact ⟨u, rfl, h.bits hb hf⟩
theorem rputT (w0 w : World) (l : List Thing) (v : Value) (L : List Bool) (x n : Nat) (h : Own w0 w (BT v L :: l)) (hn : n ≤ 64) (hx : x < 2 ^ n) (hx2 : x < 18446744073709551616) (hl : L.length + n ≤ 1048576) :
    Calls Tryz.prog 22 #[v, .int .u64 x, .int .i64 n] w fun e w' => ∃ u, e = .returned (.tuple #[u, .int .i64 0]) ∧ Own w0 w' (BT u (L ++ bitsN n x) :: l) := by
  have hd : x / 2 ^ n = 0 := Nat.div_eq_of_lt hx
  refine (rput_main w v L (L ++ bitsN n x) 0 x n h.bs (by omega) hx2 hn (.inl ⟨hd, hl, rfl, rfl⟩)).mono ?_
  rintro e w' ⟨u, rfl, hR, hf⟩
  rcases hR with ⟨_, hb⟩ | ⟨hc, _⟩
  · exact ⟨u, rfl, h.tail.bits hb hf⟩
  · exact absurd rfl hc
/-- 'l = append(l, more...)', both things -/
theorem app_bits {w0 w : World} {l : List Thing} {ops : Array Oper} {rest : List Oper} {o : Oper} {a : Act} {Q : Exit → Act → World → Prop} (hgd : o.guard = none) (s x : Operand)
    (ho : o.op = .call { callee := .builtin .append, args := #[s, x], argTypes := #[46, 46] }) (v u : Value) (L M : List Bool) (h : Own w0 w (BT u M :: BT v L :: l)) (hM0 : 0 < M.length) (hL : L.length + M.length ≤ 100000000)
    (hs : a.eval s = v) (hx : a.eval x = u)
    (hK : ∀ v' w', Own w0 w' (BT v' (L ++ M) :: l) → wpList Tryz.prog ops Q rest (a.put o.dst v') w') :
    wpList Tryz.prog ops Q (o :: rest) a w := by
  obtain ⟨i0, hi, hz0, hz1, hz2⟩ := info_parts Tryz.infoBool
  have hr : w.ownsRow 0 4 1 u M.length (brow M) := Own.row h
  obtain ⟨g, cap, rfl, _⟩ := row_shape hr hM0
  refine wpList_append_ours w hgd s x 46 ho 4 i0 (.bool false) 1 1 Tryz.underlying46 hi hz0 hz1 hz2 rfl (by decide) v L.length (brow L) hs (Own.row h.two) ⟨g, 0, none⟩ M.length cap (brow M) hx (by rw [length_brow]; omega) (fun j u hu => hr.cells rfl j u hu) (one_brow M) hM0 (by unfold maxLen; omega) (by omega) ?_
  intro v' w' ho' hg' hn'
  have key : Own w0 w' (BT v' (L ++ M) :: BT (.slice (some ⟨g, 0, none⟩) M.length cap) M :: l) := by
    refine Own.grow (show Own w0 w (Row 4 1 v L.length (brow L) :: BT (.slice (some ⟨g, 0, none⟩) M.length cap) M :: l) from h.two) ?_ hg' ?_
    · rw [brow_append, List.length_append]; exact ho'
    · obtain ⟨g', cap', rfl, hx'⟩ := hn'
      intro k hk
      cases hk
      exact hx'
  exact hK v' w' key.two.tail
theorem brow_one (M : List Bool) : ∀ u ∈ brow M, u.oneCell' = true := by
  intro u hu
  unfold brow at hu
  obtain ⟨b, _, rfl⟩ := List.mem_map.1 hu
  rfl
end Go.Proofs.YtlncgkbgelejmaaGreatDoor
