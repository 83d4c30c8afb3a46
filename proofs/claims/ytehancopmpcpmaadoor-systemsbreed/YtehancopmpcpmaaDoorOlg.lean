/-
  slices.Insert of one component.
-/
import Derived.Test.YtehancopmpcpmaaDoorObg
import Derived.Test.YtehancopmpcpmaaDoorUb
import Derived.Lib.Overlaps
import Derived.Lib.AppendZerosOnto
import Derived.Laws.CopyRow
namespace Go.Proofs.YtehancopmpcpmaaDoor
open Go.RowKit
set_option linter.unusedVariables false
set_option maxRecDepth 100000

theorem run_copy_sz {P : Program} (w : World) (dT sT ty elem : TypeId) (g o dLen dCap : Nat) (a : Addr) (sLen sCap : Nat) (cur : Array Value) (t : TypeId) (cs : List Value) (size k : Nat)
    (hu : P.underlying dT = some (.slice elem)) (hs : (P.info? elem).map (·.size) = some size) (hsz : 0 < size)
    (hg : w.heap[g]? = some (.cells cur t (0, 0))) (hk : k = Nat.min sLen dLen) (hn : cs.length = k * size)
    (hsrc : ∀ j v, cs[j]? = some v → w.cell? (a.add j) = some v) (hfit : o + cs.length ≤ cur.size) (h1 : ∀ v ∈ cs, v.oneCell' = true) :
    (Builtin.copy_ #[dT, sT] ty #[.slice (some ⟨g, o, none⟩) dLen dCap, .slice (some a) sLen sCap]).run P w =
      .ok (goInt k) (w.setRow g (cur.toList.take o ++ cs ++ cur.toList.drop (o + cs.length)).toArray) := by
  have hl := run_loadCells_list (P := P) w a cs hsrc
  have hst := run_storeCells_at P g o t cs 0 cur w hg (by simpa using hfit) h1
  cases hq : P.info? elem with
  | none => simp [hq] at hs
  | some i =>
    have hi : i.size = size := by simpa [hq] using hs
    rw [hn] at hl
    simp [Builtin.copy_, run_underlying hu, Builtin.lenOf, Builtin.firstCells, sizeOf, typeInfo, hq, hi, ← hk, hl, hst]
theorem step_cp {P : Program} {ops : Array Oper} {o : Oper} {a : Act} {w : World} {K : Act → World → Prop} {Q : Exit → Act → World → Prop} {E : Prop}
    (hg : o.guard = none) (s x : Operand) (t t' : TypeId) (hop : o.op = Op.call { callee := Callee.builtin Builtin.copy, args := #[s, x], argTypes := #[t, t'] })
    (vs vx v' : Value) (w' : World) (hs : a.eval s = vs) (hx : a.eval x = vx) (hrun : ∀ ty, (Builtin.copy_ #[t, t'] ty #[vs, vx]).run P w = .ok v' w')
    (hK : K (a.put o.dst v') w') :
    if Region.wanted o (yielded ops a.tmps) = true then Oper.wp P o a w K Q else E := by
  have hw : Region.wanted o (yielded ops a.tmps) = true := by simp [Region.wanted, hg]
  rw [if_pos hw]
  unfold Oper.wp
  simp [execOp, hop, resolve, invoke, builtin, hs, hx, hrun, Result.andThen]
  exact hK
theorem wpList_cp {P : Program} {w : World} {ops : Array Oper} {rest : List Oper} {o : Oper} {a : Act} {Q : Exit → Act → World → Prop} (hgd : o.guard = none) (s x : Operand) (t t' : TypeId)
    (hop : o.op = Op.call { callee := Callee.builtin Builtin.copy, args := #[s, x], argTypes := #[t, t'] })
    (vs vx v' : Value) (w' : World) (hs : a.eval s = vs) (hx : a.eval x = vx) (hrun : ∀ ty, (Builtin.copy_ #[t, t'] ty #[vs, vx]).run P w = .ok v' w') (h : wpList P ops Q rest (a.put o.dst v') w') : wpList P ops Q (o :: rest) a w := by
  refine wpList_plain hgd fun K hK => ?_
  unfold Oper.wp
  simp [execOp, hop, resolve, invoke, builtin, hs, hx, hrun, Result.andThen]
  exact hK _ _ h
theorem Own.rowCur {w0 w : World} {l : List Thing} {e : TypeId} {size n g cap : Nat} {xs : List Value} (h : Own w0 w (Row e size (.slice (some ⟨g, 0, none⟩) n cap) n xs :: l)) : ∃ cur : Array Value, w.heap[g]? = some (.cells cur e (0, 0)) ∧ n ≤ cap ∧ cap ≤ maxLen ∧ cur.size = cap * size ∧ cur.toList.take (n * size) = xs := by
  rcases h.row.2 with ⟨h0, _⟩ | ⟨g', cap', cur, h0, _, h1, h2, h3, h4, h5⟩
  · cases h0
  · cases h0
    exact ⟨cur, h1, h2, h3, h4, h5⟩
theorem Own.rowSet {w0 w : World} {l : List Thing} {e : TypeId} {size n g cap : Nat} {xs : List Value} (h : Own w0 w (Row e size (.slice (some ⟨g, 0, none⟩) n cap) n xs :: l)) {cur : Array Value} (hg : w.heap[g]? = some (.cells cur e (0, 0))) (cur' : Array Value) (m : Nat) (hm : m ≤ cap) (hc : cap ≤ maxLen) (hsz : cur'.size = cap * size) (ys : List Value) (ht : cur'.toList.take (m * size) = ys) :
    Own w0 (w.setRow g cur') (Row e size (.slice (some ⟨g, 0, none⟩) m cap) m ys :: l) := by
  obtain ⟨A, ⟨hb, hA⟩, hlo, k⟩ := h.act
  have hl : ys.length = m * size := by
    rw [← ht, List.length_take, Array.length_toList, hsz]
    exact Nat.min_eq_left (Nat.mul_le_mul_right _ hm)
  refine k _ (Row e size (.slice (some ⟨g, 0, none⟩) m cap) m ys) A ⟨⟨hl, .inr ⟨g, cap, cur', rfl, Nat.zero_le _, setRow_heap w g cur cur' e _ hg, hm, hc, hsz, ht⟩⟩, hA⟩ ?_ (fun _ a => .inl a)
  exact ⟨rfl, rfl, rfl, by simp [World.setRow], fun j hj hn => setRow_other w g j cur' (fun q => hn ((hA j).2 (by rw [q]; rfl)))⟩
theorem ccat_take (L : List Cp) (i : Nat) : (ccat L).take (i * 4) = ccat (L.take i) := cat_take Cp.cs 4 cs_len L i
theorem ccat_drop (L : List Cp) (i : Nat) : (ccat L).drop (i * 4) = ccat (L.drop i) := cat_drop Cp.cs 4 cs_len L i
theorem one_ccat (L : List Cp) : ∀ u ∈ ccat L, u.oneCell' = true := one_cat Cp.cs cs_one L
def Cp.ar (q : Cp) : Array Value := #[.int .u8 (q.k : Int), .int .i32 q.a, .int .i32 q.b, .int .i32 q.c]
theorem Cp.ar_list (q : Cp) : q.ar.toList = q.cs := rfl
theorem ccat_one (q : Cp) : ccat [q] = q.cs := by simp [ccat, cat]
theorem ccat_app (L M : List Cp) : ccat (L ++ M) = ccat L ++ ccat M := cat_append _ _ _

theorem cur_at {L : List Cp} {cur : Array Value} {n : Nat} (htk : cur.toList.take (n * 4) = ccat L) (i j : Nat) (v : Value) (hv : (ccat (L.drop i))[j]? = some v) : cur[i * 4 + j]? = some v := by
  rw [← ccat_drop, List.getElem?_drop, ← htk, List.getElem?_take] at hv
  split at hv
  · rw [← Array.getElem?_toList]; exact hv
  · cases hv
end Go.Proofs.YtehancopmpcpmaaDoor

/-
  slices.Insert of one component where there is no room: a new row.
-/
namespace Go.Proofs.YtehancopmpcpmaaDoor
open Go.RowKit
set_option linter.unusedVariables false
set_option maxRecDepth 100000

end Go.Proofs.YtehancopmpcpmaaDoor
