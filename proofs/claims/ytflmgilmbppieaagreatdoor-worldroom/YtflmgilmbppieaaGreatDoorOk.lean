/-
  slices.Insert of one component.
-/
import Derived.Test.YtflmgilmbppieaaGreatDoorOb
import Derived.Test.YtflmgilmbppieaaGreatDoorUb
import Derived.Lib.Overlaps
import Derived.Lib.AppendZerosOnto
import Derived.Laws.CopyRow
namespace Go.Proofs.YtflmgilmbppieaaGreatDoor
open Go.RowKit
set_option linter.unusedVariables false
set_option maxRecDepth 100000

theorem run_copy_sz {P : Program} (w : World) (dT sT ty elem : TypeId) (g o dLen dCap : Nat) (a : Addr) (sLen sCap : Nat) (cur : Array Value) (t : TypeId) (cs : List Value) (size k : Nat)
    (hu : P.underlying dT = some (.slice elem)) (hs : (P.info? elem).map (·.size) = some size) (hsz : 0 < size)
    (hg : w.heap[g]? = some (.cells cur t (0, 0))) (hk : k = Nat.min sLen dLen) (hn : cs.length = k * size)
    (hsrc : ∀ j v, cs[j]? = some v → w.cell? (a.add j) = some v) (hfit : o + cs.length ≤ cur.size) (h1 : ∀ v ∈ cs, v.oneCell' = true) :
    (Builtin.copy_ #[dT, sT] ty #[.slice (some ⟨g, o, none⟩) dLen dCap, .slice (some a) sLen sCap]).run P w =
      .ok (goInt k) (w.setRow g (cur.toList.take o ++ cs ++ cur.toList.drop (o + cs.length)).toArray) := by
  have hl := run_loadCells_list (P := P) w a cs hsrc
  have hst := run_storeCells_at P g o t cs 0 cur w hg (by simpa using hfit) h1
  cases hq : P.info? elem with
  | none => simp [hq] at hs
  | some i =>
    have hi : i.size = size := by simpa [hq] using hs
    rw [hn] at hl
    simp [Builtin.copy_, run_underlying hu, Builtin.lenOf, Builtin.firstCells, sizeOf, typeInfo, hq, hi, ← hk, hl, hst]
theorem step_cp {P : Program} {ops : Array Oper} {o : Oper} {a : Act} {w : World} {K : Act → World → Prop} {Q : Exit → Act → World → Prop} {E : Prop}
    (hg : o.guard = none) (s x : Operand) (t t' : TypeId) (hop : o.op = Op.call { callee := Callee.builtin Builtin.copy, args := #[s, x], argTypes := #[t, t'] })
    (vs vx v' : Value) (w' : World) (hs : a.eval s = vs) (hx : a.eval x = vx) (hrun : ∀ ty, (Builtin.copy_ #[t, t'] ty #[vs, vx]).run P w = .ok v' w')
    (hK : K (a.put o.dst v') w') :
    if Region.wanted o (yielded ops a.tmps) = true then Oper.wp P o a w K Q else E := by
  have hw : Region.wanted o (yielded ops a.tmps) = true := by simp [Region.wanted, hg]
  rw [if_pos hw]
  unfold Oper.wp
  simp [execOp, hop, resolve, invoke, builtin, hs, hx, hrun, Result.andThen]
  exact hK
theorem wpList_cp {P : Program} {w : World} {ops : Array Oper} {rest : List Oper} {o : Oper} {a : Act} {Q : Exit → Act → World → Prop} (hgd : o.guard = none) (s x : Operand) (t t' : TypeId)
    (hop : o.op = Op.call { callee := Callee.builtin Builtin.copy, args := #[s, x], argTypes := #[t, t'] })
    (vs vx v' : Value) (w' : World) (hs : a.eval s = vs) (hx : a.eval x = vx) (hrun : ∀ ty, (Builtin.copy_ #[t, t'] ty #[vs, vx]).run P w = .ok v' w') (h : wpList P ops Q rest (a.put o.dst v') w') : wpList P ops Q (o :: rest) a w := by
  refine wpList_plain hgd fun K hK => ?_
  unfold Oper.wp
  simp [execOp, hop, resolve, invoke, builtin, hs, hx, hrun, Result.andThen]
  exact hK _ _ h
theorem Own.rowCur {w0 w : World} {l : List Thing} {e : TypeId} {size n g cap : Nat} {xs : List Value} (h : Own w0 w (Row e size (.slice (some ⟨g, 0, none⟩) n cap) n xs :: l)) : ∃ cur : Array Value, w.heap[g]? = some (.cells cur e (0, 0)) ∧ n ≤ cap ∧ cap ≤ maxLen ∧ cur.size = cap * size ∧ cur.toList.take (n * size) = xs := by
  rcases h.row.2 with ⟨h0, _⟩ | ⟨g', cap', cur, h0, _, h1, h2, h3, h4, h5⟩
  · cases h0
  · cases h0
    exact ⟨cur, h1, h2, h3, h4, h5⟩
theorem Own.rowSet {w0 w : World} {l : List Thing} {e : TypeId} {size n g cap : Nat} {xs : List Value} (h : Own w0 w (Row e size (.slice (some ⟨g, 0, none⟩) n cap) n xs :: l)) {cur : Array Value} (hg : w.heap[g]? = some (.cells cur e (0, 0))) (cur' : Array Value) (m : Nat) (hm : m ≤ cap) (hc : cap ≤ maxLen) (hsz : cur'.size = cap * size) (ys : List Value) (ht : cur'.toList.take (m * size) = ys) :
    Own w0 (w.setRow g cur') (Row e size (.slice (some ⟨g, 0, none⟩) m cap) m ys :: l) := by
  obtain ⟨A, ⟨hb, hA⟩, hlo, k⟩ := h.act
  have hl : ys.length = m * size := by
    rw [← ht, List.length_take, Array.length_toList, hsz]
    exact Nat.min_eq_left (Nat.mul_le_mul_right _ hm)
  refine k _ (Row e size (.slice (some ⟨g, 0, none⟩) m cap) m ys) A ⟨⟨hl, .inr ⟨g, cap, cur', rfl, Nat.zero_le _, setRow_heap w g cur cur' e _ hg, hm, hc, hsz, ht⟩⟩, hA⟩ ?_ (fun _ a => .inl a)
  exact ⟨rfl, rfl, rfl, by simp [World.setRow], fun j hj hn => setRow_other w g j cur' (fun q => hn ((hA j).2 (by rw [q]; rfl)))⟩
theorem ccat_take (L : List Cp) (i : Nat) : (ccat L).take (i * 4) = ccat (L.take i) := cat_take Cp.cs 4 cs_len L i
theorem ccat_drop (L : List Cp) (i : Nat) : (ccat L).drop (i * 4) = ccat (L.drop i) := cat_drop Cp.cs 4 cs_len L i
theorem one_ccat (L : List Cp) : ∀ u ∈ ccat L, u.oneCell' = true := one_cat Cp.cs cs_one L
def Cp.ar (q : Cp) : Array Value := #[.int .u8 (q.k : Int), .int .i32 q.a, .int .i32 q.b, .int .i32 q.c]
theorem Cp.ar_list (q : Cp) : q.ar.toList = q.cs := rfl
theorem ccat_one (q : Cp) : ccat [q] = q.cs := by simp [ccat, cat]
theorem ccat_app (L M : List Cp) : ccat (L ++ M) = ccat L ++ ccat M := cat_append _ _ _

set_option maxHeartbeats 2000000 in
theorem insert_end (w0 w : World) (l : List Thing) (L : List Cp) (c : Cp) (ao : Option Addr) (n cap B : Nat) (hn : L.length = n) (hn6 : n ≤ 1000) (h : Own w0 w (Row 46 4 (.slice ao n cap) n (ccat L) :: Cells B c.ar 46 :: l)) :
    Calls Tryz.prog 254 #[.slice ao n cap, .int .i64 (n : Int), .slice (some ⟨B, 0, none⟩) 1 1] w fun e w' => ∃ ao' cap', e = .returned (.slice ao' (n + 1) cap') ∧ Own w0 w' (Row 46 4 (.slice ao' (n + 1) cap') (n + 1) (ccat (L ++ [c])) :: Cells B c.ar 46 :: l) := by
  obtain ⟨i0, hi, hz0, hz1, hz2⟩ := info_parts Tryz.infoComp
  have HN : Hid (∀ j u, c.cs[j]? = some u → w.cell? ((⟨B, 0, none⟩ : Addr).add j) = some u) := by
    intro j u hu
    rw [addr_add, Nat.zero_add, h.two.cell]
    rw [← Cp.ar_list, Array.getElem?_toList] at hu
    exact hu
  have H : Hid (Own w0 w _) := h
  have HO : Hid (∀ u ∈ c.cs, u.oneCell' = true) := cs_one c
  have he : ((n : Int) == (n : Int)) = true := by simp
  clear h hn
  cases ao with
  | none =>
    have h0 : n = 0 := by
      rcases H.out.row.2 with ⟨hv, h0⟩ | ⟨g', cap', cur, hv, _⟩
      · exact h0
      · cases hv
    subst h0
    go_enter Tryz.func254, Tryz.ntmps254
    go_wp2_with (at_builtin; refine append_own rfl _ _ 39 rfl 46 i0 _ 4 16 Tryz.underlying39 hi hz0 hz1 hz2 rfl (by decide) _ 0 (ccat L) rfl H.out ⟨B, 0, none⟩ 1 1 c.cs rfl rfl HN.out HO.out (by decide) (by unfold maxLen; omega) (by omega) ?_)
    intro g cap' w' hO hsz
    have H1 : Hid (Own w0 w' (Row 46 4 (.slice (some ⟨g, 0, none⟩) (0 + 1) cap') (0 + 1) (ccat (L ++ [c])) :: Cells B c.ar 46 :: l)) := by
      show Own _ _ _
      rw [ccat_app, ccat_one]; exact hO
    clear hO hsz H
    go_wp2
    go_ret
    exact ⟨_, _, rfl, H1.out⟩
  | some a =>
    obtain ⟨g, rfl⟩ : ∃ g, a = ⟨g, 0, none⟩ := by
      rcases H.out.row.2 with ⟨hv, h0⟩ | ⟨g', cap', cur, hv, _⟩
      · cases hv
      · exact ⟨g', by simpa using (Value.slice.inj hv).1⟩
    obtain ⟨cur, _, hnc, hcm, _⟩ := H.out.rowCur
    unfold maxLen at hcm
    go_enter Tryz.func254, Tryz.ntmps254
    go_wp2_with (at_builtin; refine append_own rfl _ _ 39 rfl 46 i0 _ 4 16 Tryz.underlying39 hi hz0 hz1 hz2 rfl (by decide) _ n (ccat L) rfl H.out ⟨B, 0, none⟩ 1 1 c.cs rfl rfl HN.out HO.out (by decide) (by unfold maxLen; omega) (by omega) ?_)
    all_goals
      intro g cap' w' hO hsz
      have H1 : Hid (Own w0 w' (Row 46 4 (.slice (some ⟨g, 0, none⟩) (n + 1) cap') (n + 1) (ccat (L ++ [c])) :: Cells B c.ar 46 :: l)) := by
        show Own _ _ _
        rw [ccat_app, ccat_one]; exact hO
      clear hO hsz H
      go_wp2
      go_ret
      exact ⟨_, _, rfl, H1.out⟩

theorem cur_at {L : List Cp} {cur : Array Value} {n : Nat} (htk : cur.toList.take (n * 4) = ccat L) (i j : Nat) (v : Value) (hv : (ccat (L.drop i))[j]? = some v) : cur[i * 4 + j]? = some v := by
  rw [← ccat_drop, List.getElem?_drop, ← htk, List.getElem?_take] at hv
  split at hv
  · rw [← Array.getElem?_toList]; exact hv
  · cases hv
set_option maxHeartbeats 2000000 in
theorem insert_fit (w0 w : World) (l : List Thing) (L : List Cp) (c : Cp) (g n cap B i : Nat) (hn : L.length = n) (hi : i < n) (hn6 : n ≤ 1000) (hroom : n + 1 ≤ cap) (h : Own w0 w (Row 46 4 (.slice (some ⟨g, 0, none⟩) n cap) n (ccat L) :: Cells B c.ar 46 :: l)) :
    Calls Tryz.prog 254 #[.slice (some ⟨g, 0, none⟩) n cap, .int .i64 (i : Int), .slice (some ⟨B, 0, none⟩) 1 1] w fun e w' => e = .returned (.slice (some ⟨g, 0, none⟩) (n + 1) cap) ∧ Own w0 w' (Row 46 4 (.slice (some ⟨g, 0, none⟩) (n + 1) cap) (n + 1) (ccat (L.take i ++ c :: L.drop i)) :: Cells B c.ar 46 :: l) := by
  obtain ⟨i0, hi0, hz0, hz1, hz2⟩ := info_parts Tryz.infoComp
  have hinfo : (Tryz.prog.info? 46).map (·.size) = some 4 := by rw [hi0]; simp [hz1]
  obtain ⟨cur, hg, hnc, hcm, hsz, htk⟩ := h.rowCur
  have hBg : B ≠ g := fun e => h.two.ne (by rw [e]; rfl)
  have hD : (ccat (L.drop i)).length = (n - i) * 4 := by rw [length_ccat, List.length_drop, hn]
  have hcl : cur.toList.length = cap * 4 := by rw [Array.length_toList, hsz]
  obtain ⟨D, hDD⟩ : ∃ D, D = ccat (L.drop i) := ⟨_, rfl⟩
  rw [← hDD] at hD
  obtain ⟨cur1, hc1⟩ : ∃ cur1, cur1 = (cur.toList.take ((i + 1) * 4) ++ D ++ cur.toList.drop ((i + 1) * 4 + D.length)).toArray := ⟨_, rfl⟩
  have hs1 : cur1.size = cap * 4 := by
    rw [hc1]; simp only [List.size_toArray, List.length_append, List.length_take, List.length_drop, hcl, hD]; omega
  have ht1 : cur1.toList.take (i * 4) = ccat (L.take i) := by
    rw [hc1, List.append_assoc, List.take_append_of_le_length (by rw [List.length_take, hcl]; omega), List.take_take, Nat.min_eq_left (by omega), ← ccat_take, ← htk, List.take_take, Nat.min_eq_left (by omega)]
  have hd1 : cur1.toList.drop ((i + 1) * 4) = D ++ cur.toList.drop ((i + 1) * 4 + D.length) := by
    rw [hc1, List.append_assoc]
    rw [List.drop_append_of_le_length (by rw [List.length_take, hcl]; omega)]
    rw [List.drop_eq_nil_of_le (by rw [List.length_take]; omega)]; rfl
  obtain ⟨cur2, hc2⟩ : ∃ cur2, cur2 = (cur1.toList.take (i * 4) ++ c.cs ++ cur1.toList.drop (i * 4 + c.cs.length)).toArray := ⟨_, rfl⟩
  have hs2 : cur2.size = cap * 4 := by
    rw [hc2]; simp only [List.size_toArray, List.length_append, List.length_take, List.length_drop, Array.length_toList, hs1, cs_len]; omega
  have ht2 : cur2.toList.take ((n + 1) * 4) = ccat (L.take i ++ c :: L.drop i) := by
    have e : i * 4 + c.cs.length = (i + 1) * 4 := by rw [cs_len]; omega
    have e2 : ccat (L.take i ++ c :: L.drop i) = ccat (L.take i) ++ c.cs ++ D := by
      rw [ccat_app, show c :: L.drop i = [c] ++ L.drop i from rfl, ccat_app, ccat_one, ← hDD, List.append_assoc]
    rw [hc2, e, ht1, hd1, e2]
    show List.take _ (ccat (L.take i) ++ c.cs ++ (D ++ _)) = _
    rw [← List.append_assoc, List.take_append_of_le_length (by simp only [List.length_append, length_ccat, List.length_take, cs_len, hD, hn]; omega)]
    exact List.take_of_length_le (by simp only [List.length_append, length_ccat, List.length_take, cs_len, hD, hn]; omega)
  have hov : ∀ lb cb, (callFunc 261 #[.slice (some ⟨B, 0, none⟩) 1 1, .slice (some ⟨g, (i + 1) * 4, none⟩) lb cb]).run Tryz.prog w = .ok (.value (.bool false)) w := fun lb cb => by
    rw [run_callFunc_extern Tryz.func261 (by kernel_rfl) (by kernel_rfl) (by kernel_rfl) (e := Extern.SlicesOverlaps.overlaps #[39, 39] #[4]) (by kernel_rfl),
      Lib.run_overlaps_apart w 39 4 46 Tryz.underlying39 4 (fun w => by simp [sizeOf, typeInfo, hi0, hz1]) ⟨B, 0, none⟩ ⟨g, (i + 1) * 4, none⟩ 1 1 lb cb hBg 46 46 4 (cap * 4) (by simp [World.shape?, h.two.obj, Cp.ar]) (by simp [World.shape?, hg, hsz]) (by omega) (h.two.froz 0) (h.two.froz 4)]
    rfl
  have hcp1 : ∀ dc sc ty, (Builtin.copy_ #[39, 39] ty #[.slice (some ⟨g, (i + 1) * 4, none⟩) (n - i) dc, .slice (some ⟨g, i * 4, none⟩) (n + 1 - i) sc]).run Tryz.prog w.drew = .ok (goInt ((n - i : Nat) : Int)) (w.drew.setRow g cur1) := fun dc sc ty => by
    rw [hc1]
    exact run_copy_sz w.drew 39 39 ty 46 g ((i + 1) * 4) (n - i) dc ⟨g, i * 4, none⟩ (n + 1 - i) sc cur 46 D 4 (n - i) Tryz.underlying39 hinfo (by decide) hg (by simp only [Nat.min_def]; split <;> omega) hD (fun j v hj => by
      rw [addr_add]
      show w.cell? _ = _
      simp only [World.cell?, hg]
      rw [hDD] at hj
      exact cur_at htk i j v hj) (by rw [hsz, hD]; omega) (by rw [hDD]; exact one_ccat _)
  have hO1 := h.drew.rowSet hg cur1 n hnc hcm hs1 _ rfl
  have hg1 := setRow_heap w.drew g cur cur1 46 _ hg
  obtain ⟨w1, hw1⟩ : ∃ w1, w1 = w.drew.setRow g cur1 := ⟨_, rfl⟩
  rw [← hw1] at hcp1 hO1 hg1
  have hcp2 : ∀ dc ty, (Builtin.copy_ #[39, 39] ty #[.slice (some ⟨g, i * 4, none⟩) (n + 1 - i) dc, .slice (some ⟨B, 0, none⟩) 1 1]).run Tryz.prog w1 = .ok (goInt 1) (w1.setRow g cur2) := fun dc ty => by
    rw [hc2]
    exact run_copy_sz w1 39 39 ty 46 g (i * 4) (n + 1 - i) dc ⟨B, 0, none⟩ 1 1 cur1 46 c.cs 4 1 Tryz.underlying39 hinfo (by decide) hg1 (by simp only [Nat.min_def]; split <;> omega) rfl (fun j v hj => by
      rw [addr_add, Nat.zero_add, hO1.two.cell]
      rw [← Cp.ar_list, Array.getElem?_toList] at hj
      exact hj) (by rw [hs1, cs_len]; omega) (cs_one c)
  have HF : Hid (Own w0 (w1.setRow g cur2) (Row 46 4 (.slice (some ⟨g, 0, none⟩) (n + 1) cap) (n + 1) (ccat (L.take i ++ c :: L.drop i)) :: Cells B c.ar 46 :: l)) := hO1.rowSet hg1 cur2 (n + 1) hroom hcm hs2 _ ht2
  unfold maxLen at hcm
  have HC1 : Hid _ := hcp1
  have HC2 : Hid _ := hcp2
  clear hw1 hcp1 hcp2 hO1 hg1 ht2 hs2 hc2 hd1 ht1 hs1 hc1 hD hDD hcl htk hsz hg h hn hinfo hz0 hz1 hz2 hi0
  have f1 : ¬ (i : Int) = (n : Int) := by omega
  have f2 : (n : Int) + 1 ≤ (cap : Int) := by omega
  have f3 : ¬ cap = i + 1 := by omega
  have f4 : ¬ cap = i := by omega
  have f5 : (i : Int) ≤ (n : Int) := by omega
  have f6 : ((i : Int) + 1).toNat = i + 1 := by omega
  have f7 : (i : Int) ≤ (n : Int) + 1 := by omega
  have f8 : (i : Int) + 1 ≤ (n : Int) + 1 := by omega
  have f9 : i + 1 ≤ n + 1 := by omega
  have f10 : ((n : Int) + 1).toNat = n + 1 := by omega
  have f11 : IntKind.i64.wrap ((i : Int) + 1) = (i : Int) + 1 := by rw [IntKind.wrap_i64]; omega
  have f12 : (0 : Int) ≤ (i : Int) + 1 := by omega
  go_enter Tryz.func254, Tryz.ntmps254
  go_wp2_with (simp only [hov])
  go_region_law (refine step_cp rfl (.tmp 73) (.tmp 76) 39 39 rfl (.slice (some ⟨g, (i + 1) * 4, none⟩) (n - i) (cap - (i + 1))) (.slice (some ⟨g, i * 4, none⟩) (n + 1 - i) (cap - i)) _ _ (by simp [Act.eval, Act.put]) (by simp [Act.eval, Act.put]) (HC1.out _ _) ?_)
  all_goals
    have hc2 := HC2.out (cap - i)
    go_wp2
    go_ret
    exact ⟨rfl, HF.out⟩
end Go.Proofs.YtflmgilmbppieaaGreatDoor
