/-
  Package net: New, Len, has, own, Put, remove, Take, Peek, Copy, Drop.
-/
import Derived.Test.YtiphkndahoageaaNta
import Derived.Deep.QuietTactic
import Derived.Deep.RegionHeld3
import Derived.Deep.AppendLies
namespace Go.Proofs.Ytiphkndahoageaa
open Go.RowKit
set_option linter.unusedVariables false

theorem step_allW {P : Program} {w0 w : World} {l : List Thing} {ops : Array Oper} {o : Oper} {a : Act} {K : Act → World → Prop} {Q : Exit → Act → World → Prop} {E : Prop} (hgd : o.guard = none) (sx x : Operand) (t : TypeId)
    (ho : o.op = .call { callee := .builtin .append, args := #[sx, x], argTypes := #[t, t] })
    (e : TypeId) (i : TypeInfo) (z : Value) (size bytes : Nat) (ht : P.underlying t = some (.slice e)) (hi : P.info? e = some i) (hz : i.zero = some z)
    (hsize : i.size = size) (hby : i.bytes = bytes) (hzs : z.cells.size = size) (hsz : 0 < size)
    (v : Value) (n : Nat) (xs : List Value) (hs : a.eval sx = v) (xa : Option Addr) (m xc : Nat) (ys : List Value) (hx : a.eval x = .slice xa m xc) (hown : Own w0 w (Row e size v n xs :: l)) (hr : w.ownsRow 0 e size (.slice xa m xc) m ys) (h1 : ∀ u ∈ ys, u.oneCell' = true)
    (h63 : n + m ≤ maxLen) (hbytes : (n + m) * bytes ≤ 140737488355328)
    (h : ∀ ao cap w', Own w0 w' (Row e size (.slice ao (n + m) cap) (n + m) (xs ++ ys) :: l) → K (a.put o.dst (.slice ao (n + m) cap)) w') :
    if Region.wanted o (yielded ops a.tmps) = true then Oper.wp P o a w K Q else E := by
  have hw : Region.wanted o (yielded ops a.tmps) = true := by simp [Region.wanted, hgd]
  rw [if_pos hw]
  rcases Nat.eq_zero_or_pos m with h0 | h0
  · subst h0
    have hy : ys = [] := List.eq_nil_of_length_eq_zero (by rw [hr.1]; simp)
    subst hy
    obtain ⟨va, vc, rfl⟩ := row_any hown.row
    have hr := run_append_empty (P := P) w 0 t o.type e i size ht hi _ n xs hown.row xa xc
    unfold Oper.wp
    simp [execOp, ho, resolve, invoke, builtin, hs, hx, hr, Result.andThen]
    have := h va vc w (by simpa using hown)
    simp at this
    exact this
  · obtain ⟨g, cap, hv, _⟩ := row_shape hr h0
    have hxa := (Value.slice.inj hv).1
    subst hxa
    refine wp_append_lies w sx x t ho 0 e i z size bytes ht hi hz hsize hby hzs hsz v n xs hs hown.row ⟨g, 0, none⟩ m xc ys hx hr.1 (fun j u hu => by
      rw [addr_add, Nat.zero_add, hr.cellAt j (by rw [← hr.1]; exact (List.getElem?_eq_some_iff.1 hu).1)]; exact hu) h1 h0 h63 hbytes (Nat.zero_le _) _ rfl ?_
    intro g' cap' w' h2 h3 h4 h5
    refine h _ _ w' (hown.grow h2 h3 (fun k hk => ?_))
    have hk' : g' = k := by simpa [Value.ownBlock] using hk
    subst hk'
    rcases h4 with h4 | h4
    · exact .inl h4
    · exact .inr (by omega)

theorem Src.quiet {w w' : World} {v : Value} {n : Nat} {xs : List Value} (h : Src w v n xs) (hf : Fr Nobody w w') : Src w' v n xs := by
  rcases h with h | ⟨a, cap, hv, hl, hc⟩
  · exact .inl h
  · exact .inr ⟨a, cap, hv, hl, fun j u hu => (hf.cell (World.block_lt_of_cell? w _ (hc j u hu)) id).trans (hc j u hu)⟩
theorem cloneT (w0 w : World) (l : List Thing) (h : Own w0 w l) (v : Value) (n : Nat) (P : List Nat) (hn : P.length = n) (hs : Src w v n (vrow P)) (hL : n ≤ 140737488351232) :
    Calls Try.prog 30 #[v] w fun e w' => ∃ ao cap, e = .returned (.slice ao n cap) ∧ Own w0 w' (Row 5 1 (.slice ao n cap) n (vrow P) :: l) ∧ Fr Nobody w w' := by
  refine (clone_any w v n (vrow P) hs (one_vrow P) hL).mono ?_
  rintro e w' ⟨v', rfl, hr, hf, hk⟩
  obtain ⟨ao, cap, rfl⟩ := row_any hr
  exact ⟨ao, cap, rfl, h.new (Row 5 1 (.slice ao n cap) n (vrow P)) (fun k => (Value.slice ao n cap).ownBlock = some k) ⟨hr, fun _ => Iff.rfl⟩ hf hk, hf⟩

set_option maxHeartbeats 400000 in
theorem bnew_ok (w0 w : World) (l : List Thing) (N : Nat) (h : Own w0 w l) (h1 : 1 ≤ N) (h2 : N ≤ 2048) :
    Calls Try.prog 8 #[.int .i64 (N : Int)] w fun e w' => ∃ b, e = .returned (.tuple #[.pointer (some ⟨b, 0, none⟩), .int .i64 0]) ∧ Own w0 w' (BagT 61 b N [] :: l) := by
  have H : Hid (Own w0 w l) := h
  clear h
  go_enter Try.func8, Try.ntmps8
  go_wp2
  go_ret2
  refine ⟨_, rfl, Own.ex_iff.2 ⟨.slice none 0 0, ?_⟩⟩
  exact ((H.out.allocC #[.int .i64 (N : Int), .slice none 0 0] 61).nilRow 33 2).two
set_option maxHeartbeats 400000 in
theorem bnew_no (w : World) (k : Int) (h : k < 1 ∨ 2048 < k) : Calls Try.prog 8 #[.int .i64 k] w fun e w' => e = .returned (.tuple #[.pointer none, .int .i64 1]) ∧ w' = w := by
  by_cases c : k < 1
  · go_enter Try.func8, Try.ntmps8
    go_wp2
    go_ret2
    exact ⟨rfl, rfl⟩
  · have c2 : 2048 < k := by omega
    go_enter Try.func8, Try.ntmps8
    go_wp2
    go_ret2
    exact ⟨rfl, rfl⟩

set_option maxHeartbeats 400000 in
theorem blen (w0 w : World) (l : List Thing) (b N : Nat) (E : List Gr) (h : Own w0 w (BagT 61 b N E :: l)) :
    Calls Try.prog 22 #[.pointer (some ⟨b, 0, none⟩)] w fun e w' => e = .returned (.int .i64 (E.length : Int)) ∧ w' = w := by
  obtain ⟨lv, h⟩ := Own.ex_iff.1 h
  obtain ⟨la, lc, rfl⟩ := row_any h.two.row
  have q1 := h.cell 1
  simp at q1
  clear h
  go_enter Try.func22, Try.ntmps22
  go_wp2
  go_ret
  exact ⟨rfl, rfl⟩
set_option maxHeartbeats 400000 in
theorem blen_nil (w : World) : Calls Try.prog 22 #[.pointer none] w fun e w' => e = .returned (.int .i64 0) ∧ w' = w := by
  go_enter Try.func22, Try.ntmps22
  go_wp2
  go_ret
  exact ⟨rfl, rfl⟩

set_option maxHeartbeats 400000 in
theorem bhas_of (w : World) (pv : Value) (n : Nat) (i : Int) (hl : Calls Try.prog 22 #[pv] w fun e w' => e = .returned (.int .i64 (n : Int)) ∧ w' = w) :
    Calls Try.prog 26 #[pv, .int .i64 i] w fun e w' => e = .returned (.bool (decide (0 ≤ i ∧ i < (n : Int)))) ∧ w' = w := by
  have HL : Hid (Calls Try.prog 22 #[pv] w fun e w' => e = .returned (.int .i64 (n : Int)) ∧ w' = w) := hl
  clear hl
  by_cases c : 0 ≤ i
  · by_cases c2 : i < (n : Int)
    · have HD : Hid (decide (0 ≤ i ∧ i < (n : Int)) = true) := by simp [Hid, c, c2]
      go_enter Try.func26, Try.ntmps26
      go_wp2_with fail
      refine HL.out.mono ?_
      rintro e w1 ⟨rfl, rfl⟩
      go_wp2
      go_ret
      refine ⟨?_, rfl⟩
      simp [c, c2]
    · have HD : Hid (decide (0 ≤ i ∧ i < (n : Int)) = false) := by simp [Hid]; omega
      go_enter Try.func26, Try.ntmps26
      go_wp2_with fail
      refine HL.out.mono ?_
      rintro e w1 ⟨rfl, rfl⟩
      go_wp2
      go_ret
      refine ⟨?_, rfl⟩
      have c3 : ¬ i < (n : Int) := by omega
      simp [c3]
  · have HD : Hid (decide (0 ≤ i ∧ i < (n : Int)) = false) := by simp [Hid]; omega
    go_enter Try.func26, Try.ntmps26
    go_wp2
    go_ret
    refine ⟨?_, rfl⟩
    have c3 : ¬ 0 ≤ i := by omega
    simp [c3]

set_option maxHeartbeats 1000000 in
set_option maxRecDepth 100000 in
theorem own_any (w0 w : World) (l : List Thing) (h : Own w0 w l) (to : Int) (ao : Option Addr) (n cap : Nat) (P : List Nat) (hn : P.length = n) (hs : Src w (.slice ao n cap) n (vrow P)) (hL : n ≤ 140737488351232) :
    Calls Try.prog 25 #[.agg #[.int .i64 to, .slice ao n cap]] w fun e w' => ∃ ao' cap', e = .returned (.agg #[.int .i64 to, .slice ao' n cap']) ∧ Own w0 w' (Row 5 1 (.slice ao' n cap') n (vrow P) :: l) ∧ Fr Nobody w w' := by
  have hO := (h.allocC #[.int .i64 to, .slice ao n cap] 33).allocC #[.int .i64 0, .slice none 0 0] 33
  have hf : Fr Nobody w _ := (((Fr.refl Nobody w).alloc (.cells #[.int .i64 to, .slice ao n cap] 33)).alloc (.cells #[.int .i64 0, .slice none 0 0] 33)).drew
  have hb : (w.alloc (.cells #[.int .i64 to, .slice ao n cap] 33)).heap.size = w.heap.size + 1 := by simp
  rw [hb] at hO
  have HC : Hid (Calls _ _ _ _ _) := cloneT w0 _ _ hO.drew (.slice ao n cap) n P hn (hs.quiet hf) hL
  have HF : Hid (Fr Nobody w _) := hf
  clear h hs hO hb hf
  go_enter Try.func25, Try.ntmps25
  go_wp2
  go_region_law
    (first
      | (go_simp; go_at_call 30; refine HC.out.mono ?_; rintro e w2 ⟨a2, c2, rfl, hO2, hf2⟩; dsimp only
         have u0 := hO2.three.cell 0
         have u1 := hO2.three.cell 1
         have s0 := hO2.two.cell 0
         have s1 := hO2.two.cell 1
         have z0 := hO2.two.froz 0
         have z1 := hO2.two.froz 1
         simp at u0 u1 s0 s1)
      | fail)
  all_goals
    have H3 : Hid (Own w0 ((w2.setCell ⟨w.heap.size + 1, 0, none⟩ (.int .i64 to)).setCell ⟨w.heap.size + 1, 1, none⟩ (.slice a2 n c2)) _) := (hO2.two.setC 0 (.int .i64 to)).setC 1 (.slice a2 n c2)
    have HF2 : Hid (Fr Nobody w w2) := HF.out.trans hf2
    clear HC HF u0 u1 hf2 hO2
    go_wp2
    (try simp only [Exit.inBlock, Exit.then])
    refine bodyPost_ret (results_cell_row rfl _ _ (w.heap.size + 1) 33 #[.int .i64 to, .slice a2 n c2] _ _ rfl H3.out.obj Try.underlying33 rfl (by kernel_rfl)) rfl ?_
    refine ⟨a2, c2, rfl, H3.out.tail.two.tail, ?_⟩
    exact (HF2.out.setCell (p := ⟨w.heap.size + 1, 0, none⟩) (.inr (by simp)) _).setCell (p := ⟨w.heap.size + 1, 1, none⟩) (.inr (by simp)) _

set_option maxHeartbeats 1000000 in
set_option maxRecDepth 100000 in
theorem bput_full (w0 w : World) (l : List Thing) (b N : Nat) (E : List Gr) (h : Own w0 w (BagT 61 b N E :: l)) (hF : N ≤ E.length) (o : Value) (to : Int) (fv : Value) (ho : o = .agg #[.int .i64 to, fv]) (hfv : ∃ a n c, fv = .slice a n c) :
    Calls Try.prog 10 #[.pointer (some ⟨b, 0, none⟩), o] w fun e w' => e = .returned (.int .i64 8) ∧ Own w0 w' (BagT 61 b N E :: l) := by
  obtain ⟨a, n, c, rfl⟩ := hfv
  subst ho
  obtain ⟨lv, h⟩ := Own.ex_iff.1 h
  obtain ⟨la, lc, rfl⟩ := row_any h.two.row
  have q0 := h.cell 0
  have q1 := h.cell 1
  simp at q0 q1
  have hlt := h.lt
  have n1 : w.heap.size ≠ b := by omega
  have H : Hid (Own w0 w _) := h
  have hF2 : (N : Int) ≤ (E.length : Int) := by omega
  have hF3 : ¬ (E.length : Int) < (N : Int) := by omega
  have HN : Hid (N ≤ E.length) := hF
  clear h hF
  go_enter Try.func10, Try.ntmps10
  go_wp2
  go_region_held3 (fun w' => w'.cell? ⟨b, 0, none⟩ = some (.int .i64 (N : Int)) ∧ w'.cell? ⟨b, 1, none⟩ = some (.slice la E.length lc)) (go_keep) (fail)
  go_wp2
  go_ret
  exact ⟨rfl, Own.ex_iff.2 ⟨_, (H.out.alloc _).drew⟩⟩
set_option maxHeartbeats 400000 in
theorem bput_nil (w : World) (to : Int) (a : Option Addr) (n c : Nat) : Calls Try.prog 10 #[.pointer none, .agg #[.int .i64 to, .slice a n c]] w fun e w' => e = .returned (.int .i64 10) ∧ Fr Nobody w w' := by
  go_enter Try.func10, Try.ntmps10
  go_wp2
  go_ret
  exact ⟨rfl, (Fr.refl _ _).alloc _⟩
end Go.Proofs.Ytiphkndahoageaa
