/-
  Any bytes (the first 600 of them) become a frame by their own sum behind them, and by no other four bytes: FrameTails returns true, whatever its arguments, where the table of the sum lies as the program's text lays it, and changes nothing that was there.
-/
import Derived.Test.YtekdjebehieekabDoorGd
import Derived.Test.YtekdjebehieekabDoorGg
import Derived.Test.YtekdjebehieekabDoorGi
import Derived.Deep.RegionLaw
import Derived.Laws.IdiomArrays
namespace Go.Proofs.YtekdjebehieekabDoor
open Go.ChangeShapes Go.WideShapes Go.ChangeAt Go.RowKit
set_option linter.unusedVariables false

set_option maxHeartbeats 1000000 in
theorem eqA4 (a b c d x y z t : Int) (w : World) : (Op.equalIn 10000 23 (.agg #[.int .u8 a, .int .u8 b, .int .u8 c, .int .u8 d]) (.agg #[.int .u8 x, .int .u8 y, .int .u8 z, .int .u8 t])).run Tryd.prog w = .ok (a == x && b == y && c == z && d == t) w := by
  have u3 := Tryd.underlying5
  have a3 := Tryd.isAgg5
  have z3 := Tryd.sizeOf5
  rw [show (10000 : Nat) = 9999 + 1 from rfl, Op.equalIn]
  simp only [Sem.run_bind, run_underlying Tryd.underlying23, Result.andThen_ok]
  simp only [Std.Legacy.Range.forIn_eq_forIn_range', Std.Legacy.Range.size, Nat.sub_zero, Nat.add_sub_cancel, Nat.div_one, List.range'_succ, List.range'_zero, List.forIn_cons, List.forIn_nil]
  go_simp
  by_cases h1 : a = x <;> by_cases h2 : b = y <;> by_cases h3 : c = z <;> by_cases h4 : d = t <;> simp [h1, h2, h3, h4]
theorem cell_four4 (w : World) (t : TypeId) (b0 b1 b2 b3 : Nat) : ∀ j u, (vrow [b0, b1, b2, b3])[j]? = some u → (w.alloc (.cells #[.int .u8 (b0 : Int), .int .u8 (b1 : Int), .int .u8 (b2 : Int), .int .u8 (b3 : Int)] t)).cell? ⟨w.heap.size, j, none⟩ = some u := by
  intro j u hu
  rw [cell_of_row _ _ _ _ _ _ (heap_alloc_new w _)]
  have e : (#[Value.int .u8 (b0 : Int), .int .u8 (b1 : Int), .int .u8 (b2 : Int), .int .u8 (b3 : Int)] : Array Value) = (vrow [b0, b1, b2, b3]).toArray := rfl
  rw [e, List.getElem?_toArray, hu]
theorem step_run {P : Program} {ops : Array Oper} {o : Oper} {a : Act} {w : World} {K : Act → World → Prop} {Q : Exit → Act → World → Prop} {E : Prop}
    (hg : o.guard = none) (s x : Operand) (t t' : TypeId) (hop : o.op = Op.call { callee := Callee.builtin Builtin.append, args := #[s, x], argTypes := #[t, t'] })
    (vs vx v' : Value) (w' : World) (hs : a.eval s = vs) (hx : a.eval x = vx) (hrun : ∀ ty, (Builtin.append_ #[t, t'] ty #[vs, vx]).run P w = .ok v' w')
    (hK : K (a.put o.dst v') w') :
    if Region.wanted o (yielded ops a.tmps) = true then Oper.wp P o a w K Q else E := by
  have hw : Region.wanted o (yielded ops a.tmps) = true := by simp [Region.wanted, hg]
  rw [if_pos hw]
  unfold Oper.wp
  simp [execOp, hop, resolve, invoke, builtin, hs, hx, hrun, Result.andThen]
  exact hK
theorem step_open {ops : Array Oper} {o : Oper} {a : Act} {w : World} {K : Act → World → Prop} {Q : Exit → Act → World → Prop} {E : Prop}
    (hg : o.guard = none) (x : Operand) (t : TypeId) (hop : o.op = Op.call { callee := Callee.value (Operand.func 6), args := #[x], argTypes := #[t] })
    (vx : Value) (hx : a.eval x = vx) (G : Value → World → Prop) (hcall : Calls Tryd.prog 6 #[vx] w fun e w' => ∃ v', e = .returned v' ∧ G v' w')
    (hK : ∀ v' w', G v' w' → K (a.put o.dst v') w') :
    if Region.wanted o (yielded ops a.tmps) = true then Oper.wp Tryd.prog o a w K Q else E := by
  have hw : Region.wanted o (yielded ops a.tmps) = true := by simp [Region.wanted, hg]
  rw [if_pos hw]
  unfold Oper.wp
  have hfn : a.eval (Operand.func 6) = .func (.func 6) #[] #[] := rfl
  simp [execOp, hop, resolve, invoke, hx, hfn, Deferred.ofValue]
  go_simp
  refine hcall.mono ?_
  rintro e w' ⟨v', rfl, h⟩
  exact hK v' w' h
theorem run_copy (w : World) (ao : Option Addr) (m cap : Nat) (P : List Nat) (h : Src w (.slice ao m cap) P.length (vrow P)) (hm : P.length = m) (hL : m ≤ 1000000) :
    ∃ v' w', (∀ ty, (Builtin.append_ #[22, 22] ty #[.slice (some ⟨w.heap.size, 0, none⟩) 0 0, .slice ao m cap]).run Tryd.prog (w.alloc (.cells #[] 5)) = .ok v' w') ∧ w'.ownsRow w.heap.size 5 1 v' m (vrow P) ∧ Fr Nobody w w' := by
  obtain ⟨i0, hi, hz0, hz1, hz2⟩ := info_parts Tryd.infoB
  have hown := World.ownsRow_made (e := 5) (size := 1) (base := w.heap.size) w #[] 0 (Nat.le_refl _) (Nat.zero_le _) rfl
  have hfr : Fr Nobody w (w.alloc (.cells #[] 5)) := (Fr.refl _ w).alloc _
  rcases h with ⟨hv, h0, h00⟩ | ⟨a', cap', hv, hl, hc⟩
  · have hP0 : P = [] := List.eq_nil_of_length_eq_zero h0
    subst hP0
    subst hm
    simp only [Value.slice.injEq] at hv
    obtain ⟨rfl, _, rfl⟩ := hv
    exact ⟨_, _, fun ty => run_append_owned_none (P := Tryd.prog) (w.alloc (.cells #[] 5)) w.heap.size 22 ty 5 i0 1 Tryd.underlying22 hi _ 0 [] hown, hown, hfr⟩
  · simp only [Value.slice.injEq] at hv
    obtain ⟨rfl, _, rfl⟩ := hv
    obtain ⟨v', w', hr, h2, h3, _⟩ := run_append_own (P := Tryd.prog) (w.alloc (.cells #[] 5)) w.heap.size 22 0 5 i0 (.int .u8 0) 1 1 Tryd.underlying22 hi hz0 hz1 hz2 rfl (by decide) _ 0 [] hown a' m cap (vrow P) (by rw [length_vrow]; omega) (fun j u hu => Lib.cell?_alloc_some _ (hc j u hu)) (one_vrow P) (by unfold maxLen; omega) (by omega) (by simp)
    exact ⟨v', w', fun ty => hr, by simpa using h2, hfr.grown h3 (by intro k hk; simp [Value.ownBlock] at hk; omega)⟩
theorem run_tail (w : World) (B : Nat) (v : Value) (m : Nat) (P : List Nat) (b0 b1 b2 b3 : Nat) (h : w.ownsRow B 5 1 v m (vrow P)) (hm : P.length = m) (hL : m ≤ 1000000) (hB : B ≤ w.heap.size) (g : Nat) (hc : ∀ j u, (vrow [b0, b1, b2, b3])[j]? = some u → w.cell? ⟨g, j, none⟩ = some u) :
    ∃ v' w', (∀ ty, (Builtin.append_ #[22, 22] ty #[v, .slice (some ⟨g, 0, none⟩) 4 4]).run Tryd.prog w = .ok v' w') ∧ w'.ownsRow B 5 1 v' (m + 4) (vrow (P ++ [b0, b1, b2, b3])) ∧ w.grownBy w' v.ownBlock := by
  obtain ⟨i0, hi, hz0, hz1, hz2⟩ := info_parts Tryd.infoB
  obtain ⟨v', w', hr, h2, h3, _⟩ := run_append_own (P := Tryd.prog) w B 22 0 5 i0 (.int .u8 0) 1 1 Tryd.underlying22 hi hz0 hz1 hz2 rfl (by decide) v m (vrow P) h ⟨g, 0, none⟩ 4 4 (vrow [b0, b1, b2, b3]) rfl (fun j u hu => by rw [addr_add, Nat.zero_add]; exact hc j u hu) (one_vrow _) (by unfold maxLen; omega) (by omega) hB
  exact ⟨v', w', fun ty => hr, by rw [vrow_append]; exact h2, h3⟩
set_option maxHeartbeats 2000000 in
set_option maxRecDepth 100000 in
theorem frameTails_main (w : World) (ao : Option Addr) (len cap m b0 b1 b2 b3 : Nat) (P : List Nat) (h : In w ao len cap P) (hmax : len ≤ maxLen) (ht : Tab w) (hm : min (len : Int) 600 = (m : Int)) (hml : m ≤ len) (hm2 : m ≤ 600) (h0 : b0 < 256) (h1 : b1 < 256) (h2 : b2 < 256) (h3 : b3 < 256) :
    Calls Tryd.prog 3 #[.slice ao len cap, .agg #[.int .u8 (b0 : Int), .int .u8 (b1 : Int), .int .u8 (b2 : Int), .int .u8 (b3 : Int)]] w fun e w' => e = .returned (.bool true) ∧ Fr Nobody w w' := by
  have HC := h.cut m hml
  have hle := h.le
  have HI : Hid (In w ao m cap (P.take m)) := HC
  have HT : Hid (Tab w) := ht
  unfold maxLen at hmax
  generalize P.take m = R at *
  clear h HC ht
  go_enter Tryd.func3, Tryd.ntmps3
  go_wp2_with fail
  have hf0 : Fr Nobody w (w.alloc (.cells #[.int .u8 (b0 : Int), .int .u8 (b1 : Int), .int .u8 (b2 : Int), .int .u8 (b3 : Int)] 23)) := (Fr.refl _ w).alloc _
  have HF0 : Hid _ := hf0
  have HB0 : Hid (∀ j u, (vrow [b0, b1, b2, b3])[j]? = some u → (w.alloc (.cells #[.int .u8 (b0 : Int), .int .u8 (b1 : Int), .int .u8 (b2 : Int), .int .u8 (b3 : Int)] 23)).cell? ⟨w.heap.size, j, none⟩ = some u) := cell_four4 w _ b0 b1 b2 b3
  clear hf0
  generalize w.alloc (.cells #[.int .u8 (b0 : Int), .int .u8 (b1 : Int), .int .u8 (b2 : Int), .int .u8 (b3 : Int)] 23) = wa at *
  refine (awake_any wa (HT.out.quiet HF0.out)).mono ?_
  rintro e w1 ⟨rfl, hf⟩
  have HF : Hid (Fr Nobody wa w1) := hf
  clear hf
  go_wp2_with fail
  refine (rsum_any w1 ao cap m (8 * m) R (HI.out.quiet (HF0.out.trans HF.out)) (by omega) rfl).mono ?_
  rintro e w2 ⟨rfl, hf2⟩
  have HF2 : Hid (Fr Nobody wa w2) := HF.out.trans hf2
  have hc := crc_lt R
  have HB2 : Hid (∀ j u, (vrow [b0, b1, b2, b3])[j]? = some u → w2.cell? ⟨w.heap.size, j, none⟩ = some u) := fun j u hu =>
    (HF2.out.cell (p := ⟨w.heap.size, j, none⟩) (World.block_lt_of_cell? wa _ (HB0.out j u hu)) id).trans (HB0.out j u hu)
  clear hf2
  have hl0 := HB2.out 0 _ rfl
  have hl1 := HB2.out 1 _ rfl
  have hl2 := HB2.out 2 _ rfl
  have hl3 := HB2.out 3 _ rfl
  obtain ⟨c, hcr⟩ : ∃ c, c = crc R := ⟨_, rfl⟩
  have HCR : Hid (c = crc R) := hcr
  rw [← hcr] at hc ⊢
  clear hcr
  have keq := fun w => eqA4 b0 b1 b2 b3 ((c : Int) % 256) ((c : Int) / 256 % 256) ((c : Int) / 65536 % 256) ((c : Int) / 16777216) w
  obtain ⟨r, hr⟩ : ∃ r : Bool, ((b0 : Int) == (c : Int) % 256 && (b1 : Int) == (c : Int) / 256 % 256 && (b2 : Int) == (c : Int) / 65536 % 256 && (b3 : Int) == (c : Int) / 16777216) = r := ⟨_, rfl⟩
  rw [hr] at keq
  have HR : Hid _ := hr
  clear hr
  obtain ⟨v3, w3, hr3, ho3, hf3⟩ := run_copy w2.drew ao m cap R ((HI.out.quiet (HF0.out.trans HF2.out)).quiet (Fr.refl _ w2).drew).src HI.out.eqn (by omega)
  have H3 : Hid (w3.ownsRow w2.heap.size 5 1 v3 m (vrow R) ∧ Fr Nobody w2 w3) := ⟨ho3, (Fr.refl _ w2).drew.trans hf3⟩
  have X3 : Hid _ := hr3
  obtain ⟨v4, w4, hr4, ho4, hg4⟩ := run_tail w3 w2.heap.size v3 m R b0 b1 b2 b3 H3.out.1 HI.out.eqn (by omega) H3.out.2.size w.heap.size (fun j u hu => (H3.out.2.cell (p := ⟨w.heap.size, j, none⟩) (World.block_lt_of_cell? w2 _ (HB2.out j u hu)) id).trans (HB2.out j u hu))
  have X4 : Hid _ := hr4
  have HF4 : Hid (Fr Nobody w2 w4) := H3.out.2.grown hg4 (fun q hq => .inr (H3.out.1.lt q hq).1)
  have hbt : ∀ x ∈ R ++ [b0, b1, b2, b3], x < 256 := by
    intro x hx
    rcases List.mem_append.1 hx with hx | hx
    · exact HI.out.byt x hx
    · simp only [List.mem_cons, List.not_mem_nil, or_false] at hx
      omega
  obtain ⟨a4, c4, hv4, hi4⟩ := In.of_own ho4 (by rw [List.length_append, HI.out.eqn]; rfl) hbt
  subst hv4
  have HI4 : Hid (In w4 a4 (m + 4) c4 (R ++ [b0, b1, b2, b3])) := hi4
  have HD : Hid ((R ++ [b0, b1, b2, b3]).drop m = [b0, b1, b2, b3] ∧ (R ++ [b0, b1, b2, b3]).take m = R) := ⟨List.drop_left' HI.out.eqn, List.take_left' HI.out.eqn⟩
  have HT4 : Hid (Tab w4) := ((HT.out.quiet HF0.out).quiet HF2.out).quiet HF4.out
  have HZ : Hid (Fr Nobody w w4) := (HF0.out.trans HF2.out).trans HF4.out
  clear hr3 hr4 ho3 hf3 ho4 hg4 hbt hi4
  go_wp2_with fail
  cases r
  · have HN : Hid (bnum ((R ++ [b0, b1, b2, b3]).drop m) ≠ crc ((R ++ [b0, b1, b2, b3]).take m)) := by
      rw [HD.out.1, HD.out.2, ← HCR.out]
      intro e
      have := HR.out
      simp only [bnum] at e
      simp only [Bool.and_eq_false_iff, beq_eq_false_iff_ne] at this
      omega
    have XO : Hid (Calls Tryd.prog 6 #[.slice a4 (m + 4) c4] w4 fun e w' => ∃ v', e = .returned v' ∧ (v' = .tuple #[.slice none 0 0, .int .i64 6] ∧ w' = w4)) := by
      refine (open_sum w4 a4 c4 m _ HI4.out (by omega) HT4.out HN.out).mono ?_
      rintro e w' ⟨rfl, rfl⟩
      exact ⟨_, rfl, rfl, rfl⟩
    go_region_law (first
      | (refine step_run rfl (.tmp 33) (.tmp 34) 22 22 rfl _ _ v3 w3 (by simp [Act.eval]) (by simp [Act.eval]) X3.out ?_)
      | (refine step_run rfl (.tmp 35) (.tmp 36) 22 22 rfl _ _ _ w4 (by simp [Act.eval]) (by simp [Act.eval]) X4.out ?_)
      | (refine step_open rfl (.tmp 37) 22 rfl _ (by simp [Act.eval]) (fun v' w' => v' = .tuple #[.slice none 0 0, .int .i64 6] ∧ w' = w4) XO.out ?_; rintro v5 w5 ⟨rfl, rfl⟩))
    all_goals
      go_wp2
      go_ret
      exact ⟨rfl, HZ.out⟩
  · have HN : Hid (bnum ((R ++ [b0, b1, b2, b3]).drop m) = crc ((R ++ [b0, b1, b2, b3]).take m)) := by
      show _ = _
      rw [HD.out.1, HD.out.2, ← HCR.out]
      have := HR.out
      simp only [Bool.and_eq_true, beq_iff_eq] at this
      simp only [bnum]
      omega
    have XO : Hid (Calls Tryd.prog 6 #[.slice a4 (m + 4) c4] w4 fun e w' => ∃ v', e = .returned v' ∧ (∃ u, v' = .tuple #[u, .int .i64 0] ∧ Fr Nobody w w')) := by
      refine (open_ok w4 a4 c4 m _ HI4.out (by omega) HT4.out HN.out).mono ?_
      rintro e w' ⟨u, rfl, _, hf, _⟩
      exact ⟨_, rfl, u, rfl, HZ.out.trans hf⟩
    go_region_law (first
      | (refine step_run rfl (.tmp 33) (.tmp 34) 22 22 rfl _ _ v3 w3 (by simp [Act.eval]) (by simp [Act.eval]) X3.out ?_)
      | (refine step_run rfl (.tmp 35) (.tmp 36) 22 22 rfl _ _ _ w4 (by simp [Act.eval]) (by simp [Act.eval]) X4.out ?_)
      | (refine step_open rfl (.tmp 37) 22 rfl _ (by simp [Act.eval]) (fun v' w' => ∃ u, v' = .tuple #[u, .int .i64 0] ∧ Fr Nobody w w') XO.out ?_; rintro v5 w5 ⟨u5, rfl, hf5⟩; have HF5 : Hid (Fr Nobody w w5) := hf5; clear hf5))
    all_goals
      go_wp2
      go_ret
      exact ⟨rfl, HF5.out⟩
theorem cellsA4 : Tryd.prog.cellsOf 23 = 4 := by kernel_rfl
theorem cellsB : Tryd.prog.cellsOf 5 = 1 := by kernel_rfl
theorem shutA4 {H : Type} {enc : TypeId × Value → H} {W : World} {base : Nat} {sp : Nat → Bool} {held : Bool} {x0 x1 x2 x3 : Int} (wx0 : (Lit.int .u8 x0).wf = true) (wx1 : (Lit.int .u8 x1).wf = true) (wx2 : (Lit.int .u8 x2).wf = true) (wx3 : (Lit.int .u8 x3).wf = true) :
    DataW.Trod enc Tryd.prog W base sp held 23 (.agg #[.int .u8 x0, .int .u8 x1, .int .u8 x2, .int .u8 x3]) (DataW.agg [.lit (.int .u8 x0), .lit (.int .u8 x1), .lit (.int .u8 x2), .lit (.int .u8 x3)]) [] :=
  ⟨2, by simp [DataW.trod, Value.cells, Tryd.underlying23, Tryd.underlying5, cellsA4, cellsB, wx0, wx1, wx2, wx3, show List.range 4 = [0, 1, 2, 3] from rfl]⟩
theorem list4 {α : Type} (l : List α) (h : (⟨l⟩ : Array α).size = 4) : ∃ a b c d, l = [a, b, c, d] := by
  match l, h with
  | [a, b, c, d], _ => exact ⟨a, b, c, d, rfl⟩
theorem frameTails_walk (w : World) (ht : Tab w) (a0 : Option Addr) (len0 cap0 : Nat) (z0 : List Int) (w0 : IsRow .u8 w a0 len0 cap0 z0) (x0 : Int) (wx0 : (Lit.int .u8 x0).wf = true) (x1 : Int) (wx1 : (Lit.int .u8 x1).wf = true) (x2 : Int) (wx2 : (Lit.int .u8 x2).wf = true) (x3 : Int) (wx3 : (Lit.int .u8 x3).wf = true) :
    Calls Tryd.prog 3 #[.slice a0 len0 cap0, .agg #[.int .u8 x0, .int .u8 x1, .int .u8 x2, .int .u8 x3]] w fun e w' => e = .returned (.bool true) ∧ Below w.heap.size w w' := by
  obtain ⟨hmax, P, hP⟩ := in_row w0
  obtain ⟨b0, rfl, h0⟩ := u8_rng wx0
  obtain ⟨b1, rfl, h1⟩ := u8_rng wx1
  obtain ⟨b2, rfl, h2⟩ := u8_rng wx2
  obtain ⟨b3, rfl, h3⟩ := u8_rng wx3
  refine (frameTails_main w a0 len0 cap0 (min len0 600) b0 b1 b2 b3 P hP hmax ht (by omega) (by omega) (by omega) h0 h1 h2 h3).mono ?_
  rintro e w' ⟨rfl, hf⟩
  exact ⟨rfl, hf.below (Nat.le_refl _) (fun _ _ => id)⟩

theorem laidOut : laidOutB Tryd.prog = true := by kernel_rfl

set_option maxRecDepth 100000 in
theorem frameTails_lifted (os : Os) (started : os.Started) (H : Type) (enc : TypeId × Value → H) :
    ReturnsInHanded {} Tryd.checked os 3 .any (fun w args => (Rows.frameTailsSpec.pre enc Tryd.prog Tryd.f3 [] false w args ∧ laidMetH Tryd.prog laid1 w) ∧ sizedMet enc Tryd.prog Tryd.f3 (OpenSpec.ofChange Rows.frameTailsSpec) false w args) (Rows.frameTailsSpec.post enc Tryd.prog Tryd.f3 false true false false) := by
  refine returnsInHanded_of_change_and (C := Tryd.checked) (X := fun w _ => laidMetH Tryd.prog laid1 w) (fun _ _ _ hh h => h.of_heap hh) own started (by kernel_rfl) Tryd.func3
    (ChangeSpec.witness_shaped (enc := enc) (C := Tryd.checked) (os := os) (X := fun w _ => laidMetH Tryd.prog laid1 w) false (World.doorLaid Tryd.prog 400 os) #[.slice none 0 0, .agg #[.int .u8 0, .int .u8 0, .int .u8 0, .int .u8 0]] 8 rfl (World.shaped_of_RefB (by kernel_rfl) (by kernel_rfl)) (by kernel_rfl) (by kernel_rfl) (by kernel_rfl) (door_met os _)) ?_
  intro W base args ds gs before hval0 hW _ _ hL _
  have hval : ∀ (j : Nat) t v, Tryd.f3.params[j]? = some t → args[j]? = some v → Value.okWide Tryd.prog W .any base t v := hval0
  have hW' := hW
  obtain ⟨p, q, hA0, hV, rfl, hfz, hnd⟩ := hW
  have hA : DataW.TrodAll enc Tryd.prog W 0 (fun _ => true) true Tryd.f3.params.toList args.toList ds p := hA0
  rw [Tryd.params3] at hA hval
  obtain ⟨v0, vs0, d0, ds0, p0, q0, hargs, rfl, rfl, h0, r0⟩ := trodAll_cons hA
  obtain ⟨v1, vs1, d1, ds1, p1, q1, rfl, rfl, rfl, h1, r1⟩ := trodAll_cons r0
  obtain ⟨rfl, rfl, rfl⟩ := trodAll_nil r1
  obtain rfl : args = #[v0, v1] := by cases args; simp_all
  obtain ⟨rfl, rfl⟩ := trodVars_none hV
  obtain ⟨a0, len0, cap0, rfl⟩ := okWide_slice Tryd.underlying22 (hval 0 22 v0 rfl rfl)
  have k0 := h0
  have lt0 : ∀ x ∈ p0, x.block < W.heap.size := by obtain ⟨m, hm⟩ := k0; exact DataW.trod_lt m _ _ _ hm
  obtain ⟨z0, w0⟩ : ∃ zs, IsRow .u8 W a0 len0 cap0 zs := by
    obtain ⟨fuel, hf⟩ := h0
    rcases open_ints Tryd.underlying22 Tryd.underlying5 (by kernel_rfl) hf with ⟨hcs, _⟩ | ⟨x, l, c, zs, hcs, _, hl, hm, hz, _, hcell, hwz⟩
    · simp [Value.cells] at hcs
      obtain ⟨rfl, rfl, rfl⟩ := hcs
      exact ⟨[], .inl ⟨rfl, rfl, rfl, rfl⟩⟩
    · simp [Value.cells] at hcs
      obtain ⟨rfl, rfl, rfl⟩ := hcs
      exact ⟨zs, .inr ⟨_, rfl, hl, hm, by simpa using hz, hcell, hwz⟩⟩
  obtain ⟨cs1, rfl, hsz1, _⟩ : ∃ cs, v1 = .agg cs ∧ cs.size = Tryd.prog.cellsOf 23 ∧ Row.okWide Tryd.prog W .any base 23 cs := by
    have := hval 1 23 v1 rfl rfl
    simpa [Value.okWide, Tryd.underlying23] using this
  rw [cellsA4] at hsz1
  obtain ⟨ls1⟩ := cs1
  obtain ⟨cc0, cc1, cc2, cc3, rfl⟩ := list4 ls1 hsz1
  obtain ⟨fuel1, hf1⟩ := h1
  obtain ⟨y0, y1, y2, y3, mm, hxx, hy0, hy1, hy2, hy3⟩ := trod_array4 Tryd.underlying23 cellsB hf1
  obtain ⟨x0, e0, rfl, wx0⟩ := DataW.trod_int Tryd.underlying5 hy0
  obtain ⟨x1, e1, rfl, wx1⟩ := DataW.trod_int Tryd.underlying5 hy1
  obtain ⟨x2, e2, rfl, wx2⟩ := DataW.trod_int Tryd.underlying5 hy2
  obtain ⟨x3, e3, rfl, wx3⟩ := DataW.trod_int Tryd.underlying5 hy3
  simp at e0 e1 e2 e3
  subst e0 e1 e2 e3
  simp only [Prod.mk.injEq] at hxx
  obtain ⟨rfl, rfl⟩ := hxx
  clear hA0 hval0
  refine (frameTails_walk W (of_laid hL) a0 len0 cap0 z0 w0 x0 wx0 x1 wx1 x2 wx2 x3 wx3).mono fun e W' ⟨he, bel⟩ => ?_
  subst he
  exact ⟨_, rfl, _, _, _, [], _, [], hW', trodAll_mk1 (shut_bool Tryd.underlying4 _), (trodAll_cons_mk (Below.trod laidOut (by kernel_rfl) (of_decide_eq_true (by kernel_rfl)) k0 bel lt0) (trodAll_cons_mk (shutA4 wx0 wx1 wx2 wx3) trodAll_mk0)), rfl, bel.frame _, fun h => by cases h⟩

theorem frameTails_row : Rows.FrameTailsSaid :=
  OpenClaim.holds_of_wide 3 Tryd.f3 rfl rfl rfl rfl rfl rfl rfl ⟨rfl, rfl, rfl, rfl, rfl⟩ rfl rfl rfl rfl rfl (by kernel_rfl) Tryd.func3 (by kernel_rfl)
    (of_decide_eq_true (by kernel_rfl)) (by unfold Func.isWrapper; first | (rw [if_pos (by decide +kernel)]; kernel_rfl) | (rw [if_neg (by decide +kernel)]; exact ⟨rfl, rfl⟩))
    (fun os started H enc _ => frameTails_lifted os started H enc)

theorem frameTails_holds : Rows.FrameTailsCardSaid :=
  Claim7.holds_tied_plain_at .later [] [.data] true (true, "dec59169f585f21dea87d57e23b1a6835c7e44cfaf5a923f3719595148438593") false
    frameTails_row (fun _ h => by cases h) (by kernel_rfl) (fun _ h => by cases h) frameTails_row_tie rfl ⟨rfl, rfl⟩ (by kernel_rfl) rfl
    (fun f fn hf hfn => by
      obtain rfl : f = 3 := Option.some.inj ((show Tryd.prog.funcNamed "pinnace/pinnacelaw03.FrameTails" = some 3 by kernel_rfl).symm.trans hf) |>.symm
      obtain rfl : fn = Tryd.f3 := (Option.some.inj (Tryd.func3.symm.trans hfn)).symm
      exact ⟨by kernel_rfl, fun j t ht => by
        rw [Tryd.params3] at ht
        have hm : t ∈ [22, 23] := by simpa using Array.mem_of_getElem? ht
        have hall : ([22, 23].all fun u => !Tryd.prog.wantsStandIn u) = true := by kernel_rfl
        exact (show Tryd.prog.wantsStandIn t = false by simpa using List.all_eq_true.1 hall t hm)⟩)
    (by kernel_rfl)

end Go.Proofs.YtekdjebehieekabDoor
