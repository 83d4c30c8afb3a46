/-
  The document's side of layer 2: Width and In; appending one list of bits to another.
-/
import Derived.Test.YtllhipfielgnbaaDoorRc
import Derived.Test.YtllhipfielgnbaaDoorNe
namespace Go.Proofs.YtllhipfielgnbaaDoor
open Go.RowKit
set_option linter.unusedVariables false
set_option maxRecDepth 100000

theorem bitLen0 : Lib.bitLen 0 = 0 := by decide +kernel

set_option maxHeartbeats 1000000 in
theorem rwidth_any (lo hi : Int) (w : World) (h0 : -9223372036854775808 ≤ lo) (h1 : hi ≤ 9223372036854775807) (h2 : lo ≤ 9223372036854775807) (h3 : -9223372036854775808 ≤ hi) :
    Calls Tryd.prog 45 #[.int .i64 lo, .int .i64 hi] w fun e w' => e = .returned (.int .i64 (wid lo hi : Nat)) ∧ w' = w := by
  by_cases h : hi < lo
  · have e0 : wid lo hi = 0 := by unfold wid; rw [if_pos h]
    rw [e0]
    go_enter Tryd.func45, Tryd.ntmps45
    go_wp2
    go_ret
    exact ⟨rfl, rfl⟩
  · have e0 : wid lo hi = Lib.bitLen (hi - lo).toNat := by unfold wid; rw [if_neg h]
    obtain ⟨d, hd⟩ : ∃ d : Nat, d = (hi - lo).toNat := ⟨_, rfl⟩
    rw [e0, ← hd]
    have hd2 : d < 18446744073709551616 := by omega
    have hq : IntKind.u64.wrap (IntKind.u64.wrap hi - IntKind.u64.wrap lo) = (d : Int) := by simp only [wrapU]; omega
    have hb := bitLen_64 d hd2
    clear e0 hd
    generalize hl : Lib.bitLen d = l at *
    have HL : Hid (Lib.bitLen d = l) := hl
    clear hl
    go_enter Tryd.func45, Tryd.ntmps45
    go_wp2
    clear hq
    go_loopw [5, 6] (fun c xv wr => ∃ k y : Nat, c = .int .i64 k ∧ xv = .int .u64 y ∧ k + Lib.bitLen y = l ∧ y < 18446744073709551616 ∧ wr = w) (fun _ xv _ => (intOf xv).toNat)
    case atStart => exact ⟨0, d, rfl, rfl, by rw [HL.out]; omega, hd2, rfl⟩
    case round =>
      obtain ⟨k, y, rfl, rfl, hy, hy2, rfl⟩ := hrel
      have HY : Hid (k + Lib.bitLen y = l) := hy
      have hkl : k ≤ l := by omega
      clear hy
      by_cases hpos : 0 < y
      · have HY2 : Hid (k + 1 + Lib.bitLen (y / 2) = l) := by
          have := Lib.bitLen_half y (by omega) hy2
          have := HY.out
          show _ = _; omega
        go_wp2
        go_roundw
        case rel => exact ⟨k + 1, y / 2, by go_num, by go_num, HY2.out, by omega, trivial⟩
        case measure => simp [intOf]; omega
      · have hy0 : y = 0 := by omega
        subst hy0
        have hkl2 : k = l := by have := HY.out; rw [bitLen0] at this; omega
        go_wp2
        go_ret
        exact ⟨ret_int (by omega), rfl⟩

set_option maxHeartbeats 400000 in
theorem rin_arg (n lo hi : Int) (w : World) (h : hi < lo) : Calls Tryd.prog 28 #[.int .i64 n, .int .i64 lo, .int .i64 hi] w fun e w' => e = .returned (.tuple #[.slice none 0 0, .int .i64 1]) ∧ w' = w := by
  go_enter Tryd.func28, Tryd.ntmps28
  go_wp2
  go_ret2
  exact ⟨rfl, rfl⟩
set_option maxHeartbeats 400000 in
theorem rin_range (n lo hi : Int) (w : World) (h : lo ≤ hi) (hn : n < lo ∨ hi < n) : Calls Tryd.prog 28 #[.int .i64 n, .int .i64 lo, .int .i64 hi] w fun e w' => e = .returned (.tuple #[.slice none 0 0, .int .i64 5]) ∧ w' = w := by
  rcases hn with hn | hn
  · go_enter Tryd.func28, Tryd.ntmps28
    go_wp2
    go_ret2
    exact ⟨rfl, rfl⟩
  · have hn' : ¬ n < lo := by omega
    go_enter Tryd.func28, Tryd.ntmps28
    go_wp2
    go_ret2
    exact ⟨rfl, rfl⟩
set_option maxHeartbeats 400000 in
theorem rin_ok (n lo hi : Int) (d : Nat) (w : World) (hd : n = lo + (d : Int)) (h0 : -9223372036854775808 ≤ lo) (h1 : hi ≤ 9223372036854775807) (ha : lo ≤ n) (hb : n ≤ hi) :
    Calls Tryd.prog 28 #[.int .i64 n, .int .i64 lo, .int .i64 hi] w fun e w' => ∃ v, e = .returned (.tuple #[v, .int .i64 0]) ∧ Bo w.heap.size w' v (bitsN (wid lo hi) d) ∧ Fr Nobody w w' := by
  have hle : lo ≤ hi := by omega
  have ed : (n - lo).toNat = d := by omega
  have hq : IntKind.u64.wrap (IntKind.u64.wrap n - IntKind.u64.wrap lo) = (d : Int) := by simp only [wrapU]; omega
  have HI : d < 2 ^ wid lo hi := ed ▸ in_lt n lo hi h0 h1 ha hb
  have HW : wid lo hi ≤ 64 := wid_le lo hi h0 h1
  have hdl : d < 18446744073709551616 := by omega
  have e1 : d / 2 ^ wid lo hi = 0 := Nat.div_eq_of_lt HI
  have e2 : rputE [] d (wid lo hi) = 0 := by unfold rputE; rw [if_pos e1, if_pos (by simp; omega)]
  have e3 : rputL [] d (wid lo hi) = bitsN (wid lo hi) d := by unfold rputL; rw [if_pos ⟨e1, by simp; omega⟩]; rfl
  have G : Hid _ := fun w => rput_own w.heap.size w (.slice none 0 0) [] d (wid lo hi) (Bo.nil _ _) (Nat.le_refl _) (by decide) hdl HW
  have G2 : Hid _ := fun w => rwidth_any lo hi w h0 h1 (by omega) (by omega)
  rw [e2, e3] at G
  generalize wid lo hi = m at *
  clear ed HI HW e1 e2 e3 hd
  go_enter Tryd.func28, Tryd.ntmps28
  go_wp2_with fail
  refine (G2.out _).mono ?_
  rintro e w' ⟨rfl, rfl⟩
  go_wp2_with fail
  refine (G.out _).mono ?_
  rintro e w1 ⟨v, rfl, hO, hf⟩
  go_wp2
  go_ret2
  exact ⟨v, rfl, hO, hf⟩

/-- 'l = append(l, in...)', both lists of bits -/
theorem append_bits {w : World} {ops : Array Oper} {rest : List Oper} {o : Oper} {a : Act} {Q : Exit → Act → World → Prop} (hgd : o.guard = none) (s x : Operand)
    (ho : o.op = .call { callee := .builtin .append, args := #[s, x], argTypes := #[27, 27] }) (B : Nat) (v u : Value) (L M : List Bool) (h : Bo B w v L) (hM : Bs w u M) (hL : L.length ≤ 100000000) (hM2 : M.length ≤ 100000000) (hB : B ≤ w.heap.size)
    (hs : a.eval s = v) (hx : a.eval x = u)
    (hK : ∀ v' w', Bo B w' v' (L ++ M) → w.grownBy w' v.ownBlock → wpList Tryd.prog ops Q rest (a.put o.dst v') w') :
    wpList Tryd.prog ops Q (o :: rest) a w := by
  obtain ⟨i0, hi, hz0, hz1, hz2⟩ := info_parts Tryd.infoBool
  rcases hM with ⟨rfl, rfl⟩ | ⟨g, off, cap, cur, rfl, hn, hg, hc⟩
  · refine wpList_plain hgd fun K hK' => ?_
    have hr := run_append_owned_none (P := Tryd.prog) w B 27 o.type 4 i0 1 Tryd.underlying27 hi v L.length (brow L) h
    unfold Oper.wp
    simp [execOp, ho, resolve, invoke, builtin, hs, hx, hr, Result.andThen]
    exact hK' _ _ (hK v w (by simpa using h) ⟨rfl, rfl, rfl, Nat.le_refl _, fun _ _ _ => rfl⟩)
  · refine wpList_append_own w hgd s x 27 ho B 4 i0 (.bool false) 1 1 Tryd.underlying27 hi hz0 hz1 hz2 rfl (by decide) v L.length (brow L) hs h ⟨g, off, none⟩ M.length cap (brow M) hx (by rw [length_brow]; omega) ?_ (one_brow M) (by unfold maxLen; omega) (by omega) hB ?_
    · intro j u hu
      rw [addr_add, cell_of_row w g _ cur 4 (0, 0) hg]
      exact hc j u hu
    · intro v' w' ho' hg' _
      refine hK v' w' ?_ hg'
      unfold Bo
      rw [brow_append, List.length_append]
      exact ho'
/-- a list's row turns: a writer stays -/
theorem Ow.grown {w0 w w' : World} {b : Nat} {M L : List Bool} {v : Value} (h : Ow w0 w b M) (hv : Bo w0.heap.size w v L) (hg : w.grownBy w' v.ownBlock) : Ow w0 w' b M := by
  obtain ⟨g, hW, hF⟩ := h
  have hfr : Fr (fun k => v.ownBlock = some k) w w' := Fr.grown (S := fun k => v.ownBlock = some k) (Fr.refl _ w) hg (fun k hk => .inl hk)
  have hap : ∀ k, At b g k → ¬ v.ownBlock = some k := by
    intro k hk e
    rcases hv.2 with ⟨rfl, _⟩ | ⟨g', cap, cur, rfl, _, hgg, _⟩
    · simp [Value.ownBlock] at e
    · simp [Value.ownBlock] at e
      subst e
      exact hW.apart _ cur hgg hk
  refine ⟨g, hW.keep hfr (hap b (.inl rfl)) (fun k hk => hap k (.inr hk.symm)), hF.fresh hfr (fun k hk => (World.ownsRow.lt hv k hk).1)⟩

end Go.Proofs.YtllhipfielgnbaaDoor
