/-
  Package net: Turned.
-/
import Derived.Test.YtiphkndahoageaaNtd
import Derived.Test.YtiphkndahoageaaNte
namespace Go.Proofs.Ytiphkndahoageaa
open Go.RowKit
set_option linter.unusedVariables false

theorem wrap_in (n : Int) (h : -9223372036854775808 ≤ n ∧ n ≤ 9223372036854775807) : IntKind.i64.wrap n = n := by rw [IntKind.wrap_i64]; omega
theorem wrap_high (n : Int) (h0 : 9223372036854775808 ≤ n) (h1 : n ≤ 18446744073709551615) : IntKind.i64.wrap n = n - 18446744073709551616 := by rw [IntKind.wrap_i64]; omega
set_option maxHeartbeats 2000000 in
set_option maxRecDepth 100000 in
theorem turned_any (w0 w : World) (l : List Thing) (h : Own w0 w l) (v : Value) (n : Nat) (P : List Nat) (hn : P.length = n) (hs : Src w v n (vrow P)) (hL : n ≤ 1000000) (hb : ∀ x ∈ P, x < 256) (t : Int) (ht0 : -9223372036854775808 ≤ t) (ht1 : t ≤ 9223372036854775807) (pat : Nat) (hpat : pat < 4294967296) (hv : ∃ va vc, v = .slice va n vc) :
    Calls Try.prog 24 #[v, .int .i64 t, .int .u32 (pat : Int)] w fun e w' => ∃ ao cap, e = .returned (.slice ao n cap) ∧ Own w0 w' (Row 5 1 (.slice ao n cap) n (vrow (tun P t pat 32)) :: l) := by
  obtain ⟨va, vc, rfl⟩ := hv
  have HC : Hid (Calls _ _ _ _ _) := cloneT w0 w l h _ n P hn hs (by omega)
  have HP : Hid (P.length = n ∧ ∀ x ∈ P, x < 256) := ⟨hn, hb⟩
  clear h hs hn hb
  go_enter Try.func24, Try.ntmps24
  go_wp2_with fail
  refine HC.out.mono ?_
  rintro e w1 ⟨ao, cap, rfl, hO, hf⟩
  have H1 : Hid (Own w0 w1 _) := hO
  clear hO hf HC
  go_wp2
  go_loopw [12] (fun c wr => ∃ (k : Nat), k ≤ 32 ∧ c = .int .i64 k ∧ Own w0 wr (Row 5 1 (.slice ao n cap) n (vrow (tun P t pat k)) :: l)) (fun c wr => 32 - (intOf c).toNat)
  case atStart => exact ⟨0, by omega, rfl, H1.out⟩
  case round =>
    obtain ⟨k, hk, rfl, hO⟩ := hrel
    by_cases hlt : k < 32
    · have hand : bits .and .u32 ((pat : Int) / 2 ^ k) 1 = ((pat / 2 ^ k % 2 : Nat) : Int) := by
        have h1 : pat / 2 ^ k < 4294967296 := Nat.lt_of_le_of_lt (Nat.div_le_self _ _) hpat
        have h2 : (pat : Int) / 2 ^ k = ((pat / 2 ^ k : Nat) : Int) := by simp
        have h3 := u32_and_nat (pat / 2 ^ k) 1 h1 (by decide)
        rw [Nat.and_one_is_mod] at h3
        rw [h2]; exact h3
      by_cases hbit : pat / 2 ^ k % 2 = 1
      · rw [hbit] at hand
        by_cases hin : 0 ≤ t + k ∧ t + k < 8 * n
        · obtain ⟨j, hj⟩ : ∃ j : Nat, t + k = (j : Int) := ⟨(t + k).toNat, by omega⟩
          have hw : IntKind.i64.wrap (t + (k : Int)) = (j : Int) := by rw [hj]; exact wrap_in _ (by omega)
          have HT : Hid (tun P t pat (k + 1) = flp (tun P t pat k) j) := by
            show _ = _
            rw [tun, if_pos ⟨hbit, by omega, by rw [HP.out.1]; omega⟩, hj]; rfl
          obtain ⟨g, gc, hg, _⟩ := row_shape hO.row (by omega)
          obtain ⟨rfl, _, rfl⟩ := Value.slice.inj hg
          have hQ : (tun P t pat k).length = n := by rw [length_tun, HP.out.1]
          have hQb := tun_byte P t pat k HP.out.2
          generalize tun P t pat k = Q at *
          have hj8 : j / 8 < n := by omega
          have hx : Q[j / 8]? = some Q[j / 8] := List.getElem?_eq_getElem (by omega)
          have hx2 := hQb Q[j / 8] (List.getElem_mem _)
          have cx : wr.cell? ⟨g, j / 8, none⟩ = some (.int .u8 ((Q[j / 8] : Nat) : Int)) := by
            rw [hO.row.cellAt _ (by omega), getElem?_vrow, hx]; rfl
          have fx : wr.frozen? ⟨g, j / 8, none⟩ = false := hO.row.frozenAt _
          have HX : Hid (flp Q j = Q.set (j / 8) (Q[j / 8] ^^^ 2 ^ (j % 8))) := by
            show _ = _
            unfold flp; rw [hx]; rfl
          generalize Q[j / 8] = x at *
          have HV : Hid (bits .xor .u8 (x : Int) (2 ^ (j % 8) % 256) = ((x ^^^ 2 ^ (j % 8) : Nat) : Int)) := by
            show _ = _
            have h1 : 2 ^ (j % 8) < 2 ^ 8 := Nat.pow_lt_pow_right (by decide) (by omega)
            have h2 : (2 : Int) ^ (j % 8) % 256 = ((2 ^ (j % 8) : Nat) : Int) := by
              have : ((2 : Int) ^ (j % 8)) = ((2 ^ (j % 8) : Nat) : Int) := by simp
              rw [this]; exact Int.emod_eq_of_lt (Int.natCast_nonneg _) (Int.ofNat_lt.2 h1)
            rw [h2]
            exact u8_xor_nat x _ hx2 h1
          have H2 : Hid (Own w0 wr _) := hO
          have hj2 : (j : Int) < 8 * n := by omega
          clear hO hj hin hbit hQ hQb hx HP H1
          go_wp2
          go_region
          all_goals
            go_wp2
            refine ⟨⟨k + 1, by omega, by go_num, ?_⟩, by simp [intOf]; omega⟩
            rw [HT.out, HX.out, vrow_set, ← HV.out]
            exact H2.out.drew.setR (j / 8) _
        · have HT : Hid (tun P t pat (k + 1) = tun P t pat k) := by
            show _ = _
            rw [tun, if_neg (fun q => hin ⟨q.2.1, by rw [HP.out.1] at q; exact q.2.2⟩)]
          have hw : ∃ B : Int, IntKind.i64.wrap (t + (k : Int)) = B ∧ B ≤ 9223372036854775807 ∧ (B < 0 ∨ (0 ≤ B ∧ 8 * (n : Int) ≤ B)) := by
            by_cases c : t + k < 9223372036854775808
            · exact ⟨t + k, wrap_in _ (by omega), by omega⟩
            · exact ⟨t + k - 18446744073709551616, wrap_high _ (by omega) (by omega), by omega⟩
          obtain ⟨B, hw, hB9, hB⟩ := hw
          have H2 : Hid (Own w0 wr _) := hO
          clear hO hin hbit HP H1
          rcases hB with hB | ⟨hB, hB2⟩
          · go_wp2
            exact ⟨⟨k + 1, by omega, by go_num, by rw [HT.out]; exact H2.out⟩, by simp [intOf]; omega⟩
          · obtain ⟨j, rfl⟩ : ∃ j : Nat, B = (j : Int) := ⟨B.toNat, by omega⟩
            have hB3 : ¬ (j : Int) / 8 < (n : Int) := by omega
            have hB4 : (n : Int) ≤ (j : Int) / 8 := by omega
            go_wp2
            exact ⟨⟨k + 1, by omega, by go_num, by rw [HT.out]; exact H2.out⟩, by simp [intOf]; omega⟩
      · have h0 : pat / 2 ^ k % 2 = 0 := by omega
        rw [h0] at hand
        have HT : Hid (tun P t pat (k + 1) = tun P t pat k) := by
          show _ = _
          rw [tun, if_neg (fun q => hbit q.1)]
        have H2 : Hid (Own w0 wr _) := hO
        clear hO hbit HP H1
        go_wp2
        exact ⟨⟨k + 1, by omega, by go_num, by rw [HT.out]; exact H2.out⟩, by simp [intOf]; omega⟩
    · have e : k = 32 := by omega
      subst e
      have H2 : Hid (Own w0 wr _) := hO
      clear hO
      go_wp2
      go_ret
      exact ⟨ao, cap, rfl, H2.out⟩
end Go.Proofs.Ytiphkndahoageaa
