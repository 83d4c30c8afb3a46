/-
  The document's Turned; datagrams alike; awake.
-/
import Derived.Test.YtiphkndahoageaaNtj
import Derived.Test.YtiphkndahoageaaNtg
namespace Go.Proofs.Ytiphkndahoageaa
open Go.RowKit
set_option linter.unusedVariables false

theorem Own.boNew {w0 w w' : World} {l : List Thing} {v : Value} {L : List Bool} (h : Own w0 w l) (hb : Bo w.heap.size w' v L) (hf : Fr Nobody w w') : Own w0 w' (Row 4 1 v L.length (brow L) :: l) :=
  h.new (Row 4 1 v L.length (brow L)) (fun k => v.ownBlock = some k) ⟨row_low hb (Nat.zero_le _), fun _ => Iff.rfl⟩ hf (fun k hk => (World.ownsRow.lt hb k hk).1)
theorem BytesAt.of_row {w : World} {ao : Option Addr} {cap : Nat} {P : List Nat} (h : w.ownsRow 0 5 1 (.slice ao P.length cap) P.length (vrow P)) : BytesAt w ao P := by
  rcases h.2 with ⟨_, h0⟩ | ⟨g, c, cur, hv, _⟩
  · exact .inl (List.eq_nil_of_length_eq_zero h0)
  · obtain ⟨rfl, _, rfl⟩ := Value.slice.inj hv
    refine .inr ⟨g, 0, rfl, fun j x hx => ?_⟩
    have hj := (List.getElem?_eq_some_iff.1 hx).1
    rw [Nat.zero_add, h.cellAt j (by omega), getElem?_vrow, hx]; rfl

set_option maxHeartbeats 2000000 in
set_option maxRecDepth 100000 in
theorem rturned_any (w0 w : World) (l : List Thing) (h : Own w0 w l) (ao : Option Addr) (cap n : Nat) (P : List Nat) (hn : P.length = n) (hs : BytesAt w ao P) (hL : n ≤ 10000) (hb : ∀ x ∈ P, x < 256) (t : Int) (ht0 : -9223372036854775808 ≤ t) (ht1 : t ≤ 9223372036854775807) (pat : Nat) (hpat : pat < 4294967296) :
    Calls Try.prog 20 #[.slice ao n cap, .int .i64 t, .int .u32 (pat : Int)] w fun e w' => ∃ a2 c2, e = .returned (.slice a2 n c2) ∧ Own w0 w' (Row 5 1 (.slice a2 n c2) n (vrow (tun P t pat 32)) :: l) := by
  have HB : Hid (Calls _ _ _ _ _) := rbits_any w ao cap n P hs hn hb hL
  have HP : Hid (P.length = n ∧ ∀ x ∈ P, x < 256) := ⟨hn, hb⟩
  have H0 : Hid (Own w0 w l) := h
  clear h hs hn hb
  go_enter Try.func20, Try.ntmps20
  go_wp2_with fail
  refine HB.out.mono ?_
  rintro e w1 ⟨v1, rfl, hbo, hf⟩
  have hO := H0.out.boNew hbo hf
  clear hbo hf HB H0
  obtain ⟨la, lc, rfl⟩ := row_any hO.row
  have H1 : Hid (Own w0 w1 _) := hO
  have hBl : (bitsB P).length = 8 * n := by rw [length_bitsB, HP.out.1]
  obtain ⟨N, hN⟩ : ∃ N, N = (bitsB P).length := ⟨_, rfl⟩
  have HN : Hid (N = (bitsB P).length) := hN
  rw [← hN] at H1
  rw [← hN] at hBl
  have HBL : Hid (N = 8 * n) := hBl
  have hN8 : N ≤ 80000 := by omega
  clear hO hBl
  rw [← hN]
  clear hN
  go_wp2
  go_loopw [14] (fun c wr => ∃ (k : Nat), k ≤ N ∧ c = .int .i64 k ∧ Own w0 wr (Row 4 1 (.slice la N lc) N (brow (turB (bitsB P) t pat k)) :: l)) (fun c wr => N - (intOf c).toNat)
  case atStart => exact ⟨0, by omega, rfl, by rw [turB_zero]; exact H1.out⟩
  case round =>
    obtain ⟨k, hk, rfl, hO⟩ := hrel
    by_cases hlt : k < N
    · obtain ⟨b, hbk⟩ : ∃ b, (bitsB P)[k]? = some b := ⟨_, List.getElem?_eq_getElem (by rw [← HN.out]; exact hlt)⟩
      have hlt' : (k : Int) < (N : Int) := by omega
      by_cases hin : t ≤ (k : Int) ∧ (k : Int) < t + 32
      · obtain ⟨d, hd⟩ : ∃ d : Nat, (k : Int) - t = (d : Int) := ⟨((k : Int) - t).toNat, by omega⟩
        have hw : IntKind.i64.wrap ((k : Int) - t) = (d : Int) := by rw [hd]; exact wrap_in _ (by omega)
        have hd32 : d < 32 := by omega
        have hle : t ≤ (k : Int) := hin.1
        have h2 : (pat : Int) / 2 ^ d = ((pat / 2 ^ d : Nat) : Int) := by simp
        have hq : pat / 2 ^ d < 4294967296 := Nat.lt_of_le_of_lt (Nat.div_le_self _ _) hpat
        by_cases hbit : pat / 2 ^ d % 2 = 1
        · have hh : hit t pat 32 k = true := by unfold hit; rw [hd]; simp [hbit]; omega
          have HT : Hid (turB (bitsB P) t pat (k + 1) = (turB (bitsB P) t pat k).set k (!b)) := turB_on _ _ _ _ b hbk hh
          have hb3 : ((pat / 2 ^ d : Nat) : Int) % 2 = 1 := by omega
          obtain ⟨g, gc, hv, _⟩ := row_shape hO.row (by omega)
          obtain ⟨rfl, _, rfl⟩ := Value.slice.inj hv
          have cx : wr.cell? ⟨g, k, none⟩ = some (.bool b) := by
            rw [hO.row.cellAt _ (by omega), getElem?_brow, turB_at, hbk]; rfl
          have fx : wr.frozen? ⟨g, k, none⟩ = false := hO.row.frozenAt _
          have H2 : Hid (Own w0 wr _) := hO
          clear hO hin hd hbit hh hbk HP H1
          generalize pat / 2 ^ d = p at *
          go_wp2
          refine ⟨⟨k + 1, by omega, by go_num, ?_⟩, by simp [intOf]; omega⟩
          rw [HT.out, brow_set]
          exact H2.out.setR k _
        · have hh : hit t pat 32 k = false := by unfold hit; rw [hd]; simp [hbit]
          have HT : Hid (turB (bitsB P) t pat (k + 1) = turB (bitsB P) t pat k) := turB_off _ _ _ _ hh
          have hb3 : ((pat / 2 ^ d : Nat) : Int) % 2 = 0 := by omega
          have H2 : Hid (Own w0 wr _) := hO
          clear hO hin hd hbit hh hbk HP H1
          generalize pat / 2 ^ d = p at *
          go_wp2
          exact ⟨⟨k + 1, by omega, by go_num, by rw [HT.out]; exact H2.out⟩, by simp [intOf]; omega⟩
      · have hh : hit t pat 32 k = false := by unfold hit; rw [decide_eq_false (fun q => hin ⟨q.1, by simpa using q.2⟩)]; rfl
        have HT : Hid (turB (bitsB P) t pat (k + 1) = turB (bitsB P) t pat k) := turB_off _ _ _ _ hh
        have hw : ∃ B : Int, IntKind.i64.wrap ((k : Int) - t) = B ∧ (B < 0 ∨ (0 ≤ B ∧ 32 ≤ B)) := by
          by_cases c : (k : Int) - t < 9223372036854775808
          · exact ⟨(k : Int) - t, wrap_in _ (by omega), by omega⟩
          · exact ⟨(k : Int) - t - 18446744073709551616, wrap_high _ (by omega) (by omega), by omega⟩
        obtain ⟨B, hw, hB⟩ := hw
        have H2 : Hid (Own w0 wr _) := hO
        clear hO hin hh hbk HP H1
        rcases hB with hB | ⟨hB, hB2⟩
        · have hB3 : ¬ 0 ≤ B := by omega
          go_wp2
          exact ⟨⟨k + 1, by omega, by go_num, by rw [HT.out]; exact H2.out⟩, by simp [intOf]; omega⟩
        · have hB3 : ¬ B < 32 := by omega
          go_wp2
          exact ⟨⟨k + 1, by omega, by go_num, by rw [HT.out]; exact H2.out⟩, by simp [intOf]; omega⟩
    · have e : k = N := by omega
      subst e
      have hr := hO.row
      have hbs : Bs wr (.slice la k lc) (bitsB (tun P t pat 32)) := by
        have e2 : turB (bitsB P) t pat k = bitsB (tun P t pat 32) := by rw [HN.out]; exact turB_all P t pat
        rw [e2] at hr
        have e3 : (bitsB (tun P t pat 32)).length = k := by rw [length_bitsB, length_tun, HP.out.1]; exact HBL.out.symm
        rw [← e3] at hr ⊢
        exact Bs.of_row hr
      have HBy : Hid (Calls _ _ _ _ _) := rbytes_any wr (.slice la k lc) (bitsB (tun P t pat 32)) hbs (by rw [length_bitsB, length_tun, HP.out.1]; omega)
      have hlt' : ¬ (k : Int) < (k : Int) := by omega
      have HQ : Hid (nb (bitsB (tun P t pat 32)).length = n ∧ pack (bitsB (tun P t pat 32)) = tun P t pat 32) := by
        refine ⟨?_, pack_bitsB _ (tun_byte _ _ _ _ HP.out.2)⟩
        rw [length_bitsB, length_tun, HP.out.1]; unfold nb; omega
      have H2 : Hid (Own w0 wr _) := hO.tail
      clear hO hr hbs HP H1 HN
      go_wp2_with fail
      refine HBy.out.mono ?_
      rintro e w2 ⟨v2, rfl, hp1, hp2, hp3⟩
      rw [HQ.out.1, HQ.out.2] at hp1
      obtain ⟨a2, c2, rfl⟩ := row_any hp1
      have H3 : Hid (Own w0 w2 (Row 5 1 (.slice a2 n c2) n (vrow (tun P t pat 32)) :: l)) := H2.out.new (Row 5 1 (.slice a2 n c2) n (vrow (tun P t pat 32))) (fun q => (Value.slice a2 n c2).ownBlock = some q) ⟨hp1, fun _ => Iff.rfl⟩ hp2 hp3
      clear hp1 hp2 hp3 HBy H2
      go_wp2
      go_ret
      exact ⟨a2, c2, rfl, H3.out⟩
end Go.Proofs.Ytiphkndahoageaa
