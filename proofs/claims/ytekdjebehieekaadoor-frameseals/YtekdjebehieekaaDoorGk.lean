/-
  The document's Seal and Open.
-/
import Derived.Test.YtekdjebehieekaaDoorGj
namespace Go.Proofs.YtekdjebehieekaaDoor
open Go.RowKit
set_option linter.unusedVariables false

theorem cell_le4 (w : World) (t : TypeId) (b0 b1 b2 b3 : Nat) : ∀ j u, (vrow [b0, b1, b2, b3])[j]? = some u → (w.alloc (.cells #[.int .u8 (b0 : Int), .int .u8 (b1 : Int), .int .u8 (b2 : Int), .int .u8 (b3 : Int)] t)).cell? ((⟨w.heap.size, 0, none⟩ : Addr).add j) = some u := by
  intro j u hu
  rw [addr_add, Nat.zero_add, cell_of_row _ _ _ _ _ _ (heap_alloc_new w _)]
  have e : (#[Value.int .u8 (b0 : Int), .int .u8 (b1 : Int), .int .u8 (b2 : Int), .int .u8 (b3 : Int)] : Array Value) = (vrow [b0, b1, b2, b3]).toArray := rfl
  rw [e, List.getElem?_toArray, hu]

set_option maxHeartbeats 1000000 in
set_option maxRecDepth 100000 in
theorem rseal_ok (w : World) (ao : Option Addr) (cap len : Nat) (P : List Nat) (h : In w ao len cap P) (hL : len ≤ 4096) :
    Calls Tryd.prog 15 #[.slice ao len cap] w fun e w' => ∃ g cp, e = .returned (.tuple #[.slice (some ⟨g, 0, none⟩) (len + 4) cp, .int .i64 0]) ∧ w'.ownsRow w.heap.size 5 1 (.slice (some ⟨g, 0, none⟩) (len + 4) cp) (len + 4) (vrow (frm P)) ∧ Fr Nobody w w' := by
  obtain ⟨i0, hi, hz0, hz1, hz2⟩ := info_parts Tryd.infoB
  have HI : Hid (In w ao len cap P) := h
  clear h
  go_enter Tryd.func15, Tryd.ntmps15
  go_wp2_with fail
  refine (rsum_any w ao cap len (8 * len) P HI.out (by omega) rfl).mono ?_
  rintro e w1 ⟨rfl, hf1⟩
  have HF : Hid _ := hf1
  have hc := crc_lt P
  have HC : Hid (frm P = P ++ le4 (crc P)) := rfl
  clear hf1
  generalize crc P = c at *
  obtain ⟨b0, e0⟩ : ∃ b : Nat, (c : Int) % 256 = (b : Int) := ⟨c % 256, by omega⟩
  obtain ⟨b1, e1⟩ : ∃ b : Nat, (c : Int) / 256 % 256 = (b : Int) := ⟨c / 256 % 256, by omega⟩
  obtain ⟨b2, e2⟩ : ∃ b : Nat, (c : Int) / 65536 % 256 = (b : Int) := ⟨c / 65536 % 256, by omega⟩
  obtain ⟨b3, e3⟩ : ∃ b : Nat, (c : Int) / 16777216 = (b : Int) := ⟨c / 16777216, by omega⟩
  have HB : Hid (le4 c = [b0, b1, b2, b3]) := by
    show _ = _
    unfold le4
    rw [show c % 256 = b0 by omega, show c / 256 % 256 = b1 by omega, show c / 65536 % 256 = b2 by omega, show c / 16777216 % 256 = b3 by omega]
  have H1 : Hid (In w1 ao len cap P) := HI.out.quiet HF.out
  go_wp2_with (at_builtin; refine copy_bytes rfl _ _ rfl ao len cap P H1.out.src H1.out.eqn (by omega) rfl rfl ?_)
  intro v2 w2 ho2 hf2
  have H2 : Hid (w2.ownsRow w.heap.size 5 1 v2 len (vrow P) ∧ Fr Nobody w w2) := ⟨row_low ho2 HF.out.size, HF.out.trans hf2⟩
  have hs2 := H2.out.2.size
  clear ho2 hf2
  go_wp2_with (at_builtin; refine wpList_append_own _ rfl _ _ 22 rfl w.heap.size 5 i0 (.int .u8 0) 1 1 Tryd.underlying22 hi hz0 hz1 hz2 rfl (by decide) _ _ _ rfl (H2.out.1.alloc _) ⟨w2.heap.size, 0, none⟩ 4 4 (vrow [b0, b1, b2, b3]) rfl rfl (cell_le4 _ _ _ _ _ _) (one_vrow _) (by unfold maxLen; omega) (by omega) (by simp; omega) ?_)
  intro v3 w3 ho3 hg3 _
  obtain ⟨g, cp, hv3, hg⟩ := row_shape ho3 (by omega)
  subst hv3
  have H3 : Hid (w3.ownsRow w.heap.size 5 1 (.slice (some ⟨g, 0, none⟩) (len + 4) cp) (len + 4) (vrow (frm P)) ∧ Fr Nobody w w3) := by
    refine ⟨?_, (H2.out.2.alloc _).grown hg3 (fun q hq => .inr (H2.out.1.lt q hq).1)⟩
    rw [HC.out, HB.out, vrow_append]; exact ho3
  clear ho3 hg3
  go_wp2
  go_ret2
  exact ⟨g, cp, rfl, H3.out⟩

theorem frm_opens (R : List Nat) (m : Nat) (h : R.length = m) : bnum ((frm R).drop m) = crc ((frm R).take m) ∧ (frm R).take m = R := by
  unfold frm
  subst h
  rw [List.drop_left, List.take_left]
  exact ⟨bnum_le4 _ (crc_lt R), rfl⟩

theorem bnum_inj (l m : List Nat) (hl : ∀ x ∈ l, x < 256) (hm : ∀ x ∈ m, x < 256) (hlen : l.length = m.length) (h : bnum l = bnum m) : l = m := by
  induction l generalizing m with
  | nil => exact (List.eq_nil_of_length_eq_zero hlen.symm).symm
  | cons a l ih =>
    cases m with
    | nil => simp at hlen
    | cons b m =>
      have ha := hl a (by simp)
      have hb := hm b (by simp)
      simp only [bnum] at h
      have h1 : a = b := by omega
      have h2 := ih m (fun x hx => hl x (by simp [hx])) (fun x hx => hm x (by simp [hx])) (by simpa using hlen) (by omega)
      rw [h1, h2]
theorem frm_iff (P : List Nat) (d : Nat) (hlen : P.length = d + 4) (hb : ∀ x ∈ P, x < 256) : frm (P.take d) = P ↔ bnum (P.drop d) = crc (P.take d) := by
  have hl : (P.take d).length = d := by rw [List.length_take]; omega
  constructor
  · intro h
    have h2 : P.drop d = le4 (crc (P.take d)) := by
      have h3 := congrArg (List.drop d) h
      unfold frm at h3
      rw [List.drop_left' hl] at h3
      exact h3.symm
    rw [h2]
    exact bnum_le4 _ (crc_lt _)
  · intro h
    have h2 : le4 (crc (P.take d)) = P.drop d := by
      refine bnum_inj _ _ (le4_byte _) (fun x hx => hb x (List.mem_of_mem_drop hx)) ?_ (by rw [bnum_le4 _ (crc_lt _), h])
      rw [List.length_drop, hlen]; simp [le4]
    unfold frm
    rw [h2, List.take_append_drop]

set_option maxHeartbeats 400000 in
theorem ropen_short (w : World) (ao : Option Addr) (cap len : Nat) (h : len < 4) :
    Calls Tryd.prog 18 #[.slice ao len cap] w fun e w' => e = .returned (.tuple #[.slice none 0 0, .int .i64 2]) ∧ w' = w := by
  go_enter Tryd.func18, Tryd.ntmps18
  go_wp2
  go_ret2
  exact ⟨rfl, rfl⟩
set_option maxHeartbeats 1000000 in
set_option maxRecDepth 100000 in
theorem ropen_sum (w : World) (ao : Option Addr) (cap d : Nat) (P : List Nat) (h : In w ao (d + 4) cap P) (hL : d ≤ 4096) (hne : bnum (P.drop d) ≠ crc (P.take d)) :
    Calls Tryd.prog 18 #[.slice ao (d + 4) cap] w fun e w' => e = .returned (.tuple #[.slice none 0 0, .int .i64 6]) ∧ Fr Nobody w w' := by
  obtain ⟨g, o, rfl⟩ := h.some' (by omega)
  have HI : Hid (In w (some ⟨g, o, none⟩) (d + 4) cap P) := h
  have HN : Hid (frm (P.take d) ≠ P) := fun c => hne ((frm_iff P d h.eqn h.byt).1 c)
  have HR : Hid _ := h.cut d (by omega)
  have hle := h.le
  clear h hne
  go_enter Tryd.func18, Tryd.ntmps18
  go_wp2_with fail
  refine (rseal_ok w _ cap d (P.take d) HR.out hL).mono ?_
  rintro e w1 ⟨g1, cp1, rfl, ho1, hf1⟩
  have H1 : Hid (In w1 (some ⟨g1, 0, none⟩) (d + 4) cp1 (frm (P.take d)) ∧ Fr Nobody w w1) := ⟨In.of_row ho1 (by rw [length_frm, HR.out.eqn]) (frm_byte _ HR.out.byt), hf1⟩
  clear ho1 hf1
  go_wp2_with fail
  refine (same_no w1 _ _ _ P H1.out.1.src (HI.out.quiet H1.out.2).src H1.out.1.byt HI.out.byt HN.out).mono ?_
  rintro e w2 ⟨rfl, rfl⟩
  go_wp2
  go_ret2
  exact ⟨rfl, H1.out.2⟩
set_option maxHeartbeats 1000000 in
set_option maxRecDepth 100000 in
theorem ropen_ok (w : World) (ao : Option Addr) (cap d : Nat) (P : List Nat) (h : In w ao (d + 4) cap P) (hL : d ≤ 4096) (heq : bnum (P.drop d) = crc (P.take d)) :
    Calls Tryd.prog 18 #[.slice ao (d + 4) cap] w fun e w' => ∃ v', e = .returned (.tuple #[v', .int .i64 0]) ∧ w'.ownsRow w.heap.size 5 1 v' d (vrow (P.take d)) ∧ Fr Nobody w w' := by
  obtain ⟨g, o, rfl⟩ := h.some' (by omega)
  have HI : Hid (In w (some ⟨g, o, none⟩) (d + 4) cap P) := h
  have HN : Hid (frm (P.take d) = P) := (frm_iff P d h.eqn h.byt).2 heq
  have HR : Hid (In w (some ⟨g, o, none⟩) d cap (P.take d)) := h.cut d (by omega)
  have hle := h.le
  clear h heq
  go_enter Tryd.func18, Tryd.ntmps18
  go_wp2_with fail
  refine (rseal_ok w _ cap d (P.take d) HR.out hL).mono ?_
  rintro e w1 ⟨g1, cp1, rfl, ho1, hf1⟩
  have H1 : Hid (In w1 (some ⟨g1, 0, none⟩) (d + 4) cp1 P ∧ Fr Nobody w w1) := by
    refine ⟨?_, hf1⟩
    have := In.of_row ho1 (by rw [length_frm, HR.out.eqn]) (frm_byte _ HR.out.byt)
    rw [HN.out] at this
    exact this
  clear ho1 hf1
  go_wp2_with fail
  refine (same_any w1 _ _ P H1.out.1.src (HI.out.quiet H1.out.2).src).mono ?_
  rintro e w2 ⟨rfl, rfl⟩
  have HR2 : Hid (In w2 (some ⟨g, o, none⟩) d cap (P.take d)) := HR.out.quiet H1.out.2
  go_wp2_with (at_builtin; refine copy_bytes rfl _ _ rfl _ d cap (P.take d) HR2.out.src HR2.out.eqn (by omega) rfl rfl ?_)
  intro v3 w3 ho3 hf3
  have H3 : Hid (w3.ownsRow w.heap.size 5 1 v3 d (vrow (P.take d)) ∧ Fr Nobody w w3) := ⟨row_low ho3 H1.out.2.size, H1.out.2.trans hf3⟩
  clear ho3 hf3
  go_wp2
  go_ret2
  exact ⟨v3, rfl, H3.out⟩
end Go.Proofs.YtekdjebehieekaaDoor
