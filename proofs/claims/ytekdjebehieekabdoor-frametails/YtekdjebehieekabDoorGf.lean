/-
  told and Open of package frame.
-/
import Derived.Test.YtekdjebehieekabDoorGe
namespace Go.Proofs.YtekdjebehieekabDoor
open Go.RowKit
set_option linter.unusedVariables false

theorem bnum_take_succ (l : List Nat) (k x : Nat) (h : l[k]? = some x) : bnum (l.take (k + 1)) = bnum (l.take k) + 2 ^ (8 * k) * x := by
  have hk : k < l.length := (List.getElem?_eq_some_iff.1 h).1
  rw [List.take_add_one, h]
  show bnum (l.take k ++ [x]) = _
  rw [bnum_append, List.length_take, Nat.min_eq_left (by omega), bnum, bnum, Nat.mul_zero, Nat.add_zero]
theorem bnum_take_lt (l : List Nat) (hb : ∀ x ∈ l, x < 256) (k : Nat) : bnum (l.take k) < 2 ^ (8 * k) := by
  have h := bnum_lt (l.take k) (fun x hx => hb x (List.mem_of_mem_take hx))
  refine Nat.lt_of_lt_of_le h (Nat.pow_le_pow_right (by decide) ?_)
  rw [List.length_take]; omega
theorem or_byte (s x k : Nat) (hs : s < 2 ^ (8 * k)) (hx : x < 256) (hk : k < 4) : bits .or .u32 (s : Int) (IntKind.u32.wrap ((x : Int) * 2 ^ (8 * k))) = ((s + 2 ^ (8 * k) * x : Nat) : Int) := by
  have hp : 2 ^ (8 * k) ≤ 2 ^ 24 := Nat.pow_le_pow_right (by decide) (by omega)
  have h1 : x * 2 ^ (8 * k) ≤ 255 * 2 ^ 24 := Nat.mul_le_mul (by omega) hp
  have h3 : 2 ^ (8 * k) * x < 4294967296 := by rw [Nat.mul_comm]; exact Nat.lt_of_le_of_lt h1 (by decide)
  have h4 : s < 4294967296 := Nat.lt_of_lt_of_le hs (Nat.le_trans hp (by decide))
  have e : IntKind.u32.wrap ((x : Int) * 2 ^ (8 * k)) = ((2 ^ (8 * k) * x : Nat) : Int) := by
    rw [IntKind.wrap_u32]
    have h2 : (x : Int) * 2 ^ (8 * k) = ((2 ^ (8 * k) * x : Nat) : Int) := by simp [Int.mul_comm]
    rw [h2]
    exact Int.emod_eq_of_lt (Int.natCast_nonneg _) (Int.ofNat_lt.2 h3)
  rw [e, u32_or_nat _ _ h4 h3, Nat.or_comm, ← Nat.two_pow_add_eq_or_of_lt hs, Nat.add_comm]

set_option maxHeartbeats 1000000 in
theorem told_any (w : World) (ao : Option Addr) (cap d : Nat) (P : List Nat) (h : In w ao (d + 4) cap P) (hL : d ≤ 10000) :
    Calls Tryd.prog 9 #[.slice ao (d + 4) cap] w fun e w' => e = .returned (.int .u32 ((bnum (P.drop d) : Nat) : Int)) ∧ w' = w := by
  obtain ⟨g, o, rfl, hcs⟩ : ∃ g o, ao = some ⟨g, o, none⟩ ∧ ∀ (j x : Nat), P[j]? = some x → w.cell? ⟨g, o + j, none⟩ = some (.int .u8 (x : Int)) := by
    rcases h.at' with hn | hn
    · have := h.eqn; rw [hn] at this; simp at this
    · exact hn
  have HI : Hid (In w (some ⟨g, o, none⟩) (d + 4) cap P) := h
  have HC : Hid (∀ (j x : Nat), P[j]? = some x → w.cell? ⟨g, o + j, none⟩ = some (.int .u8 (x : Int))) := hcs
  have hle := h.le
  clear h hcs
  go_enter Tryd.func9, Tryd.ntmps9
  go_wp2
  go_loopw [3, 12] (fun u c wr => ∃ k : Nat, k ≤ 4 ∧ c = .int .i64 k ∧ u = .int .u32 ((bnum ((P.drop d).take k) : Nat) : Int) ∧ wr = w) (fun _ c _ => 4 - (intOf c).toNat)
  case atStart => exact ⟨0, by omega, rfl, rfl, rfl⟩
  case round =>
    obtain ⟨k, hk, rfl, rfl, rfl⟩ := hrel
    by_cases hlt : k < 4
    · have hP : d + k < P.length := by rw [HI.out.eqn]; omega
      have hx : P[d + k]? = some P[d + k] := List.getElem?_eq_getElem hP
      have hx2 := HI.out.byt P[d + k] (List.getElem_mem _)
      have cx := HC.out _ _ hx
      rw [← Nat.add_assoc] at cx
      have hdx : (P.drop d)[k]? = some P[d + k] := by rw [List.getElem?_drop, hx]
      have HS : Hid _ := bnum_take_succ _ k _ hdx
      have hs := bnum_take_lt (P.drop d) (fun x hx => HI.out.byt x (List.mem_of_mem_drop hx)) k
      have HO : Hid _ := or_byte _ _ k hs hx2 hlt
      generalize P[d + k] = x at *
      generalize bnum ((P.drop d).take k) = s at *
      clear hx hdx hs
      go_wp2
      refine ⟨⟨k + 1, by omega, by go_num, ?_, trivial⟩, by simp [intOf]; omega⟩
      rw [HS.out, ← HO.out, IntKind.wrap_u32]
    · have e : k = 4 := by omega
      subst e
      have HE : Hid ((P.drop d).take 4 = P.drop d) := List.take_of_length_le (by rw [List.length_drop, HI.out.eqn]; omega)
      go_wp2
      go_ret
      exact ⟨ret_int (by rw [HE.out]), rfl⟩

set_option maxHeartbeats 400000 in
theorem open_short (w : World) (ao : Option Addr) (cap len : Nat) (h : len < 4) :
    Calls Tryd.prog 6 #[.slice ao len cap] w fun e w' => e = .returned (.tuple #[.slice none 0 0, .int .i64 2]) ∧ w' = w := by
  go_enter Tryd.func6, Tryd.ntmps6
  go_wp2
  go_ret2
  exact ⟨rfl, rfl⟩
set_option maxHeartbeats 400000 in
theorem open_long (w : World) (ao : Option Addr) (cap len : Nat) (h : 4100 < len) (hmax : len ≤ maxLen) :
    Calls Tryd.prog 6 #[.slice ao len cap] w fun e w' => e = .returned (.tuple #[.slice none 0 0, .int .i64 3]) ∧ w' = w := by
  unfold maxLen at hmax
  go_enter Tryd.func6, Tryd.ntmps6
  go_wp2
  go_ret2
  exact ⟨rfl, rfl⟩
set_option maxHeartbeats 1000000 in
set_option maxRecDepth 100000 in
theorem open_sum (w : World) (ao : Option Addr) (cap d : Nat) (P : List Nat) (h : In w ao (d + 4) cap P) (hL : d ≤ 4096) (ht : Tab w) (hne : bnum (P.drop d) ≠ crc (P.take d)) :
    Calls Tryd.prog 6 #[.slice ao (d + 4) cap] w fun e w' => e = .returned (.tuple #[.slice none 0 0, .int .i64 6]) ∧ w' = w := by
  obtain ⟨g, o, rfl⟩ := h.some' (by omega)
  have HI : Hid (In w (some ⟨g, o, none⟩) (d + 4) cap P ∧ Tab w) := ⟨h, ht⟩
  have HN : Hid (bnum (P.drop d) ≠ crc (P.take d)) := hne
  have hle := h.le
  clear h ht hne
  go_enter Tryd.func6, Tryd.ntmps6
  go_wp2_with fail
  refine (told_any w _ cap d P HI.out.1 (by omega)).mono ?_
  rintro e w1 ⟨rfl, rfl⟩
  go_wp2_with fail
  refine (sum_in _ _ _ _ _ (HI.out.1.cut d (by omega)) (by omega) HI.out.2).mono ?_
  rintro e w2 ⟨rfl, rfl⟩
  have hq : (((bnum (P.drop d) : Nat) : Int) != ((crc (P.take d) : Nat) : Int)) = true := by have := HN.out; simp; omega
  generalize bnum (P.drop d) = c1 at *
  generalize crc (P.take d) = c2 at *
  go_wp2
  go_ret2
  exact ⟨rfl, rfl⟩
set_option maxHeartbeats 1000000 in
set_option maxRecDepth 100000 in
theorem open_ok (w : World) (ao : Option Addr) (cap d : Nat) (P : List Nat) (h : In w ao (d + 4) cap P) (hL : d ≤ 4096) (ht : Tab w) (heq : bnum (P.drop d) = crc (P.take d)) :
    Calls Tryd.prog 6 #[.slice ao (d + 4) cap] w fun e w' => ∃ v', e = .returned (.tuple #[v', .int .i64 0]) ∧ w'.ownsRow 0 5 1 v' d (vrow (P.take d)) ∧ Fr Nobody w w' ∧ (∀ k, v'.ownBlock = some k → w.heap.size ≤ k) := by
  obtain ⟨g, o, rfl⟩ := h.some' (by omega)
  have HI : Hid (In w (some ⟨g, o, none⟩) (d + 4) cap P ∧ Tab w) := ⟨h, ht⟩
  have HN : Hid (bnum (P.drop d) = crc (P.take d)) := heq
  have HL : Hid ((P.take d).length = d) := (h.cut d (by omega)).eqn
  have hle := h.le
  clear h ht heq
  go_enter Tryd.func6, Tryd.ntmps6
  go_wp2_with fail
  refine (told_any w _ cap d P HI.out.1 (by omega)).mono ?_
  rintro e w1 ⟨rfl, rfl⟩
  go_wp2_with fail
  refine (sum_in _ _ _ _ _ (HI.out.1.cut d (by omega)) (by omega) HI.out.2).mono ?_
  rintro e w2 ⟨rfl, rfl⟩
  rw [HN.out]
  have HS : Hid (Src w2 (.slice (some ⟨g, o, none⟩) d cap) d (vrow (P.take d))) := by
    have := (HI.out.1.cut d (by omega)).src
    rw [HL.out] at this
    exact this
  generalize crc (P.take d) = c2 at *
  go_wp2_with fail
  refine (clone_any _ _ d (vrow (P.take d)) HS.out (one_vrow _) (by omega)).mono ?_
  rintro e w3 ⟨v', rfl, hv⟩
  have HV : Hid _ := hv
  clear hv
  go_wp2
  go_ret2
  exact ⟨v', rfl, HV.out⟩
end Go.Proofs.YtekdjebehieekabDoor
