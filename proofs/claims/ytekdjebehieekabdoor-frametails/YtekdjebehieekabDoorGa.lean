/-
  Sum of package frame: the bytes' sum by the table.
-/
import Derived.Test.YtekdjebehieekabDoorMf
import Derived.Test.YtekdjebehieekabDoorCa
namespace Go.Proofs.YtekdjebehieekabDoor
open Go.RowKit
set_option linter.unusedVariables false

/-- the table lies where it was laid -/
def Tab (w : World) : Prop := ∀ i : Nat, i < 16 → w.cell? ⟨0, i, none⟩ = some (.int .u32 ((tbl i : Nat) : Int))
theorem Tab.keep {S : Nat → Prop} {w w' : World} (h : Tab w) (hf : Fr S w w') (hs : ¬ S 0) : Tab w' := fun i hi =>
  (hf.cell (p := ⟨0, i, none⟩) (World.block_lt_of_cell? w _ (h i hi)) hs).trans (h i hi)
theorem Tab.quiet {w w' : World} (h : Tab w) (hf : Fr Nobody w w') : Tab w' := h.keep hf id

theorem xor32 (a b : Nat) (ha : a < 4294967296) (hb : b < 4294967296) : bits .xor .u32 (a : Int) (b : Int) = ((a ^^^ b : Nat) : Int) := u32_xor_nat a b ha hb
theorem step_val (y : Nat) (hy : y < 4294967296) : bits .xor .u32 ((y : Int) / 16) ((tbl (y % 16) : Nat) : Int) = ((stps 4 y : Nat) : Int) := by
  have e : (y : Int) / 16 = ((y / 16 : Nat) : Int) := by omega
  rw [e, xor32 _ _ (by omega) (tbl_lt _ (by omega)), four]

set_option maxHeartbeats 1000000 in
theorem sum_any (w : World) (ao : Option Addr) (cap len : Nat) (P : List Nat) (h : BytesAt w ao P) (hlen : P.length = len) (hb : ∀ x ∈ P, x < 256) (hL : len ≤ 1000000000) (ht : Tab w) :
    Calls Tryd.prog 7 #[.slice ao len cap] w fun e w' => e = .returned (.int .u32 ((crc P : Nat) : Int)) ∧ w' = w := by
  have H : Hid (BytesAt w ao P) := h
  have HT : Hid (Tab w) := ht
  have HB : Hid (∀ x ∈ P, x < 256) := hb
  have HL : Hid (P.length = len) := hlen
  clear h ht hb hlen
  go_enter Tryd.func7, Tryd.ntmps7
  go_wp2
  go_loopw [3, 8] (fun u c wr => ∃ k : Nat, k ≤ len ∧ c = .int .i64 k ∧ u = .int .u32 ((feed 4294967295 (P.take k) : Nat) : Int) ∧ wr = w) (fun _ c _ => len - (intOf c).toNat)
  case atStart => exact ⟨0, Nat.zero_le _, rfl, rfl, rfl⟩
  case round =>
    obtain ⟨k, hk, rfl, rfl, rfl⟩ := hrel
    by_cases hlt : k < len
    · have hP : k < P.length := by rw [HL.out]; exact hlt
      have hx : P[k]? = some P[k] := List.getElem?_eq_getElem hP
      have hx2 := HB.out P[k] (List.getElem_mem _)
      obtain ⟨g, o, rfl, hcs⟩ : ∃ g o, ao = some ⟨g, o, none⟩ ∧ ∀ (j x : Nat), P[j]? = some x → wr.cell? ⟨g, o + j, none⟩ = some (.int .u8 (x : Int)) := by
        rcases H.out with hn | hn
        · rw [hn] at hP; cases hP
        · exact hn
      have cx := hcs k _ hx
      have hc := feed_lt 4294967295 (P.take k) (by decide) (fun x hx => HB.out x (List.mem_of_mem_take hx))
      have HS : Hid (feed 4294967295 (P.take (k + 1)) = stps 8 (feed 4294967295 (P.take k) ^^^ P[k])) := by
        show _ = _
        rw [List.take_add_one, hx]; exact feed_snoc _ _ _
      generalize feed 4294967295 (P.take k) = c at *
      generalize P[k] = x at *
      have hy := xor_lt32 c x hc (by omega)
      have e1 := xor32 c x hc (by omega)
      generalize c ^^^ x = y at *
      have hz := stps_lt 4 y hy
      have e2 := step_val y hy
      have t2 := HT.out (y % 16) (by omega)
      have HZ : Hid (stps 8 y = stps 4 (stps 4 y)) := stps_add 4 4 y
      generalize stps 4 y = z at *
      have e3 := step_val z hz
      have t3 := HT.out (z % 16) (by omega)
      have hw := stps_lt 4 z hz
      generalize tbl (y % 16) = q at *
      generalize tbl (z % 16) = r at *
      generalize stps 4 z = v at *
      clear hcs hx
      go_wp2
      refine ⟨⟨k + 1, by omega, by go_num, ?_, trivial⟩, by simp [intOf]; omega⟩
      rw [HS.out, HZ.out]
    · go_wp2
      go_ret
      have e : k = len := by omega
      subst e
      refine ⟨ret_int ?_, rfl⟩
      have eP : P.take k = P := List.take_of_length_le (by rw [HL.out]; exact Nat.le_refl _)
      have hc := feed_lt 4294967295 P (by decide) HB.out
      rw [eP]
      have h1 := xor32 4294967295 (feed 4294967295 P) (by decide) hc
      have h2 : IntKind.u32.max = ((4294967295 : Nat) : Int) := by decide
      rw [h2, h1, crc, ones_sub _ hc, Nat.xor_comm]
end Go.Proofs.YtekdjebehieekabDoor
