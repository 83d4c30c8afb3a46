/-
  GetIn of package nums, whole; the document's GetIn.
-/
import Derived.Test.YtcmofbhfdagpcaaGreatDoorVhg
namespace Go.Proofs.YtcmofbhfdagpcaaGreatDoor
open Go.RowKit
set_option linter.unusedVariables false
set_option maxRecDepth 100000

theorem cell_new (w : World) (b : Nat) (v : Value) (T : TypeId) (h : b = w.heap.size) : (w.alloc (.cells #[v] T)).cell? ⟨b, 0, none⟩ = some v := by subst h; simp
theorem numAt_take (P : List Nat) (t n : Nat) : numAt P t n = num (((bitsB P).drop t).take n) := rfl

theorem getIn1_any (B : Nat) (w : World) (bh bl bx br : Nat) (g : Option Nat) (P : List Nat) (t : Nat) (lo hi : Int) (h : Rd B w br g P t) (hbx : w.cell? ⟨bx, 0, none⟩ = some (.pointer (some ⟨br, 0, none⟩))) (hbl : w.cell? ⟨bl, 0, none⟩ = some (.int .i64 lo)) (hbh : w.cell? ⟨bh, 0, none⟩ = some (.int .i64 hi)) (nl : bl ≠ br) (nh : bh ≠ br) (h0 : -9223372036854775808 ≤ lo) (h1 : hi ≤ 9223372036854775807) (h2 : lo ≤ 9223372036854775807) (h3 : -9223372036854775808 ≤ hi) :
    Calls Tryz.prog 111 #[.pointer (some ⟨bh, 0, none⟩), .pointer (some ⟨bl, 0, none⟩), .pointer (some ⟨bx, 0, none⟩)] w fun e w' => e = .returned (.tuple #[.int .i64 (gi lo hi ((bitsB P).drop t)).2.1, .int .i64 (gi lo hi ((bitsB P).drop t)).1]) ∧ GvEnd B w w' br g P t (gi lo hi ((bitsB P).drop t)).1 (gi lo hi ((bitsB P).drop t)).2.2 := by
  have hM : ((bitsB P).drop t).length = 8 * P.length - t := by rw [List.length_drop, length_bitsB]
  have hle := h.le
  unfold gi
  by_cases c1 : hi < lo
  · rw [if_pos c1]
    exact getIn1_arg B w bh bl bx br g P t lo hi h hbl hbh c1
  · rw [if_neg c1]
    have hn := wid_le lo hi h0 h1
    have hW := fun w => width_any lo hi w h0 h1 h2 h3
    by_cases c2 : 8 * P.length < t + wid lo hi
    · rw [if_pos (by omega)]
      exact getIn1_short B w bh bl bx br g P t _ lo hi h hbx hbl hbh (by omega) hW hn c2
    · rw [if_neg (by omega)]
      have hD := fun w => span_any lo hi (hi - lo).toNat w h0 h1 (by omega)
      by_cases c3 : (hi - lo).toNat < num (((bitsB P).drop t).take (wid lo hi))
      · rw [if_pos c3]
        exact getIn1_range B w bh bl bx br g P t _ _ lo hi h hbx hbl hbh nl nh (by omega) hW hD hn (by omega) _ rfl c3
      · rw [if_neg c3]
        exact getIn1_ok B w bh bl bx br g P t _ _ lo hi h hbx hbl hbh nl nh (by omega) h0 h1 (by omega) hW hD hn (by omega) _ rfl (by omega)

set_option maxHeartbeats 1000000 in
theorem getIn_rd (B : Nat) (w : World) (br : Nat) (g : Option Nat) (P : List Nat) (t : Nat) (lo hi : Int) (h : Rd B w br g P t) (h0 : -9223372036854775808 ≤ lo) (h1 : hi ≤ 9223372036854775807) (h2 : lo ≤ 9223372036854775807) (h3 : -9223372036854775808 ≤ hi) :
    Calls Tryz.prog 86 #[.pointer (some ⟨br, 0, none⟩), .int .i64 lo, .int .i64 hi] w fun e w' => e = .returned (.tuple #[.int .i64 (gi lo hi ((bitsB P).drop t)).2.1, .int .i64 (gi lo hi ((bitsB P).drop t)).1]) ∧ Rd B w' br g P (t + (gi lo hi ((bitsB P).drop t)).2.2) ∧ Fr (At br none) w w' := by
  have hlt := h.lt
  have key : ∀ w1 : World, Rd B w1 br g P t → ∀ bh bl bx, bl ≠ br → bh ≠ br → bx ≠ br → w1.cell? ⟨bx, 0, none⟩ = some (.pointer (some ⟨br, 0, none⟩)) → w1.cell? ⟨bl, 0, none⟩ = some (.int .i64 lo) → w1.cell? ⟨bh, 0, none⟩ = some (.int .i64 hi) → Calls Tryz.prog 110 #[.pointer (some ⟨br, 0, none⟩), .func (.func 111) #[] #[.pointer (some ⟨bh, 0, none⟩), .pointer (some ⟨bl, 0, none⟩), .pointer (some ⟨bx, 0, none⟩)]] w1 fun e w' => e = .returned (.tuple #[.int .i64 (gi lo hi ((bitsB P).drop t)).2.1, .int .i64 (gi lo hi ((bitsB P).drop t)).1]) ∧ Rd B w' br g P (t + (gi lo hi ((bitsB P).drop t)).2.2) ∧ Fr (At br none) w1 w' := by
    intro w1 hR1 bh bl bx nl nh nx cx cl ch
    refine tryI_any _ rfl _ B w1 br g P t _ _ _ hR1 ?_ (fun hne => gi_zero _ _ _ hne)
    intro w2 hR2 hf2
    have ap : ∀ b, b ≠ br → ¬ At br none b := by rintro b hb (e | e); exact hb e; cases e
    exact getIn1_any B w2 bh bl bx br g P t lo hi hR2 ((hf2.cell (p := ⟨bx, 0, none⟩) (World.block_lt_of_cell? w1 _ cx) (ap _ nx)).trans cx) ((hf2.cell (p := ⟨bl, 0, none⟩) (World.block_lt_of_cell? w1 _ cl) (ap _ nl)).trans cl) ((hf2.cell (p := ⟨bh, 0, none⟩) (World.block_lt_of_cell? w1 _ ch) (ap _ nh)).trans ch) nl nh h0 h1 h2 h3
  have K : Hid _ := key
  have H : Hid (Rd B w br g P t) := h
  clear key h h0 h1 h2 h3
  generalize gi lo hi ((bitsB P).drop t) = r at *
  obtain ⟨rc, rv, rn⟩ := r
  go_enter Tryz.func86, Tryz.ntmps86
  go_wp2_with fail
  have HA : Hid (∀ a b c, Fr (At br none) w (((w.alloc a).alloc b).alloc c)) := fun a b c => (((Fr.refl _ _).alloc _).alloc _).alloc _
  refine (K.out _ (H.out.quiet ((((Fr.refl _ _).alloc _).alloc _).alloc _)) _ _ _ ?_ ?_ ?_ ?_ ?_ ?_).mono ?_
  iterate 3 (first | omega | (simp; omega))
  · exact Lib.cell?_alloc_some _ (Lib.cell?_alloc_some _ (cell_new w _ _ _ rfl))
  · exact Lib.cell?_alloc_some _ (cell_new _ _ _ _ (by simp))
  · exact cell_new _ _ _ _ (by simp)
  rintro e w2 ⟨rfl, hR, hf⟩
  have H2 : Hid (Rd B w2 br g P (t + rn) ∧ Fr (At br none) w w2) := ⟨hR, (HA.out _ _ _).trans hf⟩
  clear hR hf HA H K
  go_wp2
  go_ret2
  exact ⟨rfl, H2.out⟩

theorem getIn_or (w0 w : World) (br : Nat) (P : List Nat) (t : Nat) (lo hi : Int) (h : Or w0 w br P t) (h0 : -9223372036854775808 ≤ lo) (h1 : hi ≤ 9223372036854775807) (h2 : lo ≤ 9223372036854775807) (h3 : -9223372036854775808 ≤ hi) :
    Calls Tryz.prog 86 #[.pointer (some ⟨br, 0, none⟩), .int .i64 lo, .int .i64 hi] w fun e w' => e = .returned (.tuple #[.int .i64 (gi lo hi ((bitsB P).drop t)).2.1, .int .i64 (gi lo hi ((bitsB P).drop t)).1]) ∧ Or w0 w' br P (t + (gi lo hi ((bitsB P).drop t)).2.2) := by
  obtain ⟨g, hR, hF⟩ := h
  refine (getIn_rd _ w br g P t lo hi hR h0 h1 h2 h3).mono ?_
  rintro e w' ⟨rfl, hR', hf⟩
  refine ⟨rfl, g, hR', hF.fresh hf ?_⟩
  rintro k (e | e)
  · subst e; exact hR.low
  · cases e

end Go.Proofs.YtcmofbhfdagpcaaGreatDoor

