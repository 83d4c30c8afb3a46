/-
  The document's List of slots, and Same.
-/
import Derived.Test.YtficpeghmkbdpaaXl
namespace Go.Proofs.Ytficpeghmkbdpaa
open Go.RowKit
set_option linter.unusedVariables false

def rl (S : St) (k : Nat) : List Nat := pick (S.last.take k) (S.used.take k)
theorem rl_all {S : St} (hS : S.Ok) : rl S S.n = S.list := by
  have h1 := hS.le
  have h2 := hS.ul
  unfold rl St.list; rw [List.take_of_length_le h1, List.take_of_length_le (by omega)]
theorem rl_le (S : St) (k : Nat) : (rl S k).length ≤ k := by
  have := pick_le (S.last.take k) (S.used.take k)
  rw [List.length_take] at this
  unfold rl; omega
theorem rl_yes {S : St} (hS : S.Ok) (k : Nat) (h : S.used.getD k false = true) : rl S (k + 1) = rl S k ++ [S.last.getD k 0] ∧ S.last.getD k 0 / 1024 * 1024 + k = S.last.getD k 0 ∧ 1 ≤ S.last.getD k 0 / 1024 ∧ S.last.getD k 0 < 4294967296 := by
  have hlt : k < S.used.length := by
    rcases Nat.lt_or_ge k S.used.length with c | c
    · exact c
    · rw [getD_none c] at h; cases h
  obtain ⟨x, hx⟩ : ∃ x, S.last[k]? = some x := ⟨_, List.getElem?_eq_getElem (by rw [← hS.ul]; exact hlt)⟩
  obtain ⟨u, hu⟩ : ∃ u, S.used[k]? = some u := ⟨_, List.getElem?_eq_getElem hlt⟩
  rw [getD_some hu] at h
  subst h
  have := hS.id k x hx
  rw [getD_some hx]
  refine ⟨?_, by omega, by omega, by omega⟩
  unfold rl; rw [pick_step S hS k x true hx hu]; rfl
theorem rl_no {S : St} (hS : S.Ok) (k : Nat) (h : S.used.getD k false = false) : rl S (k + 1) = rl S k := by
  unfold rl
  rcases Nat.lt_or_ge k S.used.length with c | c
  · obtain ⟨x, hx⟩ : ∃ x, S.last[k]? = some x := ⟨_, List.getElem?_eq_getElem (by rw [← hS.ul]; exact c)⟩
    obtain ⟨u, hu⟩ : ∃ u, S.used[k]? = some u := ⟨_, List.getElem?_eq_getElem c⟩
    rw [getD_some hu] at h
    subst h
    rw [pick_step S hS k x false hx hu]; simp
  · have := hS.ul
    rw [List.take_of_length_le (by omega), List.take_of_length_le (by omega), List.take_of_length_le (by omega), List.take_of_length_le c]
def rr (S : St) (k : Nat) : Nat := (List.range k).countP (free1 S)
theorem rr_succ (S : St) (k : Nat) : rr S (k + 1) = rr S k + (free1 S k).toNat := by
  unfold rr; rw [List.range_succ, List.countP_append]; simp only [List.countP_singleton]; cases free1 S k <;> rfl
theorem rr_le (S : St) (k : Nat) : rr S k ≤ k := by
  unfold rr
  have : (List.range k).countP (free1 S) ≤ (List.range k).length := List.countP_le_length
  rw [List.length_range] at this; exact this

theorem free1_t (S : St) (k : Nat) (hu : S.used.getD k false = false) (hg : S.last.getD k 0 / 1024 < 4194303) : free1 S k = true := by unfold free1; rw [hu]; unfold frb; rw [decide_eq_true hg]; rfl
theorem free1_f (S : St) (k : Nat) (hu : S.used.getD k false = false) (hg : ¬ S.last.getD k 0 / 1024 < 4194303) : free1 S k = false := by unfold free1; rw [hu]; unfold frb; rw [decide_eq_false hg]; rfl
theorem free1_u (S : St) (k : Nat) (hu : S.used.getD k false = true) : free1 S k = false := by unfold free1; rw [hu]; rfl

set_option maxHeartbeats 2000000 in
set_option maxRecDepth 100000 in
theorem rlist_ok (w0 w : World) (l : List Thing) (c : Nat) (S : St) (f : Nat → Nat) (ck : Nat) (h : Own w0 w (RSlots c S f ck :: l)) (hS : S.Ok) :
    Calls Try.prog 24 #[.pointer (some ⟨c, 0, none⟩)] w fun e w' => ∃ v, e = .returned (.tuple #[v, .int .i64 (rr S S.n : Int)]) ∧ Own w0 w' (Row 23 1 v S.list.length (irow .u32 S.list) :: RSlots c S f ck :: l) := by
  obtain ⟨⟨g, cp⟩, h⟩ := Own.ex_iff.1 h
  have q1 := h.cell 1
  have hn := hS.n2
  simp at q1
  obtain ⟨i0, hi, hz0, hz1, hz2⟩ := info_parts Try.infoID
  have H : Hid (Own w0 w (Row 23 1 (.slice none 0 0) 0 [] :: Cells c #[.int .i64 (S.first : Int), .slice (some ⟨g, 0, none⟩) S.n cp, .int .i64 (ck : Int)] 92 :: Row 95 3 (.slice (some ⟨g, 0, none⟩) S.n cp) S.n (flat 3 S.n (one S f)) :: l)) := h.nilRow _ _
  have HS : Hid S.Ok := hS
  clear h hS
  go_enter Try.func24, Try.ntmps24
  go_wp2
  go_loopw [4, 5, 17] (fun lv rm cc wr => ∃ k : Nat, k ≤ S.n ∧ cc = .int .i64 k ∧ rm = .int .i64 (rr S k : Int) ∧ ∃ ao cap, lv = .slice ao (rl S k).length cap ∧ Own w0 wr (Row 23 1 (.slice ao (rl S k).length cap) (rl S k).length (irow .u32 (rl S k)) :: Cells c #[.int .i64 (S.first : Int), .slice (some ⟨g, 0, none⟩) S.n cp, .int .i64 (ck : Int)] 92 :: Row 95 3 (.slice (some ⟨g, 0, none⟩) S.n cp) S.n (flat 3 S.n (one S f)) :: l)) (fun _ _ cc _ => S.n - (intOf cc).toNat)
  case atStart => exact ⟨0, Nat.zero_le _, rfl, rfl, none, 0, rfl, H.out⟩
  case round =>
    obtain ⟨k, hk, rfl, rfl, ao, cap, rfl, hO⟩ := hrel
    have hrr := rr_le S k
    have hrl := rl_le S k
    clear H q1
    by_cases hlt : k < S.n
    · have c0 : wr.cell? ⟨g, k * 3, none⟩ = some (.int .i64 ((S.last.getD k 0 / 1024 : Nat) : Int)) := hO.three.fcell k 0 hlt (by decide) _ (by omega)
      have c1 : wr.cell? ⟨g, k * 3 + 1, none⟩ = some (.bool (S.used.getD k false)) := hO.three.fcell k 1 hlt (by decide) _ (by omega)
      have c2 : wr.cell? ⟨g, k * 3 + 2, none⟩ = some (.int .i64 (f k : Int)) := hO.three.fcell k 2 hlt (by decide) _ (by omega)
      have HO : Hid (Own w0 wr _) := hO
      clear hO
      cases hu : S.used.getD k false with
      | false =>
        have HL : Hid (rl S (k + 1) = rl S k) := rl_no HS.out k hu
        rw [hu] at c1
        by_cases hg : S.last.getD k 0 / 1024 < 4194303
        · have HR : Hid (rr S (k + 1) = rr S k + 1) := by rw [rr_succ, free1_t S k hu hg]; rfl
          obtain ⟨gn, hgn⟩ : ∃ gn : Int, gn = ((S.last.getD k 0 / 1024 : Nat) : Int) := ⟨_, rfl⟩
          have hg' : gn < 4194303 := by omega
          rw [← hgn] at c0
          clear hg hgn hu
          generalize rr S k = rk at *
          generalize rl S k = lk at *
          go_wp2
          go_roundw
          case rel => exact ⟨k + 1, by omega, by go_num, by rw [HR.out]; go_num, ao, cap, by rw [HL.out], by rw [HL.out]; exact HO.out.alloc _⟩
          case measure => simp [intOf]; omega
        · have HR : Hid (rr S (k + 1) = rr S k) := by rw [rr_succ, free1_f S k hu hg]; rfl
          obtain ⟨gn, hgn⟩ : ∃ gn : Int, gn = ((S.last.getD k 0 / 1024 : Nat) : Int) := ⟨_, rfl⟩
          have hg' : ¬ gn < 4194303 := by omega
          rw [← hgn] at c0
          clear hg hgn hu
          generalize rr S k = rk at *
          generalize rl S k = lk at *
          go_wp2
          go_roundw
          case rel => exact ⟨k + 1, by omega, by go_num, by rw [HR.out], ao, cap, by rw [HL.out], by rw [HL.out]; exact HO.out.alloc _⟩
          case measure => simp [intOf]; omega
      | true =>
        obtain ⟨e1, e2, e3, e4⟩ := rl_yes HS.out k hu
        have HL : Hid (rl S (k + 1) = rl S k ++ [S.last.getD k 0]) := e1
        have HR : Hid (rr S (k + 1) = rr S k) := by rw [rr_succ, free1_u S k hu]; rfl
        rw [hu] at c1
        have HM : Hid (∀ w', Calls Try.prog 10 #[.int .i64 (k : Int), .int .i64 ((S.last.getD k 0 / 1024 : Nat) : Int)] w' fun e w'' => e = .returned (.tuple #[.int .u32 (S.last.getD k 0 : Int), .int .i64 0]) ∧ w'' = w') := by
          intro w'
          have := rmake_yes k (S.last.getD k 0 / 1024) w' (by omega) e3 (by omega)
          rw [e2] at this; exact this
        clear e1 e2 e3 e4 hu
        generalize rr S k = rk at *
        generalize rl S k = lk at *
        generalize S.last.getD k 0 / 1024 = gn at *
        generalize S.last.getD k 0 = x at *
        go_wp2_with (first | (go_at_call 10; refine (HM.out _).mono ?_; rintro e w' ⟨rfl, hw⟩; subst hw) | (at_builtin; refine append1_own rfl _ _ 39 rfl 23 i0 (.int .u32 0) 1 4 Try.underlying39 hi hz0 hz1 hz2 rfl (by decide) _ _ _ rfl (HO.out.alloc _) _ _ (by simp) rfl rfl (one_int _ _) (by unfold maxLen; omega) (by omega) ?_))
        intro g' cap' w2 hO2 hsz
        have H2 : Hid (Own w0 w2 _) := hO2
        clear hO2 HO
        go_wp2
        go_roundw
        case rel => exact ⟨k + 1, by omega, by go_num, by rw [HR.out], _, cap', by rw [HL.out]; simp; rfl, by rw [HL.out]; simpa [irow] using H2.out⟩
        case measure => simp [intOf]; omega
    · have ek : k = S.n := by omega
      subst ek
      have HL : Hid (rl S S.n = S.list) := rl_all HS.out
      have HO : Hid (Own w0 wr _) := hO
      clear hO
      go_wp2
      go_ret2
      refine ⟨_, rfl, ?_⟩
      have := HO.out
      rw [HL.out] at this ⊢
      exact Own.ex2.2 ⟨(g, cp), this⟩
set_option maxHeartbeats 400000 in
theorem rlist_nil (w : World) : Calls Try.prog 24 #[.pointer none] w fun e w' => e = .returned (.tuple #[.slice none 0 0, .int .i64 0]) ∧ w' = w := by
  go_enter Try.func24, Try.ntmps24
  go_wp2
  go_ret2
  exact ⟨rfl, rfl⟩
end Go.Proofs.Ytficpeghmkbdpaa
