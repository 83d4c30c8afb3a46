/-
  The document's Live and List of slots, and Same.
-/
import Derived.Test.YtficpeghmkbdpaaXk
namespace Go.Proofs.Ytficpeghmkbdpaa
open Go.RowKit
set_option linter.unusedVariables false

def tst (S : St) (id k : Nat) : Bool := S.used.getD k false && (decide (k = id % 1024) && decide (S.last.getD k 0 / 1024 = id / 1024))
theorem tst_live {S : St} (hS : S.Ok) (id k : Nat) (h : tst S id k = true) : S.isLive id = true := by
  unfold tst at h
  simp only [Bool.and_eq_true, decide_eq_true_eq] at h
  obtain ⟨hu, rfl, hg⟩ := h
  have hlt : id % 1024 < S.used.length := by
    rcases Nat.lt_or_ge (id % 1024) S.used.length with c | c
    · exact c
    · rw [getD_none c] at hu; cases hu
  obtain ⟨x, hx⟩ : ∃ x, S.last[id % 1024]? = some x := ⟨_, List.getElem?_eq_getElem (by rw [← hS.ul]; exact hlt)⟩
  obtain ⟨u, hu'⟩ : ∃ u, S.used[id % 1024]? = some u := ⟨_, List.getElem?_eq_getElem hlt⟩
  rw [getD_some hu'] at hu
  rw [getD_some hx] at hg
  have := hS.id _ _ hx
  rw [St.isLive_iff hS]
  exact ⟨by rw [hu', hu], by rw [hx]; congr 1; omega⟩
theorem live_tst {S : St} (hS : S.Ok) (id : Nat) (h : S.isLive id = true) : tst S id (id % 1024) = true ∧ id % 1024 < S.n := by
  obtain ⟨a, b⟩ := (S.isLive_iff hS id).1 h
  refine ⟨?_, ?_⟩
  · unfold tst; rw [getD_some a, getD_some b]; simp
  · have := (List.getElem?_eq_some_iff.1 b).1; have := hS.le; omega

set_option maxHeartbeats 1000000 in
set_option maxRecDepth 100000 in
theorem rlive_ok (w0 w : World) (l : List Thing) (c : Nat) (S : St) (f : Nat → Nat) (ck id : Nat) (h : Own w0 w (RSlots c S f ck :: l)) (hS : S.Ok) (hid : id < 4294967296) :
    Calls Try.prog 23 #[.pointer (some ⟨c, 0, none⟩), .int .u32 (id : Int)] w fun e w' => e = .returned (.bool (S.isLive id)) ∧ Own w0 w' (RSlots c S f ck :: l) := by
  obtain ⟨⟨g, cp⟩, h⟩ := Own.ex_iff.1 h
  have q1 := h.cell 1
  have hn := hS.n2
  simp at q1
  have H : Hid (Own w0 w (Cells c #[.int .i64 (S.first : Int), .slice (some ⟨g, 0, none⟩) S.n cp, .int .i64 (ck : Int)] 92 :: Row 95 3 (.slice (some ⟨g, 0, none⟩) S.n cp) S.n (flat 3 S.n (one S f)) :: l)) := h
  have HS : Hid S.Ok := hS
  clear h hS
  go_enter Try.func23, Try.ntmps23
  go_wp2
  go_loopw [14] (fun cc wr => ∃ k : Nat, k ≤ S.n ∧ cc = .int .i64 k ∧ (∀ i, i < k → tst S id i = false) ∧ Own w0 wr (Cells c #[.int .i64 (S.first : Int), .slice (some ⟨g, 0, none⟩) S.n cp, .int .i64 (ck : Int)] 92 :: Row 95 3 (.slice (some ⟨g, 0, none⟩) S.n cp) S.n (flat 3 S.n (one S f)) :: l)) (fun cc _ => S.n - (intOf cc).toNat)
  case atStart => exact ⟨0, Nat.zero_le _, rfl, fun i hi => by omega, H.out⟩
  case round =>
    obtain ⟨k, hk, rfl, hno, hO⟩ := hrel
    have HN : Hid (∀ i, i < k → tst S id i = false) := hno
    clear hno H q1
    by_cases hlt : k < S.n
    · have c0 : wr.cell? ⟨g, k * 3, none⟩ = some (.int .i64 ((S.last.getD k 0 / 1024 : Nat) : Int)) := hO.two.fcell k 0 hlt (by decide) _ (by omega)
      have c1 : wr.cell? ⟨g, k * 3 + 1, none⟩ = some (.bool (S.used.getD k false)) := hO.two.fcell k 1 hlt (by decide) _ (by omega)
      have c2 : wr.cell? ⟨g, k * 3 + 2, none⟩ = some (.int .i64 (f k : Int)) := hO.two.fcell k 2 hlt (by decide) _ (by omega)
      have HO : Hid (Own w0 wr _) := hO
      have HT : Hid (tst S id k = (S.used.getD k false && (decide (k = id % 1024) && decide (S.last.getD k 0 / 1024 = id / 1024)))) := rfl
      have HR : Hid (tst S id k = false → ∀ i, i < k + 1 → tst S id i = false) := by
        intro ht i hi
        by_cases e : i = k
        · rw [e]; exact ht
        · exact HN.out i (by omega)
      clear hO HN
      have HSl : Hid (∀ w', Calls Try.prog 13 #[.int .u32 (id : Int)] w' fun e w'' => e = .returned (.int .i64 ((id % 1024 : Nat) : Int)) ∧ w'' = w') := fun w' => rslot_any id w' hid
      have HGn : Hid (∀ w', Calls Try.prog 15 #[.int .u32 (id : Int)] w' fun e w'' => e = .returned (.int .i64 ((id / 1024 : Nat) : Int)) ∧ w'' = w') := fun w' => rgen_any id w' hid
      have HL : Hid (tst S id k = true → S.isLive id = true) := fun h => tst_live HS.out id k h
      generalize S.used.getD k false = u at *
      generalize S.last.getD k 0 / 1024 = gn at *
      generalize id % 1024 = m at *
      generalize id / 1024 = gi at *
      cases u
      · go_wp2
        go_quiet (fail)
        go_wp2
        go_roundw
        case rel => exact ⟨k + 1, by omega, by go_num, HR.out (by rw [HT.out]; rfl), (HO.out.alloc _).drewN _⟩
        case measure => simp [intOf]; omega
      · by_cases hm : k = m
        · subst hm
          by_cases hg : gn = gi
          · subst hg
            have HE : Hid (S.isLive id = true) := HL.out (by rw [HT.out]; simp)
            go_wp2
            go_quiet ((first | (go_at_call 13; exact Calls.quiet_of_same (HSl.out _)) | (go_at_call 15; exact Calls.quiet_of_same (HGn.out _))))
            go_wp2
            go_ret
            exact ⟨by rw [HE.out]; rfl, Own.ex_iff.2 ⟨(g, cp), (HO.out.alloc _).drewN _⟩⟩
          · have hgb : ((gn : Int) == (gi : Int)) = false := by simp; omega
            go_wp2
            go_quiet ((first | (go_at_call 13; exact Calls.quiet_of_same (HSl.out _)) | (go_at_call 15; exact Calls.quiet_of_same (HGn.out _))))
            go_wp2
            go_roundw
            case rel => exact ⟨k + 1, by omega, by go_num, HR.out (by rw [HT.out]; simp [hg]), (HO.out.alloc _).drewN _⟩
            case measure => simp [intOf]; omega
        · have hmb : ((k : Int) == (m : Int)) = false := by simp; omega
          go_wp2
          go_quiet ((first | (go_at_call 13; exact Calls.quiet_of_same (HSl.out _)) | (go_at_call 15; exact Calls.quiet_of_same (HGn.out _))))
          go_wp2
          go_roundw
          case rel => exact ⟨k + 1, by omega, by go_num, HR.out (by rw [HT.out]; simp [hm]), (HO.out.alloc _).drewN _⟩
          case measure => simp [intOf]; omega
    · have ek : k = S.n := by omega
      have HE : Hid (S.isLive id = false) := by
        show _ = _
        cases hc : S.isLive id with
        | false => rfl
        | true =>
          obtain ⟨a, b⟩ := live_tst HS.out id hc
          rw [HN.out _ (by omega)] at a; cases a
      have HO : Hid (Own w0 wr _) := hO
      clear hO ek
      go_wp2
      go_ret
      exact ⟨by rw [HE.out]; rfl, Own.ex_iff.2 ⟨(g, cp), HO.out⟩⟩
set_option maxHeartbeats 400000 in
theorem rlive_nil (w : World) (id : Int) : Calls Try.prog 23 #[.pointer none, .int .u32 id] w fun e w' => e = .returned (.bool false) ∧ w' = w := by
  go_enter Try.func23, Try.ntmps23
  go_wp2
  go_ret
  exact ⟨rfl, rfl⟩
end Go.Proofs.Ytficpeghmkbdpaa
