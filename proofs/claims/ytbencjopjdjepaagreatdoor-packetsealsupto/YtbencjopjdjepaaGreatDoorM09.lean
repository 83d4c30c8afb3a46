/-
  Bits of package schema and of the document; the document's Field and Range where there is none.
-/
import Derived.Test.YtbencjopjdjepaaGreatDoorM08
import Derived.Test.YtbencjopjdjepaaGreatDoorM06
import Derived.Deep.RegionWith
import Derived.Test.YtbencjopjdjepaaGreatDoorM07
import Derived.Test.YtbencjopjdjepaaGreatDoorM05
namespace Go.Proofs.YtbencjopjdjepaaGreatDoor
open Go.RowKit
set_option linter.unusedVariables false

/-- the bits of the fields from the first on, so many -/
def wd (k j : Nat) : Nat := wid (lo k j) (hi k j)
def bsum (k : Nat) : Nat → Nat
  | 0 => 0
  | n + 1 => bsum k n + wd k n
def bitsK (k : Nat) : Nat := bsum k (cnt k)

theorem rng_ok (k j : Nat) (h : j < cnt k) : -524288 ≤ lo k j ∧ lo k j ≤ 1 ∧ 7 ≤ hi k j ∧ hi k j ≤ 524287 := by
  rcases pairs k j h with ⟨rfl, rfl | rfl⟩ | ⟨rfl, rfl | rfl⟩ | ⟨rfl, rfl⟩ | ⟨rfl, rfl | rfl | rfl⟩ | ⟨rfl, rfl | rfl | rfl⟩ | ⟨rfl, rfl | rfl | rfl⟩ <;> decide
theorem wd_le (k j : Nat) (h : j < cnt k) : 3 ≤ wd k j ∧ wd k j ≤ 20 := by
  rcases pairs k j h with ⟨rfl, rfl | rfl⟩ | ⟨rfl, rfl | rfl⟩ | ⟨rfl, rfl⟩ | ⟨rfl, rfl | rfl | rfl⟩ | ⟨rfl, rfl | rfl | rfl⟩ | ⟨rfl, rfl | rfl | rfl⟩ <;> decide +kernel
theorem bsum_le (k n : Nat) (h : n ≤ cnt k) : bsum k n ≤ 20 * n := by
  induction n with
  | zero => simp [bsum]
  | succ n ih =>
    have := ih (by omega)
    have := wd_le k n (by omega)
    simp only [bsum]; omega

set_option maxHeartbeats 1000000 in
set_option maxRecDepth 100000 in
theorem bits_any (w : World) (ht : Tab w) (k : Nat) (hk : k < 256) :
    Calls Tryz.prog 189 #[.int .u8 (k : Int)] w fun e w' => e = .returned (.int .i64 ((bitsK k : Nat) : Int)) ∧ Fr Nobody w w' := by
  have H : Hid (Tab w) := ht
  clear ht
  have hc := cnt_le k
  obtain ⟨c, ec⟩ : ∃ c, cnt k = c := ⟨_, rfl⟩
  have EC : Hid (cnt k = c) := ec
  rw [ec] at hc
  clear ec
  have EB : Hid (bitsK k = bsum k c) := by show _ = _; rw [bitsK, EC.out]
  go_enter Tryz.func189, Tryz.ntmps189
  go_wp2_with fail
  refine (count_any w H.out k hk).mono ?_
  rintro e w' ⟨rfl, rfl⟩
  rw [EC.out]
  go_wp2
  go_loopw [3, 7] (fun a b wr => ∃ j : Nat, j ≤ c ∧ b = .int .i64 j ∧ a = .int .i64 (bsum k j : Nat) ∧ Fr Nobody w' wr) (fun _ b _ => c - (intOf b).toNat)
  case atStart => exact ⟨0, by omega, rfl, rfl, Fr.refl _ _⟩
  case round =>
    obtain ⟨j, hj, rfl, rfl, hf⟩ := hrel
    have HF : Hid (Fr Nobody w' wr) := hf
    clear hf
    by_cases hlt : j < c
    · have hjc : j < cnt k := by rw [EC.out]; exact hlt
      obtain ⟨l0, l1, l2, l3⟩ := rng_ok k j hjc
      have h6 : k < 6 := by
        rcases Nat.lt_or_ge k 6 with h | h
        · exact h
        · rw [cnt_out k h] at hjc; omega
      have hx := (H.out.quiet HF.out).lo k j h6 (by omega)
      have hy := (H.out.quiet HF.out).hi k j h6 (by omega)
      have hb := bsum_le k j (by omega)
      have HW : Hid (∀ w, Calls Tryz.prog 166 #[.int .i64 (lo k j), .int .i64 (hi k j)] w fun e w' => e = .returned (.int .i64 (wd k j : Nat)) ∧ w' = w) := fun w => width_any (lo k j) (hi k j) w (by omega) (by omega) (by omega) (by omega)
      have hw := wd_le k j hjc
      have HS : Hid (bsum k (j + 1) = bsum k j + wd k j) := rfl
      generalize lo k j = x at *
      generalize hi k j = y at *
      generalize wd k j = z at *
      generalize bsum k j = s at *
      clear hjc
      go_wp2
      go_quiet (refine Calls.quiet_of_same (HW.out _))
      have HF2 : Hid (Fr Nobody w' (wr.drewN nq)) := HF.out.drewN nq
      go_wp2
      go_roundw
      case rel => exact ⟨j + 1, by omega, by go_num, by rw [HS.out]; go_num, HF2.out⟩
      case measure => simp [intOf]; omega
    · have e : j = c := by omega
      subst e
      go_wp2
      go_ret
      exact ⟨by rw [EB.out]; rfl, HF.out⟩

end Go.Proofs.YtbencjopjdjepaaGreatDoor


/-
  Check of package schema.
-/
namespace Go.Proofs.YtbencjopjdjepaaGreatDoor
open Go.RowKit
set_option linter.unusedVariables false

def stray (k : Nat) (F : Nat → Int) : Bool := (List.range 3).any fun j => decide (cnt k ≤ j) && decide (F j ≠ 0)
def outside (k : Nat) (F : Nat → Int) : Bool := (List.range (cnt k)).any fun j => decide (F j < lo k j) || decide (hi k j < F j)
theorem stray_true (k j : Nat) (F : Nat → Int) (h1 : cnt k ≤ j) (h2 : j < 3) (h3 : F j ≠ 0) : stray k F = true := by
  unfold stray; rw [List.any_eq_true]; exact ⟨j, by simpa using h2, by simp [h1, h3]⟩
theorem stray_false (k : Nat) (F : Nat → Int) (h : ∀ j, cnt k ≤ j → j < 3 → F j = 0) : stray k F = false := by
  unfold stray; rw [List.any_eq_false]; intro j hj
  have hj' : j < 3 := by simpa using hj
  by_cases hc : cnt k ≤ j
  · simp [h j hc hj']
  · simp [hc]
theorem outside_true (k j : Nat) (F : Nat → Int) (h1 : j < cnt k) (h3 : F j < lo k j ∨ hi k j < F j) : outside k F = true := by
  unfold outside; rw [List.any_eq_true]; refine ⟨j, by simpa using h1, ?_⟩
  rcases h3 with h | h <;> simp [h]
theorem outside_false (k : Nat) (F : Nat → Int) (h : ∀ j, j < cnt k → lo k j ≤ F j ∧ F j ≤ hi k j) : outside k F = false := by
  unfold outside; rw [List.any_eq_false]; intro j hj
  have hj' : j < cnt k := by simpa using hj
  have := h j hj'
  simp; omega
theorem outside_no (k j : Nat) (F : Nat → Int) (h : outside k F = false) (hj : j < cnt k) : lo k j ≤ F j ∧ F j ≤ hi k j := by
  constructor
  · apply Int.not_lt.1; intro hh; rw [outside_true k j F hj (.inl hh)] at h; cases h
  · apply Int.not_lt.1; intro hh; rw [outside_true k j F hj (.inr hh)] at h; cases h
theorem stray_no (k j : Nat) (F : Nat → Int) (h : stray k F = false) (hj : cnt k ≤ j) (h3 : j < 3) : F j = 0 := by
  apply Classical.byContradiction; intro hh; rw [stray_true k j F hj h3 hh] at h; cases h
def chk (k : Nat) (F : Nat → Int) : Nat := if 6 ≤ k then 1 else if stray k F then 4 else if outside k F then 5 else 0

/-- a component's cells -/
def cmp (k : Nat) (F : Nat → Int) : Array Value := #[.int .u8 (k : Int), .int .i32 (F 0), .int .i32 (F 1), .int .i32 (F 2)]
/-- it lies at a block -/
def Box (w : World) (b : Nat) (k : Nat) (F : Nat → Int) : Prop := w.heap[b]? = some (.cells (cmp k F) 68 (0, 0))
theorem Box.new (w : World) (k : Nat) (F : Nat → Int) : Box (w.alloc (.cells (cmp k F) 68)) w.heap.size k F := heap_alloc_new w _
theorem Box.quiet {w w' : World} {b k : Nat} {F : Nat → Int} (h : Box w b k F) (hf : Fr Nobody w w') : Box w' b k F :=
  (hf.block b (Array.getElem?_eq_some_iff.1 h).1 id).trans h
theorem Box.kind {w : World} {b k : Nat} {F : Nat → Int} (h : Box w b k F) : w.cell? ⟨b, 0, none⟩ = some (.int .u8 (k : Int)) := by
  unfold Box cmp at h; simp [World.cell?, h]
theorem Box.at {w : World} {b k : Nat} {F : Nat → Int} (h : Box w b k F) (j : Nat) (hj : j < 3) : w.cell? ⟨b, 1 + j, none⟩ = some (.int .i32 (F j)) := by
  unfold Box cmp at h
  have : j = 0 ∨ j = 1 ∨ j = 2 := by omega
  rcases this with rfl | rfl | rfl <;> simp [World.cell?, h]

set_option maxHeartbeats 1000000 in
theorem hasStray_any (w : World) (ht : Tab w) (k : Nat) (hk : k < 256) (F : Nat → Int) :
    Calls Tryz.prog 186 #[.agg (cmp k F)] w fun e w' => e = .returned (.bool (stray k F)) ∧ Fr Nobody w w' := by
  have H : Hid (Tab w) := ht
  clear ht
  have hc := cnt_le k
  obtain ⟨c, ec⟩ : ∃ c, cnt k = c := ⟨_, rfl⟩
  have EC : Hid (cnt k = c) := ec
  rw [ec] at hc
  clear ec
  have HB : Hid (Box (w.alloc (.cells (cmp k F) 68)) w.heap.size k F) := Box.new w k F
  have HF : Hid (Fr Nobody w (w.alloc (.cells (cmp k F) 68))) := (Fr.refl _ _).alloc _
  unfold cmp
  go_enter Tryz.func186, Tryz.ntmps186
  go_wp2_with fail
  refine (count_any _ (H.out.quiet HF.out) k hk).mono ?_
  rintro e w1 ⟨rfl, rfl⟩
  rw [EC.out]
  go_wp2
  go_loopw [3] (fun a wr => ∃ j : Nat, c ≤ j ∧ j ≤ 3 ∧ a = .int .i64 j ∧ (∀ i, c ≤ i → i < j → F i = 0) ∧ Box wr w.heap.size k F ∧ Fr Nobody w wr) (fun b _ => 3 - (intOf b).toNat)
  case atStart => exact ⟨c, Nat.le_refl _, hc, rfl, fun i h1 h2 => by omega, HB.out, HF.out⟩
  case round =>
    obtain ⟨j, hcj, hj, rfl, hz, hb, hf⟩ := hrel
    have HZ : Hid (∀ i, c ≤ i → i < j → F i = 0) := hz
    have HF1 : Hid (Fr Nobody w wr) := hf
    have HB1 : Hid (Box wr w.heap.size k F) := hb
    clear hf hz hb
    by_cases hlt : j < 3
    · have hx := HB1.out.at j hlt
      by_cases h0 : F j = 0
      · have HZ2 : Hid (∀ i, c ≤ i → i < j + 1 → F i = 0) := by
          intro i h1 h2
          by_cases e : i = j
          · rw [e]; exact h0
          · exact HZ.out i h1 (by omega)
        rw [h0] at hx
        clear h0
        go_wp2
        go_roundw
        case rel => exact ⟨j + 1, by omega, by omega, by go_num, HZ2.out, HB1.out, HF1.out⟩
        case measure => simp [intOf]; omega
      · have HS : Hid (stray k F = true) := stray_true k j F (by rw [EC.out]; exact hcj) hlt h0
        have h1 : (F j != 0) = true := by simpa using h0
        generalize F j = x at *
        clear h0
        go_wp2
        go_ret
        exact ⟨by rw [HS.out]; rfl, HF1.out⟩
    · have HS : Hid (stray k F = false) := stray_false k F (fun i h1 h2 => HZ.out i (by rw [← EC.out]; exact h1) (by omega))
      go_wp2
      go_ret
      exact ⟨by rw [HS.out]; rfl, HF1.out⟩

set_option maxHeartbeats 2000000 in
theorem hasOutside_any (w : World) (ht : Tab w) (k : Nat) (hk : k < 6) (F : Nat → Int) :
    Calls Tryz.prog 187 #[.agg (cmp k F)] w fun e w' => e = .returned (.bool (outside k F)) ∧ Fr Nobody w w' := by
  have H : Hid (Tab w) := ht
  clear ht
  have hc := cnt_le k
  obtain ⟨c, ec⟩ : ∃ c, cnt k = c := ⟨_, rfl⟩
  have EC : Hid (cnt k = c) := ec
  rw [ec] at hc
  clear ec
  have HB : Hid (Box (w.alloc (.cells (cmp k F) 68)) w.heap.size k F) := Box.new w k F
  have HF : Hid (Fr Nobody w (w.alloc (.cells (cmp k F) 68))) := (Fr.refl _ _).alloc _
  unfold cmp
  go_enter Tryz.func187, Tryz.ntmps187
  go_wp2_with fail
  refine (count_any _ (H.out.quiet HF.out) k (by omega)).mono ?_
  rintro e w1 ⟨rfl, rfl⟩
  rw [EC.out]
  go_wp2
  go_loopw [7] (fun a wr => ∃ j : Nat, j ≤ c ∧ a = .int .i64 j ∧ (∀ i, i < j → lo k i ≤ F i ∧ F i ≤ hi k i) ∧ Box wr w.heap.size k F ∧ Fr Nobody w wr) (fun b _ => c - (intOf b).toNat)
  case atStart => exact ⟨0, Nat.zero_le _, rfl, fun i h1 => by omega, HB.out, HF.out⟩
  case round =>
    obtain ⟨j, hj, rfl, hz, hb, hf⟩ := hrel
    have HZ : Hid (∀ i, i < j → lo k i ≤ F i ∧ F i ≤ hi k i) := hz
    have HF1 : Hid (Fr Nobody w wr) := hf
    have HB1 : Hid (Box wr w.heap.size k F) := hb
    clear hf hz hb
    by_cases hlt : j < c
    · have hx := HB1.out.at j (by omega)
      have hk0 := HB1.out.kind
      have hy := (H.out.quiet HF1.out).lo k j hk (by omega)
      have hz := (H.out.quiet HF1.out).hi k j hk (by omega)
      by_cases h0 : F j < lo k j
      · have HS : Hid (outside k F = true) := outside_true k j F (by rw [EC.out]; exact hlt) (.inl h0)
        generalize F j = x at *
        generalize lo k j = a at *
        generalize hi k j = b at *
        go_wp2
        go_quiet (fail)
        have HF2 := HF1.out.drewN nq
        have HG : Hid _ := HF2
        clear HF2
        go_wp2
        go_ret
        exact ⟨by rw [HS.out]; rfl, HG.out⟩
      · by_cases h1 : hi k j < F j
        · have HS : Hid (outside k F = true) := outside_true k j F (by rw [EC.out]; exact hlt) (.inr h1)
          generalize F j = x at *
          generalize lo k j = a at *
          generalize hi k j = b at *
          have d0 : decide (x < a) = false := by simpa using h0
          have d1 : decide (b < x) = true := by simpa using h1
          clear h0 h1
          go_wp2
          go_quiet (fail)
          have HF2 := HF1.out.drewN nq
          have HG : Hid _ := HF2
          clear HF2
          go_wp2
          go_ret
          exact ⟨by rw [HS.out]; rfl, HG.out⟩
        · have HZ2 : Hid (∀ i, i < j + 1 → lo k i ≤ F i ∧ F i ≤ hi k i) := by
            intro i h2
            by_cases e : i = j
            · rw [e]; omega
            · exact HZ.out i (by omega)
          generalize F j = x at *
          generalize lo k j = a at *
          generalize hi k j = b at *
          have d0 : decide (x < a) = false := by simpa using h0
          have d1 : decide (b < x) = false := by simpa using h1
          clear h0 h1
          go_wp2
          go_quiet (fail)
          have HF2 := HF1.out.drewN nq
          have HG : Hid _ := HF2
          have HB2 : Hid (Box (wr.drewN nq) w.heap.size k F) := HB1.out.quiet ((Fr.refl _ _).drewN nq)
          clear HF2
          go_wp2
          go_roundw
          case rel => exact ⟨j + 1, by omega, by go_num, HZ2.out, HB2.out, HG.out⟩
          case measure => simp [intOf]; omega
    · have HS : Hid (outside k F = false) := outside_false k F (fun i h1 => HZ.out i (by rw [EC.out] at h1; omega))
      go_wp2
      go_ret
      exact ⟨by rw [HS.out]; rfl, HF1.out⟩

set_option maxHeartbeats 1000000 in
theorem check_any (w : World) (ht : Tab w) (k : Nat) (hk : k < 256) (F : Nat → Int) :
    Calls Tryz.prog 161 #[.agg (cmp k F)] w fun e w' => e = .returned (.int .i64 ((chk k F : Nat) : Int)) ∧ Fr Nobody w w' := by
  have H : Hid (Tab w) := ht
  clear ht
  have HF : Hid (Fr Nobody w (w.alloc (.cells (cmp k F) 68))) := (Fr.refl _ _).alloc _
  unfold chk
  by_cases h6 : 6 ≤ k
  · rw [if_pos h6]
    unfold cmp at *
    go_enter Tryz.func161, Tryz.ntmps161
    go_wp2
    go_ret
    exact ⟨rfl, HF.out⟩
  · rw [if_neg h6]
    have HS : Hid (∀ w, Tab w → Calls Tryz.prog 186 #[.agg (cmp k F)] w fun e w' => e = .returned (.bool (stray k F)) ∧ Fr Nobody w w') := fun w h => hasStray_any w h k hk F
    have HO : Hid (∀ w, Tab w → Calls Tryz.prog 187 #[.agg (cmp k F)] w fun e w' => e = .returned (.bool (outside k F)) ∧ Fr Nobody w w') := fun w h => hasOutside_any w h k (by omega) F
    have HB : Hid (Box (w.alloc (.cells (cmp k F) 68)) w.heap.size k F) := Box.new w k F
    cases hs : stray k F with
    | true =>
      rw [hs] at HS
      unfold cmp at *
      rw [if_pos rfl]
      clear hs
      go_enter Tryz.func161, Tryz.ntmps161
      go_wp2_with fail
      refine (HS.out _ (H.out.quiet HF.out)).mono ?_
      rintro e w1 ⟨rfl, hf1⟩
      have HF1 : Hid _ := HF.out.trans hf1
      clear hf1
      go_wp2
      go_ret
      exact ⟨rfl, HF1.out⟩
    | false =>
      rw [hs] at HS
      rw [if_neg (by decide)]
      cases ho : outside k F with
      | true =>
        rw [ho] at HO
        rw [if_pos rfl]
        clear hs ho
        unfold cmp at *
        go_enter Tryz.func161, Tryz.ntmps161
        go_wp2_with fail
        refine (HS.out _ (H.out.quiet HF.out)).mono ?_
        rintro e w1 ⟨rfl, hf1⟩
        have HF1 : Hid _ := HF.out.trans hf1
        have hb1 := HB.out.quiet hf1
        have hc0 := hb1.kind
        have hc1 := hb1.at 0 (by decide)
        have hc2 := hb1.at 1 (by decide)
        have hc3 := hb1.at 2 (by decide)
        clear hf1 hb1
        go_wp2_with fail
        refine (HO.out _ (H.out.quiet HF1.out)).mono ?_
        rintro e w2 ⟨rfl, hf2⟩
        have HF2 : Hid _ := HF1.out.trans hf2
        clear hf2
        go_wp2
        go_ret
        exact ⟨rfl, HF2.out⟩
      | false =>
        rw [ho] at HO
        rw [if_neg (by decide)]
        clear hs ho
        unfold cmp at *
        go_enter Tryz.func161, Tryz.ntmps161
        go_wp2_with fail
        refine (HS.out _ (H.out.quiet HF.out)).mono ?_
        rintro e w1 ⟨rfl, hf1⟩
        have HF1 : Hid _ := HF.out.trans hf1
        have hb1 := HB.out.quiet hf1
        have hc0 := hb1.kind
        have hc1 := hb1.at 0 (by decide)
        have hc2 := hb1.at 1 (by decide)
        have hc3 := hb1.at 2 (by decide)
        clear hf1 hb1
        go_wp2_with fail
        refine (HO.out _ (H.out.quiet HF1.out)).mono ?_
        rintro e w2 ⟨rfl, hf2⟩
        have HF2 : Hid _ := HF1.out.trans hf2
        clear hf2
        go_wp2
        go_ret
        exact ⟨rfl, HF2.out⟩
end Go.Proofs.YtbencjopjdjepaaGreatDoor


/-
  The document's Check.
-/
namespace Go.Proofs.YtbencjopjdjepaaGreatDoor
open Go.RowKit
set_option linter.unusedVariables false
set_option maxRecDepth 100000

set_option maxHeartbeats 2000000 in
theorem rcheck_any (w : World) (k : Nat) (hk : k < 256) (F : Nat → Int) :
    Calls Tryz.prog 104 #[.agg (cmp k F)] w fun e w' => e = .returned (.int .i64 ((chk k F : Nat) : Int)) ∧ Fr Nobody w w' := by
  have hc := cnt_le k
  have HC : Hid (∀ w, Calls Tryz.prog 105 #[.int .u8 (k : Int)] w fun e w' => e = .returned (.int .i64 ((cnt k : Nat) : Int)) ∧ Fr Nobody w w') := fun w => rcount_any w k hk
  have HB : Hid (Box (w.alloc (.cells (cmp k F) 68)) w.heap.size k F) := Box.new w k F
  have HF : Hid (Fr Nobody w (w.alloc (.cells (cmp k F) 68))) := (Fr.refl _ _).alloc _
  by_cases h6 : 6 ≤ k
  · have e1 : chk k F = 1 := by unfold chk; rw [if_pos h6]
    rw [e1]
    rw [cnt_out k h6] at HC
    clear e1 hc
    unfold cmp at *
    go_enter Tryz.func104, Tryz.ntmps104
    go_wp2_with fail
    refine (HC.out _).mono ?_
    rintro e w1 ⟨rfl, hf1⟩
    have HF1 : Hid _ := HF.out.trans hf1
    clear hf1
    go_wp2
    go_ret
    exact ⟨rfl, HF1.out⟩
  · have h1 := cnt_pos k (by omega)
    obtain ⟨c, ec⟩ : ∃ c, cnt k = c := ⟨_, rfl⟩
    have EC : Hid (cnt k = c) := ec
    rw [ec] at hc HC h1
    clear ec
    have HS4 : Hid (stray k F = true → chk k F = 4) := fun h => by unfold chk; rw [if_neg h6, if_pos h]
    have HS5 : Hid (stray k F = false → outside k F = true → chk k F = 5) := fun h h' => by unfold chk; rw [if_neg h6, h, if_neg (by decide), if_pos h']
    have HS0 : Hid (stray k F = false → outside k F = false → chk k F = 0) := fun h h' => by unfold chk; rw [if_neg h6, h, h', if_neg (by decide), if_neg (by decide)]
    unfold cmp
    have hc0 : ((c : Int) == 0) = false := by rw [beq_eq_false_iff_ne]; omega
    clear h1
    go_enter Tryz.func104, Tryz.ntmps104
    go_wp2_with fail
    refine (HC.out _).mono ?_
    rintro e w1 ⟨rfl, hf1⟩
    have HF1 : Hid _ := HF.out.trans hf1
    have HB1 : Hid _ := HB.out.quiet hf1
    clear hf1
    go_wp2
    go_loopw [4] (fun a wr => ∃ j : Nat, c ≤ j ∧ j ≤ 3 ∧ a = .int .i64 j ∧ (∀ i, c ≤ i → i < j → F i = 0) ∧ Box wr w.heap.size k F ∧ Fr Nobody w wr) (fun b _ => 3 - (intOf b).toNat)
    case atStart => exact ⟨c, Nat.le_refl _, hc, rfl, fun i h1 h2 => by omega, HB1.out, HF1.out⟩
    case round =>
      obtain ⟨j, hcj, hj, rfl, hz, hb, hf⟩ := hrel
      have HZ : Hid (∀ i, c ≤ i → i < j → F i = 0) := hz
      have HG1 : Hid (Fr Nobody w wr) := hf
      have HB2 : Hid (Box wr w.heap.size k F) := hb
      clear hf hz hb
      by_cases hlt : j < 3
      · have hx := HB2.out.at j hlt
        by_cases h0 : F j = 0
        · have HZ2 : Hid (∀ i, c ≤ i → i < j + 1 → F i = 0) := by
            intro i h1 h2
            by_cases e : i = j
            · rw [e]; exact h0
            · exact HZ.out i h1 (by omega)
          rw [h0] at hx
          clear h0
          go_wp2
          go_roundw
          case rel => exact ⟨j + 1, by omega, by omega, by go_num, HZ2.out, HB2.out, HG1.out⟩
          case measure => simp [intOf]; omega
        · have HS : Hid (chk k F = 4) := HS4.out (stray_true k j F (by rw [EC.out]; exact hcj) hlt h0)
          have h1 : (F j != 0) = true := by simpa using h0
          generalize F j = x at *
          clear h0
          go_wp2
          go_ret
          exact ⟨by rw [HS.out]; rfl, HG1.out⟩
      · have HS : Hid (stray k F = false) := stray_false k F (fun i h1 h2 => HZ.out i (by rw [← EC.out]; exact h1) (by omega))
        clear HZ hcj
        go_wp2
        clear HB HB1 HF HF1 HC
        go_loopw [25] (fun a wq => ∃ i : Nat, i ≤ c ∧ a = .int .i64 i ∧ (∀ t, t < i → lo k t ≤ F t ∧ F t ≤ hi k t) ∧ Box wq w.heap.size k F ∧ Fr Nobody w wq) (fun b _ => c - (intOf b).toNat)
        case atStart => exact ⟨0, Nat.zero_le _, rfl, fun i h1 => by omega, HB2.out, HG1.out⟩
        case round =>
          obtain ⟨i, hi0, rfl, hz, hb, hf⟩ := hrel
          have HZ : Hid (∀ t, t < i → lo k t ≤ F t ∧ F t ≤ hi k t) := hz
          have HG : Hid (Fr Nobody w wr) := hf
          have HB3 : Hid (Box wr w.heap.size k F) := hb
          clear hf hz hb
          by_cases hlt2 : i < c
          · have hk0 := HB3.out.kind
            have HR : Hid (∀ w, Calls Tryz.prog 107 #[.int .u8 (k : Int), .int .i64 (i : Int)] w fun e w' => e = .returned (.tuple #[.int .i32 (lo k i), .int .i32 (hi k i), .int .i64 0]) ∧ Fr Nobody w w') := fun w => rrange_ok w k i (by rw [EC.out]; exact hlt2)
            by_cases h0 : F i < lo k i
            · have HO : Hid (chk k F = 5) := HS5.out HS.out (outside_true k i F (by rw [EC.out]; exact hlt2) (.inl h0))
              go_wp2_with fail
              refine (HR.out _).mono ?_
              rintro e w2 ⟨rfl, hf2⟩
              have HG2 : Hid _ := HG.out.trans hf2
              have hx := (HB3.out.quiet hf2).at i (by omega)
              clear hf2 HR
              generalize F i = x at *
              generalize lo k i = a at *
              generalize hi k i = b at *
              go_wp2
              go_ret
              exact ⟨by rw [HO.out]; rfl, HG2.out⟩
            · by_cases h1 : hi k i < F i
              · have HO : Hid (chk k F = 5) := HS5.out HS.out (outside_true k i F (by rw [EC.out]; exact hlt2) (.inr h1))
                go_wp2_with fail
                refine (HR.out _).mono ?_
                rintro e w2 ⟨rfl, hf2⟩
                have HG2 : Hid _ := HG.out.trans hf2
                have hx := (HB3.out.quiet hf2).at i (by omega)
                clear hf2 HR
                generalize F i = x at *
                generalize lo k i = a at *
                generalize hi k i = b at *
                have d0 : decide (x < a) = false := by simpa using h0
                have d1 : decide (b < x) = true := by simpa using h1
                clear h0 h1
                go_wp2
                go_ret
                exact ⟨by rw [HO.out]; rfl, HG2.out⟩
              · have HZ2 : Hid (∀ t, t < i + 1 → lo k t ≤ F t ∧ F t ≤ hi k t) := by
                  intro t h2
                  by_cases e : t = i
                  · rw [e]; omega
                  · exact HZ.out t (by omega)
                go_wp2_with fail
                refine (HR.out _).mono ?_
                rintro e w2 ⟨rfl, hf2⟩
                have HG2 : Hid _ := HG.out.trans hf2
                have HB4 : Hid (Box w2 w.heap.size k F) := HB3.out.quiet hf2
                have hx := HB4.out.at i (by omega)
                clear hf2 HR
                generalize F i = x at *
                generalize lo k i = a at *
                generalize hi k i = b at *
                have d0 : decide (x < a) = false := by simpa using h0
                have d1 : decide (b < x) = false := by simpa using h1
                clear h0 h1
                go_wp2
                go_roundw
                case rel => exact ⟨i + 1, by omega, by go_num, HZ2.out, HB4.out, HG2.out⟩
                case measure => simp [intOf]; omega
          · have HO : Hid (chk k F = 0) := HS0.out HS.out (outside_false k F (fun t h1 => HZ.out t (by rw [EC.out] at h1; omega)))
            go_wp2
            go_ret
            exact ⟨by rw [HO.out]; rfl, HG.out⟩

/-- three fields -/
def f3 (a b c : Int) : Nat → Int
  | 0 => a
  | 1 => b
  | 2 => c
  | _ => 0
theorem check3 (w : World) (ht : Tab w) (k : Nat) (hk : k < 256) (a b c : Int) :
    Calls Tryz.prog 161 #[.agg #[.int .u8 (k : Int), .int .i32 a, .int .i32 b, .int .i32 c]] w fun e w' => e = .returned (.int .i64 ((chk k (f3 a b c) : Nat) : Int)) ∧ Fr Nobody w w' := check_any w ht k hk (f3 a b c)
theorem rcheck3 (w : World) (k : Nat) (hk : k < 256) (a b c : Int) :
    Calls Tryz.prog 104 #[.agg #[.int .u8 (k : Int), .int .i32 a, .int .i32 b, .int .i32 c]] w fun e w' => e = .returned (.int .i64 ((chk k (f3 a b c) : Nat) : Int)) ∧ Fr Nobody w w' := rcheck_any w k hk (f3 a b c)
end Go.Proofs.YtbencjopjdjepaaGreatDoor


/-
  Components that come in, by value: read, and read again.
-/
namespace Go.Proofs.YtbencjopjdjepaaGreatDoor
open Go.ChangeShapes Go.WideShapes Go.ChangeAt Go.WideMaps Go.WideElems Go.RowKit
set_option linter.unusedVariables false
set_option maxRecDepth 100000

theorem cellsComp : Tryz.prog.cellsOf 68 = 4 := by kernel_rfl
theorem cellsA3 : Tryz.prog.cellsOf 66 = 3 := by kernel_rfl
theorem cellsByte : Tryz.prog.cellsOf 5 = 1 := by kernel_rfl
theorem cellsI32 : Tryz.prog.cellsOf 21 = 1 := by kernel_rfl
/-- a component's datum -/
def cdat {H : Type} (k : Int) (a b c : Int) : DataW H := .agg [.lit (.int .u8 k), .agg [.lit (.int .i32 a), .lit (.int .i32 b), .lit (.int .i32 c)]]
def ok8 (k : Int) : Prop := (Lit.int .u8 k).wf = true
def ok32 (a : Int) : Prop := (Lit.int .i32 a).wf = true
/-- the cells of a component that is read as data -/
theorem comp_cells {H : Type} {enc : TypeId × Value → H} {W : World} {base : Nat} {sp : Nat → Bool} {held : Bool} {fuel : Nat} {cs : List Value} {x : DataW H × List MemPlace}
    (h : DataW.trod enc Tryz.prog W base sp held fuel 68 cs = some x) : ∃ k a b c, ok8 k ∧ ok32 a ∧ ok32 b ∧ ok32 c ∧ cs = [.int .u8 k, .int .i32 a, .int .i32 b, .int .i32 c] ∧ x = (cdat k a b c, []) := by
  obtain ⟨xs, n, _, hx, hl, hlen, hf⟩ := DataW.trod_struct Tryz.underlying68 h
  rw [cellsComp] at hl
  match cs, hl with
  | [c0, c1, c2, c3], _ =>
  match xs, hlen with
  | [y0, y1], _ =>
    have h0 := hf 0 _ rfl
    have h1 := hf 1 _ rfl
    simp [cellsByte, cellsA3] at h0 h1
    obtain ⟨k, e0, e0', w0⟩ := DataW.trod_int Tryz.underlying5 h0
    obtain ⟨zs, m, _, hz, hzl, hzlen, hzf⟩ := DataW.trod_array Tryz.underlying66 h1
    match zs, hzlen with
    | [z0, z1, z2], _ =>
      have g0 := hzf 0 (by decide)
      have g1 := hzf 1 (by decide)
      have g2 := hzf 2 (by decide)
      simp [cellsI32] at g0 g1 g2
      obtain ⟨a, a0, a1, wa⟩ := DataW.trod_int Tryz.underlying21 g0
      obtain ⟨b, b0, b1, wb⟩ := DataW.trod_int Tryz.underlying21 g1
      obtain ⟨c, k0, k1, wc⟩ := DataW.trod_int Tryz.underlying21 g2
      simp at e0 a0 b0 k0
      subst e0 a0 b0 k0 e0' a1 b1 k1 hz hx
      exact ⟨k, a, b, c, w0, wa, wb, wc, rfl, by simp [cdat]⟩
theorem ok8_nat {k : Int} (h : ok8 k) : ∃ n : Nat, k = n ∧ n < 256 := by
  have : 0 ≤ k ∧ k ≤ 255 := by simpa [ok8, Lit.wf, IntKind.min, IntKind.max, IntKind.signed, IntKind.bits] using h
  exact ⟨k.toNat, by omega, by omega⟩
theorem Box.cells {w : World} {b k : Nat} {F : Nat → Int} (h : Box w b k F) : w.cell? ⟨b, 0, none⟩ = some (.int .u8 (k : Int)) ∧ w.cell? ⟨b, 1, none⟩ = some (.int .i32 (F 0)) ∧ w.cell? ⟨b, 2, none⟩ = some (.int .i32 (F 1)) ∧ w.cell? ⟨b, 3, none⟩ = some (.int .i32 (F 2)) :=
  ⟨h.kind, h.at 0 (by decide), h.at 1 (by decide), h.at 2 (by decide)⟩
end Go.Proofs.YtbencjopjdjepaaGreatDoor


/-
  Signs of the document; PutVar and PutInt where a list of bits lies beside the writer; what is read back: plain facts.
-/
namespace Go.Proofs.YtbencjopjdjepaaGreatDoor
open Go.RowKit
set_option linter.unusedVariables false
set_option maxRecDepth 100000

set_option maxHeartbeats 400000 in
theorem rzig_any (n : Int) (w : World) (h0 : -9223372036854775808 ≤ n) (h1 : n ≤ 9223372036854775807) :
    Calls Tryz.prog 106 #[.int .i64 n] w fun e w' => e = .returned (.int .u64 (zig n : Nat)) ∧ w' = w := by
  by_cases h : n < 0
  · have e : zig n = (-2 * n - 1).toNat := by unfold zig; rw [if_pos h]
    rw [e]
    clear e
    go_enter Tryz.func106, Tryz.ntmps106
    go_wp2
    go_ret
    exact ⟨ret_int (by omega), rfl⟩
  · have e : zig n = (2 * n).toNat := by unfold zig; rw [if_neg h]
    have h' : 0 ≤ n := by omega
    rw [e]
    clear e
    go_enter Tryz.func106, Tryz.ntmps106
    go_wp2
    go_ret
    exact ⟨ret_int (by omega), rfl⟩
theorem num_zeros (n : Nat) : num (List.replicate n false) = 0 := by
  induction n with
  | zero => rfl
  | succ n ih => rw [List.replicate_succ, num, ih]; rfl
/-- a writer with the bits L, and a list of the bits M beside it -/
def Pair (w0 w : World) (b : Nat) (L : List Bool) (u : Value) (M : List Bool) : Prop := Ow w0 w b L ∧ Bo w0.heap.size w u M
theorem Pair.quiet {w0 w w' : World} {b : Nat} {L : List Bool} {u : Value} {M : List Bool} (h : Pair w0 w b L u M) (hf : Fr Nobody w w') : Pair w0 w' b L u M := ⟨h.1.quiet hf, h.2.quiet hf⟩
end Go.Proofs.YtbencjopjdjepaaGreatDoor


/-
  The document's side of layer 1: Bits and Get on lists of bits.
-/
namespace Go.Proofs.YtbencjopjdjepaaGreatDoor
open Go.RowKit
set_option linter.unusedVariables false
set_option maxRecDepth 100000

/-- The bytes P from an address on: nothing is asked of it where there are none. -/
def BytesAt (w : World) (ao : Option Addr) (P : List Nat) : Prop :=
  P = [] ∨ ∃ g o, ao = some ⟨g, o, none⟩ ∧ ∀ (j x : Nat), P[j]? = some x → w.cell? ⟨g, o + j, none⟩ = some (.int .u8 (x : Int))
theorem BytesAt.quiet {w w' : World} {ao : Option Addr} {P : List Nat} (h : BytesAt w ao P) (hf : Fr Nobody w w') : BytesAt w' ao P := by
  rcases h with h | ⟨g, o, ha, hc⟩
  · exact .inl h
  · refine .inr ⟨g, o, ha, fun j x hx => ?_⟩
    have h1 := hc j x hx
    exact (hf.cell (p := ⟨g, o + j, none⟩) (World.block_lt_of_cell? w _ h1) id).trans h1
theorem BytesAt.src {w : World} {ao : Option Addr} {P : List Nat} (h : BytesAt w ao P) (cap : Nat) (hn : ao = none → cap = 0) : Src w (.slice ao P.length cap) P.length (vrow P) := by
  cases ao with
  | none =>
    left
    rcases h with h | ⟨g, o, ha, _⟩
    · subst h; rw [hn rfl]; exact ⟨rfl, rfl, rfl⟩
    · cases ha
  | some a =>
    right
    refine ⟨a, cap, rfl, length_vrow P, fun j u hu => ?_⟩
    rcases h with h | ⟨g, o, ha, hc⟩
    · subst h; simp [vrow] at hu
    · cases ha
      rw [getElem?_vrow] at hu
      cases hx : P[j]? with
      | none => rw [hx] at hu; cases hu
      | some x =>
        rw [hx] at hu
        simp only [Option.map_some, Option.some.injEq] at hu
        subst hu
        rw [addr_add]
        exact hc j x hx

theorem bitsB_snoc (P : List Nat) (k x : Nat) (h : P[k]? = some x) : bitsB (P.take (k + 1)) = bitsB (P.take k) ++ bitsN 8 x := by
  rw [List.take_add_one, h]; simp [bitsB]
theorem length_bitsB_take (P : List Nat) (k : Nat) (h : k ≤ P.length) : (bitsB (P.take k)).length = 8 * k := by rw [length_bitsB, List.length_take]; omega

set_option maxHeartbeats 1000000 in
theorem rbits_any (w : World) (ao : Option Addr) (cap len : Nat) (P : List Nat) (h : BytesAt w ao P) (hlen : P.length = len) (hb : ∀ x ∈ P, x < 256) (hL : len ≤ 10000) :
    Calls Tryz.prog 69 #[.slice ao len cap] w fun e w' => ∃ v', e = .returned v' ∧ Bo w.heap.size w' v' (bitsB P) ∧ Fr Nobody w w' := by
  obtain ⟨i0, hi, hz0, hz1, hz2⟩ := info_parts Tryz.infoBool
  have HP : Hid (BytesAt w ao P ∧ P.length = len ∧ ∀ x ∈ P, x < 256) := ⟨h, hlen, hb⟩
  clear h hlen hb
  go_enter Tryz.func69, Tryz.ntmps69
  go_wp2
  go_loopw [3, 8] (fun u c wr => ∃ k : Nat, k ≤ len ∧ c = .int .i64 k ∧ Bo w.heap.size wr u (bitsB (P.take k)) ∧ Fr Nobody w wr) (fun _ c _ => len - (intOf c).toNat)
  case atStart => exact ⟨0, Nat.zero_le _, rfl, Bo.nil _ _, Fr.refl _ _⟩
  case round =>
    obtain ⟨k, hk, rfl, hB, hf⟩ := hrel
    have H1 : Hid (Bo w.heap.size wr _ (bitsB (P.take k)) ∧ Fr Nobody w wr) := ⟨hB, hf⟩
    clear hB hf
    by_cases hlt : k < len
    · obtain ⟨x, hx⟩ : ∃ x, P[k]? = some x := ⟨_, List.getElem?_eq_getElem (by rw [HP.out.2.1]; exact hlt)⟩
      have hx2 := HP.out.2.2 x (List.mem_of_getElem? hx)
      obtain ⟨g, o, hao, cx⟩ : ∃ g o, ao = some ⟨g, o, none⟩ ∧ wr.cell? ⟨g, o + k, none⟩ = some (.int .u8 (x : Int)) := by
        rcases HP.out.1.quiet H1.out.2 with h | ⟨g, o, ha, hc⟩
        · subst h; simp at hx
        · exact ⟨g, o, ha, hc k _ hx⟩
      subst hao
      have HS : Hid (bitsB (P.take (k + 1)) = bitsB (P.take k) ++ bitsN 8 x) := bitsB_snoc P k x hx
      have HL : Hid ((bitsB (P.take k)).length = 8 * k) := length_bitsB_take P k (by rw [HP.out.2.1]; exact hk)
      clear hx
      have hd : decide ((k : Int) < (len : Int)) = true := by simp; omega
      go_wp2
      clear hd cx
      go_loopw [3, 5, 12] (fun u xv c wr2 => ∃ j y : Nat, j ≤ 8 ∧ c = .int .i64 j ∧ y = x / 2 ^ j ∧ xv = .int .u8 (y : Int) ∧ Bo w.heap.size wr2 u (bitsB (P.take k) ++ bitsN j x) ∧ Fr Nobody w wr2) (fun _ _ c _ => 8 - (intOf c).toNat)
      case atStart => exact ⟨0, x, by decide, rfl, by simp, rfl, by simpa [bitsN] using H1.out.1, H1.out.2⟩
      case round =>
        obtain ⟨j, y, hj, rfl, hy, rfl, hB, hf⟩ := hrel
        have HY : Hid (y = x / 2 ^ j) := hy
        have hy2 : y < 256 := by rw [hy]; exact Nat.lt_of_le_of_lt (Nat.div_le_self _ _) hx2
        clear hy
        by_cases hj8 : j < 8
        · obtain ⟨bb, hbb⟩ : ∃ bb : Bool, (((y : Int) % 2 == 1) : Bool) = bb := ⟨_, rfl⟩
          have HB : Hid ((x / 2 ^ j % 2 == 1) = bb) := by
            show _ = _
            rw [← hbb, ← HY.out, Bool.eq_iff_iff]; simp; omega
          have hsz := hf.size
          have hln : (bitsB (P.take k) ++ bitsN j x).length ≤ 100000 := by rw [List.length_append, length_bitsN, HL.out]; omega
          go_wp2_with (at_builtin; refine wpList_append_own _ rfl _ _ 80 rfl w.heap.size 4 i0 (.bool false) 1 1 Tryz.underlying80 hi hz0 hz1 hz2 rfl (by decide) _ _ _ rfl (World.ownsRow.alloc hB _) ⟨_, 0, none⟩ 1 1 [.bool bb] rfl rfl (cell_one_new _ _ _) (one_bool _) (by unfold maxLen; omega) (by omega) (by simp; omega) ?_)
          intro u' w2 ho2 hg2 _
          have H2 : Hid (Bo w.heap.size w2 u' (bitsB (P.take k) ++ bitsN (j + 1) x) ∧ Fr Nobody w w2) := by
            refine ⟨?_, (hf.alloc _).grown hg2 (fun q hq => .inr (World.ownsRow.lt hB q hq).1)⟩
            unfold Bo
            rw [bitsN_snoc, HB.out, ← List.append_assoc, brow_append (bitsB (P.take k) ++ bitsN j x), show (bitsB (P.take k) ++ bitsN j x ++ [bb]).length = (bitsB (P.take k)).length + (bitsN j x).length + 1 from by rw [List.length_append, List.length_append]; rfl]
            exact ho2
          have HY2 : Hid (y / 2 = x / 2 ^ (j + 1)) := by show _ = _; rw [HY.out, half_pow]
          clear hB hf ho2 hg2 HB HY hbb hln
          go_wp2
          go_roundw
          case rel => exact ⟨j + 1, y / 2, by omega, by go_num, HY2.out, by go_num, H2.out.1, H2.out.2⟩
          case measure => simp [intOf]; omega
        · have ej : j = 8 := by omega
          subst ej
          have H3 : Hid (Bo w.heap.size _ _ (bitsB (P.take (k + 1))) ∧ Fr Nobody w _) := ⟨by rw [HS.out]; exact hB, hf⟩
          clear hB hf HY
          go_wp2
          go_roundw
          case rel => exact ⟨k + 1, by omega, by go_num, H3.out.1, H3.out.2⟩
          case measure => simp [intOf]; omega
    · have ek : P.take k = P := List.take_of_length_le (by rw [HP.out.2.1]; omega)
      rw [ek] at H1
      clear ek
      go_wp2
      go_ret
      exact ⟨_, rfl, H1.out.1, H1.out.2⟩

theorem Bs.drop {w : World} {ao : Option Addr} {cap : Nat} {L : List Bool} (h : Bs w (.slice ao L.length cap) L) (n : Nat) (hn : n ≤ L.length) : Bs w (.slice (if cap = n then ao else ao.map (fun x => x.add n)) (L.length - n) (cap - n)) (L.drop n) := by
  rcases h with ⟨hv, rfl⟩ | ⟨g, o, cap', cur, hv, hc, hg, hcell⟩
  · simp only [Value.slice.injEq] at hv
    obtain ⟨rfl, _, rfl⟩ := hv
    left
    simp at hn
    subst hn
    simp
  · simp only [Value.slice.injEq] at hv
    obtain ⟨rfl, _, rfl⟩ := hv
    right
    by_cases e : cap = n
    · refine ⟨g, o, cap - n, cur, by rw [if_pos e, List.length_drop], by rw [List.length_drop]; omega, hg, fun j u hu => ?_⟩
      rw [List.drop_of_length_le (by omega)] at hu
      simp [brow] at hu
    · refine ⟨g, o + n, cap - n, cur, by rw [if_neg e, List.length_drop]; simp [addr_add], by rw [List.length_drop]; omega, hg, fun j u hu => ?_⟩
      rw [Nat.add_assoc]
      refine hcell (n + j) u ?_
      rw [brow, List.getElem?_map] at hu ⊢
      rw [List.getElem?_drop] at hu
      exact hu

end Go.Proofs.YtbencjopjdjepaaGreatDoor


/-
  The document's side of layer 2: GetVar.
-/
namespace Go.Proofs.YtbencjopjdjepaaGreatDoor
open Go.RowKit
set_option linter.unusedVariables false
set_option maxRecDepth 100000

theorem Bs.cell {w : World} {ao : Option Addr} {cap : Nat} {L : List Bool} (h : Bs w (.slice ao L.length cap) L) {i : Nat} {b : Bool} (hb : L[i]? = some b) : ∃ g o, ao = some ⟨g, o, none⟩ ∧ w.cell? ⟨g, o + i, none⟩ = some (.bool b) := by
  rcases h with ⟨_, h0⟩ | ⟨g, o, cap', cur, hv, _, hg, hc⟩
  · subst h0; simp at hb
  · simp only [Value.slice.injEq] at hv
    refine ⟨g, o, hv.1, ?_⟩
    rw [cell_of_row w g _ cur 4 (0, 0) hg]
    exact hc i (.bool b) (by simp [brow, hb])

end Go.Proofs.YtbencjopjdjepaaGreatDoor


/-
  What NumsGets and NumsIns share: the bytes that came in, a reader beside a list of bits.
-/
namespace Go.Proofs.YtbencjopjdjepaaGreatDoor
open Go.RowKit
set_option linter.unusedVariables false
set_option maxRecDepth 100000

theorem IsRow.more {k : IntKind} {w : World} {a : Option Addr} {len cap : Nat} {zs : List Int} (h : IsRow k w a len cap zs) : len ≤ cap ∧ (a = none → cap = 0) := by
  rcases h with ⟨rfl, rfl, rfl, rfl⟩ | ⟨x, rfl, hl, _⟩
  · exact ⟨Nat.le_refl _, fun _ => rfl⟩
  · exact ⟨hl, fun h => by cases h⟩
/-- A reader beside a list of bits. -/
def Duo (w0 w : World) (br : Nat) (P : List Nat) (t : Nat) (x : Value) (M : List Bool) : Prop := Or w0 w br P t ∧ Bs w x M
theorem Duo.quiet {w0 w w' : World} {br : Nat} {P : List Nat} {t : Nat} {x : Value} {M : List Bool} (h : Duo w0 w br P t x M) (hf : Fr Nobody w w') : Duo w0 w' br P t x M := ⟨h.1.quiet hf, h.2.quiet hf⟩
end Go.Proofs.YtbencjopjdjepaaGreatDoor


