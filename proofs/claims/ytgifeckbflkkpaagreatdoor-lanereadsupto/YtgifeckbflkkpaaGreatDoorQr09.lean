/- Bits of package schema and of the document; the document's Field and Range where there is none. -/
import Derived.Test.YtgifeckbflkkpaaGreatDoorQr08
import Derived.Test.YtgifeckbflkkpaaGreatDoorQr05
import Derived.Deep.RegionWith
import Derived.Test.YtgifeckbflkkpaaGreatDoorQr06
import Derived.Laws.ResultCell
namespace Go.Proofs.YtgifeckbflkkpaaGreatDoor
open Go.RowKit
set_option linter.unusedVariables false
set_option maxHeartbeats 2000000
def wd (k j : Nat) : Nat := wid (lo k j) (hi k j)
def bsum (k : Nat) : Nat → Nat
 | 0 => 0
 | n + 1 => bsum k n + wd k n
def bitsK (k : Nat) : Nat := bsum k (cnt k)
theorem rng_ok (k j : Nat) (h : j < cnt k) : -524288 ≤ lo k j ∧ lo k j ≤ 1 ∧ 7 ≤ hi k j ∧ hi k j ≤ 524287 := by
 rcases pairs k j h with ⟨rfl,rfl | rfl⟩ | ⟨rfl,rfl | rfl⟩ | ⟨rfl,rfl⟩ | ⟨rfl,rfl | rfl | rfl⟩ | ⟨rfl,rfl | rfl | rfl⟩ | ⟨rfl,rfl | rfl | rfl⟩ <;> decide
theorem wd_le (k j : Nat) (h : j < cnt k) : 3 ≤ wd k j ∧ wd k j ≤ 20 := by
 rcases pairs k j h with ⟨rfl,rfl | rfl⟩ | ⟨rfl,rfl | rfl⟩ | ⟨rfl,rfl⟩ | ⟨rfl,rfl | rfl | rfl⟩ | ⟨rfl,rfl | rfl | rfl⟩ | ⟨rfl,rfl | rfl | rfl⟩ <;> decide +kernel
theorem bsum_le (k n : Nat) (h : n ≤ cnt k) : bsum k n ≤ 20 * n := by
 induction n with
 | zero => simp [bsum]
 | succ n ih =>
  have := ih (by omega)
  have := wd_le k n (by omega)
  simp only [bsum]; omega
set_option maxRecDepth 100000 in
theorem bits_any (w : World) (ht : Tab w) (k : Nat) (hk : k < 256) :
  Calls Tryz.prog 204 #[.int .u8 (k : Int)] w fun e w' => e = .returned (.int .i64 ((bitsK k : Nat) : Int)) ∧ Fr Nobody w w' := by
 have H : Hid (Tab w) := ht
 clear ht
 have hc := cnt_le k
 obtain ⟨c,ec⟩ : ∃ c,cnt k = c := ⟨_,rfl⟩
 have EC : Hid (cnt k = c) := ec
 rw [ec] at hc
 clear ec
 have EB : Hid (bitsK k = bsum k c) := by show _ = _; rw [bitsK,EC.out]
 go_enter Tryz.func204,Tryz.ntmps204
 go_wp2_with fail
 refine (count_any w H.out k hk).mono ?_
 rintro e w' ⟨rfl,rfl⟩
 rw [EC.out]
 go_wp2
 go_loopw [3,7] (fun a b wr => ∃ j : Nat,j ≤ c ∧ b = .int .i64 j ∧ a = .int .i64 (bsum k j : Nat) ∧ Fr Nobody w' wr) (fun _ b _ => c - (intOf b).toNat)
 case atStart => exact ⟨0,by omega,rfl,rfl,Fr.refl _ _⟩
 case round =>
  obtain ⟨j,hj,rfl,rfl,hf⟩ := hrel
  have HF : Hid (Fr Nobody w' wr) := hf
  clear hf
  by_cases hlt : j < c
  ·have hjc : j < cnt k := by rw [EC.out]; exact hlt
   obtain ⟨l0,l1,l2,l3⟩ := rng_ok k j hjc
   have h6 : k < 6 := by
    rcases Nat.lt_or_ge k 6 with h | h
    ·exact h
    ·rw [cnt_out k h] at hjc; omega
   have hx := (H.out.quiet HF.out).lo k j h6 (by omega)
   have hy := (H.out.quiet HF.out).hi k j h6 (by omega)
   have hb := bsum_le k j (by omega)
   have HW : Hid (∀ w,Calls Tryz.prog 165 #[.int .i64 (lo k j),.int .i64 (hi k j)] w fun e w' => e = .returned (.int .i64 (wd k j : Nat)) ∧ w' = w) := fun w => width_any (lo k j) (hi k j) w (by omega) (by omega) (by omega) (by omega)
   have hw := wd_le k j hjc
   have HS : Hid (bsum k (j + 1) = bsum k j + wd k j) := rfl
   generalize lo k j = x at *
   generalize hi k j = y at *
   generalize wd k j = z at *
   generalize bsum k j = s at *
   clear hjc
   go_wp2
   go_quiet (refine Calls.quiet_of_same (HW.out _))
   have HF2 : Hid (Fr Nobody w' (wr.drewN nq)) := HF.out.drewN nq
   go_wp2
   go_roundw
   case rel => exact ⟨j + 1,by omega,by go_num,by rw [HS.out]; go_num,HF2.out⟩
   case measure => simp [intOf]; omega
  ·have e : j = c := by omega
   subst e
   go_wp2
   go_ret
   exact ⟨by rw [EB.out]; rfl,HF.out⟩
def stray (k : Nat) (F : Nat → Int) : Bool := (List.range 3).any fun j => decide (cnt k ≤ j) && decide (F j ≠ 0)
def outside (k : Nat) (F : Nat → Int) : Bool := (List.range (cnt k)).any fun j => decide (F j < lo k j) || decide (hi k j < F j)
theorem stray_true (k j : Nat) (F : Nat → Int) (h1 : cnt k ≤ j) (h2 : j < 3) (h3 : F j ≠ 0) : stray k F = true := by
 unfold stray; rw [List.any_eq_true]; exact ⟨j,by simpa using h2,by simp [h1,h3]⟩
theorem stray_false (k : Nat) (F : Nat → Int) (h : ∀ j,cnt k ≤ j → j < 3 → F j = 0) : stray k F = false := by
 unfold stray; rw [List.any_eq_false]; intro j hj
 have hj' : j < 3 := by simpa using hj
 by_cases hc : cnt k ≤ j
 ·simp [h j hc hj']
 ·simp [hc]
theorem outside_true (k j : Nat) (F : Nat → Int) (h1 : j < cnt k) (h3 : F j < lo k j ∨ hi k j < F j) : outside k F = true := by
 unfold outside; rw [List.any_eq_true]; refine ⟨j,by simpa using h1,?_⟩
 rcases h3 with h | h <;> simp [h]
theorem outside_false (k : Nat) (F : Nat → Int) (h : ∀ j,j < cnt k → lo k j ≤ F j ∧ F j ≤ hi k j) : outside k F = false := by
 unfold outside; rw [List.any_eq_false]; intro j hj
 have hj' : j < cnt k := by simpa using hj
 have := h j hj'
 simp; omega
theorem outside_no (k j : Nat) (F : Nat → Int) (h : outside k F = false) (hj : j < cnt k) : lo k j ≤ F j ∧ F j ≤ hi k j := by
 constructor
 ·apply Int.not_lt.1; intro hh; rw [outside_true k j F hj (.inl hh)] at h; cases h
 ·apply Int.not_lt.1; intro hh; rw [outside_true k j F hj (.inr hh)] at h; cases h
theorem stray_no (k j : Nat) (F : Nat → Int) (h : stray k F = false) (hj : cnt k ≤ j) (h3 : j < 3) : F j = 0 := by
 apply Classical.byContradiction; intro hh; rw [stray_true k j F hj h3 hh] at h; cases h
def chk (k : Nat) (F : Nat → Int) : Nat := if 6 ≤ k then 1 else if stray k F then 4 else if outside k F then 5 else 0
def cmp (k : Nat) (F : Nat → Int) : Array Value := #[.int .u8 (k : Int),.int .i32 (F 0),.int .i32 (F 1),.int .i32 (F 2)]
def Box (w : World) (b : Nat) (k : Nat) (F : Nat → Int) : Prop := w.heap[b]? = some (.cells (cmp k F) 63 (0,0))
theorem Box.new (w : World) (k : Nat) (F : Nat → Int) : Box (w.alloc (.cells (cmp k F) 63)) w.heap.size k F := heap_alloc_new w _
theorem Box.quiet {w w' : World} {b k : Nat} {F : Nat → Int} (h : Box w b k F) (hf : Fr Nobody w w') : Box w' b k F :=
 (hf.block b (Array.getElem?_eq_some_iff.1 h).1 id).trans h
theorem Box.kind {w : World} {b k : Nat} {F : Nat → Int} (h : Box w b k F) : w.cell? ⟨b,0,none⟩ = some (.int .u8 (k : Int)) := by
 unfold Box cmp at h; simp [World.cell?,h]
theorem Box.at {w : World} {b k : Nat} {F : Nat → Int} (h : Box w b k F) (j : Nat) (hj : j < 3) : w.cell? ⟨b,1 + j,none⟩ = some (.int .i32 (F j)) := by
 unfold Box cmp at h
 have : j = 0 ∨ j = 1 ∨ j = 2 := by omega
 rcases this with rfl | rfl | rfl <;> simp [World.cell?,h]
theorem hasStray_any (w : World) (ht : Tab w) (k : Nat) (hk : k < 256) (F : Nat → Int) :
  Calls Tryz.prog 177 #[.agg (cmp k F)] w fun e w' => e = .returned (.bool (stray k F)) ∧ Fr Nobody w w' := by
 have H : Hid (Tab w) := ht
 clear ht
 have hc := cnt_le k
 obtain ⟨c,ec⟩ : ∃ c,cnt k = c := ⟨_,rfl⟩
 have EC : Hid (cnt k = c) := ec
 rw [ec] at hc
 clear ec
 have HB : Hid (Box (w.alloc (.cells (cmp k F) 63)) w.heap.size k F) := Box.new w k F
 have HF : Hid (Fr Nobody w (w.alloc (.cells (cmp k F) 63))) := (Fr.refl _ _).alloc _
 unfold cmp
 go_enter Tryz.func177,Tryz.ntmps177
 go_wp2_with fail
 refine (count_any _ (H.out.quiet HF.out) k hk).mono ?_
 rintro e w1 ⟨rfl,rfl⟩
 rw [EC.out]
 go_wp2
 go_loopw [3] (fun a wr => ∃ j : Nat,c ≤ j ∧ j ≤ 3 ∧ a = .int .i64 j ∧ (∀ i,c ≤ i → i < j → F i = 0) ∧ Box wr w.heap.size k F ∧ Fr Nobody w wr) (fun b _ => 3 - (intOf b).toNat)
 case atStart => exact ⟨c,Nat.le_refl _,hc,rfl,fun i h1 h2 => by omega,HB.out,HF.out⟩
 case round =>
  obtain ⟨j,hcj,hj,rfl,hz,hb,hf⟩ := hrel
  have HZ : Hid (∀ i,c ≤ i → i < j → F i = 0) := hz
  have HF1 : Hid (Fr Nobody w wr) := hf
  have HB1 : Hid (Box wr w.heap.size k F) := hb
  clear hf hz hb
  by_cases hlt : j < 3
  ·have hx := HB1.out.at j hlt
   by_cases h0 : F j = 0
   ·have HZ2 : Hid (∀ i,c ≤ i → i < j + 1 → F i = 0) := by
     intro i h1 h2
     by_cases e : i = j
     ·rw [e]; exact h0
     ·exact HZ.out i h1 (by omega)
    rw [h0] at hx
    clear h0
    go_wp2
    go_roundw
    case rel => exact ⟨j + 1,by omega,by omega,by go_num,HZ2.out,HB1.out,HF1.out⟩
    case measure => simp [intOf]; omega
   ·have HS : Hid (stray k F = true) := stray_true k j F (by rw [EC.out]; exact hcj) hlt h0
    have h1 : (F j != 0) = true := by simpa using h0
    generalize F j = x at *
    clear h0
    go_wp2
    go_ret
    exact ⟨by rw [HS.out]; rfl,HF1.out⟩
  ·have HS : Hid (stray k F = false) := stray_false k F (fun i h1 h2 => HZ.out i (by rw [← EC.out]; exact h1) (by omega))
   go_wp2
   go_ret
   exact ⟨by rw [HS.out]; rfl,HF1.out⟩
theorem hasOutside_any (w : World) (ht : Tab w) (k : Nat) (hk : k < 6) (F : Nat → Int) :
  Calls Tryz.prog 178 #[.agg (cmp k F)] w fun e w' => e = .returned (.bool (outside k F)) ∧ Fr Nobody w w' := by
 have H : Hid (Tab w) := ht
 clear ht
 have hc := cnt_le k
 obtain ⟨c,ec⟩ : ∃ c,cnt k = c := ⟨_,rfl⟩
 have EC : Hid (cnt k = c) := ec
 rw [ec] at hc
 clear ec
 have HB : Hid (Box (w.alloc (.cells (cmp k F) 63)) w.heap.size k F) := Box.new w k F
 have HF : Hid (Fr Nobody w (w.alloc (.cells (cmp k F) 63))) := (Fr.refl _ _).alloc _
 unfold cmp
 go_enter Tryz.func178,Tryz.ntmps178
 go_wp2_with fail
 refine (count_any _ (H.out.quiet HF.out) k (by omega)).mono ?_
 rintro e w1 ⟨rfl,rfl⟩
 rw [EC.out]
 go_wp2
 go_loopw [7] (fun a wr => ∃ j : Nat,j ≤ c ∧ a = .int .i64 j ∧ (∀ i,i < j → lo k i ≤ F i ∧ F i ≤ hi k i) ∧ Box wr w.heap.size k F ∧ Fr Nobody w wr) (fun b _ => c - (intOf b).toNat)
 case atStart => exact ⟨0,Nat.zero_le _,rfl,fun i h1 => by omega,HB.out,HF.out⟩
 case round =>
  obtain ⟨j,hj,rfl,hz,hb,hf⟩ := hrel
  have HZ : Hid (∀ i,i < j → lo k i ≤ F i ∧ F i ≤ hi k i) := hz
  have HF1 : Hid (Fr Nobody w wr) := hf
  have HB1 : Hid (Box wr w.heap.size k F) := hb
  clear hf hz hb
  by_cases hlt : j < c
  ·have hx := HB1.out.at j (by omega)
   have hk0 := HB1.out.kind
   have hy := (H.out.quiet HF1.out).lo k j hk (by omega)
   have hz := (H.out.quiet HF1.out).hi k j hk (by omega)
   by_cases h0 : F j < lo k j
   ·have HS : Hid (outside k F = true) := outside_true k j F (by rw [EC.out]; exact hlt) (.inl h0)
    generalize F j = x at *
    generalize lo k j = a at *
    generalize hi k j = b at *
    go_wp2
    go_quiet (fail)
    have HF2 := HF1.out.drewN nq
    have HG : Hid _ := HF2
    clear HF2
    go_wp2
    go_ret
    exact ⟨by rw [HS.out]; rfl,HG.out⟩
   ·by_cases h1 : hi k j < F j
    ·have HS : Hid (outside k F = true) := outside_true k j F (by rw [EC.out]; exact hlt) (.inr h1)
     generalize F j = x at *
     generalize lo k j = a at *
     generalize hi k j = b at *
     have d0 : decide (x < a) = false := by simpa using h0
     have d1 : decide (b < x) = true := by simpa using h1
     clear h0 h1
     go_wp2
     go_quiet (fail)
     have HF2 := HF1.out.drewN nq
     have HG : Hid _ := HF2
     clear HF2
     go_wp2
     go_ret
     exact ⟨by rw [HS.out]; rfl,HG.out⟩
    ·have HZ2 : Hid (∀ i,i < j + 1 → lo k i ≤ F i ∧ F i ≤ hi k i) := by
      intro i h2
      by_cases e : i = j
      ·rw [e]; omega
      ·exact HZ.out i (by omega)
     generalize F j = x at *
     generalize lo k j = a at *
     generalize hi k j = b at *
     have d0 : decide (x < a) = false := by simpa using h0
     have d1 : decide (b < x) = false := by simpa using h1
     clear h0 h1
     go_wp2
     go_quiet (fail)
     have HF2 := HF1.out.drewN nq
     have HG : Hid _ := HF2
     have HB2 : Hid (Box (wr.drewN nq) w.heap.size k F) := HB1.out.quiet ((Fr.refl _ _).drewN nq)
     clear HF2
     go_wp2
     go_roundw
     case rel => exact ⟨j + 1,by omega,by go_num,HZ2.out,HB2.out,HG.out⟩
     case measure => simp [intOf]; omega
  ·have HS : Hid (outside k F = false) := outside_false k F (fun i h1 => HZ.out i (by rw [EC.out] at h1; omega))
   go_wp2
   go_ret
   exact ⟨by rw [HS.out]; rfl,HF1.out⟩
theorem check_any (w : World) (ht : Tab w) (k : Nat) (hk : k < 256) (F : Nat → Int) :
  Calls Tryz.prog 147 #[.agg (cmp k F)] w fun e w' => e = .returned (.int .i64 ((chk k F : Nat) : Int)) ∧ Fr Nobody w w' := by
 have H : Hid (Tab w) := ht
 clear ht
 have HF : Hid (Fr Nobody w (w.alloc (.cells (cmp k F) 63))) := (Fr.refl _ _).alloc _
 unfold chk
 by_cases h6 : 6 ≤ k
 ·rw [if_pos h6]
  unfold cmp at *
  go_enter Tryz.func147,Tryz.ntmps147
  go_wp2
  go_ret
  exact ⟨rfl,HF.out⟩
 ·rw [if_neg h6]
  have HS : Hid (∀ w,Tab w → Calls Tryz.prog 177 #[.agg (cmp k F)] w fun e w' => e = .returned (.bool (stray k F)) ∧ Fr Nobody w w') := fun w h => hasStray_any w h k hk F
  have HO : Hid (∀ w,Tab w → Calls Tryz.prog 178 #[.agg (cmp k F)] w fun e w' => e = .returned (.bool (outside k F)) ∧ Fr Nobody w w') := fun w h => hasOutside_any w h k (by omega) F
  have HB : Hid (Box (w.alloc (.cells (cmp k F) 63)) w.heap.size k F) := Box.new w k F
  cases hs : stray k F with
  | true =>
   rw [hs] at HS
   unfold cmp at *
   rw [if_pos rfl]
   clear hs
   go_enter Tryz.func147,Tryz.ntmps147
   go_wp2_with fail
   refine (HS.out _ (H.out.quiet HF.out)).mono ?_
   rintro e w1 ⟨rfl,hf1⟩
   have HF1 : Hid _ := HF.out.trans hf1
   clear hf1
   go_wp2
   go_ret
   exact ⟨rfl,HF1.out⟩
  | false =>
   rw [hs] at HS
   rw [if_neg (by decide)]
   cases ho : outside k F with
   | true =>
    rw [ho] at HO
    rw [if_pos rfl]
    clear hs ho
    unfold cmp at *
    go_enter Tryz.func147,Tryz.ntmps147
    go_wp2_with fail
    refine (HS.out _ (H.out.quiet HF.out)).mono ?_
    rintro e w1 ⟨rfl,hf1⟩
    have HF1 : Hid _ := HF.out.trans hf1
    have hb1 := HB.out.quiet hf1
    have hc0 := hb1.kind
    have hc1 := hb1.at 0 (by decide)
    have hc2 := hb1.at 1 (by decide)
    have hc3 := hb1.at 2 (by decide)
    clear hf1 hb1
    go_wp2_with fail
    refine (HO.out _ (H.out.quiet HF1.out)).mono ?_
    rintro e w2 ⟨rfl,hf2⟩
    have HF2 : Hid _ := HF1.out.trans hf2
    clear hf2
    go_wp2
    go_ret
    exact ⟨rfl,HF2.out⟩
   | false =>
    rw [ho] at HO
    rw [if_neg (by decide)]
    clear hs ho
    unfold cmp at *
    go_enter Tryz.func147,Tryz.ntmps147
    go_wp2_with fail
    refine (HS.out _ (H.out.quiet HF.out)).mono ?_
    rintro e w1 ⟨rfl,hf1⟩
    have HF1 : Hid _ := HF.out.trans hf1
    have hb1 := HB.out.quiet hf1
    have hc0 := hb1.kind
    have hc1 := hb1.at 0 (by decide)
    have hc2 := hb1.at 1 (by decide)
    have hc3 := hb1.at 2 (by decide)
    clear hf1 hb1
    go_wp2_with fail
    refine (HO.out _ (H.out.quiet HF1.out)).mono ?_
    rintro e w2 ⟨rfl,hf2⟩
    have HF2 : Hid _ := HF1.out.trans hf2
    clear hf2
    go_wp2
    go_ret
    exact ⟨rfl,HF2.out⟩
end Go.Proofs.YtgifeckbflkkpaaGreatDoor
namespace Go.Proofs.YtgifeckbflkkpaaGreatDoor
open Go.RowKit
set_option linter.unusedVariables false
set_option maxHeartbeats 2000000
set_option maxRecDepth 100000
theorem rcheck_any (w : World) (k : Nat) (hk : k < 256) (F : Nat → Int) :
  Calls Tryz.prog 107 #[.agg (cmp k F)] w fun e w' => e = .returned (.int .i64 ((chk k F : Nat) : Int)) ∧ Fr Nobody w w' := by
 have hc := cnt_le k
 have HC : Hid (∀ w,Calls Tryz.prog 108 #[.int .u8 (k : Int)] w fun e w' => e = .returned (.int .i64 ((cnt k : Nat) : Int)) ∧ Fr Nobody w w') := fun w => rcount_any w k hk
 have HB : Hid (Box (w.alloc (.cells (cmp k F) 63)) w.heap.size k F) := Box.new w k F
 have HF : Hid (Fr Nobody w (w.alloc (.cells (cmp k F) 63))) := (Fr.refl _ _).alloc _
 by_cases h6 : 6 ≤ k
 ·have e1 : chk k F = 1 := by unfold chk; rw [if_pos h6]
  rw [e1]
  rw [cnt_out k h6] at HC
  clear e1 hc
  unfold cmp at *
  go_enter Tryz.func107,Tryz.ntmps107
  go_wp2_with fail
  refine (HC.out _).mono ?_
  rintro e w1 ⟨rfl,hf1⟩
  have HF1 : Hid _ := HF.out.trans hf1
  clear hf1
  go_wp2
  go_ret
  exact ⟨rfl,HF1.out⟩
 ·have h1 := cnt_pos k (by omega)
  obtain ⟨c,ec⟩ : ∃ c,cnt k = c := ⟨_,rfl⟩
  have EC : Hid (cnt k = c) := ec
  rw [ec] at hc HC h1
  clear ec
  have HS4 : Hid (stray k F = true → chk k F = 4) := fun h => by unfold chk; rw [if_neg h6,if_pos h]
  have HS5 : Hid (stray k F = false → outside k F = true → chk k F = 5) := fun h h' => by unfold chk; rw [if_neg h6,h,if_neg (by decide),if_pos h']
  have HS0 : Hid (stray k F = false → outside k F = false → chk k F = 0) := fun h h' => by unfold chk; rw [if_neg h6,h,h',if_neg (by decide),if_neg (by decide)]
  unfold cmp
  have hc0 : ((c : Int) == 0) = false := by rw [beq_eq_false_iff_ne]; omega
  clear h1
  go_enter Tryz.func107,Tryz.ntmps107
  go_wp2_with fail
  refine (HC.out _).mono ?_
  rintro e w1 ⟨rfl,hf1⟩
  have HF1 : Hid _ := HF.out.trans hf1
  have HB1 : Hid _ := HB.out.quiet hf1
  clear hf1
  go_wp2
  go_loopw [4] (fun a wr => ∃ j : Nat,c ≤ j ∧ j ≤ 3 ∧ a = .int .i64 j ∧ (∀ i,c ≤ i → i < j → F i = 0) ∧ Box wr w.heap.size k F ∧ Fr Nobody w wr) (fun b _ => 3 - (intOf b).toNat)
  case atStart => exact ⟨c,Nat.le_refl _,hc,rfl,fun i h1 h2 => by omega,HB1.out,HF1.out⟩
  case round =>
   obtain ⟨j,hcj,hj,rfl,hz,hb,hf⟩ := hrel
   have HZ : Hid (∀ i,c ≤ i → i < j → F i = 0) := hz
   have HG1 : Hid (Fr Nobody w wr) := hf
   have HB2 : Hid (Box wr w.heap.size k F) := hb
   clear hf hz hb
   by_cases hlt : j < 3
   ·have hx := HB2.out.at j hlt
    by_cases h0 : F j = 0
    ·have HZ2 : Hid (∀ i,c ≤ i → i < j + 1 → F i = 0) := by
      intro i h1 h2
      by_cases e : i = j
      ·rw [e]; exact h0
      ·exact HZ.out i h1 (by omega)
     rw [h0] at hx
     clear h0
     go_wp2
     go_roundw
     case rel => exact ⟨j + 1,by omega,by omega,by go_num,HZ2.out,HB2.out,HG1.out⟩
     case measure => simp [intOf]; omega
    ·have HS : Hid (chk k F = 4) := HS4.out (stray_true k j F (by rw [EC.out]; exact hcj) hlt h0)
     have h1 : (F j != 0) = true := by simpa using h0
     generalize F j = x at *
     clear h0
     go_wp2
     go_ret
     exact ⟨by rw [HS.out]; rfl,HG1.out⟩
   ·have HS : Hid (stray k F = false) := stray_false k F (fun i h1 h2 => HZ.out i (by rw [← EC.out]; exact h1) (by omega))
    clear HZ hcj
    go_wp2
    clear HB HB1 HF HF1 HC
    go_loopw [25] (fun a wq => ∃ i : Nat,i ≤ c ∧ a = .int .i64 i ∧ (∀ t,t < i → lo k t ≤ F t ∧ F t ≤ hi k t) ∧ Box wq w.heap.size k F ∧ Fr Nobody w wq) (fun b _ => c - (intOf b).toNat)
    case atStart => exact ⟨0,Nat.zero_le _,rfl,fun i h1 => by omega,HB2.out,HG1.out⟩
    case round =>
     obtain ⟨i,hi0,rfl,hz,hb,hf⟩ := hrel
     have HZ : Hid (∀ t,t < i → lo k t ≤ F t ∧ F t ≤ hi k t) := hz
     have HG : Hid (Fr Nobody w wr) := hf
     have HB3 : Hid (Box wr w.heap.size k F) := hb
     clear hf hz hb
     by_cases hlt2 : i < c
     ·have hk0 := HB3.out.kind
      have HR : Hid (∀ w,Calls Tryz.prog 109 #[.int .u8 (k : Int),.int .i64 (i : Int)] w fun e w' => e = .returned (.tuple #[.int .i32 (lo k i),.int .i32 (hi k i),.int .i64 0]) ∧ Fr Nobody w w') := fun w => rrange_ok w k i (by rw [EC.out]; exact hlt2)
      by_cases h0 : F i < lo k i
      ·have HO : Hid (chk k F = 5) := HS5.out HS.out (outside_true k i F (by rw [EC.out]; exact hlt2) (.inl h0))
       go_wp2_with fail
       refine (HR.out _).mono ?_
       rintro e w2 ⟨rfl,hf2⟩
       have HG2 : Hid _ := HG.out.trans hf2
       have hx := (HB3.out.quiet hf2).at i (by omega)
       clear hf2 HR
       generalize F i = x at *
       generalize lo k i = a at *
       generalize hi k i = b at *
       go_wp2
       go_ret
       exact ⟨by rw [HO.out]; rfl,HG2.out⟩
      ·by_cases h1 : hi k i < F i
       ·have HO : Hid (chk k F = 5) := HS5.out HS.out (outside_true k i F (by rw [EC.out]; exact hlt2) (.inr h1))
        go_wp2_with fail
        refine (HR.out _).mono ?_
        rintro e w2 ⟨rfl,hf2⟩
        have HG2 : Hid _ := HG.out.trans hf2
        have hx := (HB3.out.quiet hf2).at i (by omega)
        clear hf2 HR
        generalize F i = x at *
        generalize lo k i = a at *
        generalize hi k i = b at *
        have d0 : decide (x < a) = false := by simpa using h0
        have d1 : decide (b < x) = true := by simpa using h1
        clear h0 h1
        go_wp2
        go_ret
        exact ⟨by rw [HO.out]; rfl,HG2.out⟩
       ·have HZ2 : Hid (∀ t,t < i + 1 → lo k t ≤ F t ∧ F t ≤ hi k t) := by
         intro t h2
         by_cases e : t = i
         ·rw [e]; omega
         ·exact HZ.out t (by omega)
        go_wp2_with fail
        refine (HR.out _).mono ?_
        rintro e w2 ⟨rfl,hf2⟩
        have HG2 : Hid _ := HG.out.trans hf2
        have HB4 : Hid (Box w2 w.heap.size k F) := HB3.out.quiet hf2
        have hx := HB4.out.at i (by omega)
        clear hf2 HR
        generalize F i = x at *
        generalize lo k i = a at *
        generalize hi k i = b at *
        have d0 : decide (x < a) = false := by simpa using h0
        have d1 : decide (b < x) = false := by simpa using h1
        clear h0 h1
        go_wp2
        go_roundw
        case rel => exact ⟨i + 1,by omega,by go_num,HZ2.out,HB4.out,HG2.out⟩
        case measure => simp [intOf]; omega
     ·have HO : Hid (chk k F = 0) := HS0.out HS.out (outside_false k F (fun t h1 => HZ.out t (by rw [EC.out] at h1; omega)))
      go_wp2
      go_ret
      exact ⟨by rw [HO.out]; rfl,HG.out⟩
def f3 (a b c : Int) : Nat → Int
 | 0 => a
 | 1 => b
 | 2 => c
 | _ => 0
theorem check3 (w : World) (ht : Tab w) (k : Nat) (hk : k < 256) (a b c : Int) :
  Calls Tryz.prog 147 #[.agg #[.int .u8 (k : Int),.int .i32 a,.int .i32 b,.int .i32 c]] w fun e w' => e = .returned (.int .i64 ((chk k (f3 a b c) : Nat) : Int)) ∧ Fr Nobody w w' := check_any w ht k hk (f3 a b c)
theorem rcheck3 (w : World) (k : Nat) (hk : k < 256) (a b c : Int) :
  Calls Tryz.prog 107 #[.agg #[.int .u8 (k : Int),.int .i32 a,.int .i32 b,.int .i32 c]] w fun e w' => e = .returned (.int .i64 ((chk k (f3 a b c) : Nat) : Int)) ∧ Fr Nobody w w' := rcheck_any w k hk (f3 a b c)
end Go.Proofs.YtgifeckbflkkpaaGreatDoor
namespace Go.Proofs.YtgifeckbflkkpaaGreatDoor
open Go.ChangeShapes Go.WideShapes Go.ChangeAt Go.WideMaps Go.WideElems Go.RowKit
set_option linter.unusedVariables false
set_option maxHeartbeats 2000000
set_option maxRecDepth 100000
theorem cellsComp : Tryz.prog.cellsOf 63 = 4 := by kernel_rfl
theorem cellsA3 : Tryz.prog.cellsOf 61 = 3 := by kernel_rfl
theorem cellsByte : Tryz.prog.cellsOf 5 = 1 := by kernel_rfl
theorem cellsI32 : Tryz.prog.cellsOf 21 = 1 := by kernel_rfl
def cdat {H : Type} (k : Int) (a b c : Int) : DataW H := .agg [.lit (.int .u8 k),.agg [.lit (.int .i32 a),.lit (.int .i32 b),.lit (.int .i32 c)]]
def ok8 (k : Int) : Prop := (Lit.int .u8 k).wf = true
def ok32 (a : Int) : Prop := (Lit.int .i32 a).wf = true
theorem comp_cells {H : Type} {enc : TypeId × Value → H} {W : World} {base : Nat} {sp : Nat → Bool} {held : Bool} {fuel : Nat} {cs : List Value} {x : DataW H × List MemPlace}
  (h : DataW.trod enc Tryz.prog W base sp held fuel 63 cs = some x) : ∃ k a b c,ok8 k ∧ ok32 a ∧ ok32 b ∧ ok32 c ∧ cs = [.int .u8 k,.int .i32 a,.int .i32 b,.int .i32 c] ∧ x = (cdat k a b c,[]) := by
 obtain ⟨xs,n,_,hx,hl,hlen,hf⟩ := DataW.trod_struct Tryz.underlying63 h
 rw [cellsComp] at hl
 match cs,hl with
 | [c0,c1,c2,c3],_ =>
 match xs,hlen with
 | [y0,y1],_ =>
  have h0 := hf 0 _ rfl
  have h1 := hf 1 _ rfl
  simp [cellsByte,cellsA3] at h0 h1
  obtain ⟨k,e0,e0',w0⟩ := DataW.trod_int Tryz.underlying5 h0
  obtain ⟨zs,m,_,hz,hzl,hzlen,hzf⟩ := DataW.trod_array Tryz.underlying61 h1
  match zs,hzlen with
  | [z0,z1,z2],_ =>
   have g0 := hzf 0 (by decide)
   have g1 := hzf 1 (by decide)
   have g2 := hzf 2 (by decide)
   simp [cellsI32] at g0 g1 g2
   obtain ⟨a,a0,a1,wa⟩ := DataW.trod_int Tryz.underlying21 g0
   obtain ⟨b,b0,b1,wb⟩ := DataW.trod_int Tryz.underlying21 g1
   obtain ⟨c,k0,k1,wc⟩ := DataW.trod_int Tryz.underlying21 g2
   simp at e0 a0 b0 k0
   subst e0 a0 b0 k0 e0' a1 b1 k1 hz hx
   exact ⟨k,a,b,c,w0,wa,wb,wc,rfl,by simp [cdat]⟩
theorem ok8_nat {k : Int} (h : ok8 k) : ∃ n : Nat,k = n ∧ n < 256 := by
 have : 0 ≤ k ∧ k ≤ 255 := by simpa [ok8,Lit.wf,IntKind.min,IntKind.max,IntKind.signed,IntKind.bits] using h
 exact ⟨k.toNat,by omega,by omega⟩
theorem Box.cells {w : World} {b k : Nat} {F : Nat → Int} (h : Box w b k F) : w.cell? ⟨b,0,none⟩ = some (.int .u8 (k : Int)) ∧ w.cell? ⟨b,1,none⟩ = some (.int .i32 (F 0)) ∧ w.cell? ⟨b,2,none⟩ = some (.int .i32 (F 1)) ∧ w.cell? ⟨b,3,none⟩ = some (.int .i32 (F 2)) :=
 ⟨h.kind,h.at 0 (by decide),h.at 1 (by decide),h.at 2 (by decide)⟩
end Go.Proofs.YtgifeckbflkkpaaGreatDoor
namespace Go.Proofs.YtgifeckbflkkpaaGreatDoor
open Go.RowKit
set_option linter.unusedVariables false
set_option maxHeartbeats 2000000
set_option maxRecDepth 100000
def I32 (F : Nat → Int) : Prop := ∀ j,j < 3 → -2147483648 ≤ F j ∧ F j ≤ 2147483647
theorem boxes (w : World) (k k' : Nat) (F G : Nat → Int) :
  Box ((w.alloc (.cells (cmp k F) 63)).alloc (.cells (cmp k' G) 63)) w.heap.size k F ∧ Box ((w.alloc (.cells (cmp k F) 63)).alloc (.cells (cmp k' G) 63)) (w.heap.size + 1) k' G ∧ Fr Nobody w ((w.alloc (.cells (cmp k F) 63)).alloc (.cells (cmp k' G) 63)) := by
 refine ⟨(Box.new w k F).quiet ((Fr.refl _ _).alloc _),?_,((Fr.refl _ _).alloc _).alloc _⟩
 have := Box.new (w.alloc (.cells (cmp k F) 63)) k' G
 simpa using this
theorem more_any (w : World) (x y : Int) (hx : -2147483648 ≤ x ∧ x ≤ 2147483647) (hy : -2147483648 ≤ y ∧ y ≤ 2147483647) :
  Calls Tryz.prog 247 #[.int .i32 x,.int .i32 y] w fun e w' => e = .returned (.int .u64 ((zig (y - x) : Nat) : Int)) ∧ w' = w := by
 have HZ : Hid (∀ w,_) := fun w => zig_any (y - x) w (by omega) (by omega)
 generalize zig (y - x) = z at *
 go_enter Tryz.func247,Tryz.ntmps247
 go_wp2_with fail
 refine (HZ.out _).mono ?_
 rintro e w1 ⟨rfl,rfl⟩
 go_wp2
 go_ret
 exact ⟨rfl,rfl⟩
def ckS (k k' : Nat) (F G : Nat → Int) : Nat := if chk k F = 0 then (if chk k' G = 0 then (if k = k' then 0 else 4) else chk k' G) else chk k F
theorem checkStep_any (w : World) (ht : Tab w) (k k' : Nat) (hk : k < 256) (hk' : k' < 256) (F G : Nat → Int) :
  Calls Tryz.prog 229 #[.agg (cmp k F),.agg (cmp k' G)] w fun e w' => e = .returned (.int .i64 ((ckS k k' F G : Nat) : Int)) ∧ Fr Nobody w w' := by
 obtain ⟨b1,b2,hf⟩ := boxes w k k' F G
 have H : Hid (Tab w) := ht
 have HB1 : Hid _ := b1
 have HB2 : Hid _ := b2
 have HF : Hid _ := hf
 have C1 : Hid (∀ w,Tab w → Calls Tryz.prog 147 #[.agg (cmp k F)] w fun e w' => e = .returned (.int .i64 ((chk k F : Nat) : Int)) ∧ Fr Nobody w w') := fun w h => check_any w h k hk F
 have C2 : Hid (∀ w,Tab w → Calls Tryz.prog 147 #[.agg (cmp k' G)] w fun e w' => e = .returned (.int .i64 ((chk k' G : Nat) : Int)) ∧ Fr Nobody w w') := fun w h => check_any w h k' hk' G
 clear b1 b2 hf ht
 unfold ckS
 generalize chk k F = x at *
 generalize chk k' G = y at *
 by_cases hx : x = 0
 ·rw [if_pos hx]
  subst hx
  by_cases hy : y = 0
  ·rw [if_pos hy]
   subst hy
   by_cases e : k = k'
   ·rw [if_pos e]
    subst e
    unfold cmp at *
    go_enter Tryz.func229,Tryz.ntmps229
    go_wp2_with fail
    refine (C1.out _ (H.out.quiet HF.out)).mono ?_
    rintro e w1 ⟨rfl,hf1⟩
    have HF1 : Hid (Fr Nobody w w1) := HF.out.trans hf1
    have B2 : Hid (Box w1 (w.heap.size + 1) k G) := Box.quiet HB2.out hf1
    have B1 : Hid (Box w1 w.heap.size k F) := Box.quiet HB1.out hf1
    obtain ⟨c0,c1,c2,c3⟩ := B2.out.cells
    clear hf1
    go_wp2_with fail
    refine (C2.out _ (H.out.quiet HF1.out)).mono ?_
    rintro e w2 ⟨rfl,hf2⟩
    have HF2 : Hid (Fr Nobody w w2) := HF1.out.trans hf2
    have d0 := (B2.out.quiet hf2).kind
    have e0 := (B1.out.quiet hf2).kind
    clear hf2 c0 c1 c2 c3
    go_wp2
    go_ret
    exact ⟨rfl,HF2.out⟩
   ·rw [if_neg e]
    have hne : ((k : Int) != (k' : Int)) = true := by rw [bne_iff_ne]; omega
    unfold cmp at *
    go_enter Tryz.func229,Tryz.ntmps229
    go_wp2_with fail
    refine (C1.out _ (H.out.quiet HF.out)).mono ?_
    rintro e w1 ⟨rfl,hf1⟩
    have HF1 : Hid (Fr Nobody w w1) := HF.out.trans hf1
    have B2 : Hid (Box w1 (w.heap.size + 1) k' G) := Box.quiet HB2.out hf1
    have B1 : Hid (Box w1 w.heap.size k F) := Box.quiet HB1.out hf1
    obtain ⟨c0,c1,c2,c3⟩ := B2.out.cells
    clear hf1
    go_wp2_with fail
    refine (C2.out _ (H.out.quiet HF1.out)).mono ?_
    rintro e w2 ⟨rfl,hf2⟩
    have HF2 : Hid (Fr Nobody w w2) := HF1.out.trans hf2
    have d0 := (B2.out.quiet hf2).kind
    have e0 := (B1.out.quiet hf2).kind
    clear hf2 c0 c1 c2 c3
    go_wp2
    go_ret
    exact ⟨rfl,HF2.out⟩
  ·rw [if_neg hy]
   have hne : ((y : Int) != 0) = true := by rw [bne_iff_ne]; omega
   unfold cmp at *
   go_enter Tryz.func229,Tryz.ntmps229
   go_wp2_with fail
   refine (C1.out _ (H.out.quiet HF.out)).mono ?_
   rintro e w1 ⟨rfl,hf1⟩
   have HF1 : Hid (Fr Nobody w w1) := HF.out.trans hf1
   have B2 : Hid (Box w1 (w.heap.size + 1) k' G) := Box.quiet HB2.out hf1
   obtain ⟨c0,c1,c2,c3⟩ := B2.out.cells
   clear hf1
   go_wp2_with fail
   refine (C2.out _ (H.out.quiet HF1.out)).mono ?_
   rintro e w2 ⟨rfl,hf2⟩
   have HF2 : Hid (Fr Nobody w w2) := HF1.out.trans hf2
   clear hf2
   go_wp2
   go_ret
   exact ⟨rfl,HF2.out⟩
 ·rw [if_neg hx]
  have hne : ((x : Int) != 0) = true := by rw [bne_iff_ne]; omega
  unfold cmp at *
  go_enter Tryz.func229,Tryz.ntmps229
  go_wp2_with fail
  refine (C1.out _ (H.out.quiet HF.out)).mono ?_
  rintro e w1 ⟨rfl,hf1⟩
  have HF1 : Hid (Fr Nobody w w1) := HF.out.trans hf1
  clear hf1
  go_wp2
  go_ret
  exact ⟨rfl,HF1.out⟩
def mz (F G : Nat → Int) (j : Nat) : Nat := zig (G j - F j)
def fsz (k : Nat) (F G : Nat → Int) (j : Nat) : Nat := if mz F G j = 0 then 1 else if mz F G j ≤ 16 then 6 else 2 + wd k j
def ssum (k : Nat) (F G : Nat → Int) : Nat → Nat
 | 0 => 0
 | n + 1 => ssum k F G n + fsz k F G n
theorem fsz_le (k : Nat) (F G : Nat → Int) (j : Nat) (h : j < cnt k) : 1 ≤ fsz k F G j ∧ fsz k F G j ≤ 22 := by
 have := wd_le k j h
 unfold fsz; split
 ·omega
 ·split <;> omega
theorem ssum_le (k n : Nat) (F G : Nat → Int) (h : n ≤ cnt k) : ssum k F G n ≤ 22 * n := by
 induction n with
 | zero => simp [ssum]
 | succ n ih =>
  have := ih (by omega)
  have := fsz_le k F G n (by omega)
  simp only [ssum]; omega
theorem fieldStepSize_any (w : World) (ht : Tab w) (k k0 j : Nat) (hk : k < 256) (hj : j < cnt k) (F G : Nat → Int) (hF : I32 F) (hG : I32 G) :
  Calls Tryz.prog 246 #[.agg (cmp k0 F),.agg (cmp k G),.int .i64 (j : Int)] w fun e w' => e = .returned (.int .i64 ((fsz k F G j : Nat) : Int)) ∧ Fr Nobody w w' := by
 obtain ⟨b1,b2,hf⟩ := boxes w k0 k F G
 have H : Hid (Tab w) := ht
 have hc := cnt_le k
 have hj3 : j < 3 := by omega
 have x1 := b1.at j hj3
 have x2 := b2.at j hj3
 have x3 := b2.kind
 have HF : Hid _ := hf
 have hm : fsz k F G j = (if mz F G j = 0 then 1 else if mz F G j ≤ 16 then 6 else 2 + wd k j) := rfl
 have M : Hid (∀ w,Calls Tryz.prog 247 #[.int .i32 (F j),.int .i32 (G j)] w fun e w' => e = .returned (.int .u64 ((mz F G j : Nat) : Int)) ∧ w' = w) := fun w => more_any w (F j) (G j) (hF j hj3) (hG j hj3)
 have R : Hid (∀ w,Tab w → _) := fun w h => range_ok w h k hk j hj
 obtain ⟨l0,l1,l2,l3⟩ := rng_ok k j hj
 have WD : Hid (∀ w,Calls Tryz.prog 165 #[.int .i64 (lo k j),.int .i64 (hi k j)] w fun e w' => e = .returned (.int .i64 (wd k j : Nat)) ∧ w' = w) := fun w => width_any (lo k j) (hi k j) w (by omega) (by omega) (by omega) (by omega)
 have hw := wd_le k j hj
 rw [hm]
 clear hm hF hG b1 ht hf hj hc
 have HB2 : Hid _ := b2
 clear b2
 generalize mz F G j = z at *
 generalize wd k j = d at *
 generalize lo k j = a at *
 generalize hi k j = b at *
 by_cases h0 : z = 0
 ·rw [if_pos h0]
  subst h0
  unfold cmp at *
  generalize F j = f at *
  generalize G j = g at *
  go_enter Tryz.func246,Tryz.ntmps246
  go_wp2_with fail
  go_quiet (refine Calls.quiet_of_same (M.out _))
  have HG : Hid _ := HF.out.drewN nq
  go_wp2
  go_ret
  exact ⟨rfl,HG.out⟩
 ·rw [if_neg h0]
  have n0 : ((z : Int) == 0) = false := by rw [beq_eq_false_iff_ne]; omega
  by_cases h1 : z ≤ 16
  ·rw [if_pos h1]
   unfold cmp at *
   generalize F j = f at *
   generalize G j = g at *
   clear h0
   go_enter Tryz.func246,Tryz.ntmps246
   go_wp2_with fail
   go_quiet (refine Calls.quiet_of_same (M.out _))
   have HG : Hid _ := HF.out.drewN nq
   go_wp2
   go_ret
   exact ⟨rfl,HG.out⟩
  ·rw [if_neg h1]
   unfold cmp at *
   generalize F j = f at *
   generalize G j = g at *
   clear h0
   go_enter Tryz.func246,Tryz.ntmps246
   go_wp2_with fail
   go_quiet (refine Calls.quiet_of_same (M.out _))
   have HG : Hid _ := HF.out.drewN nq
   go_wp2_with fail
   refine (R.out _ (H.out.quiet HG.out)).mono ?_
   rintro e w1 ⟨rfl,hf1⟩
   have HG1 : Hid _ := HG.out.trans hf1
   clear hf1
   go_wp2_with fail
   refine (WD.out _).mono ?_
   rintro e w2 ⟨rfl,rfl⟩
   go_wp2
   go_ret
   refine ⟨?_,HG1.out⟩
   simp
theorem stepSize_any (w : World) (ht : Tab w) (k k0 : Nat) (hk : k < 256) (F G : Nat → Int) (hF : I32 F) (hG : I32 G) :
  Calls Tryz.prog 230 #[.agg (cmp k0 F),.agg (cmp k G)] w fun e w' => e = .returned (.int .i64 ((ssum k F G (cnt k) : Nat) : Int)) ∧ Fr Nobody w w' := by
 obtain ⟨b1,b2,hf⟩ := boxes w k0 k F G
 have H : Hid (Tab w) := ht
 have hc := cnt_le k
 have HF : Hid (Fr Nobody w _) := hf
 have HB1 : Hid (Box _ w.heap.size k0 F) := b1
 have HB2 : Hid (Box _ (w.heap.size + 1) k G) := b2
 obtain ⟨c,ec⟩ : ∃ c,cnt k = c := ⟨_,rfl⟩
 have EC : Hid (cnt k = c) := ec
 have S : Hid (∀ w j,Tab w → j < c → Calls Tryz.prog 246 #[.agg (cmp k0 F),.agg (cmp k G),.int .i64 ((j : Nat) : Int)] w fun e w' => e = .returned (.int .i64 ((fsz k F G j : Nat) : Int)) ∧ Fr Nobody w w') := fun w j h hj => fieldStepSize_any w h k k0 j hk (by rw [ec]; exact hj) F G hF hG
 have C : Hid (∀ w,Tab w → Calls Tryz.prog 203 #[.int .u8 (k : Int)] w fun e w' => e = .returned (.int .i64 (c : Int)) ∧ w' = w) := fun w h => by have := count_any w h k hk; rw [ec] at this; exact this
 have L : Hid (∀ n,n ≤ c → ssum k F G n ≤ 22 * n) := fun n hn => ssum_le k n F G (by rw [ec]; exact hn)
 have L2 : Hid (∀ j,j < c → fsz k F G j ≤ 22) := fun j hj => (fsz_le k F G j (by rw [ec]; exact hj)).2
 rw [ec] at hc
 rw [ec]
 clear ht hf b1 b2 ec hF hG
 unfold cmp at *
 go_enter Tryz.func230,Tryz.ntmps230
 go_wp2_with fail
 refine (C.out _ (H.out.quiet HF.out)).mono ?_
 rintro e w1 ⟨rfl,rfl⟩
 go_wp2
 go_loopw [5,10] (fun a b wr => ∃ j : Nat,j ≤ c ∧ b = .int .i64 j ∧ a = .int .i64 (ssum k F G j : Nat) ∧ Box wr w.heap.size k0 F ∧ Box wr (w.heap.size + 1) k G ∧ Fr Nobody w wr) (fun _ b _ => c - (intOf b).toNat)
 case atStart => exact ⟨0,by omega,rfl,rfl,HB1.out,HB2.out,HF.out⟩
 case round =>
  obtain ⟨j,hj,rfl,rfl,hb1,hb2,hf⟩ := hrel
  have HG : Hid (Fr Nobody w wr) := hf
  have B1 : Hid (Box wr w.heap.size k0 F) := hb1
  have B2 : Hid (Box wr (w.heap.size + 1) k G) := hb2
  clear hf hb1 hb2
  by_cases hlt : j < c
  ·obtain ⟨p0,p1,p2,p3⟩ := B1.out.cells
   obtain ⟨q0,q1,q2,q3⟩ := B2.out.cells
   have hb := L.out j (by omega)
   have hw := L2.out j hlt
   have HS : Hid (ssum k F G (j + 1) = ssum k F G j + fsz k F G j) := rfl
   have SJ : Hid (∀ w,Tab w → _) := fun w h => S.out w j h hlt
   generalize fsz k F G j = z at *
   generalize ssum k F G j = s at *
   go_wp2_with fail
   refine (SJ.out _ (H.out.quiet HG.out)).mono ?_
   rintro e w2 ⟨rfl,hf2⟩
   have HG2 : Hid (Fr Nobody w w2) := HG.out.trans hf2
   have B12 : Hid (Box w2 w.heap.size k0 F) := B1.out.quiet hf2
   have B22 : Hid (Box w2 (w.heap.size + 1) k G) := B2.out.quiet hf2
   clear hf2
   go_wp2
   go_roundw
   case rel => exact ⟨j + 1,by omega,by go_num,by rw [HS.out]; go_num,B12.out,B22.out,HG2.out⟩
   case measure => simp [intOf]; omega
  ·have e : j = c := by omega
   subst e
   go_wp2
   go_ret
   exact ⟨rfl,HG.out⟩
end Go.Proofs.YtgifeckbflkkpaaGreatDoor
