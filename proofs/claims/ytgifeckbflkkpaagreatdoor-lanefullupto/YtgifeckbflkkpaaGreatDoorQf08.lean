/- Check of package schema. -/
import Derived.Test.YtgifeckbflkkpaaGreatDoorQf07
namespace Go.Proofs.YtgifeckbflkkpaaGreatDoor
open Go.RowKit
set_option linter.unusedVariables false
set_option maxHeartbeats 2000000
def stray (k : Nat) (F : Nat → Int) : Bool := (List.range 3).any fun j => decide (cnt k ≤ j) && decide (F j ≠ 0)
def outside (k : Nat) (F : Nat → Int) : Bool := (List.range (cnt k)).any fun j => decide (F j < lo k j) || decide (hi k j < F j)
theorem stray_true (k j : Nat) (F : Nat → Int) (h1 : cnt k ≤ j) (h2 : j < 3) (h3 : F j ≠ 0) : stray k F = true := by
 unfold stray; rw [List.any_eq_true]; exact ⟨j,by simpa using h2,by simp [h1,h3]⟩
theorem stray_false (k : Nat) (F : Nat → Int) (h : ∀ j,cnt k ≤ j → j < 3 → F j = 0) : stray k F = false := by
 unfold stray; rw [List.any_eq_false]; intro j hj
 have hj' : j < 3 := by simpa using hj
 by_cases hc : cnt k ≤ j
 ·simp [h j hc hj']
 ·simp [hc]
theorem outside_true (k j : Nat) (F : Nat → Int) (h1 : j < cnt k) (h3 : F j < lo k j ∨ hi k j < F j) : outside k F = true := by
 unfold outside; rw [List.any_eq_true]; refine ⟨j,by simpa using h1,?_⟩
 rcases h3 with h | h <;> simp [h]
theorem outside_false (k : Nat) (F : Nat → Int) (h : ∀ j,j < cnt k → lo k j ≤ F j ∧ F j ≤ hi k j) : outside k F = false := by
 unfold outside; rw [List.any_eq_false]; intro j hj
 have hj' : j < cnt k := by simpa using hj
 have := h j hj'
 simp; omega
theorem outside_no (k j : Nat) (F : Nat → Int) (h : outside k F = false) (hj : j < cnt k) : lo k j ≤ F j ∧ F j ≤ hi k j := by
 constructor
 ·apply Int.not_lt.1; intro hh; rw [outside_true k j F hj (.inl hh)] at h; cases h
 ·apply Int.not_lt.1; intro hh; rw [outside_true k j F hj (.inr hh)] at h; cases h
theorem stray_no (k j : Nat) (F : Nat → Int) (h : stray k F = false) (hj : cnt k ≤ j) (h3 : j < 3) : F j = 0 := by
 apply Classical.byContradiction; intro hh; rw [stray_true k j F hj h3 hh] at h; cases h
def chk (k : Nat) (F : Nat → Int) : Nat := if 6 ≤ k then 1 else if stray k F then 4 else if outside k F then 5 else 0
def cmp (k : Nat) (F : Nat → Int) : Array Value := #[.int .u8 (k : Int),.int .i32 (F 0),.int .i32 (F 1),.int .i32 (F 2)]
def Box (w : World) (b : Nat) (k : Nat) (F : Nat → Int) : Prop := w.heap[b]? = some (.cells (cmp k F) 63 (0,0))
theorem Box.new (w : World) (k : Nat) (F : Nat → Int) : Box (w.alloc (.cells (cmp k F) 63)) w.heap.size k F := heap_alloc_new w _
theorem Box.quiet {w w' : World} {b k : Nat} {F : Nat → Int} (h : Box w b k F) (hf : Fr Nobody w w') : Box w' b k F :=
 (hf.block b (Array.getElem?_eq_some_iff.1 h).1 id).trans h
theorem Box.kind {w : World} {b k : Nat} {F : Nat → Int} (h : Box w b k F) : w.cell? ⟨b,0,none⟩ = some (.int .u8 (k : Int)) := by
 unfold Box cmp at h; simp [World.cell?,h]
theorem Box.at {w : World} {b k : Nat} {F : Nat → Int} (h : Box w b k F) (j : Nat) (hj : j < 3) : w.cell? ⟨b,1 + j,none⟩ = some (.int .i32 (F j)) := by
 unfold Box cmp at h
 have : j = 0 ∨ j = 1 ∨ j = 2 := by omega
 rcases this with rfl | rfl | rfl <;> simp [World.cell?,h]
theorem hasStray_any (w : World) (ht : Tab w) (k : Nat) (hk : k < 256) (F : Nat → Int) :
  Calls Tryz.prog 177 #[.agg (cmp k F)] w fun e w' => e = .returned (.bool (stray k F)) ∧ Fr Nobody w w' := by
 have H : Hid (Tab w) := ht
 clear ht
 have hc := cnt_le k
 obtain ⟨c,ec⟩ : ∃ c,cnt k = c := ⟨_,rfl⟩
 have EC : Hid (cnt k = c) := ec
 rw [ec] at hc
 clear ec
 have HB : Hid (Box (w.alloc (.cells (cmp k F) 63)) w.heap.size k F) := Box.new w k F
 have HF : Hid (Fr Nobody w (w.alloc (.cells (cmp k F) 63))) := (Fr.refl _ _).alloc _
 unfold cmp
 go_enter Tryz.func177,Tryz.ntmps177
 go_wp2_with fail
 refine (count_any _ (H.out.quiet HF.out) k hk).mono ?_
 rintro e w1 ⟨rfl,rfl⟩
 rw [EC.out]
 go_wp2
 go_loopw [3] (fun a wr => ∃ j : Nat,c ≤ j ∧ j ≤ 3 ∧ a = .int .i64 j ∧ (∀ i,c ≤ i → i < j → F i = 0) ∧ Box wr w.heap.size k F ∧ Fr Nobody w wr) (fun b _ => 3 - (intOf b).toNat)
 case atStart => exact ⟨c,Nat.le_refl _,hc,rfl,fun i h1 h2 => by omega,HB.out,HF.out⟩
 case round =>
  obtain ⟨j,hcj,hj,rfl,hz,hb,hf⟩ := hrel
  have HZ : Hid (∀ i,c ≤ i → i < j → F i = 0) := hz
  have HF1 : Hid (Fr Nobody w wr) := hf
  have HB1 : Hid (Box wr w.heap.size k F) := hb
  clear hf hz hb
  by_cases hlt : j < 3
  ·have hx := HB1.out.at j hlt
   by_cases h0 : F j = 0
   ·have HZ2 : Hid (∀ i,c ≤ i → i < j + 1 → F i = 0) := by
     intro i h1 h2
     by_cases e : i = j
     ·rw [e]; exact h0
     ·exact HZ.out i h1 (by omega)
    rw [h0] at hx
    clear h0
    go_wp2
    go_roundw
    case rel => exact ⟨j + 1,by omega,by omega,by go_num,HZ2.out,HB1.out,HF1.out⟩
    case measure => simp [intOf]; omega
   ·have HS : Hid (stray k F = true) := stray_true k j F (by rw [EC.out]; exact hcj) hlt h0
    have h1 : (F j != 0) = true := by simpa using h0
    generalize F j = x at *
    clear h0
    go_wp2
    go_ret
    exact ⟨by rw [HS.out]; rfl,HF1.out⟩
  ·have HS : Hid (stray k F = false) := stray_false k F (fun i h1 h2 => HZ.out i (by rw [← EC.out]; exact h1) (by omega))
   go_wp2
   go_ret
   exact ⟨by rw [HS.out]; rfl,HF1.out⟩
theorem hasOutside_any (w : World) (ht : Tab w) (k : Nat) (hk : k < 6) (F : Nat → Int) :
  Calls Tryz.prog 178 #[.agg (cmp k F)] w fun e w' => e = .returned (.bool (outside k F)) ∧ Fr Nobody w w' := by
 have H : Hid (Tab w) := ht
 clear ht
 have hc := cnt_le k
 obtain ⟨c,ec⟩ : ∃ c,cnt k = c := ⟨_,rfl⟩
 have EC : Hid (cnt k = c) := ec
 rw [ec] at hc
 clear ec
 have HB : Hid (Box (w.alloc (.cells (cmp k F) 63)) w.heap.size k F) := Box.new w k F
 have HF : Hid (Fr Nobody w (w.alloc (.cells (cmp k F) 63))) := (Fr.refl _ _).alloc _
 unfold cmp
 go_enter Tryz.func178,Tryz.ntmps178
 go_wp2_with fail
 refine (count_any _ (H.out.quiet HF.out) k (by omega)).mono ?_
 rintro e w1 ⟨rfl,rfl⟩
 rw [EC.out]
 go_wp2
 go_loopw [7] (fun a wr => ∃ j : Nat,j ≤ c ∧ a = .int .i64 j ∧ (∀ i,i < j → lo k i ≤ F i ∧ F i ≤ hi k i) ∧ Box wr w.heap.size k F ∧ Fr Nobody w wr) (fun b _ => c - (intOf b).toNat)
 case atStart => exact ⟨0,Nat.zero_le _,rfl,fun i h1 => by omega,HB.out,HF.out⟩
 case round =>
  obtain ⟨j,hj,rfl,hz,hb,hf⟩ := hrel
  have HZ : Hid (∀ i,i < j → lo k i ≤ F i ∧ F i ≤ hi k i) := hz
  have HF1 : Hid (Fr Nobody w wr) := hf
  have HB1 : Hid (Box wr w.heap.size k F) := hb
  clear hf hz hb
  by_cases hlt : j < c
  ·have hx := HB1.out.at j (by omega)
   have hk0 := HB1.out.kind
   have hy := (H.out.quiet HF1.out).lo k j hk (by omega)
   have hz := (H.out.quiet HF1.out).hi k j hk (by omega)
   by_cases h0 : F j < lo k j
   ·have HS : Hid (outside k F = true) := outside_true k j F (by rw [EC.out]; exact hlt) (.inl h0)
    generalize F j = x at *
    generalize lo k j = a at *
    generalize hi k j = b at *
    go_wp2
    go_quiet (fail)
    have HF2 := HF1.out.drewN nq
    have HG : Hid _ := HF2
    clear HF2
    go_wp2
    go_ret
    exact ⟨by rw [HS.out]; rfl,HG.out⟩
   ·by_cases h1 : hi k j < F j
    ·have HS : Hid (outside k F = true) := outside_true k j F (by rw [EC.out]; exact hlt) (.inr h1)
     generalize F j = x at *
     generalize lo k j = a at *
     generalize hi k j = b at *
     have d0 : decide (x < a) = false := by simpa using h0
     have d1 : decide (b < x) = true := by simpa using h1
     clear h0 h1
     go_wp2
     go_quiet (fail)
     have HF2 := HF1.out.drewN nq
     have HG : Hid _ := HF2
     clear HF2
     go_wp2
     go_ret
     exact ⟨by rw [HS.out]; rfl,HG.out⟩
    ·have HZ2 : Hid (∀ i,i < j + 1 → lo k i ≤ F i ∧ F i ≤ hi k i) := by
      intro i h2
      by_cases e : i = j
      ·rw [e]; omega
      ·exact HZ.out i (by omega)
     generalize F j = x at *
     generalize lo k j = a at *
     generalize hi k j = b at *
     have d0 : decide (x < a) = false := by simpa using h0
     have d1 : decide (b < x) = false := by simpa using h1
     clear h0 h1
     go_wp2
     go_quiet (fail)
     have HF2 := HF1.out.drewN nq
     have HG : Hid _ := HF2
     have HB2 : Hid (Box (wr.drewN nq) w.heap.size k F) := HB1.out.quiet ((Fr.refl _ _).drewN nq)
     clear HF2
     go_wp2
     go_roundw
     case rel => exact ⟨j + 1,by omega,by go_num,HZ2.out,HB2.out,HG.out⟩
     case measure => simp [intOf]; omega
  ·have HS : Hid (outside k F = false) := outside_false k F (fun i h1 => HZ.out i (by rw [EC.out] at h1; omega))
   go_wp2
   go_ret
   exact ⟨by rw [HS.out]; rfl,HF1.out⟩
theorem check_any (w : World) (ht : Tab w) (k : Nat) (hk : k < 256) (F : Nat → Int) :
  Calls Tryz.prog 147 #[.agg (cmp k F)] w fun e w' => e = .returned (.int .i64 ((chk k F : Nat) : Int)) ∧ Fr Nobody w w' := by
 have H : Hid (Tab w) := ht
 clear ht
 have HF : Hid (Fr Nobody w (w.alloc (.cells (cmp k F) 63))) := (Fr.refl _ _).alloc _
 unfold chk
 by_cases h6 : 6 ≤ k
 ·rw [if_pos h6]
  unfold cmp at *
  go_enter Tryz.func147,Tryz.ntmps147
  go_wp2
  go_ret
  exact ⟨rfl,HF.out⟩
 ·rw [if_neg h6]
  have HS : Hid (∀ w,Tab w → Calls Tryz.prog 177 #[.agg (cmp k F)] w fun e w' => e = .returned (.bool (stray k F)) ∧ Fr Nobody w w') := fun w h => hasStray_any w h k hk F
  have HO : Hid (∀ w,Tab w → Calls Tryz.prog 178 #[.agg (cmp k F)] w fun e w' => e = .returned (.bool (outside k F)) ∧ Fr Nobody w w') := fun w h => hasOutside_any w h k (by omega) F
  have HB : Hid (Box (w.alloc (.cells (cmp k F) 63)) w.heap.size k F) := Box.new w k F
  cases hs : stray k F with
  | true =>
   rw [hs] at HS
   unfold cmp at *
   rw [if_pos rfl]
   clear hs
   go_enter Tryz.func147,Tryz.ntmps147
   go_wp2_with fail
   refine (HS.out _ (H.out.quiet HF.out)).mono ?_
   rintro e w1 ⟨rfl,hf1⟩
   have HF1 : Hid _ := HF.out.trans hf1
   clear hf1
   go_wp2
   go_ret
   exact ⟨rfl,HF1.out⟩
  | false =>
   rw [hs] at HS
   rw [if_neg (by decide)]
   cases ho : outside k F with
   | true =>
    rw [ho] at HO
    rw [if_pos rfl]
    clear hs ho
    unfold cmp at *
    go_enter Tryz.func147,Tryz.ntmps147
    go_wp2_with fail
    refine (HS.out _ (H.out.quiet HF.out)).mono ?_
    rintro e w1 ⟨rfl,hf1⟩
    have HF1 : Hid _ := HF.out.trans hf1
    have hb1 := HB.out.quiet hf1
    have hc0 := hb1.kind
    have hc1 := hb1.at 0 (by decide)
    have hc2 := hb1.at 1 (by decide)
    have hc3 := hb1.at 2 (by decide)
    clear hf1 hb1
    go_wp2_with fail
    refine (HO.out _ (H.out.quiet HF1.out)).mono ?_
    rintro e w2 ⟨rfl,hf2⟩
    have HF2 : Hid _ := HF1.out.trans hf2
    clear hf2
    go_wp2
    go_ret
    exact ⟨rfl,HF2.out⟩
   | false =>
    rw [ho] at HO
    rw [if_neg (by decide)]
    clear hs ho
    unfold cmp at *
    go_enter Tryz.func147,Tryz.ntmps147
    go_wp2_with fail
    refine (HS.out _ (H.out.quiet HF.out)).mono ?_
    rintro e w1 ⟨rfl,hf1⟩
    have HF1 : Hid _ := HF.out.trans hf1
    have hb1 := HB.out.quiet hf1
    have hc0 := hb1.kind
    have hc1 := hb1.at 0 (by decide)
    have hc2 := hb1.at 1 (by decide)
    have hc3 := hb1.at 2 (by decide)
    clear hf1 hb1
    go_wp2_with fail
    refine (HO.out _ (H.out.quiet HF1.out)).mono ?_
    rintro e w2 ⟨rfl,hf2⟩
    have HF2 : Hid _ := HF1.out.trans hf2
    clear hf2
    go_wp2
    go_ret
    exact ⟨rfl,HF2.out⟩
end Go.Proofs.YtgifeckbflkkpaaGreatDoor
namespace Go.Proofs.YtgifeckbflkkpaaGreatDoor
open Go.RowKit
set_option linter.unusedVariables false
set_option maxHeartbeats 2000000
set_option maxRecDepth 100000
theorem rcheck_any (w : World) (k : Nat) (hk : k < 256) (F : Nat → Int) :
  Calls Tryz.prog 107 #[.agg (cmp k F)] w fun e w' => e = .returned (.int .i64 ((chk k F : Nat) : Int)) ∧ Fr Nobody w w' := by
 have hc := cnt_le k
 have HC : Hid (∀ w,Calls Tryz.prog 108 #[.int .u8 (k : Int)] w fun e w' => e = .returned (.int .i64 ((cnt k : Nat) : Int)) ∧ Fr Nobody w w') := fun w => rcount_any w k hk
 have HB : Hid (Box (w.alloc (.cells (cmp k F) 63)) w.heap.size k F) := Box.new w k F
 have HF : Hid (Fr Nobody w (w.alloc (.cells (cmp k F) 63))) := (Fr.refl _ _).alloc _
 by_cases h6 : 6 ≤ k
 ·have e1 : chk k F = 1 := by unfold chk; rw [if_pos h6]
  rw [e1]
  rw [cnt_out k h6] at HC
  clear e1 hc
  unfold cmp at *
  go_enter Tryz.func107,Tryz.ntmps107
  go_wp2_with fail
  refine (HC.out _).mono ?_
  rintro e w1 ⟨rfl,hf1⟩
  have HF1 : Hid _ := HF.out.trans hf1
  clear hf1
  go_wp2
  go_ret
  exact ⟨rfl,HF1.out⟩
 ·have h1 := cnt_pos k (by omega)
  obtain ⟨c,ec⟩ : ∃ c,cnt k = c := ⟨_,rfl⟩
  have EC : Hid (cnt k = c) := ec
  rw [ec] at hc HC h1
  clear ec
  have HS4 : Hid (stray k F = true → chk k F = 4) := fun h => by unfold chk; rw [if_neg h6,if_pos h]
  have HS5 : Hid (stray k F = false → outside k F = true → chk k F = 5) := fun h h' => by unfold chk; rw [if_neg h6,h,if_neg (by decide),if_pos h']
  have HS0 : Hid (stray k F = false → outside k F = false → chk k F = 0) := fun h h' => by unfold chk; rw [if_neg h6,h,h',if_neg (by decide),if_neg (by decide)]
  unfold cmp
  have hc0 : ((c : Int) == 0) = false := by rw [beq_eq_false_iff_ne]; omega
  clear h1
  go_enter Tryz.func107,Tryz.ntmps107
  go_wp2_with fail
  refine (HC.out _).mono ?_
  rintro e w1 ⟨rfl,hf1⟩
  have HF1 : Hid _ := HF.out.trans hf1
  have HB1 : Hid _ := HB.out.quiet hf1
  clear hf1
  go_wp2
  go_loopw [4] (fun a wr => ∃ j : Nat,c ≤ j ∧ j ≤ 3 ∧ a = .int .i64 j ∧ (∀ i,c ≤ i → i < j → F i = 0) ∧ Box wr w.heap.size k F ∧ Fr Nobody w wr) (fun b _ => 3 - (intOf b).toNat)
  case atStart => exact ⟨c,Nat.le_refl _,hc,rfl,fun i h1 h2 => by omega,HB1.out,HF1.out⟩
  case round =>
   obtain ⟨j,hcj,hj,rfl,hz,hb,hf⟩ := hrel
   have HZ : Hid (∀ i,c ≤ i → i < j → F i = 0) := hz
   have HG1 : Hid (Fr Nobody w wr) := hf
   have HB2 : Hid (Box wr w.heap.size k F) := hb
   clear hf hz hb
   by_cases hlt : j < 3
   ·have hx := HB2.out.at j hlt
    by_cases h0 : F j = 0
    ·have HZ2 : Hid (∀ i,c ≤ i → i < j + 1 → F i = 0) := by
      intro i h1 h2
      by_cases e : i = j
      ·rw [e]; exact h0
      ·exact HZ.out i h1 (by omega)
     rw [h0] at hx
     clear h0
     go_wp2
     go_roundw
     case rel => exact ⟨j + 1,by omega,by omega,by go_num,HZ2.out,HB2.out,HG1.out⟩
     case measure => simp [intOf]; omega
    ·have HS : Hid (chk k F = 4) := HS4.out (stray_true k j F (by rw [EC.out]; exact hcj) hlt h0)
     have h1 : (F j != 0) = true := by simpa using h0
     generalize F j = x at *
     clear h0
     go_wp2
     go_ret
     exact ⟨by rw [HS.out]; rfl,HG1.out⟩
   ·have HS : Hid (stray k F = false) := stray_false k F (fun i h1 h2 => HZ.out i (by rw [← EC.out]; exact h1) (by omega))
    clear HZ hcj
    go_wp2
    clear HB HB1 HF HF1 HC
    go_loopw [25] (fun a wq => ∃ i : Nat,i ≤ c ∧ a = .int .i64 i ∧ (∀ t,t < i → lo k t ≤ F t ∧ F t ≤ hi k t) ∧ Box wq w.heap.size k F ∧ Fr Nobody w wq) (fun b _ => c - (intOf b).toNat)
    case atStart => exact ⟨0,Nat.zero_le _,rfl,fun i h1 => by omega,HB2.out,HG1.out⟩
    case round =>
     obtain ⟨i,hi0,rfl,hz,hb,hf⟩ := hrel
     have HZ : Hid (∀ t,t < i → lo k t ≤ F t ∧ F t ≤ hi k t) := hz
     have HG : Hid (Fr Nobody w wr) := hf
     have HB3 : Hid (Box wr w.heap.size k F) := hb
     clear hf hz hb
     by_cases hlt2 : i < c
     ·have hk0 := HB3.out.kind
      have HR : Hid (∀ w,Calls Tryz.prog 109 #[.int .u8 (k : Int),.int .i64 (i : Int)] w fun e w' => e = .returned (.tuple #[.int .i32 (lo k i),.int .i32 (hi k i),.int .i64 0]) ∧ Fr Nobody w w') := fun w => rrange_ok w k i (by rw [EC.out]; exact hlt2)
      by_cases h0 : F i < lo k i
      ·have HO : Hid (chk k F = 5) := HS5.out HS.out (outside_true k i F (by rw [EC.out]; exact hlt2) (.inl h0))
       go_wp2_with fail
       refine (HR.out _).mono ?_
       rintro e w2 ⟨rfl,hf2⟩
       have HG2 : Hid _ := HG.out.trans hf2
       have hx := (HB3.out.quiet hf2).at i (by omega)
       clear hf2 HR
       generalize F i = x at *
       generalize lo k i = a at *
       generalize hi k i = b at *
       go_wp2
       go_ret
       exact ⟨by rw [HO.out]; rfl,HG2.out⟩
      ·by_cases h1 : hi k i < F i
       ·have HO : Hid (chk k F = 5) := HS5.out HS.out (outside_true k i F (by rw [EC.out]; exact hlt2) (.inr h1))
        go_wp2_with fail
        refine (HR.out _).mono ?_
        rintro e w2 ⟨rfl,hf2⟩
        have HG2 : Hid _ := HG.out.trans hf2
        have hx := (HB3.out.quiet hf2).at i (by omega)
        clear hf2 HR
        generalize F i = x at *
        generalize lo k i = a at *
        generalize hi k i = b at *
        have d0 : decide (x < a) = false := by simpa using h0
        have d1 : decide (b < x) = true := by simpa using h1
        clear h0 h1
        go_wp2
        go_ret
        exact ⟨by rw [HO.out]; rfl,HG2.out⟩
       ·have HZ2 : Hid (∀ t,t < i + 1 → lo k t ≤ F t ∧ F t ≤ hi k t) := by
         intro t h2
         by_cases e : t = i
         ·rw [e]; omega
         ·exact HZ.out t (by omega)
        go_wp2_with fail
        refine (HR.out _).mono ?_
        rintro e w2 ⟨rfl,hf2⟩
        have HG2 : Hid _ := HG.out.trans hf2
        have HB4 : Hid (Box w2 w.heap.size k F) := HB3.out.quiet hf2
        have hx := HB4.out.at i (by omega)
        clear hf2 HR
        generalize F i = x at *
        generalize lo k i = a at *
        generalize hi k i = b at *
        have d0 : decide (x < a) = false := by simpa using h0
        have d1 : decide (b < x) = false := by simpa using h1
        clear h0 h1
        go_wp2
        go_roundw
        case rel => exact ⟨i + 1,by omega,by go_num,HZ2.out,HB4.out,HG2.out⟩
        case measure => simp [intOf]; omega
     ·have HO : Hid (chk k F = 0) := HS0.out HS.out (outside_false k F (fun t h1 => HZ.out t (by rw [EC.out] at h1; omega)))
      go_wp2
      go_ret
      exact ⟨by rw [HO.out]; rfl,HG.out⟩
def f3 (a b c : Int) : Nat → Int
 | 0 => a
 | 1 => b
 | 2 => c
 | _ => 0
theorem check3 (w : World) (ht : Tab w) (k : Nat) (hk : k < 256) (a b c : Int) :
  Calls Tryz.prog 147 #[.agg #[.int .u8 (k : Int),.int .i32 a,.int .i32 b,.int .i32 c]] w fun e w' => e = .returned (.int .i64 ((chk k (f3 a b c) : Nat) : Int)) ∧ Fr Nobody w w' := check_any w ht k hk (f3 a b c)
theorem rcheck3 (w : World) (k : Nat) (hk : k < 256) (a b c : Int) :
  Calls Tryz.prog 107 #[.agg #[.int .u8 (k : Int),.int .i32 a,.int .i32 b,.int .i32 c]] w fun e w' => e = .returned (.int .i64 ((chk k (f3 a b c) : Nat) : Int)) ∧ Fr Nobody w w' := rcheck_any w k hk (f3 a b c)
end Go.Proofs.YtgifeckbflkkpaaGreatDoor
