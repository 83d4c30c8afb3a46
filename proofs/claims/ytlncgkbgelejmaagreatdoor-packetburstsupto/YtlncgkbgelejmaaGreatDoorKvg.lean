/-
  How many bits a component has, whole and behind another one: Size and SizeStep of package comp.
-/
import Derived.Test.YtlncgkbgelejmaaGreatDoorSjg
import Derived.Test.YtlncgkbgelejmaaGreatDoorRdg
import Derived.Laws.ResultCell
namespace Go.Proofs.YtlncgkbgelejmaaGreatDoor
open Go.RowKit
set_option linter.unusedVariables false
set_option maxRecDepth 100000

/-- a field's value is within int32 -/
def I32 (F : Nat → Int) : Prop := ∀ j, j < 3 → -2147483648 ≤ F j ∧ F j ≤ 2147483647
theorem i32_f3 {a b c : Int} (h1 : ok32 a) (h2 : ok32 b) (h3 : ok32 c) : I32 (f3 a b c) := by
  intro j hj
  have : j = 0 ∨ j = 1 ∨ j = 2 := by omega
  rcases this with rfl | rfl | rfl
  · exact ok32_rng h1
  · exact ok32_rng h2
  · exact ok32_rng h3

theorem boxes (w : World) (k k' : Nat) (F G : Nat → Int) :
    Box ((w.alloc (.cells (cmp k F) 69)).alloc (.cells (cmp k' G) 69)) w.heap.size k F ∧ Box ((w.alloc (.cells (cmp k F) 69)).alloc (.cells (cmp k' G) 69)) (w.heap.size + 1) k' G ∧ Fr Nobody w ((w.alloc (.cells (cmp k F) 69)).alloc (.cells (cmp k' G) 69)) := by
  refine ⟨(Box.new w k F).quiet ((Fr.refl _ _).alloc _), ?_, ((Fr.refl _ _).alloc _).alloc _⟩
  have := Box.new (w.alloc (.cells (cmp k F) 69)) k' G
  simpa using this

set_option maxHeartbeats 400000 in
theorem more_any (w : World) (x y : Int) (hx : -2147483648 ≤ x ∧ x ≤ 2147483647) (hy : -2147483648 ≤ y ∧ y ≤ 2147483647) :
    Calls Tryz.prog 196 #[.int .i32 x, .int .i32 y] w fun e w' => e = .returned (.int .u64 ((zig (y - x) : Nat) : Int)) ∧ w' = w := by
  have HZ : Hid (∀ w, _) := fun w => zig_any (y - x) w (by omega) (by omega)
  generalize zig (y - x) = z at *
  go_enter Tryz.func196, Tryz.ntmps196
  go_wp2_with fail
  refine (HZ.out _).mono ?_
  rintro e w1 ⟨rfl, rfl⟩
  go_wp2
  go_ret
  exact ⟨rfl, rfl⟩

def ckS (k k' : Nat) (F G : Nat → Int) : Nat := if chk k F = 0 then (if chk k' G = 0 then (if k = k' then 0 else 4) else chk k' G) else chk k F

set_option maxHeartbeats 1000000 in
theorem checkStep_any (w : World) (ht : Tab w) (k k' : Nat) (hk : k < 256) (hk' : k' < 256) (F G : Nat → Int) :
    Calls Tryz.prog 178 #[.agg (cmp k F), .agg (cmp k' G)] w fun e w' => e = .returned (.int .i64 ((ckS k k' F G : Nat) : Int)) ∧ Fr Nobody w w' := by
  obtain ⟨b1, b2, hf⟩ := boxes w k k' F G
  have H : Hid (Tab w) := ht
  have HB1 : Hid _ := b1
  have HB2 : Hid _ := b2
  have HF : Hid _ := hf
  have C1 : Hid (∀ w, Tab w → Calls Tryz.prog 123 #[.agg (cmp k F)] w fun e w' => e = .returned (.int .i64 ((chk k F : Nat) : Int)) ∧ Fr Nobody w w') := fun w h => check_any w h k hk F
  have C2 : Hid (∀ w, Tab w → Calls Tryz.prog 123 #[.agg (cmp k' G)] w fun e w' => e = .returned (.int .i64 ((chk k' G : Nat) : Int)) ∧ Fr Nobody w w') := fun w h => check_any w h k' hk' G
  clear b1 b2 hf ht
  unfold ckS
  generalize chk k F = x at *
  generalize chk k' G = y at *
  by_cases hx : x = 0
  · rw [if_pos hx]
    subst hx
    by_cases hy : y = 0
    · rw [if_pos hy]
      subst hy
      by_cases e : k = k'
      · rw [if_pos e]
        subst e
        unfold cmp at *
        go_enter Tryz.func178, Tryz.ntmps178
        go_wp2_with fail
        refine (C1.out _ (H.out.quiet HF.out)).mono ?_
        rintro e w1 ⟨rfl, hf1⟩
        have HF1 : Hid (Fr Nobody w w1) := HF.out.trans hf1
        have B2 : Hid (Box w1 (w.heap.size + 1) k G) := Box.quiet HB2.out hf1
        have B1 : Hid (Box w1 w.heap.size k F) := Box.quiet HB1.out hf1
        obtain ⟨c0, c1, c2, c3⟩ := B2.out.cells
        clear hf1
        go_wp2_with fail
        refine (C2.out _ (H.out.quiet HF1.out)).mono ?_
        rintro e w2 ⟨rfl, hf2⟩
        have HF2 : Hid (Fr Nobody w w2) := HF1.out.trans hf2
        have d0 := (B2.out.quiet hf2).kind
        have e0 := (B1.out.quiet hf2).kind
        clear hf2 c0 c1 c2 c3
        go_wp2
        go_ret
        exact ⟨rfl, HF2.out⟩
      · rw [if_neg e]
        have hne : ((k : Int) != (k' : Int)) = true := by rw [bne_iff_ne]; omega
        unfold cmp at *
        go_enter Tryz.func178, Tryz.ntmps178
        go_wp2_with fail
        refine (C1.out _ (H.out.quiet HF.out)).mono ?_
        rintro e w1 ⟨rfl, hf1⟩
        have HF1 : Hid (Fr Nobody w w1) := HF.out.trans hf1
        have B2 : Hid (Box w1 (w.heap.size + 1) k' G) := Box.quiet HB2.out hf1
        have B1 : Hid (Box w1 w.heap.size k F) := Box.quiet HB1.out hf1
        obtain ⟨c0, c1, c2, c3⟩ := B2.out.cells
        clear hf1
        go_wp2_with fail
        refine (C2.out _ (H.out.quiet HF1.out)).mono ?_
        rintro e w2 ⟨rfl, hf2⟩
        have HF2 : Hid (Fr Nobody w w2) := HF1.out.trans hf2
        have d0 := (B2.out.quiet hf2).kind
        have e0 := (B1.out.quiet hf2).kind
        clear hf2 c0 c1 c2 c3
        go_wp2
        go_ret
        exact ⟨rfl, HF2.out⟩
    · rw [if_neg hy]
      have hne : ((y : Int) != 0) = true := by rw [bne_iff_ne]; omega
      unfold cmp at *
      go_enter Tryz.func178, Tryz.ntmps178
      go_wp2_with fail
      refine (C1.out _ (H.out.quiet HF.out)).mono ?_
      rintro e w1 ⟨rfl, hf1⟩
      have HF1 : Hid (Fr Nobody w w1) := HF.out.trans hf1
      have B2 : Hid (Box w1 (w.heap.size + 1) k' G) := Box.quiet HB2.out hf1
      obtain ⟨c0, c1, c2, c3⟩ := B2.out.cells
      clear hf1
      go_wp2_with fail
      refine (C2.out _ (H.out.quiet HF1.out)).mono ?_
      rintro e w2 ⟨rfl, hf2⟩
      have HF2 : Hid (Fr Nobody w w2) := HF1.out.trans hf2
      clear hf2
      go_wp2
      go_ret
      exact ⟨rfl, HF2.out⟩
  · rw [if_neg hx]
    have hne : ((x : Int) != 0) = true := by rw [bne_iff_ne]; omega
    unfold cmp at *
    go_enter Tryz.func178, Tryz.ntmps178
    go_wp2_with fail
    refine (C1.out _ (H.out.quiet HF.out)).mono ?_
    rintro e w1 ⟨rfl, hf1⟩
    have HF1 : Hid (Fr Nobody w w1) := HF.out.trans hf1
    clear hf1
    go_wp2
    go_ret
    exact ⟨rfl, HF1.out⟩
end Go.Proofs.YtlncgkbgelejmaaGreatDoor


/-
  How many bits a component has behind another one: stepSize, Size, SizeStep of package comp; the document's examples of layer 6.
-/
namespace Go.Proofs.YtlncgkbgelejmaaGreatDoor
open Go.RowKit
set_option linter.unusedVariables false
set_option maxRecDepth 100000

/-- Zig of how much more a field is -/
def mz (F G : Nat → Int) (j : Nat) : Nat := zig (G j - F j)
/-- a field's bits behind another one -/
def fsz (k : Nat) (F G : Nat → Int) (j : Nat) : Nat := if mz F G j = 0 then 1 else if mz F G j ≤ 16 then 6 else 2 + wd k j
def ssum (k : Nat) (F G : Nat → Int) : Nat → Nat
  | 0 => 0
  | n + 1 => ssum k F G n + fsz k F G n
theorem fsz_le (k : Nat) (F G : Nat → Int) (j : Nat) (h : j < cnt k) : 1 ≤ fsz k F G j ∧ fsz k F G j ≤ 22 := by
  have := wd_le k j h
  unfold fsz; split
  · omega
  · split <;> omega
theorem ssum_le (k n : Nat) (F G : Nat → Int) (h : n ≤ cnt k) : ssum k F G n ≤ 22 * n := by
  induction n with
  | zero => simp [ssum]
  | succ n ih =>
    have := ih (by omega)
    have := fsz_le k F G n (by omega)
    simp only [ssum]; omega

set_option maxHeartbeats 2000000 in
theorem fieldStepSize_any (w : World) (ht : Tab w) (k k0 j : Nat) (hk : k < 256) (hj : j < cnt k) (F G : Nat → Int) (hF : I32 F) (hG : I32 G) :
    Calls Tryz.prog 195 #[.agg (cmp k0 F), .agg (cmp k G), .int .i64 (j : Int)] w fun e w' => e = .returned (.int .i64 ((fsz k F G j : Nat) : Int)) ∧ Fr Nobody w w' := by
  obtain ⟨b1, b2, hf⟩ := boxes w k0 k F G
  have H : Hid (Tab w) := ht
  have hc := cnt_le k
  have hj3 : j < 3 := by omega
  have x1 := b1.at j hj3
  have x2 := b2.at j hj3
  have x3 := b2.kind
  have HF : Hid _ := hf
  have hm : fsz k F G j = (if mz F G j = 0 then 1 else if mz F G j ≤ 16 then 6 else 2 + wd k j) := rfl
  have M : Hid (∀ w, Calls Tryz.prog 196 #[.int .i32 (F j), .int .i32 (G j)] w fun e w' => e = .returned (.int .u64 ((mz F G j : Nat) : Int)) ∧ w' = w) := fun w => more_any w (F j) (G j) (hF j hj3) (hG j hj3)
  have R : Hid (∀ w, Tab w → _) := fun w h => range_ok w h k hk j hj
  obtain ⟨l0, l1, l2, l3⟩ := rng_ok k j hj
  have WD : Hid (∀ w, Calls Tryz.prog 107 #[.int .i64 (lo k j), .int .i64 (hi k j)] w fun e w' => e = .returned (.int .i64 (wd k j : Nat)) ∧ w' = w) := fun w => width_any (lo k j) (hi k j) w (by omega) (by omega) (by omega) (by omega)
  have hw := wd_le k j hj
  rw [hm]
  clear hm hF hG b1 ht hf hj hc
  have HB2 : Hid _ := b2
  clear b2
  generalize mz F G j = z at *
  generalize wd k j = d at *
  generalize lo k j = a at *
  generalize hi k j = b at *
  by_cases h0 : z = 0
  · rw [if_pos h0]
    subst h0
    unfold cmp at *
    generalize F j = f at *
    generalize G j = g at *
    go_enter Tryz.func195, Tryz.ntmps195
    go_wp2_with fail
    go_quiet (refine Calls.quiet_of_same (M.out _))
    have HG : Hid _ := HF.out.drewN nq
    go_wp2
    go_ret
    exact ⟨rfl, HG.out⟩
  · rw [if_neg h0]
    have n0 : ((z : Int) == 0) = false := by rw [beq_eq_false_iff_ne]; omega
    by_cases h1 : z ≤ 16
    · rw [if_pos h1]
      unfold cmp at *
      generalize F j = f at *
      generalize G j = g at *
      clear h0
      go_enter Tryz.func195, Tryz.ntmps195
      go_wp2_with fail
      go_quiet (refine Calls.quiet_of_same (M.out _))
      have HG : Hid _ := HF.out.drewN nq
      go_wp2
      go_ret
      exact ⟨rfl, HG.out⟩
    · rw [if_neg h1]
      unfold cmp at *
      generalize F j = f at *
      generalize G j = g at *
      clear h0
      go_enter Tryz.func195, Tryz.ntmps195
      go_wp2_with fail
      go_quiet (refine Calls.quiet_of_same (M.out _))
      have HG : Hid _ := HF.out.drewN nq
      go_wp2_with fail
      refine (R.out _ (H.out.quiet HG.out)).mono ?_
      rintro e w1 ⟨rfl, hf1⟩
      have HG1 : Hid _ := HG.out.trans hf1
      clear hf1
      go_wp2_with fail
      refine (WD.out _).mono ?_
      rintro e w2 ⟨rfl, rfl⟩
      go_wp2
      go_ret
      refine ⟨?_, HG1.out⟩
      simp
end Go.Proofs.YtlncgkbgelejmaaGreatDoor


/-
  stepSize, Size, SizeStep of package comp; the document's examples of layer 6.
-/
namespace Go.Proofs.YtlncgkbgelejmaaGreatDoor
open Go.RowKit
set_option linter.unusedVariables false
set_option maxRecDepth 100000

set_option maxHeartbeats 2000000 in
theorem stepSize_any (w : World) (ht : Tab w) (k k0 : Nat) (hk : k < 256) (F G : Nat → Int) (hF : I32 F) (hG : I32 G) :
    Calls Tryz.prog 179 #[.agg (cmp k0 F), .agg (cmp k G)] w fun e w' => e = .returned (.int .i64 ((ssum k F G (cnt k) : Nat) : Int)) ∧ Fr Nobody w w' := by
  obtain ⟨b1, b2, hf⟩ := boxes w k0 k F G
  have H : Hid (Tab w) := ht
  have hc := cnt_le k
  have HF : Hid (Fr Nobody w _) := hf
  have HB1 : Hid (Box _ w.heap.size k0 F) := b1
  have HB2 : Hid (Box _ (w.heap.size + 1) k G) := b2
  obtain ⟨c, ec⟩ : ∃ c, cnt k = c := ⟨_, rfl⟩
  have EC : Hid (cnt k = c) := ec
  have S : Hid (∀ w j, Tab w → j < c → Calls Tryz.prog 195 #[.agg (cmp k0 F), .agg (cmp k G), .int .i64 ((j : Nat) : Int)] w fun e w' => e = .returned (.int .i64 ((fsz k F G j : Nat) : Int)) ∧ Fr Nobody w w') := fun w j h hj => fieldStepSize_any w h k k0 j hk (by rw [ec]; exact hj) F G hF hG
  have C : Hid (∀ w, Tab w → Calls Tryz.prog 154 #[.int .u8 (k : Int)] w fun e w' => e = .returned (.int .i64 (c : Int)) ∧ w' = w) := fun w h => by have := count_any w h k hk; rw [ec] at this; exact this
  have L : Hid (∀ n, n ≤ c → ssum k F G n ≤ 22 * n) := fun n hn => ssum_le k n F G (by rw [ec]; exact hn)
  have L2 : Hid (∀ j, j < c → fsz k F G j ≤ 22) := fun j hj => (fsz_le k F G j (by rw [ec]; exact hj)).2
  rw [ec] at hc
  rw [ec]
  clear ht hf b1 b2 ec hF hG
  unfold cmp at *
  go_enter Tryz.func179, Tryz.ntmps179
  go_wp2_with fail
  refine (C.out _ (H.out.quiet HF.out)).mono ?_
  rintro e w1 ⟨rfl, rfl⟩
  go_wp2
  go_loopw [5, 10] (fun a b wr => ∃ j : Nat, j ≤ c ∧ b = .int .i64 j ∧ a = .int .i64 (ssum k F G j : Nat) ∧ Box wr w.heap.size k0 F ∧ Box wr (w.heap.size + 1) k G ∧ Fr Nobody w wr) (fun _ b _ => c - (intOf b).toNat)
  case atStart => exact ⟨0, by omega, rfl, rfl, HB1.out, HB2.out, HF.out⟩
  case round =>
    obtain ⟨j, hj, rfl, rfl, hb1, hb2, hf⟩ := hrel
    have HG : Hid (Fr Nobody w wr) := hf
    have B1 : Hid (Box wr w.heap.size k0 F) := hb1
    have B2 : Hid (Box wr (w.heap.size + 1) k G) := hb2
    clear hf hb1 hb2
    by_cases hlt : j < c
    · obtain ⟨p0, p1, p2, p3⟩ := B1.out.cells
      obtain ⟨q0, q1, q2, q3⟩ := B2.out.cells
      have hb := L.out j (by omega)
      have hw := L2.out j hlt
      have HS : Hid (ssum k F G (j + 1) = ssum k F G j + fsz k F G j) := rfl
      have SJ : Hid (∀ w, Tab w → _) := fun w h => S.out w j h hlt
      generalize fsz k F G j = z at *
      generalize ssum k F G j = s at *
      go_wp2_with fail
      refine (SJ.out _ (H.out.quiet HG.out)).mono ?_
      rintro e w2 ⟨rfl, hf2⟩
      have HG2 : Hid (Fr Nobody w w2) := HG.out.trans hf2
      have B12 : Hid (Box w2 w.heap.size k0 F) := B1.out.quiet hf2
      have B22 : Hid (Box w2 (w.heap.size + 1) k G) := B2.out.quiet hf2
      clear hf2
      go_wp2
      go_roundw
      case rel => exact ⟨j + 1, by omega, by go_num, by rw [HS.out]; go_num, B12.out, B22.out, HG2.out⟩
      case measure => simp [intOf]; omega
    · have e : j = c := by omega
      subst e
      go_wp2
      go_ret
      exact ⟨rfl, HG.out⟩

def sizeK (k : Nat) (F : Nat → Int) : Nat := if chk k F = 0 then bitsK k else 0
def sizeS (k k' : Nat) (F G : Nat → Int) : Nat := if ckS k k' F G = 0 then ssum k' F G (cnt k') else 0

theorem sz_a : sizeK 2 (f3 5 0 0) = 12 := by decide +kernel
theorem sz_b : sizeS 2 2 (f3 6 0 0) (f3 5 0 0) = 6 := by decide +kernel
theorem sz_c : sizeS 2 2 (f3 5 0 0) (f3 5 0 0) = 1 := by decide +kernel
theorem sz_d : sizeS 2 2 (f3 500 0 0) (f3 5 0 0) = 14 := by decide +kernel
theorem i32_life (n : Int) (h : 0 ≤ n ∧ n ≤ 4095) : I32 (f3 n 0 0) := by
  intro j hj
  have : j = 0 ∨ j = 1 ∨ j = 2 := by omega
  rcases this with rfl | rfl | rfl <;> simp only [f3] <;> omega

end Go.Proofs.YtlncgkbgelejmaaGreatDoor


/-
  The document's examples of layer 6.
-/
namespace Go.Proofs.YtlncgkbgelejmaaGreatDoor
open Go.RowKit
set_option linter.unusedVariables false
set_option maxRecDepth 100000

end Go.Proofs.YtlncgkbgelejmaaGreatDoor


/-
  What a writer's calls leave as it was: every block that is neither a writer's nor bytes. Put, room and the bits of one field.
-/
namespace Go.Proofs.YtlncgkbgelejmaaGreatDoor
open Go.RowKit
set_option linter.unusedVariables false
set_option maxRecDepth 100000

theorem len_fr (w0 w : World) (b : Nat) (L : List Bool) (h : Ow w0 w b L) : Calls Tryz.prog 118 #[.pointer (some ⟨b, 0, none⟩)] w fun e w' => e = .returned (.int .i64 (L.length : Int)) ∧ Fr Nobody w w' := by
  obtain ⟨g, hW, hF⟩ := h
  refine (len_any _ w b g L hW).mono ?_
  rintro e w' ⟨rfl, rfl⟩
  exact ⟨rfl, Fr.refl _ _⟩
/-- a writer's block, or bytes -/
def Wt (w : World) (k : Nat) : Prop := ∃ cur f, w.heap[k]? = some (.cells cur 123 f) ∨ w.heap[k]? = some (.cells cur 5 f)
def Wf (w w' : World) : Prop := Fr (Wt w) w w'
theorem Wf.refl (w : World) : Wf w w := Fr.refl _ _
theorem Wf.of_quiet {w w' : World} (h : Fr Nobody w w') : Wf w w' := h.mono (fun _ _ k => k.elim)
theorem Wf.trans {a b c : World} (h : Wf a b) (k : Wf b c) : Wf a c := by
  refine ⟨k.os.trans h.os, k.tape.trans h.tape, k.output.trans h.output, Nat.le_trans h.size k.size, fun i hi hs => ?_⟩
  have e := h.block i hi hs
  refine (k.block i (Nat.lt_of_lt_of_le hi h.size) ?_).trans e
  rintro ⟨cur, f, hc⟩
  rw [e] at hc
  exact hs ⟨cur, f, hc⟩
theorem Wf.quiet {a b c : World} (h : Wf a b) (k : Fr Nobody b c) : Wf a c := h.trans (Wf.of_quiet k)
theorem Box.wf {w w' : World} {b k : Nat} {F : Nat → Int} (h : Box w b k F) (hf : Wf w w') : Box w' b k F := by
  refine (hf.block b (Array.getElem?_eq_some_iff.1 h).1 ?_).trans h
  rintro ⟨cur, f, hc⟩
  unfold Box at h
  rw [h] at hc
  simp at hc
theorem Bo.wf {B : Nat} {w w' : World} {v : Value} {L : List Bool} (h : Bo B w v L) (hf : Wf w w') : Bo B w' v L := by
  refine h.keep hf ?_
  rintro k cur hk ⟨cur', f, hc⟩
  rw [hk] at hc
  simp at hc
theorem Bs.wf {w w' : World} {v : Value} {L : List Bool} (h : Bs w v L) (hf : Wf w w') : Bs w' v L := by
  refine h.keep hf ?_
  rintro k cur hk ⟨cur', f, hc⟩
  rw [hk] at hc
  simp at hc
theorem Wr.wt {B : Nat} {w : World} {b : Nat} {g : Option Nat} {L : List Bool} (h : Wr B w b g L) (k : Nat) (hk : At b g k) : Wt w k := by
  obtain ⟨v, h1, h2, h3⟩ := h.obj
  rcases hk with rfl | hk
  · exact ⟨_, _, .inl h1⟩
  · rcases h2.2 with ⟨rfl, _⟩ | ⟨g', cap, cur, rfl, _, hgg, _⟩
    · simp [Value.ownBlock] at h3
      rw [← h3] at hk; cases hk
    · simp [Value.ownBlock] at h3
      rw [← h3] at hk
      cases hk
      exact ⟨_, _, .inr hgg⟩

theorem put_wf (w0 w : World) (b : Nat) (L : List Bool) (v n : Nat) (x y : Int) (hx : x = (v : Int)) (hy : y = (n : Int)) (h : Ow w0 w b L) (hn : n ≤ 64) (hv : v < 2 ^ n) (hv2 : v < 18446744073709551616) (hl : L.length + n ≤ 1048576) :
    Calls Tryz.prog 92 #[.pointer (some ⟨b, 0, none⟩), .int .u64 x, .int .i64 y] w fun e w' => e = .returned (.int .i64 0) ∧ Ow w0 w' b (L ++ bitsN n v) ∧ Wf w w' := by
  subst hx; subst hy
  obtain ⟨g, hW, hF⟩ := h
  refine (put_ok _ w b g L v n hW hn hv hv2 hl).mono ?_
  rintro e w' ⟨rfl, g', hW', hs⟩
  exact ⟨rfl, ⟨g', hW', hF.fresh hs.fr (hW.lowAt)⟩, hs.fr.mono (fun k _ hk => hW.wt k hk)⟩

set_option maxHeartbeats 400000 in
theorem room_any (w0 w : World) (b : Nat) (L : List Bool) (h : Ow w0 w b L) (hl : L.length ≤ 1048576) :
    Calls Tryz.prog 153 #[.pointer (some ⟨b, 0, none⟩)] w fun e w' => e = .returned (.int .i64 ((1048576 - L.length : Nat) : Int)) ∧ Fr Nobody w w' := by
  have H : Hid (∀ _ : Unit, _) := fun _ => len_fr w0 w b L h
  clear h
  go_enter Tryz.func153, Tryz.ntmps153
  go_wp2_with fail
  refine (H.out ()).mono ?_
  rintro e w1 ⟨rfl, hf⟩
  have HF : Hid _ := hf
  clear hf H
  go_wp2
  go_ret
  exact ⟨ret_int (by omega), HF.out⟩

set_option maxHeartbeats 1000000 in
theorem putIn_wf (w0 w : World) (b : Nat) (L : List Bool) (n lo hi : Int) (d : Nat) (hd : n = lo + (d : Int)) (h : Ow w0 w b L) (h0 : -9223372036854775808 ≤ lo) (h1 : hi ≤ 9223372036854775807) (ha : lo ≤ n) (hb : n ≤ hi) (hl : L.length + 64 ≤ 1048576) :
    Calls Tryz.prog 90 #[.pointer (some ⟨b, 0, none⟩), .int .i64 n, .int .i64 lo, .int .i64 hi] w fun e w' => e = .returned (.int .i64 0) ∧ Ow w0 w' b (L ++ bitsN (wid lo hi) d) ∧ Wf w w' := by
  have hle : lo ≤ hi := by omega
  have H : Hid (Ow w0 w b L) := h
  have ed : (n - lo).toNat = d := by omega
  have HI : Hid (d < 2 ^ wid lo hi) := ed ▸ in_lt n lo hi h0 h1 ha hb
  have HW : Hid (wid lo hi ≤ 64) := wid_le lo hi h0 h1
  have G1 : Hid (∀ w, _) := fun w => span_any lo n d w h0 (by omega) hd
  have G2 : Hid (∀ w, _) := fun w => width_any lo hi w h0 h1 (by omega) (by omega)
  have hdl : d < 18446744073709551616 := by omega
  clear h hd ed
  generalize wid lo hi = m at *
  go_enter Tryz.func90, Tryz.ntmps90
  go_wp2_with fail
  refine (G1.out _).mono ?_
  rintro e w' ⟨rfl, rfl⟩
  go_wp2_with fail
  refine (G2.out _).mono ?_
  rintro e w' ⟨rfl, rfl⟩
  go_wp2_with fail
  refine (put_wf w0 _ b L d m _ _ rfl rfl H.out HW.out HI.out hdl (by have := HW.out; omega)).mono ?_
  rintro e w1 ⟨rfl, hW, hf⟩
  go_wp2
  go_ret
  exact ⟨rfl, hW, hf⟩

/-- a field's bits -/
def fb (k : Nat) (F : Nat → Int) (j : Nat) : List Bool := bitsN (wd k j) (F j - lo k j).toNat
theorem length_fb (k : Nat) (F : Nat → Int) (j : Nat) : (fb k F j).length = wd k j := length_bitsN _ _
set_option maxHeartbeats 1000000 in
theorem putField_any (w0 w : World) (ht : Tab w0) (b : Nat) (L : List Bool) (k j : Nat) (hk : k < 256) (hj : j < cnt k) (F : Nat → Int) (h : Ow w0 w b L) (hr : lo k j ≤ F j ∧ F j ≤ hi k j) (hl : L.length + 64 ≤ 1048576) :
    Calls Tryz.prog 155 #[.pointer (some ⟨b, 0, none⟩), .agg (cmp k F), .int .i64 (j : Int)] w fun e w' => e = .returned (.int .i64 0) ∧ Ow w0 w' b (L ++ fb k F j) ∧ Wf w w' := by
  have hc := cnt_le k
  have hj3 : j < 3 := by omega
  have HB : Hid (Box (w.alloc (.cells (cmp k F) 69)) w.heap.size k F) := Box.new w k F
  have HF : Hid (Fr Nobody w (w.alloc (.cells (cmp k F) 69))) := (Fr.refl _ _).alloc _
  have H : Hid (Ow w0 w b L) := h
  have HT : Hid (Tab w0) := ht
  have R : Hid (∀ w, Tab w → _) := fun w h => range_ok w h k hk j hj
  obtain ⟨l0, l1, l2, l3⟩ := rng_ok k j hj
  have P : Hid (∀ w, Ow w0 w b L → Calls Tryz.prog 90 #[.pointer (some ⟨b, 0, none⟩), .int .i64 (F j), .int .i64 (lo k j), .int .i64 (hi k j)] w fun e w' => e = .returned (.int .i64 0) ∧ Ow w0 w' b (L ++ fb k F j) ∧ Wf w w') := fun w hw => putIn_wf w0 w b L (F j) (lo k j) (hi k j) (F j - lo k j).toNat (by omega) hw (by omega) (by omega) hr.1 hr.2 hl
  obtain ⟨r0, r1⟩ := hr
  clear h ht hc hj
  generalize fb k F j = M at *
  generalize lo k j = x at *
  generalize hi k j = y at *
  unfold cmp at *
  go_enter Tryz.func155, Tryz.ntmps155
  go_wp2_with fail
  refine (R.out _ (HT.out.quiet (H.out.quiet HF.out).fr)).mono ?_
  rintro e w1 ⟨rfl, hf1⟩
  have x1 := (Box.quiet HB.out hf1).at j hj3
  have HF1 : Hid (Fr Nobody w w1) := HF.out.trans hf1
  clear hf1
  generalize F j = f at *
  go_wp2_with fail
  refine (P.out _ (H.out.quiet HF1.out)).mono ?_
  rintro e w2 ⟨rfl, hW, hf2⟩
  have HW : Hid (Ow w0 w2 b (L ++ M)) := hW
  have HF2 : Hid (Wf w w2) := (Wf.of_quiet HF1.out).trans hf2
  clear hW hf2
  go_wp2
  go_ret
  exact ⟨rfl, HW.out, HF2.out⟩
end Go.Proofs.YtlncgkbgelejmaaGreatDoor


/-
  Put of package comp: a component's bits.
-/
namespace Go.Proofs.YtlncgkbgelejmaaGreatDoor
open Go.RowKit
set_option linter.unusedVariables false
set_option maxRecDepth 100000

/-- the bits of the first fields -/
def cb (k : Nat) (F : Nat → Int) : Nat → List Bool
  | 0 => []
  | n + 1 => cb k F n ++ fb k F n
theorem length_cb (k : Nat) (F : Nat → Int) (n : Nat) : (cb k F n).length = bsum k n := by
  induction n with
  | zero => rfl
  | succ n ih => rw [cb, List.length_append, ih, length_fb]; rfl
theorem chk_ok (k : Nat) (F : Nat → Int) (h : chk k F = 0) : k < 6 ∧ (∀ j, j < cnt k → lo k j ≤ F j ∧ F j ≤ hi k j) ∧ ∀ j, cnt k ≤ j → j < 3 → F j = 0 := by
  unfold chk at h
  by_cases h6 : 6 ≤ k
  · rw [if_pos h6] at h; cases h
  · rw [if_neg h6] at h
    cases hs : stray k F with
    | true => rw [hs, if_pos rfl] at h; cases h
    | false =>
      rw [hs, if_neg (by decide)] at h
      cases ho : outside k F with
      | true => rw [ho, if_pos rfl] at h; cases h
      | false => exact ⟨by omega, fun j hj => outside_no k j F ho hj, fun j hj h3 => stray_no k j F hs hj h3⟩
theorem bits_le (k : Nat) : bitsK k ≤ 60 := by
  have := bsum_le k (cnt k) (Nat.le_refl _)
  have := cnt_le k
  unfold bitsK; omega

set_option maxHeartbeats 1000000 in
theorem putC_err (w0 w : World) (ht : Tab w0) (b k : Nat) (hk : k < 256) (F : Nat → Int) (hf : Fr Nobody w0 w) (h0 : chk k F ≠ 0) :
    Calls Tryz.prog 126 #[.pointer (some ⟨b, 0, none⟩), .agg (cmp k F)] w fun e w' => e = .returned (.int .i64 ((chk k F : Nat) : Int)) ∧ Fr Nobody w w' := by
  have HT : Hid (Tab w) := ht.quiet hf
  have HF : Hid (Fr Nobody w (w.alloc (.cells (cmp k F) 69))) := (Fr.refl _ _).alloc _
  have C1 : Hid (∀ w, Tab w → Calls Tryz.prog 123 #[.agg (cmp k F)] w fun e w' => e = .returned (.int .i64 ((chk k F : Nat) : Int)) ∧ Fr Nobody w w') := fun w h => check_any w h k hk F
  generalize chk k F = x at *
  have hne : ((x : Int) != 0) = true := by rw [bne_iff_ne]; omega
  clear ht hf h0
  unfold cmp at *
  go_enter Tryz.func126, Tryz.ntmps126
  go_wp2_with fail
  refine (C1.out _ (HT.out.quiet HF.out)).mono ?_
  rintro e w1 ⟨rfl, hf1⟩
  have HF1 : Hid (Fr Nobody w w1) := HF.out.trans hf1
  clear hf1
  go_wp2
  go_ret
  exact ⟨rfl, HF1.out⟩

set_option maxHeartbeats 2000000 in
theorem putC_ok (w0 w : World) (ht : Tab w0) (b : Nat) (L : List Bool) (k : Nat) (hk : k < 256) (F : Nat → Int) (h : Ow w0 w b L) (h0 : chk k F = 0) (hl : L.length + 200 ≤ 1048576) :
    Calls Tryz.prog 126 #[.pointer (some ⟨b, 0, none⟩), .agg (cmp k F)] w fun e w' => e = .returned (.int .i64 0) ∧ Ow w0 w' b (L ++ cb k F (cnt k)) ∧ Wf w w' := by
  obtain ⟨h6, hr, _⟩ := chk_ok k F h0
  have HT : Hid (Tab w0) := ht
  have H : Hid (Ow w0 w b L) := h
  have hc := cnt_le k
  have HB : Hid (Box (w.alloc (.cells (cmp k F) 69)) w.heap.size k F) := Box.new w k F
  have HF : Hid (Fr Nobody w (w.alloc (.cells (cmp k F) 69))) := (Fr.refl _ _).alloc _
  have C1 : Hid (∀ w, Tab w → Calls Tryz.prog 123 #[.agg (cmp k F)] w fun e w' => e = .returned (.int .i64 0) ∧ Fr Nobody w w') := fun w h => by have := check_any w h k hk F; rw [h0] at this; exact this
  have B : Hid (∀ w, Tab w → _) := fun w h => bits_any w h k hk
  have hbk := bits_le k
  obtain ⟨c, ec⟩ : ∃ c, cnt k = c := ⟨_, rfl⟩
  have C : Hid (∀ w, Tab w → Calls Tryz.prog 154 #[.int .u8 (k : Int)] w fun e w' => e = .returned (.int .i64 (c : Int)) ∧ w' = w) := fun w h => by have := count_any w h k hk; rw [ec] at this; exact this
  have P : Hid (∀ w j M, Ow w0 w b M → j < c → M.length + 64 ≤ 1048576 → _) := fun w j M hM hj hl => putField_any w0 w ht b M k j hk (by rw [ec]; exact hj) F hM (hr j (by rw [ec]; exact hj)) hl
  have HL : Hid (∀ j, j ≤ c → (cb k F j).length ≤ 60) := fun j hj => by rw [length_cb]; have := bsum_le k j (by rw [ec]; exact hj); omega
  rw [ec] at hc
  rw [ec]
  have R : Hid (∀ w, Ow w0 w b L → _) := fun w hw => room_any w0 w b L hw (by omega)
  generalize hbq : bitsK k = bq at *
  obtain ⟨rm, erm⟩ : ∃ rm, 1048576 - L.length = rm := ⟨_, rfl⟩
  rw [erm] at R
  have hrm : bq ≤ rm := by omega
  clear ht h h0 hr ec hbq
  have HN : Hid (L.length + 200 ≤ 1048576) := hl
  clear erm hl
  unfold cmp at *
  go_enter Tryz.func126, Tryz.ntmps126
  go_wp2_with fail
  refine (C1.out _ (HT.out.quiet (H.out.quiet HF.out).fr)).mono ?_
  rintro e w1 ⟨rfl, hf1⟩
  have HF1 : Hid (Fr Nobody w w1) := HF.out.trans hf1
  have B1 : Hid (Box w1 w.heap.size k F) := Box.quiet HB.out hf1
  have c0 := B1.out.kind
  clear hf1
  go_wp2_with fail
  refine (B.out _ (HT.out.quiet (H.out.quiet HF1.out).fr)).mono ?_
  rintro e w2 ⟨rfl, hf2⟩
  have HF2 : Hid (Fr Nobody w w2) := HF1.out.trans hf2
  have B2 : Hid (Box w2 w.heap.size k F) := B1.out.quiet hf2
  clear hf2 c0
  go_wp2_with fail
  refine (R.out _ (H.out.quiet HF2.out)).mono ?_
  rintro e w3 ⟨rfl, hf3⟩
  have HF3 : Hid (Fr Nobody w w3) := HF2.out.trans hf3
  have B3 : Hid (Box w3 w.heap.size k F) := B2.out.quiet hf3
  have c0 := B3.out.kind
  clear hf3
  go_wp2_with fail
  refine (C.out _ (HT.out.quiet (H.out.quiet HF3.out).fr)).mono ?_
  rintro e w4 ⟨rfl, rfl⟩
  have HO : Hid (Ow w0 w4 b L) := H.out.quiet HF3.out
  have HW : Hid (Wf w w4) := Wf.of_quiet HF3.out
  clear HF HF1 HF2 B1 B2 HB
  go_wp2
  go_loopw [24] (fun a wr => ∃ j : Nat, j ≤ c ∧ a = .int .i64 j ∧ Ow w0 wr b (L ++ cb k F j) ∧ Box wr w.heap.size k F ∧ Wf w wr) (fun a _ => c - (intOf a).toNat)
  case atStart => exact ⟨0, by omega, rfl, by simpa [cb] using HO.out, B3.out, HW.out⟩
  case round =>
    obtain ⟨j, hj, rfl, ho, hb, hw⟩ := hrel
    have HO2 : Hid (Ow w0 wr b (L ++ cb k F j)) := ho
    have HB2 : Hid (Box wr w.heap.size k F) := hb
    have HW2 : Hid (Wf w wr) := hw
    clear ho hb hw
    by_cases hlt : j < c
    · obtain ⟨p0, p1, p2, p3⟩ := HB2.out.cells
      have PJ : Hid (∀ _ : Unit, _) := fun _ => P.out wr j (L ++ cb k F j) HO2.out hlt (by have := HL.out j (by omega); have := HN.out; rw [List.length_append]; omega)
      go_wp2_with fail
      refine (PJ.out ()).mono ?_
      rintro e w5 ⟨rfl, hw5, hf5⟩
      have HO3 : Hid (Ow w0 w5 b (L ++ cb k F (j + 1))) := by
        show Ow _ _ _ _
        rw [cb, ← List.append_assoc]; exact hw5
      have HB3 : Hid (Box w5 w.heap.size k F) := HB2.out.wf hf5
      have HW3 : Hid (Wf w w5) := HW2.out.trans hf5
      clear hw5 hf5 PJ
      go_wp2
      go_roundw
      case rel => exact ⟨j + 1, by omega, by go_num, HO3.out, HB3.out, HW3.out⟩
      case measure => simp [intOf]; omega
    · have e : j = c := by omega
      subst e
      go_wp2
      go_ret
      exact ⟨rfl, HO2.out, HW2.out⟩
end Go.Proofs.YtlncgkbgelejmaaGreatDoor


/-
  PutStep of package comp: a component's bits behind another one.
-/
namespace Go.Proofs.YtlncgkbgelejmaaGreatDoor
open Go.RowKit
set_option linter.unusedVariables false
set_option maxRecDepth 100000

/-- a field's bits behind another one -/
def sb (k : Nat) (F G : Nat → Int) (j : Nat) : List Bool := if mz F G j = 0 then bitsN 1 0 else if mz F G j ≤ 16 then bitsN 2 3 ++ bitsN 4 (mz F G j - 1) else bitsN 2 1 ++ fb k G j
theorem length_sb (k : Nat) (F G : Nat → Int) (j : Nat) : (sb k F G j).length = fsz k F G j := by
  unfold sb fsz
  split
  · rfl
  · split
    · rw [List.length_append, length_bitsN, length_bitsN]
    · rw [List.length_append, length_bitsN, length_fb]
def sbs (k : Nat) (F G : Nat → Int) : Nat → List Bool
  | 0 => []
  | n + 1 => sbs k F G n ++ sb k F G n
theorem length_sbs (k : Nat) (F G : Nat → Int) (n : Nat) : (sbs k F G n).length = ssum k F G n := by
  induction n with
  | zero => rfl
  | succ n ih => rw [sbs, List.length_append, ih, length_sb]; rfl

set_option maxHeartbeats 2000000 in
theorem putFieldStep_any (w0 w : World) (ht : Tab w0) (b : Nat) (L : List Bool) (k k0 j : Nat) (hk : k < 256) (hj : j < cnt k) (F G : Nat → Int) (hF : I32 F) (hG : I32 G) (h : Ow w0 w b L) (hr : lo k j ≤ G j ∧ G j ≤ hi k j) (hl : L.length + 80 ≤ 1048576) :
    Calls Tryz.prog 180 #[.pointer (some ⟨b, 0, none⟩), .agg (cmp k0 F), .agg (cmp k G), .int .i64 (j : Int)] w fun e w' => e = .returned (.int .i64 0) ∧ Ow w0 w' b (L ++ sb k F G j) ∧ Wf w w' := by
  obtain ⟨b1, b2, hf⟩ := boxes w k0 k F G
  have hc := cnt_le k
  have hj3 : j < 3 := by omega
  have H : Hid (Ow w0 w b L) := h
  have HT : Hid (Tab w0) := ht
  have x1 := b1.at j hj3
  have x2 := b2.at j hj3
  have HB2 : Hid _ := b2
  have HF : Hid _ := hf
  have M : Hid (∀ w, Calls Tryz.prog 196 #[.int .i32 (F j), .int .i32 (G j)] w fun e w' => e = .returned (.int .u64 ((mz F G j : Nat) : Int)) ∧ w' = w) := fun w => more_any w (F j) (G j) (hF j hj3) (hG j hj3)
  have P : Hid (∀ w M, Ow w0 w b M → M.length + 64 ≤ 1048576 → _) := fun w M hM hl => putField_any w0 w ht b M k j hk hj G hM hr hl
  have Q : Hid (∀ w M v n, Ow w0 w b M → n ≤ 64 → v < 2 ^ n → v < 100 → M.length + n ≤ 1048576 → _) := fun w M v n hM h1 h2 h3 h4 => put_wf w0 w b M v n _ _ rfl rfl hM h1 h2 (by omega) h4
  have hsb : sb k F G j = (if mz F G j = 0 then bitsN 1 0 else if mz F G j ≤ 16 then bitsN 2 3 ++ bitsN 4 (mz F G j - 1) else bitsN 2 1 ++ fb k G j) := rfl
  rw [hsb]
  have HN : Hid (L.length + 80 ≤ 1048576) := hl
  clear hsb hF hG b1 b2 ht hf hj hc h hr hl
  generalize mz F G j = z at *
  by_cases h0 : z = 0
  · rw [if_pos h0]
    subst h0
    have Q1 : Hid (∀ w, Ow w0 w b L → _) := fun w hw => Q.out w L 0 1 hw (by decide) (by decide) (by decide) (by have := HN.out; omega)
    unfold cmp at *
    generalize F j = f at *
    generalize G j = g at *
    clear P Q
    go_enter Tryz.func180, Tryz.ntmps180
    go_wp2_with fail
    go_quiet (refine Calls.quiet_of_same (M.out _))
    have HG : Hid _ := HF.out.drewN nq
    go_wp2_with fail
    refine (Q1.out _ (H.out.quiet HG.out)).mono ?_
    rintro e w2 ⟨rfl, hW, hf2⟩
    have HW : Hid (Ow w0 w2 b (L ++ bitsN 1 0)) := hW
    have HF2 : Hid (Wf w w2) := (Wf.of_quiet HG.out).trans hf2
    clear hW hf2
    go_wp2
    go_ret
    exact ⟨rfl, HW.out, HF2.out⟩
  · rw [if_neg h0]
    have n0 : ((z : Int) == 0) = false := by rw [beq_eq_false_iff_ne]; omega
    by_cases h1 : z ≤ 16
    · rw [if_pos h1]
      have Q1 : Hid (∀ w, Ow w0 w b L → _) := fun w hw => Q.out w L 3 2 hw (by decide) (by decide) (by decide) (by have := HN.out; omega)
      have Q2 : Hid (∀ w, Ow w0 w b (L ++ bitsN 2 3) → _) := fun w hw => put_wf w0 w b (L ++ bitsN 2 3) (z - 1) 4 ((z : Int) - 1) 4 (by omega) rfl hw (by decide) (by omega) (by omega) (by have := HN.out; rw [List.length_append, length_bitsN]; omega)
      have hz1 : 1 ≤ z := by omega
      unfold cmp at *
      generalize F j = f at *
      generalize G j = g at *
      clear P Q h0
      go_enter Tryz.func180, Tryz.ntmps180
      go_wp2_with fail
      go_quiet (refine Calls.quiet_of_same (M.out _))
      have HG : Hid _ := HF.out.drewN nq
      go_wp2_with fail
      refine (Q1.out _ (H.out.quiet HG.out)).mono ?_
      rintro e w2 ⟨rfl, hW, hf2⟩
      have HW : Hid (Ow w0 w2 b (L ++ bitsN 2 3)) := hW
      have HF2 : Hid (Wf w w2) := (Wf.of_quiet HG.out).trans hf2
      clear hW hf2
      go_wp2_with fail
      refine (Q2.out _ HW.out).mono ?_
      rintro e w3 ⟨rfl, hW, hf3⟩
      have HW3 : Hid (Ow w0 w3 b (L ++ (bitsN 2 3 ++ bitsN 4 (z - 1)))) := by
        show Ow _ _ _ _
        rw [← List.append_assoc]; exact hW
      have HF3 : Hid (Wf w w3) := HF2.out.trans hf3
      clear hW hf3
      go_wp2
      go_ret
      exact ⟨rfl, HW3.out, HF3.out⟩
    · rw [if_neg h1]
      have Q1 : Hid (∀ w, Ow w0 w b L → _) := fun w hw => Q.out w L 1 2 hw (by decide) (by decide) (by decide) (by have := HN.out; omega)
      have Q2 : Hid (∀ w, Ow w0 w b (L ++ bitsN 2 1) → _) := fun w hw => P.out w (L ++ bitsN 2 1) hw (by have := HN.out; rw [List.length_append, length_bitsN]; omega)
      generalize fb k G j = FB at *
      clear P Q h0
      have HB3 : Hid (Box _ (w.heap.size + 1) k G) := HB2.out
      unfold cmp at *
      go_enter Tryz.func180, Tryz.ntmps180
      go_wp2_with fail
      go_quiet (refine Calls.quiet_of_same (M.out _))
      have HG : Hid _ := HF.out.drewN nq
      have HB4 : Hid (Box _ (w.heap.size + 1) k G) := Box.quiet HB3.out ((Fr.refl _ _).drewN nq)
      go_wp2_with fail
      refine (Q1.out _ (H.out.quiet HG.out)).mono ?_
      rintro e w2 ⟨rfl, hW, hf2⟩
      have HW : Hid (Ow w0 w2 b (L ++ bitsN 2 1)) := hW
      have HF2 : Hid (Wf w w2) := (Wf.of_quiet HG.out).trans hf2
      obtain ⟨q0, q1, q2, q3⟩ := (Box.wf HB4.out hf2).cells
      clear hW hf2 x1 x2
      go_wp2_with fail
      refine (Q2.out _ HW.out).mono ?_
      rintro e w3 ⟨rfl, hW, hf3⟩
      have HW3 : Hid (Ow w0 w3 b (L ++ (bitsN 2 1 ++ FB))) := by
        show Ow _ _ _ _
        rw [← List.append_assoc]; exact hW
      have HF3 : Hid (Wf w w3) := HF2.out.trans hf3
      clear hW hf3
      go_wp2
      go_ret
      exact ⟨rfl, HW3.out, HF3.out⟩

theorem ckS_ok (k k' : Nat) (F G : Nat → Int) (h : ckS k k' F G = 0) : chk k F = 0 ∧ chk k' G = 0 ∧ k = k' := by
  unfold ckS at h
  by_cases h1 : chk k F = 0
  · rw [if_pos h1] at h
    by_cases h2 : chk k' G = 0
    · rw [if_pos h2] at h
      by_cases h3 : k = k'
      · exact ⟨h1, h2, h3⟩
      · rw [if_neg h3] at h; cases h
    · rw [if_neg h2] at h; exact absurd h h2
  · rw [if_neg h1] at h; exact absurd h h1

set_option maxHeartbeats 1000000 in
theorem putStep_err (w0 w : World) (ht : Tab w0) (b k k' : Nat) (hk : k < 256) (hk' : k' < 256) (F G : Nat → Int) (hf : Fr Nobody w0 w) (h0 : ckS k k' F G ≠ 0) :
    Calls Tryz.prog 157 #[.pointer (some ⟨b, 0, none⟩), .agg (cmp k F), .agg (cmp k' G)] w fun e w' => e = .returned (.int .i64 ((ckS k k' F G : Nat) : Int)) ∧ Fr Nobody w w' := by
  have HT : Hid (Tab w) := ht.quiet hf
  obtain ⟨b1, b2, hf0⟩ := boxes w k k' F G
  have HF : Hid (Fr Nobody w _) := hf0
  have C1 : Hid (∀ w, Tab w → _) := fun w h => checkStep_any w h k k' hk hk' F G
  generalize ckS k k' F G = x at *
  have hne : ((x : Int) != 0) = true := by rw [bne_iff_ne]; omega
  clear ht hf h0 b1 b2 hf0
  unfold cmp at *
  go_enter Tryz.func157, Tryz.ntmps157
  go_wp2_with fail
  refine (C1.out _ (HT.out.quiet HF.out)).mono ?_
  rintro e w1 ⟨rfl, hf1⟩
  have HF1 : Hid (Fr Nobody w w1) := HF.out.trans hf1
  clear hf1
  go_wp2
  go_ret
  exact ⟨rfl, HF1.out⟩

set_option maxHeartbeats 2000000 in
theorem putStep_ok (w0 w : World) (ht : Tab w0) (b : Nat) (L : List Bool) (k : Nat) (hk : k < 256) (F G : Nat → Int) (hF : I32 F) (hG : I32 G) (h : Ow w0 w b L) (h0 : ckS k k F G = 0) (hl : L.length + 200 ≤ 1048576) :
    Calls Tryz.prog 157 #[.pointer (some ⟨b, 0, none⟩), .agg (cmp k F), .agg (cmp k G)] w fun e w' => e = .returned (.int .i64 0) ∧ Ow w0 w' b (L ++ sbs k F G (cnt k)) ∧ Wf w w' := by
  obtain ⟨_, hq, _⟩ := ckS_ok k k F G h0
  obtain ⟨h6, hr, _⟩ := chk_ok k G hq
  obtain ⟨b1, b2, hf⟩ := boxes w k k F G
  have HT : Hid (Tab w0) := ht
  have H : Hid (Ow w0 w b L) := h
  have hc := cnt_le k
  have HB1 : Hid (Box _ w.heap.size k F) := b1
  have HB2 : Hid (Box _ (w.heap.size + 1) k G) := b2
  have HF : Hid (Fr Nobody w _) := hf
  have C1 : Hid (∀ w, Tab w → Calls Tryz.prog 178 #[.agg (cmp k F), .agg (cmp k G)] w fun e w' => e = .returned (.int .i64 0) ∧ Fr Nobody w w') := fun w h => by have := checkStep_any w h k k hk hk F G; rw [h0] at this; exact this
  have B : Hid (∀ w, Tab w → _) := fun w h => stepSize_any w h k k hk F G hF hG
  have hbk := ssum_le k (cnt k) F G (Nat.le_refl _)
  obtain ⟨c, ec⟩ : ∃ c, cnt k = c := ⟨_, rfl⟩
  have C : Hid (∀ w, Tab w → Calls Tryz.prog 154 #[.int .u8 (k : Int)] w fun e w' => e = .returned (.int .i64 (c : Int)) ∧ w' = w) := fun w h => by have := count_any w h k hk; rw [ec] at this; exact this
  have P : Hid (∀ w j M, Ow w0 w b M → j < c → M.length + 80 ≤ 1048576 → _) := fun w j M hM hj hl => putFieldStep_any w0 w ht b M k k j hk (by rw [ec]; exact hj) F G hF hG hM (hr j (by rw [ec]; exact hj)) hl
  have HL : Hid (∀ j, j ≤ c → (sbs k F G j).length ≤ 66) := fun j hj => by rw [length_sbs]; have := ssum_le k j F G (by rw [ec]; exact hj); omega
  rw [ec] at hc hbk B
  rw [ec]
  have R : Hid (∀ w, Ow w0 w b L → _) := fun w hw => room_any w0 w b L hw (by omega)
  generalize hbq : ssum k F G c = bq at *
  obtain ⟨rm, erm⟩ : ∃ rm, 1048576 - L.length = rm := ⟨_, rfl⟩
  rw [erm] at R
  have hrm : bq ≤ rm := by omega
  clear ht h h0 hr ec hbq hF hG b1 b2 hf hq hbk
  have HN : Hid (L.length + 200 ≤ 1048576) := hl
  clear erm hl
  unfold cmp at *
  go_enter Tryz.func157, Tryz.ntmps157
  go_wp2_with fail
  refine (C1.out _ (HT.out.quiet (H.out.quiet HF.out).fr)).mono ?_
  rintro e w1 ⟨rfl, hf1⟩
  have HF1 : Hid (Fr Nobody w w1) := HF.out.trans hf1
  have B1 : Hid (Box w1 w.heap.size k F) := Box.quiet HB1.out hf1
  have B2 : Hid (Box w1 (w.heap.size + 1) k G) := Box.quiet HB2.out hf1
  obtain ⟨p0, p1, p2, p3⟩ := B1.out.cells
  obtain ⟨q0, q1, q2, q3⟩ := B2.out.cells
  clear hf1
  go_wp2_with fail
  refine (B.out _ (HT.out.quiet (H.out.quiet HF1.out).fr)).mono ?_
  rintro e w2 ⟨rfl, hf2⟩
  have HF2 : Hid (Fr Nobody w w2) := HF1.out.trans hf2
  have B12 : Hid (Box w2 w.heap.size k F) := B1.out.quiet hf2
  have B22 : Hid (Box w2 (w.heap.size + 1) k G) := B2.out.quiet hf2
  clear hf2 p0 p1 p2 p3 q0 q1 q2 q3
  go_wp2_with fail
  refine (R.out _ (H.out.quiet HF2.out)).mono ?_
  rintro e w3 ⟨rfl, hf3⟩
  have HF3 : Hid (Fr Nobody w w3) := HF2.out.trans hf3
  have B13 : Hid (Box w3 w.heap.size k F) := B12.out.quiet hf3
  have B23 : Hid (Box w3 (w.heap.size + 1) k G) := B22.out.quiet hf3
  have c0 := B23.out.kind
  clear hf3
  go_wp2_with fail
  refine (C.out _ (HT.out.quiet (H.out.quiet HF3.out).fr)).mono ?_
  rintro e w4 ⟨rfl, rfl⟩
  have HO : Hid (Ow w0 w4 b L) := H.out.quiet HF3.out
  have HW : Hid (Wf w w4) := Wf.of_quiet HF3.out
  clear HF HF1 HF2 B1 B2 HB1 HB2 B12 B22
  go_wp2
  go_loopw [27] (fun a wr => ∃ j : Nat, j ≤ c ∧ a = .int .i64 j ∧ Ow w0 wr b (L ++ sbs k F G j) ∧ Box wr w.heap.size k F ∧ Box wr (w.heap.size + 1) k G ∧ Wf w wr) (fun a _ => c - (intOf a).toNat)
  case atStart => exact ⟨0, by omega, rfl, by simpa [sbs] using HO.out, B13.out, B23.out, HW.out⟩
  case round =>
    obtain ⟨j, hj, rfl, ho, hb, hb', hw⟩ := hrel
    have HO2 : Hid (Ow w0 wr b (L ++ sbs k F G j)) := ho
    have HB1 : Hid (Box wr w.heap.size k F) := hb
    have HB2 : Hid (Box wr (w.heap.size + 1) k G) := hb'
    have HW2 : Hid (Wf w wr) := hw
    clear ho hb hb' hw
    by_cases hlt : j < c
    · obtain ⟨p0, p1, p2, p3⟩ := HB1.out.cells
      obtain ⟨q0, q1, q2, q3⟩ := HB2.out.cells
      have PJ : Hid (∀ _ : Unit, _) := fun _ => P.out wr j (L ++ sbs k F G j) HO2.out hlt (by have := HL.out j (by omega); have := HN.out; rw [List.length_append]; omega)
      go_wp2_with fail
      refine (PJ.out ()).mono ?_
      rintro e w5 ⟨rfl, hw5, hf5⟩
      have HO3 : Hid (Ow w0 w5 b (L ++ sbs k F G (j + 1))) := by
        show Ow _ _ _ _
        rw [sbs, ← List.append_assoc]; exact hw5
      have HB13 : Hid (Box w5 w.heap.size k F) := HB1.out.wf hf5
      have HB23 : Hid (Box w5 (w.heap.size + 1) k G) := HB2.out.wf hf5
      have HW3 : Hid (Wf w w5) := HW2.out.trans hf5
      clear hw5 hf5 PJ
      go_wp2
      go_roundw
      case rel => exact ⟨j + 1, by omega, by go_num, HO3.out, HB13.out, HB23.out, HW3.out⟩
      case measure => simp [intOf]; omega
    · have e : j = c := by omega
      subst e
      go_wp2
      go_ret
      exact ⟨rfl, HO2.out, HW2.out⟩
end Go.Proofs.YtlncgkbgelejmaaGreatDoor


/-
  The document's Put of components, on lists of bits.
-/
namespace Go.Proofs.YtlncgkbgelejmaaGreatDoor
open Go.RowKit
set_option linter.unusedVariables false
set_option maxRecDepth 100000

theorem Box.grown {B : Nat} {w w' : World} {b k : Nat} {F : Nat → Int} {v : Value} {L : List Bool} (h : Box w b k F) (hv : Bo B w v L) (hg : w.grownBy w' v.ownBlock) : Box w' b k F := by
  refine (hg.block b (Array.getElem?_eq_some_iff.1 h).1 ?_).trans h
  intro e
  rcases hv.2 with ⟨rfl, _⟩ | ⟨g', cap, cur, rfl, _, hgg, _⟩
  · simp [Value.ownBlock] at e
  · simp [Value.ownBlock] at e
    subst e
    unfold Box at h
    rw [hgg] at h
    simp at h

set_option maxHeartbeats 1000000 in
theorem rputC_err (w : World) (k : Nat) (hk : k < 256) (F : Nat → Int) (h0 : chk k F ≠ 0) :
    Calls Tryz.prog 49 #[.agg (cmp k F)] w fun e w' => e = .returned (.tuple #[.slice none 0 0, .int .i64 ((chk k F : Nat) : Int)]) ∧ Fr Nobody w w' := by
  have HF : Hid (Fr Nobody w (w.alloc (.cells (cmp k F) 69))) := (Fr.refl _ _).alloc _
  have C : Hid (∀ w, Calls Tryz.prog 50 #[.agg (cmp k F)] w fun e w' => e = .returned (.int .i64 ((chk k F : Nat) : Int)) ∧ Fr Nobody w w') := fun w => rcheck_any w k hk F
  generalize chk k F = x at *
  have hne : ((x : Int) != 0) = true := by rw [bne_iff_ne]; omega
  clear h0
  unfold cmp at *
  go_enter Tryz.func49, Tryz.ntmps49
  go_wp2_with fail
  refine (C.out _).mono ?_
  rintro e w1 ⟨rfl, hf1⟩
  have HF1 : Hid (Fr Nobody w w1) := HF.out.trans hf1
  clear hf1
  go_wp2
  go_ret2
  exact ⟨rfl, HF1.out⟩

set_option maxHeartbeats 2000000 in
theorem rputC_ok (w : World) (k : Nat) (hk : k < 256) (F : Nat → Int) (h0 : chk k F = 0) :
    Calls Tryz.prog 49 #[.agg (cmp k F)] w fun e w' => ∃ v, e = .returned (.tuple #[v, .int .i64 0]) ∧ Bo w.heap.size w' v (cb k F (cnt k)) ∧ Fr Nobody w w' := by
  obtain ⟨h6, hr, _⟩ := chk_ok k F h0
  have hc := cnt_le k
  have HB : Hid (Box (w.alloc (.cells (cmp k F) 69)) w.heap.size k F) := Box.new w k F
  have HF : Hid (Fr Nobody w (w.alloc (.cells (cmp k F) 69))) := (Fr.refl _ _).alloc _
  have K : Hid (∀ w, Calls Tryz.prog 50 #[.agg (cmp k F)] w fun e w' => e = .returned (.int .i64 0) ∧ Fr Nobody w w') := fun w => by have := rcheck_any w k hk F; rw [h0] at this; exact this
  have C : Hid (∀ w, _) := fun w => rcount_any w k hk
  have R : Hid (∀ w j, j < cnt k → _) := fun w j hj => rrange_ok w k j hj
  have RB : Hid (∀ j, j < cnt k → (-524288 ≤ lo k j ∧ lo k j ≤ 1 ∧ 7 ≤ hi k j ∧ hi k j ≤ 524287) ∧ lo k j ≤ F j ∧ F j ≤ hi k j) := fun j hj => ⟨rng_ok k j hj, hr j hj⟩
  have I : Hid (∀ w j, j < cnt k → Calls Tryz.prog 45 #[.int .i64 (F j), .int .i64 (lo k j), .int .i64 (hi k j)] w fun e w' => ∃ v, e = .returned (.tuple #[v, .int .i64 0]) ∧ Bo w.heap.size w' v (fb k F j) ∧ Fr Nobody w w') := fun w j hj => by
    obtain ⟨l0, l1, l2, l3⟩ := rng_ok k j hj
    have := hr j hj
    exact rin_ok (F j) (lo k j) (hi k j) (F j - lo k j).toNat w (by omega) (by omega) (by omega) this.1 this.2
  have HL : Hid (∀ j, j ≤ cnt k → (cb k F j).length ≤ 60) := fun j hj => by rw [length_cb]; have := bsum_le k j hj; omega
  have HL2 : Hid (∀ j, j < cnt k → (fb k F j).length ≤ 60) := fun j hj => by rw [length_fb]; have := wd_le k j hj; omega
  clear h0 hr
  generalize cnt k = c at *
  unfold cmp at *
  go_enter Tryz.func49, Tryz.ntmps49
  go_wp2_with fail
  refine (K.out _).mono ?_
  rintro e w1 ⟨rfl, hf1⟩
  have F1 : Hid (Fr Nobody w w1) := HF.out.trans hf1
  have B1 : Hid (Box w1 w.heap.size k F) := Box.quiet HB.out hf1
  have c0 := B1.out.kind
  clear hf1
  go_wp2_with fail
  refine (C.out _).mono ?_
  rintro e w2 ⟨rfl, hf2⟩
  have F2 : Hid (Fr Nobody w w2) := F1.out.trans hf2
  have B2 : Hid (Box w2 w.heap.size k F) := B1.out.quiet hf2
  clear hf2 c0 F1 B1 HB HF K
  go_wp2
  go_loopw [5, 20] (fun u a wr => ∃ j : Nat, j ≤ c ∧ a = .int .i64 j ∧ Bo w.heap.size wr u (cb k F j) ∧ Box wr w.heap.size k F ∧ Fr Nobody w wr) (fun _ a _ => c - (intOf a).toNat)
  case atStart => exact ⟨0, by omega, rfl, Bo.nil _ _, B2.out, F2.out⟩
  case round =>
    obtain ⟨j, hj, rfl, hu, hb, hf⟩ := hrel
    have U : Hid (Bo w.heap.size wr u5 (cb k F j)) := hu
    have B3 : Hid (Box wr w.heap.size k F) := hb
    have F3 : Hid (Fr Nobody w wr) := hf
    clear hu hb hf B2 F2
    by_cases hlt : j < c
    · have RJ : Hid (∀ w, _) := fun w => R.out w j hlt
      have IJ : Hid (∀ w, _) := fun w => I.out w j hlt
      obtain ⟨⟨l0, l1, l2, l3⟩, r0, r1⟩ := RB.out j hlt
      have hl1 := HL.out j (by omega)
      have hl2 := HL2.out j hlt
      have HCB : Hid (cb k F (j + 1) = cb k F j ++ fb k F j) := rfl
      have c0 := B3.out.kind
      generalize lo k j = x at *
      generalize hi k j = y at *
      generalize fb k F j = M at *
      generalize cb k F j = L at *
      go_wp2_with fail
      refine (RJ.out _).mono ?_
      rintro e w3 ⟨rfl, hf3⟩
      have F4 : Hid (Fr Nobody wr w3) := hf3
      have c1 := (B3.out.quiet hf3).at j (by omega)
      clear hf3
      generalize F j = f at *
      go_wp2_with fail
      refine (IJ.out _).mono ?_
      rintro e w4 ⟨v4, rfl, hV4, hf4⟩
      have F5 : Hid (Fr Nobody wr w4) := F4.out.trans hf4
      have V4 : Hid (Bs w4 v4 M) := hV4.bs
      have U4 : Hid (Bo w.heap.size w4 u5 L) := U.out.quiet F5.out
      have B4 : Hid (Box w4 w.heap.size k F) := B3.out.quiet F5.out
      have F6 : Hid (Fr Nobody w w4) := F3.out.trans F5.out
      clear hV4 hf4 c0 c1
      go_wp2_with (at_builtin; refine append_bits rfl _ _ rfl w.heap.size _ _ L M U4.out V4.out (by omega) (by omega) F6.out.size rfl rfl ?_)
      intro v5 w5 hU5 hg5
      have U5 : Hid (Bo w.heap.size w5 v5 (cb k F (j + 1))) := by rw [HCB.out]; exact hU5
      have B5 : Hid (Box w5 w.heap.size k F) := B4.out.grown U4.out hg5
      have F7 : Hid (Fr Nobody w w5) := F6.out.grown hg5 (fun q hq => .inr (World.ownsRow.lt U4.out q hq).1)
      clear hU5 hg5
      go_wp2
      go_roundw
      case rel => exact ⟨j + 1, by omega, by go_num, U5.out, B5.out, F7.out⟩
      case measure => simp [intOf]; omega
    · have e : j = c := by omega
      subst e
      go_wp2
      go_ret2
      exact ⟨_, rfl, U.out, F3.out⟩
end Go.Proofs.YtlncgkbgelejmaaGreatDoor

