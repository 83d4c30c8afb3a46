/-
  GetIn of package nums, whole; the document's GetIn.
-/
import Derived.Test.YtbencjopjdjepaaGreatDoorM12
import Derived.Test.YtbencjopjdjepaaGreatDoorM09
import Derived.Laws.ResultCell
import Derived.Laws.StructEq
import Derived.ChangeKeysEq
namespace Go.Proofs.YtbencjopjdjepaaGreatDoor
open Go.RowKit
set_option linter.unusedVariables false
set_option maxRecDepth 100000

theorem cell_new (w : World) (b : Nat) (v : Value) (T : TypeId) (h : b = w.heap.size) : (w.alloc (.cells #[v] T)).cell? ⟨b, 0, none⟩ = some v := by subst h; simp
theorem numAt_take (P : List Nat) (t n : Nat) : numAt P t n = num (((bitsB P).drop t).take n) := rfl

theorem getIn1_any (B : Nat) (w : World) (bh bl bx br : Nat) (g : Option Nat) (P : List Nat) (t : Nat) (lo hi : Int) (h : Rd B w br g P t) (hbx : w.cell? ⟨bx, 0, none⟩ = some (.pointer (some ⟨br, 0, none⟩))) (hbl : w.cell? ⟨bl, 0, none⟩ = some (.int .i64 lo)) (hbh : w.cell? ⟨bh, 0, none⟩ = some (.int .i64 hi)) (nl : bl ≠ br) (nh : bh ≠ br) (h0 : -9223372036854775808 ≤ lo) (h1 : hi ≤ 9223372036854775807) (h2 : lo ≤ 9223372036854775807) (h3 : -9223372036854775808 ≤ hi) :
    Calls Tryz.prog 176 #[.pointer (some ⟨bh, 0, none⟩), .pointer (some ⟨bl, 0, none⟩), .pointer (some ⟨bx, 0, none⟩)] w fun e w' => e = .returned (.tuple #[.int .i64 (gi lo hi ((bitsB P).drop t)).2.1, .int .i64 (gi lo hi ((bitsB P).drop t)).1]) ∧ GvEnd B w w' br g P t (gi lo hi ((bitsB P).drop t)).1 (gi lo hi ((bitsB P).drop t)).2.2 := by
  have hM : ((bitsB P).drop t).length = 8 * P.length - t := by rw [List.length_drop, length_bitsB]
  have hle := h.le
  unfold gi
  by_cases c1 : hi < lo
  · rw [if_pos c1]
    exact getIn1_arg B w bh bl bx br g P t lo hi h hbl hbh c1
  · rw [if_neg c1]
    have hn := wid_le lo hi h0 h1
    have hW := fun w => width_any lo hi w h0 h1 h2 h3
    by_cases c2 : 8 * P.length < t + wid lo hi
    · rw [if_pos (by omega)]
      exact getIn1_short B w bh bl bx br g P t _ lo hi h hbx hbl hbh (by omega) hW hn c2
    · rw [if_neg (by omega)]
      have hD := fun w => span_any lo hi (hi - lo).toNat w h0 h1 (by omega)
      by_cases c3 : (hi - lo).toNat < num (((bitsB P).drop t).take (wid lo hi))
      · rw [if_pos c3]
        exact getIn1_range B w bh bl bx br g P t _ _ lo hi h hbx hbl hbh nl nh (by omega) hW hD hn (by omega) _ rfl c3
      · rw [if_neg c3]
        exact getIn1_ok B w bh bl bx br g P t _ _ lo hi h hbx hbl hbh nl nh (by omega) h0 h1 (by omega) hW hD hn (by omega) _ rfl (by omega)

set_option maxHeartbeats 1000000 in
theorem getIn_rd (B : Nat) (w : World) (br : Nat) (g : Option Nat) (P : List Nat) (t : Nat) (lo hi : Int) (h : Rd B w br g P t) (h0 : -9223372036854775808 ≤ lo) (h1 : hi ≤ 9223372036854775807) (h2 : lo ≤ 9223372036854775807) (h3 : -9223372036854775808 ≤ hi) :
    Calls Tryz.prog 148 #[.pointer (some ⟨br, 0, none⟩), .int .i64 lo, .int .i64 hi] w fun e w' => e = .returned (.tuple #[.int .i64 (gi lo hi ((bitsB P).drop t)).2.1, .int .i64 (gi lo hi ((bitsB P).drop t)).1]) ∧ Rd B w' br g P (t + (gi lo hi ((bitsB P).drop t)).2.2) ∧ Fr (At br none) w w' := by
  have hlt := h.lt
  have key : ∀ w1 : World, Rd B w1 br g P t → ∀ bh bl bx, bl ≠ br → bh ≠ br → bx ≠ br → w1.cell? ⟨bx, 0, none⟩ = some (.pointer (some ⟨br, 0, none⟩)) → w1.cell? ⟨bl, 0, none⟩ = some (.int .i64 lo) → w1.cell? ⟨bh, 0, none⟩ = some (.int .i64 hi) → Calls Tryz.prog 175 #[.pointer (some ⟨br, 0, none⟩), .func (.func 176) #[] #[.pointer (some ⟨bh, 0, none⟩), .pointer (some ⟨bl, 0, none⟩), .pointer (some ⟨bx, 0, none⟩)]] w1 fun e w' => e = .returned (.tuple #[.int .i64 (gi lo hi ((bitsB P).drop t)).2.1, .int .i64 (gi lo hi ((bitsB P).drop t)).1]) ∧ Rd B w' br g P (t + (gi lo hi ((bitsB P).drop t)).2.2) ∧ Fr (At br none) w1 w' := by
    intro w1 hR1 bh bl bx nl nh nx cx cl ch
    refine tryI_any _ rfl _ B w1 br g P t _ _ _ hR1 ?_ (fun hne => gi_zero _ _ _ hne)
    intro w2 hR2 hf2
    have ap : ∀ b, b ≠ br → ¬ At br none b := by rintro b hb (e | e); exact hb e; cases e
    exact getIn1_any B w2 bh bl bx br g P t lo hi hR2 ((hf2.cell (p := ⟨bx, 0, none⟩) (World.block_lt_of_cell? w1 _ cx) (ap _ nx)).trans cx) ((hf2.cell (p := ⟨bl, 0, none⟩) (World.block_lt_of_cell? w1 _ cl) (ap _ nl)).trans cl) ((hf2.cell (p := ⟨bh, 0, none⟩) (World.block_lt_of_cell? w1 _ ch) (ap _ nh)).trans ch) nl nh h0 h1 h2 h3
  have K : Hid _ := key
  have H : Hid (Rd B w br g P t) := h
  clear key h h0 h1 h2 h3
  generalize gi lo hi ((bitsB P).drop t) = r at *
  obtain ⟨rc, rv, rn⟩ := r
  go_enter Tryz.func148, Tryz.ntmps148
  go_wp2_with fail
  have HA : Hid (∀ a b c, Fr (At br none) w (((w.alloc a).alloc b).alloc c)) := fun a b c => (((Fr.refl _ _).alloc _).alloc _).alloc _
  refine (K.out _ (H.out.quiet ((((Fr.refl _ _).alloc _).alloc _).alloc _)) _ _ _ ?_ ?_ ?_ ?_ ?_ ?_).mono ?_
  iterate 3 (first | omega | (simp; omega))
  · exact Lib.cell?_alloc_some _ (Lib.cell?_alloc_some _ (cell_new w _ _ _ rfl))
  · exact Lib.cell?_alloc_some _ (cell_new _ _ _ _ (by simp))
  · exact cell_new _ _ _ _ (by simp)
  rintro e w2 ⟨rfl, hR, hf⟩
  have H2 : Hid (Rd B w2 br g P (t + rn) ∧ Fr (At br none) w w2) := ⟨hR, (HA.out _ _ _).trans hf⟩
  clear hR hf HA H K
  go_wp2
  go_ret2
  exact ⟨rfl, H2.out⟩

end Go.Proofs.YtbencjopjdjepaaGreatDoor


/-
  How many bits a component has, whole and behind another one: Size and SizeStep of package comp.
-/
namespace Go.Proofs.YtbencjopjdjepaaGreatDoor
open Go.RowKit
set_option linter.unusedVariables false
set_option maxRecDepth 100000

/-- a field's value is within int32 -/
def I32 (F : Nat → Int) : Prop := ∀ j, j < 3 → -2147483648 ≤ F j ∧ F j ≤ 2147483647
theorem boxes (w : World) (k k' : Nat) (F G : Nat → Int) :
    Box ((w.alloc (.cells (cmp k F) 68)).alloc (.cells (cmp k' G) 68)) w.heap.size k F ∧ Box ((w.alloc (.cells (cmp k F) 68)).alloc (.cells (cmp k' G) 68)) (w.heap.size + 1) k' G ∧ Fr Nobody w ((w.alloc (.cells (cmp k F) 68)).alloc (.cells (cmp k' G) 68)) := by
  refine ⟨(Box.new w k F).quiet ((Fr.refl _ _).alloc _), ?_, ((Fr.refl _ _).alloc _).alloc _⟩
  have := Box.new (w.alloc (.cells (cmp k F) 68)) k' G
  simpa using this

set_option maxHeartbeats 400000 in
theorem more_any (w : World) (x y : Int) (hx : -2147483648 ≤ x ∧ x ≤ 2147483647) (hy : -2147483648 ≤ y ∧ y ≤ 2147483647) :
    Calls Tryz.prog 236 #[.int .i32 x, .int .i32 y] w fun e w' => e = .returned (.int .u64 ((zig (y - x) : Nat) : Int)) ∧ w' = w := by
  have HZ : Hid (∀ w, _) := fun w => zig_any (y - x) w (by omega) (by omega)
  generalize zig (y - x) = z at *
  go_enter Tryz.func236, Tryz.ntmps236
  go_wp2_with fail
  refine (HZ.out _).mono ?_
  rintro e w1 ⟨rfl, rfl⟩
  go_wp2
  go_ret
  exact ⟨rfl, rfl⟩

def ckS (k k' : Nat) (F G : Nat → Int) : Nat := if chk k F = 0 then (if chk k' G = 0 then (if k = k' then 0 else 4) else chk k' G) else chk k F

set_option maxHeartbeats 1000000 in
theorem checkStep_any (w : World) (ht : Tab w) (k k' : Nat) (hk : k < 256) (hk' : k' < 256) (F G : Nat → Int) :
    Calls Tryz.prog 213 #[.agg (cmp k F), .agg (cmp k' G)] w fun e w' => e = .returned (.int .i64 ((ckS k k' F G : Nat) : Int)) ∧ Fr Nobody w w' := by
  obtain ⟨b1, b2, hf⟩ := boxes w k k' F G
  have H : Hid (Tab w) := ht
  have HB1 : Hid _ := b1
  have HB2 : Hid _ := b2
  have HF : Hid _ := hf
  have C1 : Hid (∀ w, Tab w → Calls Tryz.prog 161 #[.agg (cmp k F)] w fun e w' => e = .returned (.int .i64 ((chk k F : Nat) : Int)) ∧ Fr Nobody w w') := fun w h => check_any w h k hk F
  have C2 : Hid (∀ w, Tab w → Calls Tryz.prog 161 #[.agg (cmp k' G)] w fun e w' => e = .returned (.int .i64 ((chk k' G : Nat) : Int)) ∧ Fr Nobody w w') := fun w h => check_any w h k' hk' G
  clear b1 b2 hf ht
  unfold ckS
  generalize chk k F = x at *
  generalize chk k' G = y at *
  by_cases hx : x = 0
  · rw [if_pos hx]
    subst hx
    by_cases hy : y = 0
    · rw [if_pos hy]
      subst hy
      by_cases e : k = k'
      · rw [if_pos e]
        subst e
        unfold cmp at *
        go_enter Tryz.func213, Tryz.ntmps213
        go_wp2_with fail
        refine (C1.out _ (H.out.quiet HF.out)).mono ?_
        rintro e w1 ⟨rfl, hf1⟩
        have HF1 : Hid (Fr Nobody w w1) := HF.out.trans hf1
        have B2 : Hid (Box w1 (w.heap.size + 1) k G) := Box.quiet HB2.out hf1
        have B1 : Hid (Box w1 w.heap.size k F) := Box.quiet HB1.out hf1
        obtain ⟨c0, c1, c2, c3⟩ := B2.out.cells
        clear hf1
        go_wp2_with fail
        refine (C2.out _ (H.out.quiet HF1.out)).mono ?_
        rintro e w2 ⟨rfl, hf2⟩
        have HF2 : Hid (Fr Nobody w w2) := HF1.out.trans hf2
        have d0 := (B2.out.quiet hf2).kind
        have e0 := (B1.out.quiet hf2).kind
        clear hf2 c0 c1 c2 c3
        go_wp2
        go_ret
        exact ⟨rfl, HF2.out⟩
      · rw [if_neg e]
        have hne : ((k : Int) != (k' : Int)) = true := by rw [bne_iff_ne]; omega
        unfold cmp at *
        go_enter Tryz.func213, Tryz.ntmps213
        go_wp2_with fail
        refine (C1.out _ (H.out.quiet HF.out)).mono ?_
        rintro e w1 ⟨rfl, hf1⟩
        have HF1 : Hid (Fr Nobody w w1) := HF.out.trans hf1
        have B2 : Hid (Box w1 (w.heap.size + 1) k' G) := Box.quiet HB2.out hf1
        have B1 : Hid (Box w1 w.heap.size k F) := Box.quiet HB1.out hf1
        obtain ⟨c0, c1, c2, c3⟩ := B2.out.cells
        clear hf1
        go_wp2_with fail
        refine (C2.out _ (H.out.quiet HF1.out)).mono ?_
        rintro e w2 ⟨rfl, hf2⟩
        have HF2 : Hid (Fr Nobody w w2) := HF1.out.trans hf2
        have d0 := (B2.out.quiet hf2).kind
        have e0 := (B1.out.quiet hf2).kind
        clear hf2 c0 c1 c2 c3
        go_wp2
        go_ret
        exact ⟨rfl, HF2.out⟩
    · rw [if_neg hy]
      have hne : ((y : Int) != 0) = true := by rw [bne_iff_ne]; omega
      unfold cmp at *
      go_enter Tryz.func213, Tryz.ntmps213
      go_wp2_with fail
      refine (C1.out _ (H.out.quiet HF.out)).mono ?_
      rintro e w1 ⟨rfl, hf1⟩
      have HF1 : Hid (Fr Nobody w w1) := HF.out.trans hf1
      have B2 : Hid (Box w1 (w.heap.size + 1) k' G) := Box.quiet HB2.out hf1
      obtain ⟨c0, c1, c2, c3⟩ := B2.out.cells
      clear hf1
      go_wp2_with fail
      refine (C2.out _ (H.out.quiet HF1.out)).mono ?_
      rintro e w2 ⟨rfl, hf2⟩
      have HF2 : Hid (Fr Nobody w w2) := HF1.out.trans hf2
      clear hf2
      go_wp2
      go_ret
      exact ⟨rfl, HF2.out⟩
  · rw [if_neg hx]
    have hne : ((x : Int) != 0) = true := by rw [bne_iff_ne]; omega
    unfold cmp at *
    go_enter Tryz.func213, Tryz.ntmps213
    go_wp2_with fail
    refine (C1.out _ (H.out.quiet HF.out)).mono ?_
    rintro e w1 ⟨rfl, hf1⟩
    have HF1 : Hid (Fr Nobody w w1) := HF.out.trans hf1
    clear hf1
    go_wp2
    go_ret
    exact ⟨rfl, HF1.out⟩
end Go.Proofs.YtbencjopjdjepaaGreatDoor


/-
  How many bits a component has behind another one: stepSize, Size, SizeStep of package comp; the document's examples of layer 6.
-/
namespace Go.Proofs.YtbencjopjdjepaaGreatDoor
open Go.RowKit
set_option linter.unusedVariables false
set_option maxRecDepth 100000

/-- Zig of how much more a field is -/
def mz (F G : Nat → Int) (j : Nat) : Nat := zig (G j - F j)
/-- a field's bits behind another one -/
def fsz (k : Nat) (F G : Nat → Int) (j : Nat) : Nat := if mz F G j = 0 then 1 else if mz F G j ≤ 16 then 6 else 2 + wd k j
def ssum (k : Nat) (F G : Nat → Int) : Nat → Nat
  | 0 => 0
  | n + 1 => ssum k F G n + fsz k F G n
theorem fsz_le (k : Nat) (F G : Nat → Int) (j : Nat) (h : j < cnt k) : 1 ≤ fsz k F G j ∧ fsz k F G j ≤ 22 := by
  have := wd_le k j h
  unfold fsz; split
  · omega
  · split <;> omega
theorem ssum_le (k n : Nat) (F G : Nat → Int) (h : n ≤ cnt k) : ssum k F G n ≤ 22 * n := by
  induction n with
  | zero => simp [ssum]
  | succ n ih =>
    have := ih (by omega)
    have := fsz_le k F G n (by omega)
    simp only [ssum]; omega

set_option maxHeartbeats 2000000 in
theorem fieldStepSize_any (w : World) (ht : Tab w) (k k0 j : Nat) (hk : k < 256) (hj : j < cnt k) (F G : Nat → Int) (hF : I32 F) (hG : I32 G) :
    Calls Tryz.prog 235 #[.agg (cmp k0 F), .agg (cmp k G), .int .i64 (j : Int)] w fun e w' => e = .returned (.int .i64 ((fsz k F G j : Nat) : Int)) ∧ Fr Nobody w w' := by
  obtain ⟨b1, b2, hf⟩ := boxes w k0 k F G
  have H : Hid (Tab w) := ht
  have hc := cnt_le k
  have hj3 : j < 3 := by omega
  have x1 := b1.at j hj3
  have x2 := b2.at j hj3
  have x3 := b2.kind
  have HF : Hid _ := hf
  have hm : fsz k F G j = (if mz F G j = 0 then 1 else if mz F G j ≤ 16 then 6 else 2 + wd k j) := rfl
  have M : Hid (∀ w, Calls Tryz.prog 236 #[.int .i32 (F j), .int .i32 (G j)] w fun e w' => e = .returned (.int .u64 ((mz F G j : Nat) : Int)) ∧ w' = w) := fun w => more_any w (F j) (G j) (hF j hj3) (hG j hj3)
  have R : Hid (∀ w, Tab w → _) := fun w h => range_ok w h k hk j hj
  obtain ⟨l0, l1, l2, l3⟩ := rng_ok k j hj
  have WD : Hid (∀ w, Calls Tryz.prog 166 #[.int .i64 (lo k j), .int .i64 (hi k j)] w fun e w' => e = .returned (.int .i64 (wd k j : Nat)) ∧ w' = w) := fun w => width_any (lo k j) (hi k j) w (by omega) (by omega) (by omega) (by omega)
  have hw := wd_le k j hj
  rw [hm]
  clear hm hF hG b1 ht hf hj hc
  have HB2 : Hid _ := b2
  clear b2
  generalize mz F G j = z at *
  generalize wd k j = d at *
  generalize lo k j = a at *
  generalize hi k j = b at *
  by_cases h0 : z = 0
  · rw [if_pos h0]
    subst h0
    unfold cmp at *
    generalize F j = f at *
    generalize G j = g at *
    go_enter Tryz.func235, Tryz.ntmps235
    go_wp2_with fail
    go_quiet (refine Calls.quiet_of_same (M.out _))
    have HG : Hid _ := HF.out.drewN nq
    go_wp2
    go_ret
    exact ⟨rfl, HG.out⟩
  · rw [if_neg h0]
    have n0 : ((z : Int) == 0) = false := by rw [beq_eq_false_iff_ne]; omega
    by_cases h1 : z ≤ 16
    · rw [if_pos h1]
      unfold cmp at *
      generalize F j = f at *
      generalize G j = g at *
      clear h0
      go_enter Tryz.func235, Tryz.ntmps235
      go_wp2_with fail
      go_quiet (refine Calls.quiet_of_same (M.out _))
      have HG : Hid _ := HF.out.drewN nq
      go_wp2
      go_ret
      exact ⟨rfl, HG.out⟩
    · rw [if_neg h1]
      unfold cmp at *
      generalize F j = f at *
      generalize G j = g at *
      clear h0
      go_enter Tryz.func235, Tryz.ntmps235
      go_wp2_with fail
      go_quiet (refine Calls.quiet_of_same (M.out _))
      have HG : Hid _ := HF.out.drewN nq
      go_wp2_with fail
      refine (R.out _ (H.out.quiet HG.out)).mono ?_
      rintro e w1 ⟨rfl, hf1⟩
      have HG1 : Hid _ := HG.out.trans hf1
      clear hf1
      go_wp2_with fail
      refine (WD.out _).mono ?_
      rintro e w2 ⟨rfl, rfl⟩
      go_wp2
      go_ret
      refine ⟨?_, HG1.out⟩
      simp
end Go.Proofs.YtbencjopjdjepaaGreatDoor


/-
  stepSize, Size, SizeStep of package comp; the document's examples of layer 6.
-/
namespace Go.Proofs.YtbencjopjdjepaaGreatDoor
open Go.RowKit
set_option linter.unusedVariables false
set_option maxRecDepth 100000

set_option maxHeartbeats 2000000 in
theorem stepSize_any (w : World) (ht : Tab w) (k k0 : Nat) (hk : k < 256) (F G : Nat → Int) (hF : I32 F) (hG : I32 G) :
    Calls Tryz.prog 214 #[.agg (cmp k0 F), .agg (cmp k G)] w fun e w' => e = .returned (.int .i64 ((ssum k F G (cnt k) : Nat) : Int)) ∧ Fr Nobody w w' := by
  obtain ⟨b1, b2, hf⟩ := boxes w k0 k F G
  have H : Hid (Tab w) := ht
  have hc := cnt_le k
  have HF : Hid (Fr Nobody w _) := hf
  have HB1 : Hid (Box _ w.heap.size k0 F) := b1
  have HB2 : Hid (Box _ (w.heap.size + 1) k G) := b2
  obtain ⟨c, ec⟩ : ∃ c, cnt k = c := ⟨_, rfl⟩
  have EC : Hid (cnt k = c) := ec
  have S : Hid (∀ w j, Tab w → j < c → Calls Tryz.prog 235 #[.agg (cmp k0 F), .agg (cmp k G), .int .i64 ((j : Nat) : Int)] w fun e w' => e = .returned (.int .i64 ((fsz k F G j : Nat) : Int)) ∧ Fr Nobody w w') := fun w j h hj => fieldStepSize_any w h k k0 j hk (by rw [ec]; exact hj) F G hF hG
  have C : Hid (∀ w, Tab w → Calls Tryz.prog 191 #[.int .u8 (k : Int)] w fun e w' => e = .returned (.int .i64 (c : Int)) ∧ w' = w) := fun w h => by have := count_any w h k hk; rw [ec] at this; exact this
  have L : Hid (∀ n, n ≤ c → ssum k F G n ≤ 22 * n) := fun n hn => ssum_le k n F G (by rw [ec]; exact hn)
  have L2 : Hid (∀ j, j < c → fsz k F G j ≤ 22) := fun j hj => (fsz_le k F G j (by rw [ec]; exact hj)).2
  rw [ec] at hc
  rw [ec]
  clear ht hf b1 b2 ec hF hG
  unfold cmp at *
  go_enter Tryz.func214, Tryz.ntmps214
  go_wp2_with fail
  refine (C.out _ (H.out.quiet HF.out)).mono ?_
  rintro e w1 ⟨rfl, rfl⟩
  go_wp2
  go_loopw [5, 10] (fun a b wr => ∃ j : Nat, j ≤ c ∧ b = .int .i64 j ∧ a = .int .i64 (ssum k F G j : Nat) ∧ Box wr w.heap.size k0 F ∧ Box wr (w.heap.size + 1) k G ∧ Fr Nobody w wr) (fun _ b _ => c - (intOf b).toNat)
  case atStart => exact ⟨0, by omega, rfl, rfl, HB1.out, HB2.out, HF.out⟩
  case round =>
    obtain ⟨j, hj, rfl, rfl, hb1, hb2, hf⟩ := hrel
    have HG : Hid (Fr Nobody w wr) := hf
    have B1 : Hid (Box wr w.heap.size k0 F) := hb1
    have B2 : Hid (Box wr (w.heap.size + 1) k G) := hb2
    clear hf hb1 hb2
    by_cases hlt : j < c
    · obtain ⟨p0, p1, p2, p3⟩ := B1.out.cells
      obtain ⟨q0, q1, q2, q3⟩ := B2.out.cells
      have hb := L.out j (by omega)
      have hw := L2.out j hlt
      have HS : Hid (ssum k F G (j + 1) = ssum k F G j + fsz k F G j) := rfl
      have SJ : Hid (∀ w, Tab w → _) := fun w h => S.out w j h hlt
      generalize fsz k F G j = z at *
      generalize ssum k F G j = s at *
      go_wp2_with fail
      refine (SJ.out _ (H.out.quiet HG.out)).mono ?_
      rintro e w2 ⟨rfl, hf2⟩
      have HG2 : Hid (Fr Nobody w w2) := HG.out.trans hf2
      have B12 : Hid (Box w2 w.heap.size k0 F) := B1.out.quiet hf2
      have B22 : Hid (Box w2 (w.heap.size + 1) k G) := B2.out.quiet hf2
      clear hf2
      go_wp2
      go_roundw
      case rel => exact ⟨j + 1, by omega, by go_num, by rw [HS.out]; go_num, B12.out, B22.out, HG2.out⟩
      case measure => simp [intOf]; omega
    · have e : j = c := by omega
      subst e
      go_wp2
      go_ret
      exact ⟨rfl, HG.out⟩

end Go.Proofs.YtbencjopjdjepaaGreatDoor


/-
  Nil writers and readers of package comp.
-/
namespace Go.Proofs.YtbencjopjdjepaaGreatDoor
open Go.RowKit
set_option linter.unusedVariables false
set_option maxRecDepth 100000

theorem Box.new' (w : World) (b k : Nat) (F : Nat → Int) (h : b = w.heap.size) : Box (w.alloc (.cells (cmp k F) 68)) b k F := by subst h; exact Box.new w k F
theorem Box.frozen {w : World} {b k : Nat} {F : Nat → Int} (h : Box w b k F) (o : Nat) : w.frozen? ⟨b, o, none⟩ = false := by
  unfold Box at h; simp [World.frozen?, h]
/-- a component is laid over another one -/
def put4 (w : World) (b k : Nat) (F : Nat → Int) : World := (((w.setCell ⟨b, 0, none⟩ (.int .u8 (k : Int))).setCell ⟨b, 1, none⟩ (.int .i32 (F 0))).setCell ⟨b, 2, none⟩ (.int .i32 (F 1))).setCell ⟨b, 3, none⟩ (.int .i32 (F 2))
theorem put4_box {w : World} {b k0 k : Nat} {F0 F : Nat → Int} (h : Box w b k0 F0) : Box (put4 w b k F) b k F := by
  unfold Box cmp at *
  have h1 := setCell_heap w b 0 _ _ (.int .u8 (k : Int)) h
  have h2 := setCell_heap _ b 1 _ _ (.int .i32 (F 0)) h1
  have h3 := setCell_heap _ b 2 _ _ (.int .i32 (F 1)) h2
  have h4 := setCell_heap _ b 3 _ _ (.int .i32 (F 2)) h3
  unfold put4
  rw [h4]
  rfl
theorem put4_fr {S : Nat → Prop} {w0 w : World} {b k : Nat} {F : Nat → Int} (h : Fr S w0 w) (hb : S b ∨ w0.heap.size ≤ b) : Fr S w0 (put4 w b k F) :=
  (((h.setCell (p := ⟨b, 0, none⟩) hb _).setCell (p := ⟨b, 1, none⟩) hb _).setCell (p := ⟨b, 2, none⟩) hb _).setCell (p := ⟨b, 3, none⟩) hb _

end Go.Proofs.YtbencjopjdjepaaGreatDoor


/-
  Components that are alike: '==' on them.
-/
namespace Go.Proofs.YtbencjopjdjepaaGreatDoor
open Go.RowKit
set_option linter.unusedVariables false
set_option maxRecDepth 100000

theorem eq_a3 (d : Nat) (a b c a' b' c' : Int) (w : World) : (Op.equalIn (d + 1 + 1) 66 (.agg #[.int .i32 a, .int .i32 b, .int .i32 c]) (.agg #[.int .i32 a', .int .i32 b', .int .i32 c'])).run Tryz.prog w = .ok ((a == a') && (b == b') && (c == c')) w := by
  have hi : ∃ i, Tryz.prog.info? 21 = some i := by
    have : (Tryz.prog.info? 21).isSome = true := by kernel_rfl
    exact Option.isSome_iff_exists.1 this
  obtain ⟨i, hi⟩ := hi
  have c1 : Tryz.prog.cellsOf 21 = 1 := by kernel_rfl
  have hz : (Tryz.prog.info? 21).map (·.size) = some 1 := by kernel_rfl
  have hu := Tryz.underlying21
  rw [run_equalIn_array w (d + 1) _ _ Tryz.underlying66 hi]
  simp only [Op.eqItems, show List.range 3 = [0, 1, 2] from rfl, c1]
  cases ha : (a == a') <;> cases hb : (b == b') <;> cases hc : (c == c') <;> go_simp
end Go.Proofs.YtbencjopjdjepaaGreatDoor


/-
  What a writer's calls leave as it was: every block that is neither a writer's nor bytes. Put, room and the bits of one field.
-/
namespace Go.Proofs.YtbencjopjdjepaaGreatDoor
open Go.RowKit
set_option linter.unusedVariables false
set_option maxRecDepth 100000

/-- a writer's block, or bytes -/
def Wt (w : World) (k : Nat) : Prop := ∃ cur f, w.heap[k]? = some (.cells cur 172 f) ∨ w.heap[k]? = some (.cells cur 5 f)
def Wf (w w' : World) : Prop := Fr (Wt w) w w'
theorem Wf.refl (w : World) : Wf w w := Fr.refl _ _
theorem Wf.of_quiet {w w' : World} (h : Fr Nobody w w') : Wf w w' := h.mono (fun _ _ k => k.elim)
theorem Wf.trans {a b c : World} (h : Wf a b) (k : Wf b c) : Wf a c := by
  refine ⟨k.os.trans h.os, k.tape.trans h.tape, k.output.trans h.output, Nat.le_trans h.size k.size, fun i hi hs => ?_⟩
  have e := h.block i hi hs
  refine (k.block i (Nat.lt_of_lt_of_le hi h.size) ?_).trans e
  rintro ⟨cur, f, hc⟩
  rw [e] at hc
  exact hs ⟨cur, f, hc⟩
theorem Wf.quiet {a b c : World} (h : Wf a b) (k : Fr Nobody b c) : Wf a c := h.trans (Wf.of_quiet k)
theorem Box.wf {w w' : World} {b k : Nat} {F : Nat → Int} (h : Box w b k F) (hf : Wf w w') : Box w' b k F := by
  refine (hf.block b (Array.getElem?_eq_some_iff.1 h).1 ?_).trans h
  rintro ⟨cur, f, hc⟩
  unfold Box at h
  rw [h] at hc
  simp at hc
theorem Bo.wf {B : Nat} {w w' : World} {v : Value} {L : List Bool} (h : Bo B w v L) (hf : Wf w w') : Bo B w' v L := by
  refine h.keep hf ?_
  rintro k cur hk ⟨cur', f, hc⟩
  rw [hk] at hc
  simp at hc
theorem Bs.wf {w w' : World} {v : Value} {L : List Bool} (h : Bs w v L) (hf : Wf w w') : Bs w' v L := by
  refine h.keep hf ?_
  rintro k cur hk ⟨cur', f, hc⟩
  rw [hk] at hc
  simp at hc
theorem Wr.wt {B : Nat} {w : World} {b : Nat} {g : Option Nat} {L : List Bool} (h : Wr B w b g L) (k : Nat) (hk : At b g k) : Wt w k := by
  obtain ⟨v, h1, h2, h3⟩ := h.obj
  rcases hk with rfl | hk
  · exact ⟨_, _, .inl h1⟩
  · rcases h2.2 with ⟨rfl, _⟩ | ⟨g', cap, cur, rfl, _, hgg, _⟩
    · simp [Value.ownBlock] at h3
      rw [← h3] at hk; cases hk
    · simp [Value.ownBlock] at h3
      rw [← h3] at hk
      cases hk
      exact ⟨_, _, .inr hgg⟩

/-- a field's bits -/
def fb (k : Nat) (F : Nat → Int) (j : Nat) : List Bool := bitsN (wd k j) (F j - lo k j).toNat
theorem length_fb (k : Nat) (F : Nat → Int) (j : Nat) : (fb k F j).length = wd k j := length_bitsN _ _
end Go.Proofs.YtbencjopjdjepaaGreatDoor


/-
  Put of package comp: a component's bits.
-/
namespace Go.Proofs.YtbencjopjdjepaaGreatDoor
open Go.RowKit
set_option linter.unusedVariables false
set_option maxRecDepth 100000

/-- the bits of the first fields -/
def cb (k : Nat) (F : Nat → Int) : Nat → List Bool
  | 0 => []
  | n + 1 => cb k F n ++ fb k F n
theorem length_cb (k : Nat) (F : Nat → Int) (n : Nat) : (cb k F n).length = bsum k n := by
  induction n with
  | zero => rfl
  | succ n ih => rw [cb, List.length_append, ih, length_fb]; rfl
theorem chk_ok (k : Nat) (F : Nat → Int) (h : chk k F = 0) : k < 6 ∧ (∀ j, j < cnt k → lo k j ≤ F j ∧ F j ≤ hi k j) ∧ ∀ j, cnt k ≤ j → j < 3 → F j = 0 := by
  unfold chk at h
  by_cases h6 : 6 ≤ k
  · rw [if_pos h6] at h; cases h
  · rw [if_neg h6] at h
    cases hs : stray k F with
    | true => rw [hs, if_pos rfl] at h; cases h
    | false =>
      rw [hs, if_neg (by decide)] at h
      cases ho : outside k F with
      | true => rw [ho, if_pos rfl] at h; cases h
      | false => exact ⟨by omega, fun j hj => outside_no k j F ho hj, fun j hj h3 => stray_no k j F hs hj h3⟩
theorem bits_le (k : Nat) : bitsK k ≤ 60 := by
  have := bsum_le k (cnt k) (Nat.le_refl _)
  have := cnt_le k
  unfold bitsK; omega

end Go.Proofs.YtbencjopjdjepaaGreatDoor


/-
  PutStep of package comp: a component's bits behind another one.
-/
namespace Go.Proofs.YtbencjopjdjepaaGreatDoor
open Go.RowKit
set_option linter.unusedVariables false
set_option maxRecDepth 100000

/-- a field's bits behind another one -/
def sb (k : Nat) (F G : Nat → Int) (j : Nat) : List Bool := if mz F G j = 0 then bitsN 1 0 else if mz F G j ≤ 16 then bitsN 2 3 ++ bitsN 4 (mz F G j - 1) else bitsN 2 1 ++ fb k G j
theorem length_sb (k : Nat) (F G : Nat → Int) (j : Nat) : (sb k F G j).length = fsz k F G j := by
  unfold sb fsz
  split
  · rfl
  · split
    · rw [List.length_append, length_bitsN, length_bitsN]
    · rw [List.length_append, length_bitsN, length_fb]
def sbs (k : Nat) (F G : Nat → Int) : Nat → List Bool
  | 0 => []
  | n + 1 => sbs k F G n ++ sb k F G n
theorem length_sbs (k : Nat) (F G : Nat → Int) (n : Nat) : (sbs k F G n).length = ssum k F G n := by
  induction n with
  | zero => rfl
  | succ n ih => rw [sbs, List.length_append, ih, length_sb]; rfl

theorem ckS_ok (k k' : Nat) (F G : Nat → Int) (h : ckS k k' F G = 0) : chk k F = 0 ∧ chk k' G = 0 ∧ k = k' := by
  unfold ckS at h
  by_cases h1 : chk k F = 0
  · rw [if_pos h1] at h
    by_cases h2 : chk k' G = 0
    · rw [if_pos h2] at h
      by_cases h3 : k = k'
      · exact ⟨h1, h2, h3⟩
      · rw [if_neg h3] at h; cases h
    · rw [if_neg h2] at h; exact absurd h h2
  · rw [if_neg h1] at h; exact absurd h h1

end Go.Proofs.YtbencjopjdjepaaGreatDoor


/-
  The document's Put of components, on lists of bits.
-/
namespace Go.Proofs.YtbencjopjdjepaaGreatDoor
open Go.RowKit
set_option linter.unusedVariables false
set_option maxRecDepth 100000

theorem Box.grown {B : Nat} {w w' : World} {b k : Nat} {F : Nat → Int} {v : Value} {L : List Bool} (h : Box w b k F) (hv : Bo B w v L) (hg : w.grownBy w' v.ownBlock) : Box w' b k F := by
  refine (hg.block b (Array.getElem?_eq_some_iff.1 h).1 ?_).trans h
  intro e
  rcases hv.2 with ⟨rfl, _⟩ | ⟨g', cap, cur, rfl, _, hgg, _⟩
  · simp [Value.ownBlock] at e
  · simp [Value.ownBlock] at e
    subst e
    unfold Box at h
    rw [hgg] at h
    simp at h

set_option maxHeartbeats 2000000 in
theorem rputC_ok (w : World) (k : Nat) (hk : k < 256) (F : Nat → Int) (h0 : chk k F = 0) :
    Calls Tryz.prog 103 #[.agg (cmp k F)] w fun e w' => ∃ v, e = .returned (.tuple #[v, .int .i64 0]) ∧ Bo w.heap.size w' v (cb k F (cnt k)) ∧ Fr Nobody w w' := by
  obtain ⟨h6, hr, _⟩ := chk_ok k F h0
  have hc := cnt_le k
  have HB : Hid (Box (w.alloc (.cells (cmp k F) 68)) w.heap.size k F) := Box.new w k F
  have HF : Hid (Fr Nobody w (w.alloc (.cells (cmp k F) 68))) := (Fr.refl _ _).alloc _
  have K : Hid (∀ w, Calls Tryz.prog 104 #[.agg (cmp k F)] w fun e w' => e = .returned (.int .i64 0) ∧ Fr Nobody w w') := fun w => by have := rcheck_any w k hk F; rw [h0] at this; exact this
  have C : Hid (∀ w, _) := fun w => rcount_any w k hk
  have R : Hid (∀ w j, j < cnt k → _) := fun w j hj => rrange_ok w k j hj
  have RB : Hid (∀ j, j < cnt k → (-524288 ≤ lo k j ∧ lo k j ≤ 1 ∧ 7 ≤ hi k j ∧ hi k j ≤ 524287) ∧ lo k j ≤ F j ∧ F j ≤ hi k j) := fun j hj => ⟨rng_ok k j hj, hr j hj⟩
  have I : Hid (∀ w j, j < cnt k → Calls Tryz.prog 102 #[.int .i64 (F j), .int .i64 (lo k j), .int .i64 (hi k j)] w fun e w' => ∃ v, e = .returned (.tuple #[v, .int .i64 0]) ∧ Bo w.heap.size w' v (fb k F j) ∧ Fr Nobody w w') := fun w j hj => by
    obtain ⟨l0, l1, l2, l3⟩ := rng_ok k j hj
    have := hr j hj
    exact rin_ok (F j) (lo k j) (hi k j) (F j - lo k j).toNat w (by omega) (by omega) (by omega) this.1 this.2
  have HL : Hid (∀ j, j ≤ cnt k → (cb k F j).length ≤ 60) := fun j hj => by rw [length_cb]; have := bsum_le k j hj; omega
  have HL2 : Hid (∀ j, j < cnt k → (fb k F j).length ≤ 60) := fun j hj => by rw [length_fb]; have := wd_le k j hj; omega
  clear h0 hr
  generalize cnt k = c at *
  unfold cmp at *
  go_enter Tryz.func103, Tryz.ntmps103
  go_wp2_with fail
  refine (K.out _).mono ?_
  rintro e w1 ⟨rfl, hf1⟩
  have F1 : Hid (Fr Nobody w w1) := HF.out.trans hf1
  have B1 : Hid (Box w1 w.heap.size k F) := Box.quiet HB.out hf1
  have c0 := B1.out.kind
  clear hf1
  go_wp2_with fail
  refine (C.out _).mono ?_
  rintro e w2 ⟨rfl, hf2⟩
  have F2 : Hid (Fr Nobody w w2) := F1.out.trans hf2
  have B2 : Hid (Box w2 w.heap.size k F) := B1.out.quiet hf2
  clear hf2 c0 F1 B1 HB HF K
  go_wp2
  go_loopw [5, 20] (fun u a wr => ∃ j : Nat, j ≤ c ∧ a = .int .i64 j ∧ Bo w.heap.size wr u (cb k F j) ∧ Box wr w.heap.size k F ∧ Fr Nobody w wr) (fun _ a _ => c - (intOf a).toNat)
  case atStart => exact ⟨0, by omega, rfl, Bo.nil _ _, B2.out, F2.out⟩
  case round =>
    obtain ⟨j, hj, rfl, hu, hb, hf⟩ := hrel
    have U : Hid (Bo w.heap.size wr u5 (cb k F j)) := hu
    have B3 : Hid (Box wr w.heap.size k F) := hb
    have F3 : Hid (Fr Nobody w wr) := hf
    clear hu hb hf B2 F2
    by_cases hlt : j < c
    · have RJ : Hid (∀ w, _) := fun w => R.out w j hlt
      have IJ : Hid (∀ w, _) := fun w => I.out w j hlt
      obtain ⟨⟨l0, l1, l2, l3⟩, r0, r1⟩ := RB.out j hlt
      have hl1 := HL.out j (by omega)
      have hl2 := HL2.out j hlt
      have HCB : Hid (cb k F (j + 1) = cb k F j ++ fb k F j) := rfl
      have c0 := B3.out.kind
      generalize lo k j = x at *
      generalize hi k j = y at *
      generalize fb k F j = M at *
      generalize cb k F j = L at *
      go_wp2_with fail
      refine (RJ.out _).mono ?_
      rintro e w3 ⟨rfl, hf3⟩
      have F4 : Hid (Fr Nobody wr w3) := hf3
      have c1 := (B3.out.quiet hf3).at j (by omega)
      clear hf3
      generalize F j = f at *
      go_wp2_with fail
      refine (IJ.out _).mono ?_
      rintro e w4 ⟨v4, rfl, hV4, hf4⟩
      have F5 : Hid (Fr Nobody wr w4) := F4.out.trans hf4
      have V4 : Hid (Bs w4 v4 M) := hV4.bs
      have U4 : Hid (Bo w.heap.size w4 u5 L) := U.out.quiet F5.out
      have B4 : Hid (Box w4 w.heap.size k F) := B3.out.quiet F5.out
      have F6 : Hid (Fr Nobody w w4) := F3.out.trans F5.out
      clear hV4 hf4 c0 c1
      go_wp2_with (at_builtin; refine append_bits rfl _ _ rfl w.heap.size _ _ L M U4.out V4.out (by omega) (by omega) F6.out.size rfl rfl ?_)
      intro v5 w5 hU5 hg5
      have U5 : Hid (Bo w.heap.size w5 v5 (cb k F (j + 1))) := by rw [HCB.out]; exact hU5
      have B5 : Hid (Box w5 w.heap.size k F) := B4.out.grown U4.out hg5
      have F7 : Hid (Fr Nobody w w5) := F6.out.grown hg5 (fun q hq => .inr (World.ownsRow.lt U4.out q hq).1)
      clear hU5 hg5
      go_wp2
      go_roundw
      case rel => exact ⟨j + 1, by omega, by go_num, U5.out, B5.out, F7.out⟩
      case measure => simp [intOf]; omega
    · have e : j = c := by omega
      subst e
      go_wp2
      go_ret2
      exact ⟨_, rfl, U.out, F3.out⟩
end Go.Proofs.YtbencjopjdjepaaGreatDoor


