/-
  GetStep of package comp: a component that is read behind another one.
-/
import Derived.Test.YtllhipfielgnbaaDoorKqg
namespace Go.Proofs.YtllhipfielgnbaaDoor
open Go.RowKit
set_option linter.unusedVariables false
set_option maxRecDepth 100000

theorem I32.of_chk {k : Nat} {F : Nat → Int} (h : chk k F = 0) : I32 F := by
  obtain ⟨h6, h1, h2⟩ := chk_ok k F h
  intro j hj
  by_cases hc : j < cnt k
  · have := h1 j hc
    have := rng_ok k j hc
    omega
  · rw [h2 j (by omega) hj]; omega

set_option maxHeartbeats 2000000 in
theorem getFar_any (B : Nat) (w : World) (ht : Tab w) (br : Nat) (hbr : br ≠ 0) (g : Option Nat) (P : List Nat) (t k j : Nat) (hk : k < 256) (hj : j < cnt k) (F : Nat → Int) (hI : I32 F) (h : Rd B w br g P t) :
    Calls Tryd.prog 52 #[.pointer (some ⟨br, 0, none⟩), .agg (cmp k F), .int .i64 (j : Int)] w fun e w' => e = .returned (.tuple #[.int .i32 (fa k F P t j).2.1, .int .i64 (fa k F P t j).1]) ∧ GvEnd B w w' br g P t (fa k F P t j).1 (fa k F P t j).2.2 := by
  have hc := cnt_le k
  have hlt := h.lt
  have hj3 : j < 3 := by omega
  have H : Hid (Rd B w br g P t) := h
  have HT : Hid (Tab w) := ht
  have HB : Hid (Box (w.alloc (.cells (cmp k F) 24)) w.heap.size k F) := Box.new w k F
  have HF : Hid (Fr Nobody w (w.alloc (.cells (cmp k F) 24))) := (Fr.refl _ _).alloc _
  have hn : w.heap.size ≠ br := by omega
  have G : Hid (∀ w, Tab w → Rd B w br g P t → _) := fun w h1 h2 => getField_any B w h1 br g P t k j hk hj h2
  have hrng : -2147483648 ≤ (gf k P t j).2.1 ∧ (gf k P t j).2.1 ≤ 2147483647 := by
    obtain ⟨l0, l1, l2, l3⟩ := rng_ok k j hj
    have := gi_rng (lo k j) (hi k j) ((bitsB P).drop t)
    unfold gf
    omega
  have M : Hid (∀ w, Calls Tryd.prog 47 #[.int .i32 (F j), .int .i32 (gf k P t j).2.1] w fun e w' => e = .returned (.int .u64 ((zig ((gf k P t j).2.1 - F j) : Nat) : Int)) ∧ w' = w) := fun w => more_any w (F j) (gf k P t j).2.1 (hI j hj3) hrng
  have hfa : fa k F P t j = (if (gf k P t j).1 ≠ 0 then ((gf k P t j).1, 0, 0) else if zig ((gf k P t j).2.1 - F j) ≤ 16 then (4, 0, 0) else (0, (gf k P t j).2.1, (gf k P t j).2.2)) := rfl
  rw [hfa]
  generalize (gf k P t j).1 = cd at *
  generalize (gf k P t j).2.1 = v at *
  generalize (gf k P t j).2.2 = n at *
  generalize zig (v - F j) = z at *
  clear h ht hI hfa hj hc
  by_cases hcd : cd = 0
  · subst hcd
    rw [if_neg (by simp)]
    by_cases hz : z ≤ 16
    · rw [if_pos hz]
      unfold cmp at *
      go_enter Tryd.func52, Tryd.ntmps52
      go_wp2_with fail
      refine (G.out _ (HT.out.quiet HF.out) (H.out.quiet HF.out)).mono ?_
      rintro e w1 ⟨rfl, hR1, hf1⟩
      have HF1 : Hid (Fr (At br none) w w1) := (HF.out.mono (fun _ _ k => k.elim)).trans hf1
      have HR1 : Hid (Rd B w1 br g P (t + n)) := hR1
      have c1 := (Box.fr1 HB.out hf1 hn).at j hj3
      clear hf1 hR1
      generalize F j = f at *
      go_wp2_with fail
      refine (M.out _).mono ?_
      rintro e w2 ⟨rfl, rfl⟩
      go_wp2
      go_ret2
      exact ⟨rfl, t + n, HR1.out, HF1.out, (fun e => by cases e)⟩
    · rw [if_neg hz]
      have d0 : decide ((z : Int) ≤ 16) = false := by simp; omega
      clear hz
      unfold cmp at *
      go_enter Tryd.func52, Tryd.ntmps52
      go_wp2_with fail
      refine (G.out _ (HT.out.quiet HF.out) (H.out.quiet HF.out)).mono ?_
      rintro e w1 ⟨rfl, hR1, hf1⟩
      have HF1 : Hid (Fr (At br none) w w1) := (HF.out.mono (fun _ _ k => k.elim)).trans hf1
      have HR1 : Hid (Rd B w1 br g P (t + n)) := hR1
      have c1 := (Box.fr1 HB.out hf1 hn).at j hj3
      clear hf1 hR1
      generalize F j = f at *
      go_wp2_with fail
      refine (M.out _).mono ?_
      rintro e w2 ⟨rfl, rfl⟩
      go_wp2
      go_ret2
      exact ⟨rfl, t + n, HR1.out, HF1.out, fun _ => rfl⟩
  · rw [if_pos hcd]
    have hne : (cd != 0) = true := by rw [bne_iff_ne]; exact hcd
    have HCD : Hid (cd ≠ 0) := hcd
    clear hcd
    unfold cmp at *
    go_enter Tryd.func52, Tryd.ntmps52
    go_wp2_with fail
    refine (G.out _ (HT.out.quiet HF.out) (H.out.quiet HF.out)).mono ?_
    rintro e w1 ⟨rfl, hR1, hf1⟩
    have HF1 : Hid (Fr (At br none) w w1) := (HF.out.mono (fun _ _ k => k.elim)).trans hf1
    have HR1 : Hid (Rd B w1 br g P (t + n)) := hR1
    clear hf1 hR1
    go_wp2
    go_ret2
    exact ⟨rfl, t + n, HR1.out, HF1.out, fun e => absurd e HCD.out⟩

set_option maxHeartbeats 2000000 in
theorem getFieldStep_any (B : Nat) (w : World) (ht : Tab w) (br : Nat) (hbr : br ≠ 0) (g : Option Nat) (P : List Nat) (t k j : Nat) (hk : k < 256) (hj : j < cnt k) (F : Nat → Int) (hI : I32 F) (hr : lo k j ≤ F j ∧ F j ≤ hi k j) (h : Rd B w br g P t) :
    Calls Tryd.prog 42 #[.pointer (some ⟨br, 0, none⟩), .agg (cmp k F), .int .i64 (j : Int)] w fun e w' => e = .returned (.tuple #[.int .i32 (gs k F P t j).2.1, .int .i64 (gs k F P t j).1]) ∧ GvEnd B w w' br g P t (gs k F P t j).1 (gs k F P t j).2.2 := by
  have hc := cnt_le k
  have hlt := h.lt
  have hj3 : j < 3 := by omega
  have H : Hid (Rd B w br g P t) := h
  have HT : Hid (Tab w) := ht
  have HB : Hid (Box (w.alloc (.cells (cmp k F) 24)) w.heap.size k F) := Box.new w k F
  have HF : Hid (Fr Nobody w (w.alloc (.cells (cmp k F) 24))) := (Fr.refl _ _).alloc _
  have hn : w.heap.size ≠ br := by omega
  have hgs : gs k F P t j = (if 8 * P.length < t + 1 then (2, F j, 0) else if numAt P t 1 = 0 then (0, F j, 1) else if 8 * P.length < t + 1 + 1 then (2, 0, 0) else if numAt P (t + 1) 1 = 1 then ((nr k F P (t + 1 + 1) j).1, (nr k F P (t + 1 + 1) j).2.1, 2 + (nr k F P (t + 1 + 1) j).2.2) else ((fa k F P (t + 1 + 1) j).1, (fa k F P (t + 1 + 1) j).2.1, 2 + (fa k F P (t + 1 + 1) j).2.2)) := rfl
  rw [hgs]
  by_cases h1 : 8 * P.length < t + 1
  · rw [if_pos h1]
    have G : Hid (∀ w, Rd B w br g P t → Calls Tryd.prog 15 #[.pointer (some ⟨br, 0, none⟩), .int .i64 1] w fun e w' => e = .returned (.tuple #[.int .u64 0, .int .i64 2]) ∧ Fr Nobody w w') := fun w hw => get_short B w br g P t 1 hw (by decide) h1
    clear hgs h ht hr hI
    unfold cmp at *
    go_enter Tryd.func42, Tryd.ntmps42
    go_wp2_with fail
    refine (G.out _ (H.out.quiet HF.out)).mono ?_
    rintro e w1 ⟨rfl, hf1⟩
    have HF1 : Hid (Fr Nobody w w1) := HF.out.trans hf1
    have c1 := (Box.quiet HB.out hf1).at j hj3
    clear hf1
    go_wp2
    go_ret2
    exact ⟨rfl, t, H.out.quiet HF1.out, HF1.out.mono (fun _ _ k => k.elim), (fun e => by cases e)⟩
  · rw [if_neg h1]
    have G : Hid (∀ w, Rd B w br g P t → Calls Tryd.prog 15 #[.pointer (some ⟨br, 0, none⟩), .int .i64 1] w fun e w' => e = .returned (.tuple #[.int .u64 (numAt P t 1 : Nat), .int .i64 0]) ∧ Rd B w' br g P (t + 1) ∧ Fr (At br none) w w') := fun w hw => get_ok2 B w br g P t 1 hw (by decide) (by omega)
    have hv := numAt_lt P t 1
    by_cases h2 : numAt P t 1 = 0
    · rw [if_pos h2]
      rw [h2] at G
      clear hgs h ht hr hI hv h2
      unfold cmp at *
      go_enter Tryd.func42, Tryd.ntmps42
      go_wp2_with fail
      refine (G.out _ (H.out.quiet HF.out)).mono ?_
      rintro e w1 ⟨rfl, hR1, hf1⟩
      have HF1 : Hid (Fr (At br none) w w1) := (HF.out.mono (fun _ _ k => k.elim)).trans hf1
      have HR1 : Hid (Rd B w1 br g P (t + 1)) := hR1
      have c1 := (Box.fr1 HB.out hf1 hn).at j hj3
      clear hf1 hR1
      go_wp2
      go_ret2
      exact ⟨rfl, t + 1, HR1.out, HF1.out, fun _ => rfl⟩
    · rw [if_neg h2]
      have e1 : numAt P t 1 = 1 := by have : numAt P t 1 < 2 := by simpa using hv
                                      omega
      rw [e1] at G
      clear hv h2 e1
      by_cases h3 : 8 * P.length < t + 1 + 1
      · rw [if_pos h3]
        have G2 : Hid (∀ w, Rd B w br g P (t + 1) → Calls Tryd.prog 15 #[.pointer (some ⟨br, 0, none⟩), .int .i64 1] w fun e w' => e = .returned (.tuple #[.int .u64 0, .int .i64 2]) ∧ Fr Nobody w w') := fun w hw => get_short B w br g P (t + 1) 1 hw (by decide) h3
        clear hgs h ht hr hI
        unfold cmp at *
        go_enter Tryd.func42, Tryd.ntmps42
        go_wp2_with fail
        refine (G.out _ (H.out.quiet HF.out)).mono ?_
        rintro e w1 ⟨rfl, hR1, hf1⟩
        have HF1 : Hid (Fr (At br none) w w1) := (HF.out.mono (fun _ _ k => k.elim)).trans hf1
        have HR1 : Hid (Rd B w1 br g P (t + 1)) := hR1
        clear hf1 hR1
        go_wp2_with fail
        refine (G2.out _ HR1.out).mono ?_
        rintro e w2 ⟨rfl, hf2⟩
        have HF2 : Hid (Fr (At br none) w w2) := HF1.out.trans (hf2.mono (fun _ _ k => k.elim))
        have HR2 : Hid (Rd B w2 br g P (t + 1)) := HR1.out.quiet hf2
        clear hf2
        go_wp2
        go_ret2
        exact ⟨rfl, t + 1, HR2.out, HF2.out, (fun e => by cases e)⟩
      · rw [if_neg h3]
        have G2 : Hid (∀ w, Rd B w br g P (t + 1) → Calls Tryd.prog 15 #[.pointer (some ⟨br, 0, none⟩), .int .i64 1] w fun e w' => e = .returned (.tuple #[.int .u64 (numAt P (t + 1) 1 : Nat), .int .i64 0]) ∧ Rd B w' br g P (t + 1 + 1) ∧ Fr (At br none) w w') := fun w hw => get_ok2 B w br g P (t + 1) 1 hw (by decide) (by omega)
        have hv := numAt_lt P (t + 1) 1
        by_cases h4 : numAt P (t + 1) 1 = 1
        · rw [if_pos h4]
          rw [h4] at G2
          have N : Hid (∀ w, Tab w → Rd B w br g P (t + 1 + 1) → _) := fun w h1 h2 => getNear_any B w h1 br hbr g P (t + 1 + 1) k j hk hj F hr h2
          generalize nr k F P (t + 1 + 1) j = r at *
          obtain ⟨rc, rv, rn⟩ := r
          clear hgs h ht hr hI hv h4
          unfold cmp at *
          go_enter Tryd.func42, Tryd.ntmps42
          go_wp2_with fail
          refine (G.out _ (H.out.quiet HF.out)).mono ?_
          rintro e w1 ⟨rfl, hR1, hf1⟩
          have HF1 : Hid (Fr (At br none) w w1) := (HF.out.mono (fun _ _ k => k.elim)).trans hf1
          have HR1 : Hid (Rd B w1 br g P (t + 1)) := hR1
          have B1 : Hid (Box w1 w.heap.size k F) := Box.fr1 HB.out hf1 hn
          clear hf1 hR1
          go_wp2_with fail
          refine (G2.out _ HR1.out).mono ?_
          rintro e w2 ⟨rfl, hR2, hf2⟩
          have HF2 : Hid (Fr (At br none) w w2) := HF1.out.trans hf2
          have HR2 : Hid (Rd B w2 br g P (t + 1 + 1)) := hR2
          obtain ⟨p0, p1, p2, p3⟩ := (B1.out.fr1 hf2 hn).cells
          clear hf2 hR2
          go_wp2_with fail
          refine (N.out _ (HT.out.fr1 HF2.out hbr) HR2.out).mono ?_
          rintro e w3 ⟨rfl, hE⟩
          have HE : Hid (GvEnd B w w3 br g P t rc (2 + rn)) := GvEnd.after (a := 1 + 1) HF2.out hE (fun _ => rfl)
          clear hE
          go_wp2
          go_ret2
          exact ⟨rfl, HE.out⟩
        · rw [if_neg h4]
          have e1 : numAt P (t + 1) 1 = 0 := by have : numAt P (t + 1) 1 < 2 := by simpa using hv
                                                omega
          rw [e1] at G2
          have N : Hid (∀ w, Tab w → Rd B w br g P (t + 1 + 1) → _) := fun w h1 h2 => getFar_any B w h1 br hbr g P (t + 1 + 1) k j hk hj F hI h2
          generalize fa k F P (t + 1 + 1) j = r at *
          obtain ⟨rc, rv, rn⟩ := r
          clear hgs h ht hr hI hv h4 e1
          unfold cmp at *
          go_enter Tryd.func42, Tryd.ntmps42
          go_wp2_with fail
          refine (G.out _ (H.out.quiet HF.out)).mono ?_
          rintro e w1 ⟨rfl, hR1, hf1⟩
          have HF1 : Hid (Fr (At br none) w w1) := (HF.out.mono (fun _ _ k => k.elim)).trans hf1
          have HR1 : Hid (Rd B w1 br g P (t + 1)) := hR1
          have B1 : Hid (Box w1 w.heap.size k F) := Box.fr1 HB.out hf1 hn
          clear hf1 hR1
          go_wp2_with fail
          refine (G2.out _ HR1.out).mono ?_
          rintro e w2 ⟨rfl, hR2, hf2⟩
          have HF2 : Hid (Fr (At br none) w w2) := HF1.out.trans hf2
          have HR2 : Hid (Rd B w2 br g P (t + 1 + 1)) := hR2
          obtain ⟨p0, p1, p2, p3⟩ := (B1.out.fr1 hf2 hn).cells
          clear hf2 hR2
          go_wp2_with fail
          refine (N.out _ (HT.out.fr1 HF2.out hbr) HR2.out).mono ?_
          rintro e w3 ⟨rfl, hE⟩
          have HE : Hid (GvEnd B w w3 br g P t rc (2 + rn)) := GvEnd.after (a := 1 + 1) HF2.out hE (fun _ => rfl)
          clear hE
          go_wp2
          go_ret2
          exact ⟨rfl, HE.out⟩
end Go.Proofs.YtllhipfielgnbaaDoor

/-
  GetStep of package comp, whole.
-/
namespace Go.Proofs.YtllhipfielgnbaaDoor
open Go.RowKit
set_option linter.unusedVariables false
set_option maxRecDepth 100000

set_option maxHeartbeats 1000000 in
theorem step11_flds (B : Nat) (w0 : World) (ht : Tab w0) (br bx bk : Nat) (hbr : br ≠ 0) (g : Option Nat) (P : List Nat) (k : Nat) (hk : k < 256) (F : Nat → Int) (h0 : chk k F = 0) (h1 : w0.cell? ⟨bx, 0, none⟩ = some (.pointer (some ⟨br, 0, none⟩))) (h2 : Box w0 bk k F) (n1 : bx ≠ br) (n2 : bk ≠ br) :
    Flds 41 (.pointer (some ⟨bx, 0, none⟩)) (.pointer (some ⟨bk, 0, none⟩)) B w0 br g P (cnt k) (fun t j => (gs k F P t j).1) (fun t j => (gs k F P t j).2.1) (fun t j => (gs k F P t j).2.2) := by
  intro w t j hR hf hj
  have c1 : w.cell? ⟨bx, 0, none⟩ = some (.pointer (some ⟨br, 0, none⟩)) := (hf.cell (p := ⟨bx, 0, none⟩) (World.block_lt_of_cell? w0 _ h1) (by rintro (e | e); exact n1 e; cases e)).trans h1
  obtain ⟨p0, p1, p2, p3⟩ := (h2.fr1 hf n2).cells
  have G : Hid (∀ _ : Unit, _) := fun _ => getFieldStep_any B w (ht.fr1 hf hbr) br hbr g P t k j hk hj F (I32.of_chk h0) ((chk_ok k F h0).2.1 j hj) hR
  show Calls Tryd.prog 41 #[.int .i64 (j : Int), .pointer (some ⟨bx, 0, none⟩), .pointer (some ⟨bk, 0, none⟩)] w fun e w' => e = .returned (.tuple #[.int .i32 (gs k F P t j).2.1, .int .i64 (gs k F P t j).1]) ∧ GvEnd B w w' br g P t (gs k F P t j).1 (gs k F P t j).2.2
  generalize (gs k F P t j).1 = cd at *
  generalize (gs k F P t j).2.1 = v at *
  generalize (gs k F P t j).2.2 = n at *
  clear hR hf h1 h2 ht hj h0
  unfold cmp at *
  go_enter Tryd.func41, Tryd.ntmps41
  go_wp2_with fail
  refine (G.out ()).mono ?_
  rintro e w1 ⟨rfl, hE⟩
  have HE : Hid (GvEnd B w w1 br g P t cd n) := hE
  clear hE
  go_wp2
  go_ret2
  exact ⟨rfl, HE.out⟩

/-- the component behind F from place t on: error, fields, bits -/
def scode (k : Nat) (F : Nat → Int) (P : List Nat) (t : Nat) : Int := if chk k F = 0 then (rat (fun t j => (gs k F P t j).1) (fun t j => (gs k F P t j).2.2) t (cnt k)).1 else (chk k F : Nat)
def sfld (k : Nat) (F : Nat → Int) (P : List Nat) (t : Nat) : Nat → Int := upd (fun t j => (gs k F P t j).1) (fun t j => (gs k F P t j).2.1) (fun t j => (gs k F P t j).2.2) t F (cnt k)
def scons (k : Nat) (F : Nat → Int) (P : List Nat) (t : Nat) : Nat := if scode k F P t = 0 then (rat (fun t j => (gs k F P t j).1) (fun t j => (gs k F P t j).2.2) t (cnt k)).2 - t else 0

set_option maxHeartbeats 2000000 in
theorem step1_reads (B : Nat) (w0 : World) (ht : Tab w0) (br bx bk : Nat) (hbr : br ≠ 0) (g : Option Nat) (P : List Nat) (t k : Nat) (hk : k < 256) (F : Nat → Int) (h1 : w0.cell? ⟨bx, 0, none⟩ = some (.pointer (some ⟨br, 0, none⟩))) (h2 : Box w0 bk k F) (n1 : bx ≠ br) (n2 : bk ≠ br) :
    ReadsC 38 (.pointer (some ⟨bk, 0, none⟩)) (.pointer (some ⟨bx, 0, none⟩)) B w0 br g P t (scode k F P t) k (sfld k F P t) (scons k F P t) := by
  intro w hR hf
  have c1 : w.cell? ⟨bx, 0, none⟩ = some (.pointer (some ⟨br, 0, none⟩)) := (hf.cell (p := ⟨bx, 0, none⟩) (World.block_lt_of_cell? w0 _ h1) (by rintro (e | e); exact n1 e; cases e)).trans h1
  have hK : Box w bk k F := h2.fr1 hf n2
  have HK : Hid (Box w bk k F) := hK
  have hT : Tab w := ht.fr1 hf hbr
  have l1 := World.block_lt_of_cell? w _ c1
  have l2 : bk < w.heap.size := (Array.getElem?_eq_some_iff.1 hK).1
  have l3 := hR.lt
  have HR : Hid (Rd B w br g P t) := hR
  have HQ : Hid (Fr Nobody w (w.alloc (.cells (cmp 0 (f3 0 0 0)) 24))) := (Fr.refl _ _).alloc _
  have HX : Hid (Box (w.alloc (.cells (cmp 0 (f3 0 0 0)) 24)) w.heap.size 0 (f3 0 0 0)) := Box.new w 0 (f3 0 0 0)
  have HT : Hid (Tab w) := hT
  have C : Hid (∀ w, Tab w → Calls Tryd.prog 39 #[.agg (cmp k F)] w fun e w' => e = .returned (.int .i64 ((chk k F : Nat) : Int)) ∧ Fr Nobody w w') := fun w h => check_any w h k hk F
  have hbn : w.heap.size ≠ br := by omega
  obtain ⟨p0, p1, p2, p3⟩ := hK.cells
  have q2 : w.heap.size ≠ bk := by omega
  have E : Hid (∀ W, Fr Nobody w W → chk k F = 0 → _) := fun W hW h0 => eachField_step (.pointer (some ⟨bx, 0, none⟩)) (.pointer (some ⟨bk, 0, none⟩)) B W (hT.quiet hW) br hbr g P t k hk F _ _ _ (hR.quiet hW) (step11_flds B W (hT.quiet hW) br bx bk hbr g P k hk F h0 ((hW.cell (p := ⟨bx, 0, none⟩) l1 id).trans c1) (hK.quiet hW) n1 n2)
  clear hR hf ht hT h1 h2 hK c1
  by_cases h0 : chk k F = 0
  · have EG : Hid (scode k F P t = (rat (fun t j => (gs k F P t j).1) (fun t j => (gs k F P t j).2.2) t (cnt k)).1) := by show _ = _; unfold scode; rw [if_pos h0]
    have EN : Hid (scode k F P t = 0 → scons k F P t = (rat (fun t j => (gs k F P t j).1) (fun t j => (gs k F P t j).2.2) t (cnt k)).2 - t) := fun e => by unfold scons; rw [if_pos e]
    have EF : Hid (sfld k F P t = upd (fun t j => (gs k F P t j).1) (fun t j => (gs k F P t j).2.1) (fun t j => (gs k F P t j).2.2) t F (cnt k)) := rfl
    have E2 : Hid (∀ W, Fr Nobody w W → _) := fun W hW => E.out W hW h0
    rw [h0] at C
    clear E
    generalize (rat (fun t j => (gs k F P t j).1) (fun t j => (gs k F P t j).2.2) t (cnt k)).1 = rc at *
    generalize (rat (fun t j => (gs k F P t j).1) (fun t j => (gs k F P t j).2.2) t (cnt k)).2 - t = rn at *
    generalize upd (fun t j => (gs k F P t j).1) (fun t j => (gs k F P t j).2.1) (fun t j => (gs k F P t j).2.2) t F (cnt k) = RF at *
    unfold cmp at E2 C HQ HX
    go_enter Tryd.func38, Tryd.ntmps38
    go_wp2_with fail
    refine (C.out _ (HT.out.quiet HQ.out)).mono ?_
    rintro e w1 ⟨rfl, hf1⟩
    have HF1 : Hid (Fr Nobody w w1) := Fr.trans HQ.out hf1
    have X1 : Hid (Box w1 w.heap.size 0 (f3 0 0 0)) := Box.quiet HX.out hf1
    clear hf1 p0 p1 p2 p3
    obtain ⟨p0, p1, p2, p3⟩ := (HK.out.quiet HF1.out).cells
    go_wp2_with fail
    refine (E2.out _ HF1.out).mono ?_
    rintro e w2 ⟨F', rfl, hF', t', hR', hf', ht'⟩
    have X2 : Hid (Box w2 w.heap.size 0 (f3 0 0 0)) := X1.out.fr1 hf' hbn
    obtain ⟨y0, y1, y2, y3⟩ := X2.out.cells
    have z0 := X2.out.frozen 0
    have z1 := X2.out.frozen 1
    have z2 := X2.out.frozen 2
    have z3 := X2.out.frozen 3
    have HRX : Hid (Box (put4 w2 w.heap.size k F') w.heap.size k F') := put4_box X2.out
    have HRD : Hid (Rd B (put4 w2 w.heap.size k F') br g P t' ∧ Fr (At br none) w (put4 w2 w.heap.size k F') ∧ (rc = 0 → t' = t + rn) ∧ (rc = 0 → F' = RF)) := ⟨hR'.put4 X2.out, put4_fr1 ((HF1.out.mono (fun _ _ k => k.elim)).trans hf') (Nat.le_refl _), ht', hF'⟩
    clear hR' hf' ht' hF' X2 E2 C HX HT HQ X1 HF1 p0 p1 p2 p3
    simp only [f3] at y1 y2 y3
    go_wp2
    (try simp only [Exit.inBlock, Exit.then])
    refine bodyPost_ret (v := .tuple #[.agg #[.int .u8 (k : Int), .int .i32 (F' 0), .int .i32 (F' 1), .int .i32 (F' 2)], .int .i64 rc]) ?_ rfl ⟨k, F', by rw [EG.out]; rfl, fun e => by rw [HRD.out.2.2.2 (EG.out.symm.trans e), EF.out], t', HRD.out.1, HRD.out.2.1, fun e => by rw [EN.out e]; exact HRD.out.2.2.1 (EG.out.symm.trans e)⟩
    rw [results_cell_tmp rfl]
    obtain ⟨r0, r1, r2, r3⟩ := HRX.out.cells
    simp only [put4] at r0 r1 r2 r3
    go_simp
  · have EG : Hid (scode k F P t = ((chk k F : Nat) : Int)) := by show _ = _; unfold scode; rw [if_neg h0]
    have hne : (((chk k F : Nat) : Int) != 0) = true := by rw [bne_iff_ne]; omega
    have HNE : Hid (((chk k F : Nat) : Int) ≠ 0) := by show _ ≠ _; omega
    clear E h0
    generalize chk k F = cd at *
    unfold cmp at C HQ HX
    go_enter Tryd.func38, Tryd.ntmps38
    go_wp2_with fail
    refine (C.out _ (HT.out.quiet HQ.out)).mono ?_
    rintro e w1 ⟨rfl, hf1⟩
    have HF1 : Hid (Fr Nobody w w1) := Fr.trans HQ.out hf1
    have X1 : Hid (Box w1 w.heap.size 0 (f3 0 0 0)) := Box.quiet HX.out hf1
    clear hf1 p0 p1 p2 p3
    obtain ⟨p0, p1, p2, p3⟩ := (HK.out.quiet HF1.out).cells
    obtain ⟨y0, y1, y2, y3⟩ := X1.out.cells
    have z0 := X1.out.frozen 0
    have z1 := X1.out.frozen 1
    have z2 := X1.out.frozen 2
    have z3 := X1.out.frozen 3
    have HRX : Hid (Box (put4 w1 w.heap.size k F) w.heap.size k F) := put4_box X1.out
    have HRD : Hid (Rd B (put4 w1 w.heap.size k F) br g P t ∧ Fr (At br none) w (put4 w1 w.heap.size k F)) := ⟨(HR.out.quiet HF1.out).put4 X1.out, put4_fr1 (HF1.out.mono (fun _ _ k => k.elim)) (Nat.le_refl _)⟩
    simp only [f3] at y1 y2 y3
    go_wp2
    (try simp only [Exit.inBlock, Exit.then])
    refine bodyPost_ret (v := .tuple #[.agg #[.int .u8 (k : Int), .int .i32 (F 0), .int .i32 (F 1), .int .i32 (F 2)], .int .i64 (cd : Int)]) ?_ rfl ⟨k, F, by rw [EG.out]; rfl, fun e => absurd (EG.out.symm.trans e) HNE.out, t, HRD.out.1, HRD.out.2, fun e => absurd (EG.out.symm.trans e) HNE.out⟩
    rw [results_cell_tmp rfl]
    obtain ⟨r0, r1, r2, r3⟩ := HRX.out.cells
    simp only [put4] at r0 r1 r2 r3
    go_simp
end Go.Proofs.YtllhipfielgnbaaDoor
