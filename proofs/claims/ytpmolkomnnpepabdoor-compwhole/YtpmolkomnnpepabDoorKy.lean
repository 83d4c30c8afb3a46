/-
  Writing components: the program's Put and the document's; what was written is read again.
-/
import Derived.Test.YtpmolkomnnpepabDoorKp
namespace Go.Proofs.YtpmolkomnnpepabDoor
open Go.RowKit
set_option linter.unusedVariables false
set_option maxRecDepth 100000


/-- a writer's block, or bytes -/
def Wt (w : World) (k : Nat) : Prop := ∃ cur f, w.heap[k]? = some (.cells cur 75 f) ∨ w.heap[k]? = some (.cells cur 5 f)
def Wf (w w' : World) : Prop := Fr (Wt w) w w'
theorem Wf.refl (w : World) : Wf w w := Fr.refl _ _
theorem Wf.of_quiet {w w' : World} (h : Fr Nobody w w') : Wf w w' := h.mono (fun _ _ k => k.elim)
theorem Wf.trans {a b c : World} (h : Wf a b) (k : Wf b c) : Wf a c := by
  refine ⟨k.os.trans h.os, k.tape.trans h.tape, k.output.trans h.output, Nat.le_trans h.size k.size, fun i hi hs => ?_⟩
  have e := h.block i hi hs
  refine (k.block i (Nat.lt_of_lt_of_le hi h.size) ?_).trans e
  rintro ⟨cur, f, hc⟩
  rw [e] at hc
  exact hs ⟨cur, f, hc⟩
theorem Wf.quiet {a b c : World} (h : Wf a b) (k : Fr Nobody b c) : Wf a c := h.trans (Wf.of_quiet k)
theorem Box.wf {w w' : World} {b k : Nat} {F : Nat → Int} (h : Box w b k F) (hf : Wf w w') : Box w' b k F := by
  refine (hf.block b (Array.getElem?_eq_some_iff.1 h).1 ?_).trans h
  rintro ⟨cur, f, hc⟩
  unfold Box at h
  rw [h] at hc
  simp at hc
theorem Bo.wf {B : Nat} {w w' : World} {v : Value} {L : List Bool} (h : Bo B w v L) (hf : Wf w w') : Bo B w' v L := by
  refine h.keep hf ?_
  rintro k cur hk ⟨cur', f, hc⟩
  rw [hk] at hc
  simp at hc
theorem Bs.wf {w w' : World} {v : Value} {L : List Bool} (h : Bs w v L) (hf : Wf w w') : Bs w' v L := by
  refine h.keep hf ?_
  rintro k cur hk ⟨cur', f, hc⟩
  rw [hk] at hc
  simp at hc
theorem Wr.wt {B : Nat} {w : World} {b : Nat} {g : Option Nat} {L : List Bool} (h : Wr B w b g L) (k : Nat) (hk : At b g k) : Wt w k := by
  obtain ⟨v, h1, h2, h3⟩ := h.obj
  rcases hk with rfl | hk
  · exact ⟨_, _, .inl h1⟩
  · rcases h2.2 with ⟨rfl, _⟩ | ⟨g', cap, cur, rfl, _, hgg, _⟩
    · simp [Value.ownBlock] at h3
      rw [← h3] at hk; cases hk
    · simp [Value.ownBlock] at h3
      rw [← h3] at hk
      cases hk
      exact ⟨_, _, .inr hgg⟩

theorem put_wf (w0 w : World) (b : Nat) (L : List Bool) (v n : Nat) (x y : Int) (hx : x = (v : Int)) (hy : y = (n : Int)) (h : Ow w0 w b L) (hn : n ≤ 64) (hv : v < 2 ^ n) (hv2 : v < 18446744073709551616) (hl : L.length + n ≤ 1048576) :
    Calls Tryd.prog 35 #[.pointer (some ⟨b, 0, none⟩), .int .u64 x, .int .i64 y] w fun e w' => e = .returned (.int .i64 0) ∧ Ow w0 w' b (L ++ bitsN n v) ∧ Wf w w' := by
  subst hx; subst hy
  obtain ⟨g, hW, hF⟩ := h
  refine (put_ok _ w b g L v n hW hn hv hv2 hl).mono ?_
  rintro e w' ⟨rfl, g', hW', hs⟩
  exact ⟨rfl, ⟨g', hW', hF.fresh hs.fr (hW.lowAt)⟩, hs.fr.mono (fun k _ hk => hW.wt k hk)⟩

set_option maxHeartbeats 400000 in
theorem room_any (w0 w : World) (b : Nat) (L : List Bool) (h : Ow w0 w b L) (hl : L.length ≤ 1048576) :
    Calls Tryd.prog 41 #[.pointer (some ⟨b, 0, none⟩)] w fun e w' => e = .returned (.int .i64 ((1048576 - L.length : Nat) : Int)) ∧ Fr Nobody w w' := by
  have H : Hid (∀ _ : Unit, _) := fun _ => len_fr w0 w b L h
  clear h
  go_enter Tryd.func41, Tryd.ntmps41
  go_wp2_with fail
  refine (H.out ()).mono ?_
  rintro e w1 ⟨rfl, hf⟩
  have HF : Hid _ := hf
  clear hf H
  go_wp2
  go_ret
  exact ⟨ret_int (by omega), HF.out⟩

set_option maxHeartbeats 1000000 in
theorem putIn_wf (w0 w : World) (b : Nat) (L : List Bool) (n lo hi : Int) (d : Nat) (hd : n = lo + (d : Int)) (h : Ow w0 w b L) (h0 : -9223372036854775808 ≤ lo) (h1 : hi ≤ 9223372036854775807) (ha : lo ≤ n) (hb : n ≤ hi) (hl : L.length + 64 ≤ 1048576) :
    Calls Tryd.prog 67 #[.pointer (some ⟨b, 0, none⟩), .int .i64 n, .int .i64 lo, .int .i64 hi] w fun e w' => e = .returned (.int .i64 0) ∧ Ow w0 w' b (L ++ bitsN (wid lo hi) d) ∧ Wf w w' := by
  have hle : lo ≤ hi := by omega
  have H : Hid (Ow w0 w b L) := h
  have ed : (n - lo).toNat = d := by omega
  have HI : Hid (d < 2 ^ wid lo hi) := ed ▸ in_lt n lo hi h0 h1 ha hb
  have HW : Hid (wid lo hi ≤ 64) := wid_le lo hi h0 h1
  have G1 : Hid (∀ w, _) := fun w => span_any lo n d w h0 (by omega) hd
  have G2 : Hid (∀ w, _) := fun w => width_any lo hi w h0 h1 (by omega) (by omega)
  have hdl : d < 18446744073709551616 := by omega
  clear h hd ed
  generalize wid lo hi = m at *
  go_enter Tryd.func67, Tryd.ntmps67
  go_wp2_with fail
  refine (G1.out _).mono ?_
  rintro e w' ⟨rfl, rfl⟩
  go_wp2_with fail
  refine (G2.out _).mono ?_
  rintro e w' ⟨rfl, rfl⟩
  go_wp2_with fail
  refine (put_wf w0 _ b L d m _ _ rfl rfl H.out HW.out HI.out hdl (by have := HW.out; omega)).mono ?_
  rintro e w1 ⟨rfl, hW, hf⟩
  go_wp2
  go_ret
  exact ⟨rfl, hW, hf⟩

/-- a field's bits -/
def fb (k : Nat) (F : Nat → Int) (j : Nat) : List Bool := bitsN (wd k j) (F j - lo k j).toNat
theorem length_fb (k : Nat) (F : Nat → Int) (j : Nat) : (fb k F j).length = wd k j := length_bitsN _ _
set_option maxHeartbeats 1000000 in
theorem putField_any (w0 w : World) (ht : Tab w0) (b : Nat) (L : List Bool) (k j : Nat) (hk : k < 256) (hj : j < cnt k) (F : Nat → Int) (h : Ow w0 w b L) (hr : lo k j ≤ F j ∧ F j ≤ hi k j) (hl : L.length + 64 ≤ 1048576) :
    Calls Tryd.prog 43 #[.pointer (some ⟨b, 0, none⟩), .agg (cmp k F), .int .i64 (j : Int)] w fun e w' => e = .returned (.int .i64 0) ∧ Ow w0 w' b (L ++ fb k F j) ∧ Wf w w' := by
  have hc := cnt_le k
  have hj3 : j < 3 := by omega
  have HB : Hid (Box (w.alloc (.cells (cmp k F) 24)) w.heap.size k F) := Box.new w k F
  have HF : Hid (Fr Nobody w (w.alloc (.cells (cmp k F) 24))) := (Fr.refl _ _).alloc _
  have H : Hid (Ow w0 w b L) := h
  have HT : Hid (Tab w0) := ht
  have R : Hid (∀ w, Tab w → _) := fun w h => range_ok w h k hk j hj
  obtain ⟨l0, l1, l2, l3⟩ := rng_ok k j hj
  have P : Hid (∀ w, Ow w0 w b L → Calls Tryd.prog 67 #[.pointer (some ⟨b, 0, none⟩), .int .i64 (F j), .int .i64 (lo k j), .int .i64 (hi k j)] w fun e w' => e = .returned (.int .i64 0) ∧ Ow w0 w' b (L ++ fb k F j) ∧ Wf w w') := fun w hw => putIn_wf w0 w b L (F j) (lo k j) (hi k j) (F j - lo k j).toNat (by omega) hw (by omega) (by omega) hr.1 hr.2 hl
  obtain ⟨r0, r1⟩ := hr
  clear h ht hc hj
  generalize fb k F j = M at *
  generalize lo k j = x at *
  generalize hi k j = y at *
  unfold cmp at *
  go_enter Tryd.func43, Tryd.ntmps43
  go_wp2_with fail
  refine (R.out _ (HT.out.quiet (H.out.quiet HF.out).fr)).mono ?_
  rintro e w1 ⟨rfl, hf1⟩
  have x1 := (Box.quiet HB.out hf1).at j hj3
  have HF1 : Hid (Fr Nobody w w1) := HF.out.trans hf1
  clear hf1
  generalize F j = f at *
  go_wp2_with fail
  refine (P.out _ (H.out.quiet HF1.out)).mono ?_
  rintro e w2 ⟨rfl, hW, hf2⟩
  have HW : Hid (Ow w0 w2 b (L ++ M)) := hW
  have HF2 : Hid (Wf w w2) := (Wf.of_quiet HF1.out).trans hf2
  clear hW hf2
  go_wp2
  go_ret
  exact ⟨rfl, HW.out, HF2.out⟩

/-- the bits of the first fields -/
def cb (k : Nat) (F : Nat → Int) : Nat → List Bool
  | 0 => []
  | n + 1 => cb k F n ++ fb k F n
theorem length_cb (k : Nat) (F : Nat → Int) (n : Nat) : (cb k F n).length = bsum k n := by
  induction n with
  | zero => rfl
  | succ n ih => rw [cb, List.length_append, ih, length_fb]; rfl
theorem chk_ok (k : Nat) (F : Nat → Int) (h : chk k F = 0) : k < 6 ∧ (∀ j, j < cnt k → lo k j ≤ F j ∧ F j ≤ hi k j) ∧ ∀ j, cnt k ≤ j → j < 3 → F j = 0 := by
  unfold chk at h
  by_cases h6 : 6 ≤ k
  · rw [if_pos h6] at h; cases h
  · rw [if_neg h6] at h
    cases hs : stray k F with
    | true => rw [hs, if_pos rfl] at h; cases h
    | false =>
      rw [hs, if_neg (by decide)] at h
      cases ho : outside k F with
      | true => rw [ho, if_pos rfl] at h; cases h
      | false => exact ⟨by omega, fun j hj => outside_no k j F ho hj, fun j hj h3 => stray_no k j F hs hj h3⟩
theorem bits_le (k : Nat) : bitsK k ≤ 60 := by
  have := bsum_le k (cnt k) (Nat.le_refl _)
  have := cnt_le k
  unfold bitsK; omega

set_option maxHeartbeats 1000000 in
theorem putC_err (w0 w : World) (ht : Tab w0) (b k : Nat) (hk : k < 256) (F : Nat → Int) (hf : Fr Nobody w0 w) (h0 : chk k F ≠ 0) :
    Calls Tryd.prog 12 #[.pointer (some ⟨b, 0, none⟩), .agg (cmp k F)] w fun e w' => e = .returned (.int .i64 ((chk k F : Nat) : Int)) ∧ Fr Nobody w w' := by
  have HT : Hid (Tab w) := ht.quiet hf
  have HF : Hid (Fr Nobody w (w.alloc (.cells (cmp k F) 24))) := (Fr.refl _ _).alloc _
  have C1 : Hid (∀ w, Tab w → Calls Tryd.prog 39 #[.agg (cmp k F)] w fun e w' => e = .returned (.int .i64 ((chk k F : Nat) : Int)) ∧ Fr Nobody w w') := fun w h => check_any w h k hk F
  generalize chk k F = x at *
  have hne : ((x : Int) != 0) = true := by rw [bne_iff_ne]; omega
  clear ht hf h0
  unfold cmp at *
  go_enter Tryd.func12, Tryd.ntmps12
  go_wp2_with fail
  refine (C1.out _ (HT.out.quiet HF.out)).mono ?_
  rintro e w1 ⟨rfl, hf1⟩
  have HF1 : Hid (Fr Nobody w w1) := HF.out.trans hf1
  clear hf1
  go_wp2
  go_ret
  exact ⟨rfl, HF1.out⟩

set_option maxHeartbeats 2000000 in
theorem putC_ok (w0 w : World) (ht : Tab w0) (b : Nat) (L : List Bool) (k : Nat) (hk : k < 256) (F : Nat → Int) (h : Ow w0 w b L) (h0 : chk k F = 0) (hl : L.length + 200 ≤ 1048576) :
    Calls Tryd.prog 12 #[.pointer (some ⟨b, 0, none⟩), .agg (cmp k F)] w fun e w' => e = .returned (.int .i64 0) ∧ Ow w0 w' b (L ++ cb k F (cnt k)) ∧ Wf w w' := by
  obtain ⟨h6, hr, _⟩ := chk_ok k F h0
  have HT : Hid (Tab w0) := ht
  have H : Hid (Ow w0 w b L) := h
  have hc := cnt_le k
  have HB : Hid (Box (w.alloc (.cells (cmp k F) 24)) w.heap.size k F) := Box.new w k F
  have HF : Hid (Fr Nobody w (w.alloc (.cells (cmp k F) 24))) := (Fr.refl _ _).alloc _
  have C1 : Hid (∀ w, Tab w → Calls Tryd.prog 39 #[.agg (cmp k F)] w fun e w' => e = .returned (.int .i64 0) ∧ Fr Nobody w w') := fun w h => by have := check_any w h k hk F; rw [h0] at this; exact this
  have B : Hid (∀ w, Tab w → _) := fun w h => bits_any w h k hk
  have hbk := bits_le k
  obtain ⟨c, ec⟩ : ∃ c, cnt k = c := ⟨_, rfl⟩
  have C : Hid (∀ w, Tab w → Calls Tryd.prog 42 #[.int .u8 (k : Int)] w fun e w' => e = .returned (.int .i64 (c : Int)) ∧ w' = w) := fun w h => by have := count_any w h k hk; rw [ec] at this; exact this
  have P : Hid (∀ w j M, Ow w0 w b M → j < c → M.length + 64 ≤ 1048576 → _) := fun w j M hM hj hl => putField_any w0 w ht b M k j hk (by rw [ec]; exact hj) F hM (hr j (by rw [ec]; exact hj)) hl
  have HL : Hid (∀ j, j ≤ c → (cb k F j).length ≤ 60) := fun j hj => by rw [length_cb]; have := bsum_le k j (by rw [ec]; exact hj); omega
  rw [ec] at hc
  rw [ec]
  have R : Hid (∀ w, Ow w0 w b L → _) := fun w hw => room_any w0 w b L hw (by omega)
  generalize hbq : bitsK k = bq at *
  obtain ⟨rm, erm⟩ : ∃ rm, 1048576 - L.length = rm := ⟨_, rfl⟩
  rw [erm] at R
  have hrm : bq ≤ rm := by omega
  clear ht h h0 hr ec hbq
  have HN : Hid (L.length + 200 ≤ 1048576) := hl
  clear erm hl
  unfold cmp at *
  go_enter Tryd.func12, Tryd.ntmps12
  go_wp2_with fail
  refine (C1.out _ (HT.out.quiet (H.out.quiet HF.out).fr)).mono ?_
  rintro e w1 ⟨rfl, hf1⟩
  have HF1 : Hid (Fr Nobody w w1) := HF.out.trans hf1
  have B1 : Hid (Box w1 w.heap.size k F) := Box.quiet HB.out hf1
  have c0 := B1.out.kind
  clear hf1
  go_wp2_with fail
  refine (B.out _ (HT.out.quiet (H.out.quiet HF1.out).fr)).mono ?_
  rintro e w2 ⟨rfl, hf2⟩
  have HF2 : Hid (Fr Nobody w w2) := HF1.out.trans hf2
  have B2 : Hid (Box w2 w.heap.size k F) := B1.out.quiet hf2
  clear hf2 c0
  go_wp2_with fail
  refine (R.out _ (H.out.quiet HF2.out)).mono ?_
  rintro e w3 ⟨rfl, hf3⟩
  have HF3 : Hid (Fr Nobody w w3) := HF2.out.trans hf3
  have B3 : Hid (Box w3 w.heap.size k F) := B2.out.quiet hf3
  have c0 := B3.out.kind
  clear hf3
  go_wp2_with fail
  refine (C.out _ (HT.out.quiet (H.out.quiet HF3.out).fr)).mono ?_
  rintro e w4 ⟨rfl, rfl⟩
  have HO : Hid (Ow w0 w4 b L) := H.out.quiet HF3.out
  have HW : Hid (Wf w w4) := Wf.of_quiet HF3.out
  clear HF HF1 HF2 B1 B2 HB
  go_wp2
  go_loopw [24] (fun a wr => ∃ j : Nat, j ≤ c ∧ a = .int .i64 j ∧ Ow w0 wr b (L ++ cb k F j) ∧ Box wr w.heap.size k F ∧ Wf w wr) (fun a _ => c - (intOf a).toNat)
  case atStart => exact ⟨0, by omega, rfl, by simpa [cb] using HO.out, B3.out, HW.out⟩
  case round =>
    obtain ⟨j, hj, rfl, ho, hb, hw⟩ := hrel
    have HO2 : Hid (Ow w0 wr b (L ++ cb k F j)) := ho
    have HB2 : Hid (Box wr w.heap.size k F) := hb
    have HW2 : Hid (Wf w wr) := hw
    clear ho hb hw
    by_cases hlt : j < c
    · obtain ⟨p0, p1, p2, p3⟩ := HB2.out.cells
      have PJ : Hid (∀ _ : Unit, _) := fun _ => P.out wr j (L ++ cb k F j) HO2.out hlt (by have := HL.out j (by omega); have := HN.out; rw [List.length_append]; omega)
      go_wp2_with fail
      refine (PJ.out ()).mono ?_
      rintro e w5 ⟨rfl, hw5, hf5⟩
      have HO3 : Hid (Ow w0 w5 b (L ++ cb k F (j + 1))) := by
        show Ow _ _ _ _
        rw [cb, ← List.append_assoc]; exact hw5
      have HB3 : Hid (Box w5 w.heap.size k F) := HB2.out.wf hf5
      have HW3 : Hid (Wf w w5) := HW2.out.trans hf5
      clear hw5 hf5 PJ
      go_wp2
      go_roundw
      case rel => exact ⟨j + 1, by omega, by go_num, HO3.out, HB3.out, HW3.out⟩
      case measure => simp [intOf]; omega
    · have e : j = c := by omega
      subst e
      go_wp2
      go_ret
      exact ⟨rfl, HO2.out, HW2.out⟩

theorem Box.grown {B : Nat} {w w' : World} {b k : Nat} {F : Nat → Int} {v : Value} {L : List Bool} (h : Box w b k F) (hv : Bo B w v L) (hg : w.grownBy w' v.ownBlock) : Box w' b k F := by
  refine (hg.block b (Array.getElem?_eq_some_iff.1 h).1 ?_).trans h
  intro e
  rcases hv.2 with ⟨rfl, _⟩ | ⟨g', cap, cur, rfl, _, hgg, _⟩
  · simp [Value.ownBlock] at e
  · simp [Value.ownBlock] at e
    subst e
    unfold Box at h
    rw [hgg] at h
    simp at h

set_option maxHeartbeats 1000000 in
theorem rputC_err (w : World) (k : Nat) (hk : k < 256) (F : Nat → Int) (h0 : chk k F ≠ 0) :
    Calls Tryd.prog 11 #[.agg (cmp k F)] w fun e w' => e = .returned (.tuple #[.slice none 0 0, .int .i64 ((chk k F : Nat) : Int)]) ∧ Fr Nobody w w' := by
  have HF : Hid (Fr Nobody w (w.alloc (.cells (cmp k F) 24))) := (Fr.refl _ _).alloc _
  have C : Hid (∀ w, Calls Tryd.prog 31 #[.agg (cmp k F)] w fun e w' => e = .returned (.int .i64 ((chk k F : Nat) : Int)) ∧ Fr Nobody w w') := fun w => rcheck_any w k hk F
  generalize chk k F = x at *
  have hne : ((x : Int) != 0) = true := by rw [bne_iff_ne]; omega
  clear h0
  unfold cmp at *
  go_enter Tryd.func11, Tryd.ntmps11
  go_wp2_with fail
  refine (C.out _).mono ?_
  rintro e w1 ⟨rfl, hf1⟩
  have HF1 : Hid (Fr Nobody w w1) := HF.out.trans hf1
  clear hf1
  go_wp2
  go_ret2
  exact ⟨rfl, HF1.out⟩

set_option maxHeartbeats 2000000 in
theorem rputC_ok (w : World) (k : Nat) (hk : k < 256) (F : Nat → Int) (h0 : chk k F = 0) :
    Calls Tryd.prog 11 #[.agg (cmp k F)] w fun e w' => ∃ v, e = .returned (.tuple #[v, .int .i64 0]) ∧ Bo w.heap.size w' v (cb k F (cnt k)) ∧ Fr Nobody w w' := by
  obtain ⟨h6, hr, _⟩ := chk_ok k F h0
  have hc := cnt_le k
  have HB : Hid (Box (w.alloc (.cells (cmp k F) 24)) w.heap.size k F) := Box.new w k F
  have HF : Hid (Fr Nobody w (w.alloc (.cells (cmp k F) 24))) := (Fr.refl _ _).alloc _
  have K : Hid (∀ w, Calls Tryd.prog 31 #[.agg (cmp k F)] w fun e w' => e = .returned (.int .i64 0) ∧ Fr Nobody w w') := fun w => by have := rcheck_any w k hk F; rw [h0] at this; exact this
  have C : Hid (∀ w, _) := fun w => rcount_any w k hk
  have R : Hid (∀ w j, j < cnt k → _) := fun w j hj => rrange_ok w k j hj
  have RB : Hid (∀ j, j < cnt k → (-524288 ≤ lo k j ∧ lo k j ≤ 1 ∧ 7 ≤ hi k j ∧ hi k j ≤ 524287) ∧ lo k j ≤ F j ∧ F j ≤ hi k j) := fun j hj => ⟨rng_ok k j hj, hr j hj⟩
  have I : Hid (∀ w j, j < cnt k → Calls Tryd.prog 38 #[.int .i64 (F j), .int .i64 (lo k j), .int .i64 (hi k j)] w fun e w' => ∃ v, e = .returned (.tuple #[v, .int .i64 0]) ∧ Bo w.heap.size w' v (fb k F j) ∧ Fr Nobody w w') := fun w j hj => by
    obtain ⟨l0, l1, l2, l3⟩ := rng_ok k j hj
    have := hr j hj
    exact rin_ok (F j) (lo k j) (hi k j) (F j - lo k j).toNat w (by omega) (by omega) (by omega) this.1 this.2
  have HL : Hid (∀ j, j ≤ cnt k → (cb k F j).length ≤ 60) := fun j hj => by rw [length_cb]; have := bsum_le k j hj; omega
  have HL2 : Hid (∀ j, j < cnt k → (fb k F j).length ≤ 60) := fun j hj => by rw [length_fb]; have := wd_le k j hj; omega
  clear h0 hr
  generalize cnt k = c at *
  unfold cmp at *
  go_enter Tryd.func11, Tryd.ntmps11
  go_wp2_with fail
  refine (K.out _).mono ?_
  rintro e w1 ⟨rfl, hf1⟩
  have F1 : Hid (Fr Nobody w w1) := HF.out.trans hf1
  have B1 : Hid (Box w1 w.heap.size k F) := Box.quiet HB.out hf1
  have c0 := B1.out.kind
  clear hf1
  go_wp2_with fail
  refine (C.out _).mono ?_
  rintro e w2 ⟨rfl, hf2⟩
  have F2 : Hid (Fr Nobody w w2) := F1.out.trans hf2
  have B2 : Hid (Box w2 w.heap.size k F) := B1.out.quiet hf2
  clear hf2 c0 F1 B1 HB HF K
  go_wp2
  go_loopw [5, 20] (fun u a wr => ∃ j : Nat, j ≤ c ∧ a = .int .i64 j ∧ Bo w.heap.size wr u (cb k F j) ∧ Box wr w.heap.size k F ∧ Fr Nobody w wr) (fun _ a _ => c - (intOf a).toNat)
  case atStart => exact ⟨0, by omega, rfl, Bo.nil _ _, B2.out, F2.out⟩
  case round =>
    obtain ⟨j, hj, rfl, hu, hb, hf⟩ := hrel
    have U : Hid (Bo w.heap.size wr u5 (cb k F j)) := hu
    have B3 : Hid (Box wr w.heap.size k F) := hb
    have F3 : Hid (Fr Nobody w wr) := hf
    clear hu hb hf B2 F2
    by_cases hlt : j < c
    · have RJ : Hid (∀ w, _) := fun w => R.out w j hlt
      have IJ : Hid (∀ w, _) := fun w => I.out w j hlt
      obtain ⟨⟨l0, l1, l2, l3⟩, r0, r1⟩ := RB.out j hlt
      have hl1 := HL.out j (by omega)
      have hl2 := HL2.out j hlt
      have HCB : Hid (cb k F (j + 1) = cb k F j ++ fb k F j) := rfl
      have c0 := B3.out.kind
      generalize lo k j = x at *
      generalize hi k j = y at *
      generalize fb k F j = M at *
      generalize cb k F j = L at *
      go_wp2_with fail
      refine (RJ.out _).mono ?_
      rintro e w3 ⟨rfl, hf3⟩
      have F4 : Hid (Fr Nobody wr w3) := hf3
      have c1 := (B3.out.quiet hf3).at j (by omega)
      clear hf3
      generalize F j = f at *
      go_wp2_with fail
      refine (IJ.out _).mono ?_
      rintro e w4 ⟨v4, rfl, hV4, hf4⟩
      have F5 : Hid (Fr Nobody wr w4) := F4.out.trans hf4
      have V4 : Hid (Bs w4 v4 M) := hV4.bs
      have U4 : Hid (Bo w.heap.size w4 u5 L) := U.out.quiet F5.out
      have B4 : Hid (Box w4 w.heap.size k F) := B3.out.quiet F5.out
      have F6 : Hid (Fr Nobody w w4) := F3.out.trans F5.out
      clear hV4 hf4 c0 c1
      go_wp2_with (at_builtin; refine append_bits rfl _ _ rfl w.heap.size _ _ L M U4.out V4.out (by omega) (by omega) F6.out.size rfl rfl ?_)
      intro v5 w5 hU5 hg5
      have U5 : Hid (Bo w.heap.size w5 v5 (cb k F (j + 1))) := by rw [HCB.out]; exact hU5
      have B5 : Hid (Box w5 w.heap.size k F) := B4.out.grown U4.out hg5
      have F7 : Hid (Fr Nobody w w5) := F6.out.grown hg5 (fun q hq => .inr (World.ownsRow.lt U4.out q hq).1)
      clear hU5 hg5
      go_wp2
      go_roundw
      case rel => exact ⟨j + 1, by omega, by go_num, U5.out, B5.out, F7.out⟩
      case measure => simp [intOf]; omega
    · have e : j = c := by omega
      subst e
      go_wp2
      go_ret2
      exact ⟨_, rfl, U.out, F3.out⟩

/-- so many ones -/
def ones (k : Nat) : List Bool := bitsN k (2 ^ k - 1)
theorem length_ones (k : Nat) : (ones k).length = k := length_bitsN _ _

set_option maxHeartbeats 2000000 in
theorem ahead_any (w : World) (n k : Nat) (hn : n < 256) (hk : (n : Int) % 16 = (k : Int)) (hk2 : k < 16) :
    Calls Tryd.prog 10 #[.int .u8 (n : Int)] w fun e w' => ∃ b v, e = .returned (.tuple #[.pointer (some ⟨b, 0, none⟩), v]) ∧ Ow w w' b (ones k) ∧ Bo w.heap.size w' v (ones k) := by
  have hp : 2 ^ k ≤ 32768 := Nat.pow_le_pow_right (by decide) (show k ≤ 15 by omega)
  have hp1 : 1 ≤ 2 ^ k := Nat.one_le_two_pow
  have P : Hid (∀ w1 b x, Ow w w1 b [] → x = ((2 ^ k - 1 : Nat) : Int) → Calls Tryd.prog 35 #[.pointer (some ⟨b, 0, none⟩), .int .u64 x, .int .i64 (k : Int)] w1 fun e w' => e = .returned (.int .i64 0) ∧ Ow w w' b (ones k) ∧ Wf w1 w') := fun w1 b x h hx => by
    have := put_wf w w1 b [] (2 ^ k - 1) k x k hx rfl h (by omega) (by omega) (by omega) (by simp; omega)
    exact this
  have Q : Hid (∀ w1 b x, Ow w w1 b (ones k) → x = ((2 ^ k - 1 : Nat) : Int) → Calls Tryd.prog 36 #[.slice none 0 0, .int .u64 x, .int .i64 (k : Int)] w1 fun e w' => ∃ v', e = .returned (.tuple #[v', .int .i64 0]) ∧ Bo w.heap.size w' v' (ones k) ∧ Ow w w' b (ones k)) := fun w1 b x h hx => by
    subst hx
    have := rput_keep w w1 b (.slice none 0 0) (ones k) [] (2 ^ k - 1) k h (Bo.nil _ _) (by simp; omega) (by omega) (by omega) (by omega)
    exact this
  have HV : Hid (IntKind.u64.wrap (IntKind.u64.wrap (2 ^ k) - 1) = ((2 ^ k - 1 : Nat) : Int)) := by
    show _ = _
    have e0 : (2 : Int) ^ k = ((2 ^ k : Nat) : Int) := by rw [Int.natCast_pow]; rfl
    simp only [wrapU]
    rw [e0]
    omega
  clear hp hp1
  go_enter Tryd.func10, Tryd.ntmps10
  go_wp2_with fail
  refine (new_ow w w (Fr.refl _ _)).mono ?_
  rintro e w1 ⟨b, rfl, _, hO⟩
  have O1 : Hid (Ow w w1 b []) := hO
  clear hO
  go_wp2_with fail
  refine (P.out w1 b _ O1.out HV.out).mono ?_
  rintro e w2 ⟨rfl, hO, _⟩
  have O2 : Hid (Ow w w2 b (ones k)) := hO
  clear hO O1
  go_wp2_with fail
  refine (Q.out w2 b _ O2.out HV.out).mono ?_
  rintro e w3 ⟨v3, rfl, hB, hO⟩
  have O3 : Hid (Ow w w3 b (ones k) ∧ Bo w.heap.size w3 v3 (ones k)) := ⟨hO, hB⟩
  clear hO hB O2
  go_wp2
  go_ret2
  exact ⟨b, v3, rfl, O3.out.1, O3.out.2⟩

theorem gi_back (x y v : Int) (R : List Bool) (h0 : -9223372036854775808 ≤ x) (h1 : y ≤ 9223372036854775807) (ha : x ≤ v) (hb : v ≤ y) : gi x y (bitsN (wid x y) (v - x).toNat ++ R) = (0, v, wid x y) := by
  have hlt := in_lt v x y h0 h1 ha hb
  have ht : (bitsN (wid x y) (v - x).toNat ++ R).take (wid x y) = bitsN (wid x y) (v - x).toNat := by
    rw [List.take_append_of_le_length (by rw [length_bitsN]; exact Nat.le_refl _), List.take_of_length_le (by rw [length_bitsN]; exact Nat.le_refl _)]
  unfold gi
  rw [if_neg (by omega), if_neg (by rw [List.length_append, length_bitsN]; omega), ht, num_bitsN, Nat.mod_eq_of_lt hlt, if_neg (by omega)]
  have : x + (((v - x).toNat : Nat) : Int) = v := by omega
  rw [this]
theorem cb_split (k : Nat) (F : Nat → Int) (c j : Nat) (h : j < c) : ∃ R, cb k F c = cb k F j ++ (fb k F j ++ R) := by
  induction c with
  | zero => omega
  | succ c ih =>
    by_cases e : j = c
    · subst e; exact ⟨[], by rw [cb, List.append_nil]⟩
    · obtain ⟨R, hR⟩ := ih (by omega)
      exact ⟨R ++ fb k F c, by rw [cb, hR]; simp [List.append_assoc]⟩
theorem gf_back (k : Nat) (F : Nat → Int) (P : List Nat) (A Z : List Bool) (hP : bitsB P = A ++ (cb k F (cnt k) ++ Z)) (hr : ∀ j, j < cnt k → lo k j ≤ F j ∧ F j ≤ hi k j) (j : Nat) (hj : j < cnt k) :
    gf k P (A.length + bsum k j) j = (0, F j, wd k j) := by
  obtain ⟨l0, l1, l2, l3⟩ := rng_ok k j hj
  obtain ⟨R, hR⟩ := cb_split k F (cnt k) j hj
  have e : (bitsB P).drop (A.length + bsum k j) = fb k F j ++ (R ++ Z) := by
    rw [hP, hR, ← List.drop_drop, List.drop_left, List.append_assoc, ← length_cb k F j, List.drop_left, List.append_assoc]
  unfold gf
  rw [e]
  exact gi_back (lo k j) (hi k j) (F j) _ (by omega) (by omega) (hr j hj).1 (hr j hj).2
/-- the fields of what lies between A and Z, read from A's end on -/
theorem rat_back (k : Nat) (F : Nat → Int) (P : List Nat) (A Z : List Bool) (hP : bitsB P = A ++ (cb k F (cnt k) ++ Z)) (hr : ∀ j, j < cnt k → lo k j ≤ F j ∧ F j ≤ hi k j) :
    ∀ j, j ≤ cnt k → rat (fun t j => (gf k P t j).1) (fun t j => (gf k P t j).2.2) A.length j = (0, A.length + bsum k j) := by
  intro j
  induction j with
  | zero => intro _; rfl
  | succ j ih =>
    intro hj
    have hi' := ih (by omega)
    rw [rat, hi', if_pos rfl]
    have := gf_back k F P A Z hP hr j (by omega)
    rw [this, bsum, Nat.add_assoc]
/-- a component between A and Z is read whole -/
theorem get_back (k : Nat) (F : Nat → Int) (P : List Nat) (A Z : List Bool) (hP : bitsB P = A ++ (cb k F (cnt k) ++ Z)) (h0 : chk k F = 0) :
    gcode k P A.length = 0 ∧ gcons k P A.length = bitsK k ∧ cmp k (gfld k P A.length) = cmp k F := by
  obtain ⟨h6, hr, hz⟩ := chk_ok k F h0
  have hc := cnt_pos k h6
  have hr1 := rat_back k F P A Z hP hr (cnt k) (Nat.le_refl _)
  have g0 : gcode k P A.length = 0 := by unfold gcode; rw [if_neg (by omega), hr1]
  refine ⟨g0, ?_, ?_⟩
  · unfold gcons
    rw [if_pos g0, hr1]
    show A.length + bsum k (cnt k) - A.length = bitsK k
    unfold bitsK; omega
  · have hf : ∀ j, j < 3 → gfld k P A.length j = F j := by
      intro j hj
      unfold gfld upd
      by_cases hc : j < cnt k
      · rw [if_pos hc, rat_back k F P A Z hP hr j (by omega)]
        show (gf k P (A.length + bsum k j) j).2.1 = F j
        rw [gf_back k F P A Z hP hr j hc]
      · rw [if_neg hc, hz j (by omega) hj]
        have : j = 0 ∨ j = 1 ∨ j = 2 := by omega
        rcases this with rfl | rfl | rfl <;> rfl
    unfold cmp
    rw [hf 0 (by decide), hf 1 (by decide), hf 2 (by decide)]
end Go.Proofs.YtpmolkomnnpepabDoor
