/-
  Changed of package comp; what is known of a step's length.
-/
import Derived.Test.YtllhipfielgnbaaDoorKfg
namespace Go.Proofs.YtllhipfielgnbaaDoor
open Go.RowKit
set_option linter.unusedVariables false
set_option maxRecDepth 100000

def dif (F G : Nat → Int) (j : Nat) : Nat := if F j = G j then 0 else 1
def chg (F G : Nat → Int) : Nat → Nat
  | 0 => 0
  | n + 1 => chg F G n + dif F G n * 2 ^ n
theorem dif_le (F G : Nat → Int) (j : Nat) : dif F G j ≤ 1 := by unfold dif; split <;> omega
theorem chg_lt (F G : Nat → Int) (n : Nat) : chg F G n < 2 ^ n := by
  induction n with
  | zero => simp [chg]
  | succ n ih =>
    have h := dif_le F G n
    have h2 : dif F G n * 2 ^ n ≤ 1 * 2 ^ n := Nat.mul_le_mul_right _ h
    rw [chg, Nat.pow_succ]; omega
theorem chg_bit (F G : Nat → Int) (j : Nat) (hj : j < 3) : chg F G 3 / 2 ^ j % 2 = dif F G j := by
  have h0 := dif_le F G 0
  have h1 := dif_le F G 1
  have h2 := dif_le F G 2
  simp only [chg]
  have : j = 0 ∨ j = 1 ∨ j = 2 := by omega
  rcases this with rfl | rfl | rfl <;> simp <;> omega
theorem chg_zero (F G : Nat → Int) (h : chg F G 3 = 0) (j : Nat) (hj : j < 3) : F j = G j := by
  have := chg_bit F G j hj
  rw [h] at this
  unfold dif at this
  apply Classical.byContradiction
  intro hn
  rw [if_neg hn] at this
  simp at this

set_option maxHeartbeats 2000000 in
theorem changed_any (w : World) (k k' : Nat) (F G : Nat → Int) :
    Calls Tryd.prog 18 #[.agg (cmp k F), .agg (cmp k' G)] w fun e w' => e = .returned (.int .u8 ((chg F G 3 : Nat) : Int)) ∧ Fr Nobody w w' := by
  obtain ⟨b1, b2, hf⟩ := boxes w k k' F G
  have HF : Hid (Fr Nobody w _) := hf
  have HB1 : Hid (Box _ w.heap.size k F) := b1
  have HB2 : Hid (Box _ (w.heap.size + 1) k' G) := b2
  clear hf b1 b2
  unfold cmp at *
  go_enter Tryd.func18, Tryd.ntmps18
  go_wp2
  go_loopw [5, 7] (fun a b wr => ∃ j : Nat, j ≤ 3 ∧ b = .int .i64 j ∧ a = .int .u8 (chg F G j : Nat) ∧ Box wr w.heap.size k F ∧ Box wr (w.heap.size + 1) k' G ∧ Fr Nobody w wr) (fun _ b _ => 3 - (intOf b).toNat)
  case atStart => exact ⟨0, by omega, rfl, rfl, HB1.out, HB2.out, HF.out⟩
  case round =>
    obtain ⟨j, hj, rfl, rfl, hb1, hb2, hf⟩ := hrel
    have HG : Hid (Fr Nobody w wr) := hf
    have B1 : Hid (Box wr w.heap.size k F) := hb1
    have B2 : Hid (Box wr (w.heap.size + 1) k' G) := hb2
    clear hf hb1 hb2
    by_cases hlt : j < 3
    · have x1 := B1.out.at j hlt
      have x2 := B2.out.at j hlt
      have HS : Hid (chg F G (j + 1) = chg F G j + dif F G j * 2 ^ j) := rfl
      have hm := chg_lt F G j
      by_cases he : F j = G j
      · have hd : dif F G j = 0 := by unfold dif; rw [if_pos he]
        rw [hd] at HS
        rw [he] at x1
        clear hd he
        generalize G j = g at *
        generalize chg F G j = m at *
        go_wp2
        go_quiet (fail)
        have HG2 : Hid (Fr Nobody w (wr.drewN nq)) := HG.out.drewN nq
        have B12 : Hid (Box (wr.drewN nq) w.heap.size k F) := B1.out.quiet ((Fr.refl _ _).drewN nq)
        have B22 : Hid (Box (wr.drewN nq) (w.heap.size + 1) k' G) := B2.out.quiet ((Fr.refl _ _).drewN nq)
        go_wp2
        go_roundw
        case rel => exact ⟨j + 1, by omega, by go_num, by rw [HS.out]; simp, B12.out, B22.out, HG2.out⟩
        case measure => simp [intOf]; omega
      · have hd : dif F G j = 1 := by unfold dif; rw [if_neg he]
        rw [hd] at HS
        have hne : (F j != G j) = true := by simpa using he
        clear hd he
        have hor := or_val (chg F G j) j true hm (by omega)
        have e1 : ((true.toNat : Nat) : Int) * 2 ^ j % 256 = 2 ^ j := by
          have : j = 0 ∨ j = 1 ∨ j = 2 := by omega
          rcases this with rfl | rfl | rfl <;> decide
        rw [e1] at hor
        clear e1
        generalize F j = f at *
        generalize G j = g at *
        generalize chg F G j = m at *
        have hc3 : j = 0 ∨ j = 1 ∨ j = 2 := by omega
        rcases hc3 with rfl | rfl | rfl
        all_goals
          simp at hor x1 x2
          clear hm
          go_wp2
          go_quiet (fail)
          rename_i nq
          have HG2 : Hid (Fr Nobody w (wr.drewN nq)) := HG.out.drewN nq
          have B12 : Hid (Box (wr.drewN nq) w.heap.size k F) := B1.out.quiet ((Fr.refl _ _).drewN nq)
          have B22 : Hid (Box (wr.drewN nq) (w.heap.size + 1) k' G) := B2.out.quiet ((Fr.refl _ _).drewN nq)
          go_wp2
          go_roundw
          case rel => exact ⟨_, by decide, rfl, by rw [HS.out]; simp, B12.out, B22.out, HG2.out⟩
          case measure => simp [intOf]
    · have e : j = 3 := by omega
      subst e
      go_wp2
      go_ret
      exact ⟨rfl, HG.out⟩

theorem zig0 (x : Int) : zig (x - x) = 0 := by rw [Int.sub_self]; decide
theorem ssum_same (k n : Nat) (F G : Nat → Int) (h : ∀ j, j < 3 → F j = G j) (hn : n ≤ cnt k) : ssum k F G n = n := by
  have hc := cnt_le k
  induction n with
  | zero => rfl
  | succ n ih =>
    have e : fsz k F G n = 1 := by unfold fsz mz; rw [h n (by omega), zig0, if_pos rfl]
    rw [ssum, ih (by omega), e]
theorem ssum_ge (k n : Nat) (F G : Nat → Int) (hn : n ≤ cnt k) : n ≤ ssum k F G n := by
  induction n with
  | zero => exact Nat.zero_le _
  | succ n ih =>
    have := ih (by omega)
    have := fsz_le k F G n (by omega)
    simp only [ssum]; omega
theorem ssum_bits (k n : Nat) (F G : Nat → Int) (hn : n ≤ cnt k) : ssum k F G n ≤ bsum k n + 3 * n := by
  induction n with
  | zero => simp [ssum]
  | succ n ih =>
    have := ih (by omega)
    have h1 := wd_le k n (by omega)
    have h2 : fsz k F G n ≤ wd k n + 3 := by unfold fsz; split <;> (try split) <;> omega
    simp only [ssum, bsum]; omega
end Go.Proofs.YtllhipfielgnbaaDoor

/-
  What a writer's calls leave as it was: every block that is neither a writer's nor bytes. Put, room and the bits of one field.
-/
namespace Go.Proofs.YtllhipfielgnbaaDoor
open Go.RowKit
set_option linter.unusedVariables false
set_option maxRecDepth 100000

/-- a writer's block, or bytes -/
def Wt (w : World) (k : Nat) : Prop := ∃ cur f, w.heap[k]? = some (.cells cur 66 f) ∨ w.heap[k]? = some (.cells cur 5 f)
def Wf (w w' : World) : Prop := Fr (Wt w) w w'
theorem Wf.refl (w : World) : Wf w w := Fr.refl _ _
theorem Wf.of_quiet {w w' : World} (h : Fr Nobody w w') : Wf w w' := h.mono (fun _ _ k => k.elim)
theorem Wf.trans {a b c : World} (h : Wf a b) (k : Wf b c) : Wf a c := by
  refine ⟨k.os.trans h.os, k.tape.trans h.tape, k.output.trans h.output, Nat.le_trans h.size k.size, fun i hi hs => ?_⟩
  have e := h.block i hi hs
  refine (k.block i (Nat.lt_of_lt_of_le hi h.size) ?_).trans e
  rintro ⟨cur, f, hc⟩
  rw [e] at hc
  exact hs ⟨cur, f, hc⟩
theorem Wf.quiet {a b c : World} (h : Wf a b) (k : Fr Nobody b c) : Wf a c := h.trans (Wf.of_quiet k)
theorem Box.wf {w w' : World} {b k : Nat} {F : Nat → Int} (h : Box w b k F) (hf : Wf w w') : Box w' b k F := by
  refine (hf.block b (Array.getElem?_eq_some_iff.1 h).1 ?_).trans h
  rintro ⟨cur, f, hc⟩
  unfold Box at h
  rw [h] at hc
  simp at hc
theorem Bo.wf {B : Nat} {w w' : World} {v : Value} {L : List Bool} (h : Bo B w v L) (hf : Wf w w') : Bo B w' v L := by
  refine h.keep hf ?_
  rintro k cur hk ⟨cur', f, hc⟩
  rw [hk] at hc
  simp at hc
theorem Bs.wf {w w' : World} {v : Value} {L : List Bool} (h : Bs w v L) (hf : Wf w w') : Bs w' v L := by
  refine h.keep hf ?_
  rintro k cur hk ⟨cur', f, hc⟩
  rw [hk] at hc
  simp at hc
theorem Wr.wt {B : Nat} {w : World} {b : Nat} {g : Option Nat} {L : List Bool} (h : Wr B w b g L) (k : Nat) (hk : At b g k) : Wt w k := by
  obtain ⟨v, h1, h2, h3⟩ := h.obj
  rcases hk with rfl | hk
  · exact ⟨_, _, .inl h1⟩
  · rcases h2.2 with ⟨rfl, _⟩ | ⟨g', cap, cur, rfl, _, hgg, _⟩
    · simp [Value.ownBlock] at h3
      rw [← h3] at hk; cases hk
    · simp [Value.ownBlock] at h3
      rw [← h3] at hk
      cases hk
      exact ⟨_, _, .inr hgg⟩

theorem put_wf (w0 w : World) (b : Nat) (L : List Bool) (v n : Nat) (x y : Int) (hx : x = (v : Int)) (hy : y = (n : Int)) (h : Ow w0 w b L) (hn : n ≤ 64) (hv : v < 2 ^ n) (hv2 : v < 18446744073709551616) (hl : L.length + n ≤ 1048576) :
    Calls Tryd.prog 24 #[.pointer (some ⟨b, 0, none⟩), .int .u64 x, .int .i64 y] w fun e w' => e = .returned (.int .i64 0) ∧ Ow w0 w' b (L ++ bitsN n v) ∧ Wf w w' := by
  subst hx; subst hy
  obtain ⟨g, hW, hF⟩ := h
  refine (put_ok _ w b g L v n hW hn hv hv2 hl).mono ?_
  rintro e w' ⟨rfl, g', hW', hs⟩
  exact ⟨rfl, ⟨g', hW', hF.fresh hs.fr (hW.lowAt)⟩, hs.fr.mono (fun k _ hk => hW.wt k hk)⟩

set_option maxHeartbeats 400000 in
theorem room_any (w0 w : World) (b : Nat) (L : List Bool) (h : Ow w0 w b L) (hl : L.length ≤ 1048576) :
    Calls Tryd.prog 31 #[.pointer (some ⟨b, 0, none⟩)] w fun e w' => e = .returned (.int .i64 ((1048576 - L.length : Nat) : Int)) ∧ Fr Nobody w w' := by
  have H : Hid (∀ _ : Unit, _) := fun _ => len_fr w0 w b L h
  clear h
  go_enter Tryd.func31, Tryd.ntmps31
  go_wp2_with fail
  refine (H.out ()).mono ?_
  rintro e w1 ⟨rfl, hf⟩
  have HF : Hid _ := hf
  clear hf H
  go_wp2
  go_ret
  exact ⟨ret_int (by omega), HF.out⟩

set_option maxHeartbeats 1000000 in
theorem putIn_wf (w0 w : World) (b : Nat) (L : List Bool) (n lo hi : Int) (d : Nat) (hd : n = lo + (d : Int)) (h : Ow w0 w b L) (h0 : -9223372036854775808 ≤ lo) (h1 : hi ≤ 9223372036854775807) (ha : lo ≤ n) (hb : n ≤ hi) (hl : L.length + 64 ≤ 1048576) :
    Calls Tryd.prog 56 #[.pointer (some ⟨b, 0, none⟩), .int .i64 n, .int .i64 lo, .int .i64 hi] w fun e w' => e = .returned (.int .i64 0) ∧ Ow w0 w' b (L ++ bitsN (wid lo hi) d) ∧ Wf w w' := by
  have hle : lo ≤ hi := by omega
  have H : Hid (Ow w0 w b L) := h
  have ed : (n - lo).toNat = d := by omega
  have HI : Hid (d < 2 ^ wid lo hi) := ed ▸ in_lt n lo hi h0 h1 ha hb
  have HW : Hid (wid lo hi ≤ 64) := wid_le lo hi h0 h1
  have G1 : Hid (∀ w, _) := fun w => span_any lo n d w h0 (by omega) hd
  have G2 : Hid (∀ w, _) := fun w => width_any lo hi w h0 h1 (by omega) (by omega)
  have hdl : d < 18446744073709551616 := by omega
  clear h hd ed
  generalize wid lo hi = m at *
  go_enter Tryd.func56, Tryd.ntmps56
  go_wp2_with fail
  refine (G1.out _).mono ?_
  rintro e w' ⟨rfl, rfl⟩
  go_wp2_with fail
  refine (G2.out _).mono ?_
  rintro e w' ⟨rfl, rfl⟩
  go_wp2_with fail
  refine (put_wf w0 _ b L d m _ _ rfl rfl H.out HW.out HI.out hdl (by have := HW.out; omega)).mono ?_
  rintro e w1 ⟨rfl, hW, hf⟩
  go_wp2
  go_ret
  exact ⟨rfl, hW, hf⟩

/-- a field's bits -/
def fb (k : Nat) (F : Nat → Int) (j : Nat) : List Bool := bitsN (wd k j) (F j - lo k j).toNat
theorem length_fb (k : Nat) (F : Nat → Int) (j : Nat) : (fb k F j).length = wd k j := length_bitsN _ _
set_option maxHeartbeats 1000000 in
theorem putField_any (w0 w : World) (ht : Tab w0) (b : Nat) (L : List Bool) (k j : Nat) (hk : k < 256) (hj : j < cnt k) (F : Nat → Int) (h : Ow w0 w b L) (hr : lo k j ≤ F j ∧ F j ≤ hi k j) (hl : L.length + 64 ≤ 1048576) :
    Calls Tryd.prog 48 #[.pointer (some ⟨b, 0, none⟩), .agg (cmp k F), .int .i64 (j : Int)] w fun e w' => e = .returned (.int .i64 0) ∧ Ow w0 w' b (L ++ fb k F j) ∧ Wf w w' := by
  have hc := cnt_le k
  have hj3 : j < 3 := by omega
  have HB : Hid (Box (w.alloc (.cells (cmp k F) 24)) w.heap.size k F) := Box.new w k F
  have HF : Hid (Fr Nobody w (w.alloc (.cells (cmp k F) 24))) := (Fr.refl _ _).alloc _
  have H : Hid (Ow w0 w b L) := h
  have HT : Hid (Tab w0) := ht
  have R : Hid (∀ w, Tab w → _) := fun w h => range_ok w h k hk j hj
  obtain ⟨l0, l1, l2, l3⟩ := rng_ok k j hj
  have P : Hid (∀ w, Ow w0 w b L → Calls Tryd.prog 56 #[.pointer (some ⟨b, 0, none⟩), .int .i64 (F j), .int .i64 (lo k j), .int .i64 (hi k j)] w fun e w' => e = .returned (.int .i64 0) ∧ Ow w0 w' b (L ++ fb k F j) ∧ Wf w w') := fun w hw => putIn_wf w0 w b L (F j) (lo k j) (hi k j) (F j - lo k j).toNat (by omega) hw (by omega) (by omega) hr.1 hr.2 hl
  obtain ⟨r0, r1⟩ := hr
  clear h ht hc hj
  generalize fb k F j = M at *
  generalize lo k j = x at *
  generalize hi k j = y at *
  unfold cmp at *
  go_enter Tryd.func48, Tryd.ntmps48
  go_wp2_with fail
  refine (R.out _ (HT.out.quiet (H.out.quiet HF.out).fr)).mono ?_
  rintro e w1 ⟨rfl, hf1⟩
  have x1 := (Box.quiet HB.out hf1).at j hj3
  have HF1 : Hid (Fr Nobody w w1) := HF.out.trans hf1
  clear hf1
  generalize F j = f at *
  go_wp2_with fail
  refine (P.out _ (H.out.quiet HF1.out)).mono ?_
  rintro e w2 ⟨rfl, hW, hf2⟩
  have HW : Hid (Ow w0 w2 b (L ++ M)) := hW
  have HF2 : Hid (Wf w w2) := (Wf.of_quiet HF1.out).trans hf2
  clear hW hf2
  go_wp2
  go_ret
  exact ⟨rfl, HW.out, HF2.out⟩
end Go.Proofs.YtllhipfielgnbaaDoor

/-
  Put of package comp: a component's bits.
-/
namespace Go.Proofs.YtllhipfielgnbaaDoor
open Go.RowKit
set_option linter.unusedVariables false
set_option maxRecDepth 100000

/-- the bits of the first fields -/
def cb (k : Nat) (F : Nat → Int) : Nat → List Bool
  | 0 => []
  | n + 1 => cb k F n ++ fb k F n
theorem length_cb (k : Nat) (F : Nat → Int) (n : Nat) : (cb k F n).length = bsum k n := by
  induction n with
  | zero => rfl
  | succ n ih => rw [cb, List.length_append, ih, length_fb]; rfl
theorem chk_ok (k : Nat) (F : Nat → Int) (h : chk k F = 0) : k < 6 ∧ (∀ j, j < cnt k → lo k j ≤ F j ∧ F j ≤ hi k j) ∧ ∀ j, cnt k ≤ j → j < 3 → F j = 0 := by
  unfold chk at h
  by_cases h6 : 6 ≤ k
  · rw [if_pos h6] at h; cases h
  · rw [if_neg h6] at h
    cases hs : stray k F with
    | true => rw [hs, if_pos rfl] at h; cases h
    | false =>
      rw [hs, if_neg (by decide)] at h
      cases ho : outside k F with
      | true => rw [ho, if_pos rfl] at h; cases h
      | false => exact ⟨by omega, fun j hj => outside_no k j F ho hj, fun j hj h3 => stray_no k j F hs hj h3⟩
theorem bits_le (k : Nat) : bitsK k ≤ 60 := by
  have := bsum_le k (cnt k) (Nat.le_refl _)
  have := cnt_le k
  unfold bitsK; omega

end Go.Proofs.YtllhipfielgnbaaDoor
