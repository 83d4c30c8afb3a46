/-
  Fields that are read one by one: eachField of package comp.
-/
import Derived.Test.YtbencjopjdjepaaGreatDoorM36
import Derived.Test.YtbencjopjdjepaaGreatDoorM13
namespace Go.Proofs.YtbencjopjdjepaaGreatDoor
open Go.RowKit
set_option linter.unusedVariables false
set_option maxRecDepth 100000

/-- the error and the place behind the first fields: code, cons: of a place and a field -/
def rat (code : Nat → Nat → Int) (cons : Nat → Nat → Nat) (t : Nat) : Nat → Int × Nat
  | 0 => (0, t)
  | j + 1 => if (rat code cons t j).1 = 0 then (code (rat code cons t j).2 j, (rat code cons t j).2 + cons (rat code cons t j).2 j) else rat code cons t j
theorem rat_err (code : Nat → Nat → Int) (cons : Nat → Nat → Nat) (t j n : Nat) (h : (rat code cons t j).1 ≠ 0) : rat code cons t (j + n) = rat code cons t j := by
  induction n with
  | zero => rfl
  | succ n ih => rw [← Nat.add_assoc, rat, ih, if_neg h]
theorem rat_ge (code : Nat → Nat → Int) (cons : Nat → Nat → Nat) (t j : Nat) : t ≤ (rat code cons t j).2 := by
  induction j with
  | zero => exact Nat.le_refl _
  | succ j ih =>
    rw [rat]
    split
    · show t ≤ _ + _; omega
    · exact ih
/-- the fields as read -/
def upd (code val : Nat → Nat → Int) (cons : Nat → Nat → Nat) (t : Nat) (F : Nat → Int) (n : Nat) (j : Nat) : Int := if j < n then val (rat code cons t j).2 j else F j
theorem upd_zero (code val : Nat → Nat → Int) (cons : Nat → Nat → Nat) (t : Nat) (F : Nat → Int) : upd code val cons t F 0 = F := by funext j; simp [upd]

/-- a closure that reads field j -/
def Flds (f : FuncId) (c1 c2 : Value) (B : Nat) (w0 : World) (br : Nat) (g : Option Nat) (P : List Nat) (K : Nat) (code val : Nat → Nat → Int) (cons : Nat → Nat → Nat) : Prop :=
  ∀ w t j, Rd B w br g P t → Fr (At br none) w0 w → j < K → Calls Tryz.prog f #[.int .i64 ((j : Nat) : Int), c1, c2] w fun e w' => e = .returned (.tuple #[.int .i32 (val t j), .int .i64 (code t j)]) ∧ GvEnd B w w' br g P t (code t j) (cons t j)

theorem Box.set {w : World} {b k j : Nat} {F : Nat → Int} (h : Box w b k F) (hj : j < 3) (x : Int) : Box (w.setCell ⟨b, 1 + j, none⟩ (.int .i32 x)) b k (fun i => if i = j then x else F i) := by
  unfold Box cmp at *
  rw [setCell_heap w b (1 + j) _ _ _ h]
  have : j = 0 ∨ j = 1 ∨ j = 2 := by omega
  rcases this with rfl | rfl | rfl <;> rfl
theorem Rd.setBox {B : Nat} {w : World} {br : Nat} {g : Option Nat} {P : List Nat} {t b k o : Nat} {F : Nat → Int} (h : Rd B w br g P t) (hb : Box w b k F) (x : Value) : Rd B (w.setCell ⟨b, o, none⟩ x) br g P t := by
  have h1 : b ≠ br := by
    rintro rfl
    obtain ⟨v, hv, _⟩ := h.obj
    unfold Box at hb
    rw [hv] at hb
    simp at hb
  have h2 : g ≠ some b := by
    intro e
    obtain ⟨v, hv, ho, hg⟩ := h.obj
    rcases ho.2 with ⟨rfl, _⟩ | ⟨g', cap, cur, rfl, _, hgg, _⟩
    · rw [← hg] at e; simp [Value.ownBlock] at e
    · rw [← hg] at e
      simp [Value.ownBlock] at e
      subst e
      unfold Box at hb
      rw [hgg] at hb
      simp at hb
  exact h.fresh (Fr.setCell (S := fun k => k = b) (Fr.refl _ _) (p := ⟨b, o, none⟩) (.inl rfl) x) h1 h2

set_option maxHeartbeats 2000000 in
theorem eachField_get (c1 c2 : Value) (B : Nat) (w : World) (ht : Tab w) (br : Nat) (hbr : br ≠ 1) (g : Option Nat) (P : List Nat) (t : Nat) (k : Nat) (hk : k < 256) (F : Nat → Int) (code val : Nat → Nat → Int) (cons : Nat → Nat → Nat) (h : Rd B w br g P t) (hr : Flds 220 c1 c2 B w br g P (cnt k) code val cons) :
    Calls Tryz.prog 219 #[.agg (cmp k F), .func (.func 220) #[] #[c1, c2]] w fun e w' => ∃ F', e = .returned (.tuple #[.agg (cmp k F'), .int .i64 (rat code cons t (cnt k)).1]) ∧ ((rat code cons t (cnt k)).1 = 0 → F' = upd code val cons t F (cnt k)) ∧ GvEnd B w w' br g P t (rat code cons t (cnt k)).1 ((rat code cons t (cnt k)).2 - t) := by
  have HT : Hid (Tab w) := ht
  have H : Hid (Rd B w br g P t) := h
  have hlt := h.lt
  have hc := cnt_le k
  obtain ⟨c, ec⟩ : ∃ c, cnt k = c := ⟨_, rfl⟩
  have C : Hid (∀ w, Tab w → Calls Tryz.prog 191 #[.int .u8 (k : Int)] w fun e w' => e = .returned (.int .i64 (c : Int)) ∧ w' = w) := fun w h => by have := count_any w h k hk; rw [ec] at this; exact this
  rw [ec] at hr hc
  rw [ec]
  have R : Hid (Flds 220 c1 c2 B w br g P c code val cons) := hr
  obtain ⟨b1, b2, hf⟩ := boxes w k 0 F (f3 0 0 0)
  have HB1 : Hid (Box _ w.heap.size k F) := b1
  have HB2 : Hid (Box _ (w.heap.size + 1) 0 (f3 0 0 0)) := b2
  have HF : Hid (Fr Nobody w _) := hf
  have hb1n : w.heap.size ≠ br := by omega
  have hb2n : w.heap.size + 1 ≠ br := by omega
  clear ht h ec hr b1 b2 hf
  unfold cmp at *
  go_enter Tryz.func219, Tryz.ntmps219
  go_wp2_with fail
  refine (C.out _ (HT.out.quiet HF.out)).mono ?_
  rintro e w1 ⟨rfl, rfl⟩
  go_wp2
  go_loopw [12] (fun a wr => ∃ j : Nat, j ≤ c ∧ a = .int .i64 j ∧ (rat code cons t j).1 = 0 ∧ Rd B wr br g P (rat code cons t j).2 ∧ Box wr w.heap.size k (upd code val cons t F j) ∧ Box wr (w.heap.size + 1) 0 (f3 0 0 0) ∧ Fr (At br none) w wr) (fun a _ => c - (intOf a).toNat)
  case atStart => exact ⟨0, by omega, rfl, rfl, H.out.quiet HF.out, by rw [upd_zero]; exact HB1.out, HB2.out, HF.out.mono (fun _ _ k => k.elim)⟩
  case round =>
    obtain ⟨j, hj, rfl, hz, hR, hb1, hb2, hf⟩ := hrel
    have HZ : Hid ((rat code cons t j).1 = 0) := hz
    have HR : Hid (Rd B wr br g P (rat code cons t j).2) := hR
    have B1 : Hid (Box wr w.heap.size k (upd code val cons t F j)) := hb1
    have B2 : Hid (Box wr (w.heap.size + 1) 0 (f3 0 0 0)) := hb2
    have HG : Hid (Fr (At br none) w wr) := hf
    clear hz hR hb1 hb2 hf HB1 HB2 HF H
    by_cases hlt2 : j < c
    · have RJ : Hid (∀ _ : Unit, _) := fun _ => R.out wr (rat code cons t j).2 j HR.out HG.out hlt2
      have HSN : Hid (rat code cons t (j + 1) = (code (rat code cons t j).2 j, (rat code cons t j).2 + cons (rat code cons t j).2 j)) := by
        show _ = _
        rw [rat, if_pos HZ.out]
      go_wp2_with fail
      refine (RJ.out ()).mono ?_
      rintro e w2 ⟨rfl, t', hR', hf', ht'⟩
      have B12 : Hid (Box w2 w.heap.size k (upd code val cons t F j)) := B1.out.fr1 hf' hb1n
      have B22 : Hid (Box w2 (w.heap.size + 1) 0 (f3 0 0 0)) := B2.out.fr1 hf' hb2n
      have HG2 : Hid (Fr (At br none) w w2) := HG.out.trans hf'
      have HR2 : Hid (Rd B w2 br g P t' ∧ (code (rat code cons t j).2 j = 0 → t' = (rat code cons t j).2 + cons (rat code cons t j).2 j)) := ⟨hR', ht'⟩
      clear hR' hf' ht' RJ
      by_cases hcd : code (rat code cons t j).2 j = 0
      · have hx := B12.out.at j (by omega)
        have hfz := B12.out.frozen (1 + j)
        have B13 := B12.out.set (j := j) (by omega) (val (rat code cons t j).2 j)
        have B23 : Box (w2.setCell ⟨w.heap.size, 1 + j, none⟩ (.int .i32 (val (rat code cons t j).2 j))) (w.heap.size + 1) 0 (f3 0 0 0) := (Below.heap_setCell w2 _ _ (w.heap.size + 1) (by simp)).trans B22.out
        have eU : (fun i => if i = j then val (rat code cons t j).2 j else upd code val cons t F j i) = upd code val cons t F (j + 1) := by
          funext i
          unfold upd
          by_cases e1 : i = j
          · subst e1; simp
          · rw [if_neg e1]
            by_cases e2 : i < j
            · rw [if_pos e2, if_pos (by omega)]
            · rw [if_neg e2, if_neg (by omega)]
        rw [eU] at B13
        have HN : Hid ((rat code cons t (j + 1)).1 = 0 ∧ Rd B (w2.setCell ⟨w.heap.size, 1 + j, none⟩ (.int .i32 (val (rat code cons t j).2 j))) br g P (rat code cons t (j + 1)).2 ∧ Box (w2.setCell ⟨w.heap.size, 1 + j, none⟩ (.int .i32 (val (rat code cons t j).2 j))) w.heap.size k (upd code val cons t F (j + 1)) ∧ Box (w2.setCell ⟨w.heap.size, 1 + j, none⟩ (.int .i32 (val (rat code cons t j).2 j))) (w.heap.size + 1) 0 (f3 0 0 0) ∧ Fr (At br none) w (w2.setCell ⟨w.heap.size, 1 + j, none⟩ (.int .i32 (val (rat code cons t j).2 j)))) := by
          rw [HSN.out]
          refine ⟨hcd, ?_, B13, B23, HG2.out.setCell (p := ⟨w.heap.size, 1 + j, none⟩) (.inr (Nat.le_refl _)) _⟩
          rw [← HR2.out.2 hcd]
          exact HR2.out.1.setBox B12.out _
        rw [hcd]
        clear B13 B23 eU HR2 HSN hcd B12 B22 HG2
        generalize upd code val cons t F j j = ov at *
        generalize hv : val (rat code cons t j).2 j = x at *
        go_wp2
        go_roundw
        case rel => exact ⟨j + 1, by omega, by go_num, HN.out.1, HN.out.2.1, HN.out.2.2.1, HN.out.2.2.2.1, HN.out.2.2.2.2⟩
        case measure => simp [intOf]; omega
      · have hne : (code (rat code cons t j).2 j != 0) = true := by rw [bne_iff_ne]; exact hcd
        have HEND : Hid ((rat code cons t c).1 = code (rat code cons t j).2 j) := by
          show _ = _
          have : c = (j + 1) + (c - (j + 1)) := by omega
          rw [this, rat_err code cons t (j + 1) _ (by rw [HSN.out]; exact hcd), HSN.out]
        obtain ⟨x0, x1, x2, x3⟩ := B12.out.cells
        obtain ⟨y0, y1, y2, y3⟩ := B22.out.cells
        have z0 := B22.out.frozen 0
        have z1 := B22.out.frozen 1
        have z2 := B22.out.frozen 2
        have z3 := B22.out.frozen 3
        have HRR := put4_box (k := k) (F := upd code val cons t F j) B22.out
        have HRX : Hid (Box (put4 w2 (w.heap.size + 1) k (upd code val cons t F j)) (w.heap.size + 1) k (upd code val cons t F j)) := HRR
        have HRD : Hid (Rd B (put4 w2 (w.heap.size + 1) k (upd code val cons t F j)) br g P t' ∧ Fr (At br none) w (put4 w2 (w.heap.size + 1) k (upd code val cons t F j))) := ⟨HR2.out.1.put4 B22.out, put4_fr1 HG2.out (by omega)⟩
        have HCD : Hid (code (rat code cons t j).2 j ≠ 0) := hcd
        clear HRR HR2 HSN B12 B22 HG2 hcd
        simp only [f3] at y1 y2 y3
        generalize code (rat code cons t j).2 j = cd at *
        go_wp2
        (try simp only [Exit.inBlock, Exit.then])
        refine bodyPost_ret (v := .tuple #[.agg #[.int .u8 (k : Int), .int .i32 (upd code val cons t F j 0), .int .i32 (upd code val cons t F j 1), .int .i32 (upd code val cons t F j 2)], .int .i64 cd]) ?_ rfl ⟨upd code val cons t F j, by rw [HEND.out], fun e => absurd (HEND.out.symm.trans e) HCD.out, t', HRD.out.1, HRD.out.2, fun e => absurd (HEND.out.symm.trans e) HCD.out⟩
        rw [results_cell_tmp rfl]
        obtain ⟨r0, r1, r2, r3⟩ := HRX.out.cells
        simp only [put4] at r0 r1 r2 r3
        go_simp
    · have e : j = c := by omega
      subst e
      obtain ⟨x0, x1, x2, x3⟩ := B1.out.cells
      obtain ⟨y0, y1, y2, y3⟩ := B2.out.cells
      have z0 := B2.out.frozen 0
      have z1 := B2.out.frozen 1
      have z2 := B2.out.frozen 2
      have z3 := B2.out.frozen 3
      have HRX : Hid (Box (put4 wr (w.heap.size + 1) k (upd code val cons t F j)) (w.heap.size + 1) k (upd code val cons t F j)) := put4_box B2.out
      have HRD : Hid (Rd B (put4 wr (w.heap.size + 1) k (upd code val cons t F j)) br g P (rat code cons t j).2 ∧ Fr (At br none) w (put4 wr (w.heap.size + 1) k (upd code val cons t F j))) := ⟨HR.out.put4 B2.out, put4_fr1 HG.out (by omega)⟩
      have HGE : Hid (t ≤ (rat code cons t j).2) := rat_ge code cons t j
      clear B1 B2 HR HG R
      simp only [f3] at y1 y2 y3
      go_wp2
      (try simp only [Exit.inBlock, Exit.then])
      refine bodyPost_ret (v := .tuple #[.agg #[.int .u8 (k : Int), .int .i32 (upd code val cons t F j 0), .int .i32 (upd code val cons t F j 1), .int .i32 (upd code val cons t F j 2)], .int .i64 0]) ?_ rfl ⟨upd code val cons t F j, by rw [HZ.out], fun _ => rfl, (rat code cons t j).2, HRD.out.1, HRD.out.2, fun _ => by have := HGE.out; omega⟩
      rw [results_cell_tmp rfl]
      obtain ⟨r0, r1, r2, r3⟩ := HRX.out.cells
      simp only [put4] at r0 r1 r2 r3
      go_simp
set_option maxHeartbeats 2000000 in
theorem eachField_step (c1 c2 : Value) (B : Nat) (w : World) (ht : Tab w) (br : Nat) (hbr : br ≠ 1) (g : Option Nat) (P : List Nat) (t : Nat) (k : Nat) (hk : k < 256) (F : Nat → Int) (code val : Nat → Nat → Int) (cons : Nat → Nat → Nat) (h : Rd B w br g P t) (hr : Flds 223 c1 c2 B w br g P (cnt k) code val cons) :
    Calls Tryz.prog 219 #[.agg (cmp k F), .func (.func 223) #[] #[c1, c2]] w fun e w' => ∃ F', e = .returned (.tuple #[.agg (cmp k F'), .int .i64 (rat code cons t (cnt k)).1]) ∧ ((rat code cons t (cnt k)).1 = 0 → F' = upd code val cons t F (cnt k)) ∧ GvEnd B w w' br g P t (rat code cons t (cnt k)).1 ((rat code cons t (cnt k)).2 - t) := by
  have HT : Hid (Tab w) := ht
  have H : Hid (Rd B w br g P t) := h
  have hlt := h.lt
  have hc := cnt_le k
  obtain ⟨c, ec⟩ : ∃ c, cnt k = c := ⟨_, rfl⟩
  have C : Hid (∀ w, Tab w → Calls Tryz.prog 191 #[.int .u8 (k : Int)] w fun e w' => e = .returned (.int .i64 (c : Int)) ∧ w' = w) := fun w h => by have := count_any w h k hk; rw [ec] at this; exact this
  rw [ec] at hr hc
  rw [ec]
  have R : Hid (Flds 223 c1 c2 B w br g P c code val cons) := hr
  obtain ⟨b1, b2, hf⟩ := boxes w k 0 F (f3 0 0 0)
  have HB1 : Hid (Box _ w.heap.size k F) := b1
  have HB2 : Hid (Box _ (w.heap.size + 1) 0 (f3 0 0 0)) := b2
  have HF : Hid (Fr Nobody w _) := hf
  have hb1n : w.heap.size ≠ br := by omega
  have hb2n : w.heap.size + 1 ≠ br := by omega
  clear ht h ec hr b1 b2 hf
  unfold cmp at *
  go_enter Tryz.func219, Tryz.ntmps219
  go_wp2_with fail
  refine (C.out _ (HT.out.quiet HF.out)).mono ?_
  rintro e w1 ⟨rfl, rfl⟩
  go_wp2
  go_loopw [12] (fun a wr => ∃ j : Nat, j ≤ c ∧ a = .int .i64 j ∧ (rat code cons t j).1 = 0 ∧ Rd B wr br g P (rat code cons t j).2 ∧ Box wr w.heap.size k (upd code val cons t F j) ∧ Box wr (w.heap.size + 1) 0 (f3 0 0 0) ∧ Fr (At br none) w wr) (fun a _ => c - (intOf a).toNat)
  case atStart => exact ⟨0, by omega, rfl, rfl, H.out.quiet HF.out, by rw [upd_zero]; exact HB1.out, HB2.out, HF.out.mono (fun _ _ k => k.elim)⟩
  case round =>
    obtain ⟨j, hj, rfl, hz, hR, hb1, hb2, hf⟩ := hrel
    have HZ : Hid ((rat code cons t j).1 = 0) := hz
    have HR : Hid (Rd B wr br g P (rat code cons t j).2) := hR
    have B1 : Hid (Box wr w.heap.size k (upd code val cons t F j)) := hb1
    have B2 : Hid (Box wr (w.heap.size + 1) 0 (f3 0 0 0)) := hb2
    have HG : Hid (Fr (At br none) w wr) := hf
    clear hz hR hb1 hb2 hf HB1 HB2 HF H
    by_cases hlt2 : j < c
    · have RJ : Hid (∀ _ : Unit, _) := fun _ => R.out wr (rat code cons t j).2 j HR.out HG.out hlt2
      have HSN : Hid (rat code cons t (j + 1) = (code (rat code cons t j).2 j, (rat code cons t j).2 + cons (rat code cons t j).2 j)) := by
        show _ = _
        rw [rat, if_pos HZ.out]
      go_wp2_with fail
      refine (RJ.out ()).mono ?_
      rintro e w2 ⟨rfl, t', hR', hf', ht'⟩
      have B12 : Hid (Box w2 w.heap.size k (upd code val cons t F j)) := B1.out.fr1 hf' hb1n
      have B22 : Hid (Box w2 (w.heap.size + 1) 0 (f3 0 0 0)) := B2.out.fr1 hf' hb2n
      have HG2 : Hid (Fr (At br none) w w2) := HG.out.trans hf'
      have HR2 : Hid (Rd B w2 br g P t' ∧ (code (rat code cons t j).2 j = 0 → t' = (rat code cons t j).2 + cons (rat code cons t j).2 j)) := ⟨hR', ht'⟩
      clear hR' hf' ht' RJ
      by_cases hcd : code (rat code cons t j).2 j = 0
      · have hx := B12.out.at j (by omega)
        have hfz := B12.out.frozen (1 + j)
        have B13 := B12.out.set (j := j) (by omega) (val (rat code cons t j).2 j)
        have B23 : Box (w2.setCell ⟨w.heap.size, 1 + j, none⟩ (.int .i32 (val (rat code cons t j).2 j))) (w.heap.size + 1) 0 (f3 0 0 0) := (Below.heap_setCell w2 _ _ (w.heap.size + 1) (by simp)).trans B22.out
        have eU : (fun i => if i = j then val (rat code cons t j).2 j else upd code val cons t F j i) = upd code val cons t F (j + 1) := by
          funext i
          unfold upd
          by_cases e1 : i = j
          · subst e1; simp
          · rw [if_neg e1]
            by_cases e2 : i < j
            · rw [if_pos e2, if_pos (by omega)]
            · rw [if_neg e2, if_neg (by omega)]
        rw [eU] at B13
        have HN : Hid ((rat code cons t (j + 1)).1 = 0 ∧ Rd B (w2.setCell ⟨w.heap.size, 1 + j, none⟩ (.int .i32 (val (rat code cons t j).2 j))) br g P (rat code cons t (j + 1)).2 ∧ Box (w2.setCell ⟨w.heap.size, 1 + j, none⟩ (.int .i32 (val (rat code cons t j).2 j))) w.heap.size k (upd code val cons t F (j + 1)) ∧ Box (w2.setCell ⟨w.heap.size, 1 + j, none⟩ (.int .i32 (val (rat code cons t j).2 j))) (w.heap.size + 1) 0 (f3 0 0 0) ∧ Fr (At br none) w (w2.setCell ⟨w.heap.size, 1 + j, none⟩ (.int .i32 (val (rat code cons t j).2 j)))) := by
          rw [HSN.out]
          refine ⟨hcd, ?_, B13, B23, HG2.out.setCell (p := ⟨w.heap.size, 1 + j, none⟩) (.inr (Nat.le_refl _)) _⟩
          rw [← HR2.out.2 hcd]
          exact HR2.out.1.setBox B12.out _
        rw [hcd]
        clear B13 B23 eU HR2 HSN hcd B12 B22 HG2
        generalize upd code val cons t F j j = ov at *
        generalize hv : val (rat code cons t j).2 j = x at *
        go_wp2
        go_roundw
        case rel => exact ⟨j + 1, by omega, by go_num, HN.out.1, HN.out.2.1, HN.out.2.2.1, HN.out.2.2.2.1, HN.out.2.2.2.2⟩
        case measure => simp [intOf]; omega
      · have hne : (code (rat code cons t j).2 j != 0) = true := by rw [bne_iff_ne]; exact hcd
        have HEND : Hid ((rat code cons t c).1 = code (rat code cons t j).2 j) := by
          show _ = _
          have : c = (j + 1) + (c - (j + 1)) := by omega
          rw [this, rat_err code cons t (j + 1) _ (by rw [HSN.out]; exact hcd), HSN.out]
        obtain ⟨x0, x1, x2, x3⟩ := B12.out.cells
        obtain ⟨y0, y1, y2, y3⟩ := B22.out.cells
        have z0 := B22.out.frozen 0
        have z1 := B22.out.frozen 1
        have z2 := B22.out.frozen 2
        have z3 := B22.out.frozen 3
        have HRR := put4_box (k := k) (F := upd code val cons t F j) B22.out
        have HRX : Hid (Box (put4 w2 (w.heap.size + 1) k (upd code val cons t F j)) (w.heap.size + 1) k (upd code val cons t F j)) := HRR
        have HRD : Hid (Rd B (put4 w2 (w.heap.size + 1) k (upd code val cons t F j)) br g P t' ∧ Fr (At br none) w (put4 w2 (w.heap.size + 1) k (upd code val cons t F j))) := ⟨HR2.out.1.put4 B22.out, put4_fr1 HG2.out (by omega)⟩
        have HCD : Hid (code (rat code cons t j).2 j ≠ 0) := hcd
        clear HRR HR2 HSN B12 B22 HG2 hcd
        simp only [f3] at y1 y2 y3
        generalize code (rat code cons t j).2 j = cd at *
        go_wp2
        (try simp only [Exit.inBlock, Exit.then])
        refine bodyPost_ret (v := .tuple #[.agg #[.int .u8 (k : Int), .int .i32 (upd code val cons t F j 0), .int .i32 (upd code val cons t F j 1), .int .i32 (upd code val cons t F j 2)], .int .i64 cd]) ?_ rfl ⟨upd code val cons t F j, by rw [HEND.out], fun e => absurd (HEND.out.symm.trans e) HCD.out, t', HRD.out.1, HRD.out.2, fun e => absurd (HEND.out.symm.trans e) HCD.out⟩
        rw [results_cell_tmp rfl]
        obtain ⟨r0, r1, r2, r3⟩ := HRX.out.cells
        simp only [put4] at r0 r1 r2 r3
        go_simp
    · have e : j = c := by omega
      subst e
      obtain ⟨x0, x1, x2, x3⟩ := B1.out.cells
      obtain ⟨y0, y1, y2, y3⟩ := B2.out.cells
      have z0 := B2.out.frozen 0
      have z1 := B2.out.frozen 1
      have z2 := B2.out.frozen 2
      have z3 := B2.out.frozen 3
      have HRX : Hid (Box (put4 wr (w.heap.size + 1) k (upd code val cons t F j)) (w.heap.size + 1) k (upd code val cons t F j)) := put4_box B2.out
      have HRD : Hid (Rd B (put4 wr (w.heap.size + 1) k (upd code val cons t F j)) br g P (rat code cons t j).2 ∧ Fr (At br none) w (put4 wr (w.heap.size + 1) k (upd code val cons t F j))) := ⟨HR.out.put4 B2.out, put4_fr1 HG.out (by omega)⟩
      have HGE : Hid (t ≤ (rat code cons t j).2) := rat_ge code cons t j
      clear B1 B2 HR HG R
      simp only [f3] at y1 y2 y3
      go_wp2
      (try simp only [Exit.inBlock, Exit.then])
      refine bodyPost_ret (v := .tuple #[.agg #[.int .u8 (k : Int), .int .i32 (upd code val cons t F j 0), .int .i32 (upd code val cons t F j 1), .int .i32 (upd code val cons t F j 2)], .int .i64 0]) ?_ rfl ⟨upd code val cons t F j, by rw [HZ.out], fun _ => rfl, (rat code cons t j).2, HRD.out.1, HRD.out.2, fun _ => by have := HGE.out; omega⟩
      rw [results_cell_tmp rfl]
      obtain ⟨r0, r1, r2, r3⟩ := HRX.out.cells
      simp only [put4] at r0 r1 r2 r3
      go_simp
end Go.Proofs.YtbencjopjdjepaaGreatDoor


/-
  Get of package comp: a component that is read.
-/
namespace Go.Proofs.YtbencjopjdjepaaGreatDoor
open Go.RowKit
set_option linter.unusedVariables false
set_option maxRecDepth 100000

/-- field j of a kind, read from place t on: error, number, bits -/
def gf (k : Nat) (P : List Nat) (t j : Nat) : Int × Int × Nat := gi (lo k j) (hi k j) ((bitsB P).drop t)
theorem gi_rng (x y : Int) (L : List Bool) : (gi x y L).2.1 = 0 ∨ (x ≤ (gi x y L).2.1 ∧ (gi x y L).2.1 ≤ y) := by
  unfold gi
  split
  · exact .inl rfl
  · split
    · exact .inl rfl
    · split
      · exact .inl rfl
      · right
        show x ≤ x + _ ∧ x + _ ≤ y
        omega
theorem Tab.fr1 {w w' : World} {br : Nat} (h : Tab w) (hf : Fr (At br none) w w') (hb : br ≠ 1) : Tab w' := h.keep hf (by rintro (e | e); exact hb e.symm; cases e)

set_option maxHeartbeats 1000000 in
theorem getField_any (B : Nat) (w : World) (ht : Tab w) (br : Nat) (g : Option Nat) (P : List Nat) (t k j : Nat) (hk : k < 256) (hj : j < cnt k) (h : Rd B w br g P t) :
    Calls Tryz.prog 221 #[.pointer (some ⟨br, 0, none⟩), .int .u8 (k : Int), .int .i64 (j : Int)] w fun e w' => e = .returned (.tuple #[.int .i32 (gf k P t j).2.1, .int .i64 (gf k P t j).1]) ∧ Rd B w' br g P (t + (gf k P t j).2.2) ∧ Fr (At br none) w w' := by
  obtain ⟨l0, l1, l2, l3⟩ := rng_ok k j hj
  have R : Hid (∀ _ : Unit, _) := fun _ => range_ok w ht k hk j hj
  have G : Hid (∀ w, Rd B w br g P t → _) := fun w hw => getIn_rd B w br g P t (lo k j) (hi k j) hw (by omega) (by omega) (by omega) (by omega)
  have H : Hid (Rd B w br g P t) := h
  have hv := gi_rng (lo k j) (hi k j) ((bitsB P).drop t)
  have hr : -524288 ≤ (gi (lo k j) (hi k j) ((bitsB P).drop t)).2.1 ∧ (gi (lo k j) (hi k j) ((bitsB P).drop t)).2.1 ≤ 524287 := by omega
  obtain ⟨r0, r1⟩ := hr
  unfold gf
  generalize (gi (lo k j) (hi k j) ((bitsB P).drop t)).2.1 = v at *
  generalize (gi (lo k j) (hi k j) ((bitsB P).drop t)).1 = cd at *
  generalize (gi (lo k j) (hi k j) ((bitsB P).drop t)).2.2 = n at *
  generalize lo k j = x at *
  generalize hi k j = y at *
  clear ht h hv hj
  go_enter Tryz.func221, Tryz.ntmps221
  go_wp2_with fail
  refine (R.out ()).mono ?_
  rintro e w1 ⟨rfl, hf1⟩
  have HF1 : Hid (Fr Nobody w w1) := hf1
  clear hf1
  go_wp2_with fail
  refine (G.out _ (H.out.quiet HF1.out)).mono ?_
  rintro e w2 ⟨rfl, hR, hf2⟩
  have HR : Hid (Rd B w2 br g P (t + n)) := hR
  have HF2 : Hid (Fr (At br none) w w2) := (HF1.out.mono (fun _ _ k => k.elim)).trans hf2
  clear hR hf2
  go_wp2
  go_ret2
  exact ⟨rfl, HR.out, HF2.out⟩

set_option maxHeartbeats 1000000 in
theorem get11_flds (B : Nat) (w0 : World) (ht : Tab w0) (br bx bk : Nat) (hbr : br ≠ 1) (g : Option Nat) (P : List Nat) (k : Nat) (hk : k < 256) (h1 : w0.cell? ⟨bx, 0, none⟩ = some (.pointer (some ⟨br, 0, none⟩))) (h2 : w0.cell? ⟨bk, 0, none⟩ = some (.int .u8 (k : Int))) (n1 : bx ≠ br) (n2 : bk ≠ br) :
    Flds 220 (.pointer (some ⟨bx, 0, none⟩)) (.pointer (some ⟨bk, 0, none⟩)) B w0 br g P (cnt k) (fun t j => (gf k P t j).1) (fun t j => (gf k P t j).2.1) (fun t j => (gf k P t j).2.2) := by
  intro w t j hR hf hj
  have c1 : w.cell? ⟨bx, 0, none⟩ = some (.pointer (some ⟨br, 0, none⟩)) := (hf.cell (p := ⟨bx, 0, none⟩) (World.block_lt_of_cell? w0 _ h1) (by rintro (e | e); exact n1 e; cases e)).trans h1
  have c2 : w.cell? ⟨bk, 0, none⟩ = some (.int .u8 (k : Int)) := (hf.cell (p := ⟨bk, 0, none⟩) (World.block_lt_of_cell? w0 _ h2) (by rintro (e | e); exact n2 e; cases e)).trans h2
  have G : Hid (∀ _ : Unit, _) := fun _ => getField_any B w (ht.fr1 hf hbr) br g P t k j hk hj hR
  show Calls Tryz.prog 220 #[.int .i64 (j : Int), .pointer (some ⟨bx, 0, none⟩), .pointer (some ⟨bk, 0, none⟩)] w fun e w' => e = .returned (.tuple #[.int .i32 (gf k P t j).2.1, .int .i64 (gf k P t j).1]) ∧ GvEnd B w w' br g P t (gf k P t j).1 (gf k P t j).2.2
  generalize (gf k P t j).1 = cd at *
  generalize (gf k P t j).2.1 = v at *
  generalize (gf k P t j).2.2 = n at *
  clear hR hf h1 h2 ht hj
  go_enter Tryz.func220, Tryz.ntmps220
  go_wp2_with fail
  refine (G.out ()).mono ?_
  rintro e w1 ⟨rfl, hR1, hf1⟩
  have HE : Hid (GvEnd B w w1 br g P t cd n) := ⟨_, hR1, hf1, fun _ => rfl⟩
  clear hR1 hf1
  go_wp2
  go_ret2
  exact ⟨rfl, HE.out⟩

/-- the component of a kind from place t on: error, fields, bits -/
def gcode (k : Nat) (P : List Nat) (t : Nat) : Int := if cnt k = 0 then 1 else (rat (fun t j => (gf k P t j).1) (fun t j => (gf k P t j).2.2) t (cnt k)).1
def gfld (k : Nat) (P : List Nat) (t : Nat) : Nat → Int := upd (fun t j => (gf k P t j).1) (fun t j => (gf k P t j).2.1) (fun t j => (gf k P t j).2.2) t (f3 0 0 0) (cnt k)
def gcons (k : Nat) (P : List Nat) (t : Nat) : Nat := if gcode k P t = 0 then (rat (fun t j => (gf k P t j).1) (fun t j => (gf k P t j).2.2) t (cnt k)).2 - t else 0

set_option maxHeartbeats 2000000 in
theorem get1_reads (B : Nat) (w0 : World) (ht : Tab w0) (br bx bk : Nat) (hbr : br ≠ 1) (g : Option Nat) (P : List Nat) (t k : Nat) (hk : k < 256) (h1 : w0.cell? ⟨bx, 0, none⟩ = some (.pointer (some ⟨br, 0, none⟩))) (h2 : w0.cell? ⟨bk, 0, none⟩ = some (.int .u8 (k : Int))) (n1 : bx ≠ br) (n2 : bk ≠ br) :
    ReadsC 218 (.pointer (some ⟨bk, 0, none⟩)) (.pointer (some ⟨bx, 0, none⟩)) B w0 br g P t (gcode k P t) k (gfld k P t) (gcons k P t) := by
  intro w hR hf
  have c1 : w.cell? ⟨bx, 0, none⟩ = some (.pointer (some ⟨br, 0, none⟩)) := (hf.cell (p := ⟨bx, 0, none⟩) (World.block_lt_of_cell? w0 _ h1) (by rintro (e | e); exact n1 e; cases e)).trans h1
  have c2 : w.cell? ⟨bk, 0, none⟩ = some (.int .u8 (k : Int)) := (hf.cell (p := ⟨bk, 0, none⟩) (World.block_lt_of_cell? w0 _ h2) (by rintro (e | e); exact n2 e; cases e)).trans h2
  have hT : Tab w := ht.fr1 hf hbr
  have l1 := World.block_lt_of_cell? w _ c1
  have l2 := World.block_lt_of_cell? w _ c2
  have l3 := hR.lt
  obtain ⟨W, hW⟩ : ∃ W, W = ((w.alloc (.cells #[.int .u8 0, .int .i32 0, .int .i32 0, .int .i32 0] 68)).alloc (.cells #[.int .u8 (k : Int), .int .i32 0, .int .i32 0, .int .i32 0] 68)) := ⟨_, rfl⟩
  have HQ : Hid (Fr Nobody w W) := by subst hW; exact ((Fr.refl _ _).alloc _).alloc _
  have HX : Hid (Box W w.heap.size 0 (f3 0 0 0)) := by subst hW; exact (Box.new w 0 (f3 0 0 0)).quiet ((Fr.refl _ _).alloc _)
  have HY : Hid (Box W (w.heap.size + 1) k (f3 0 0 0)) := by subst hW; exact Box.new' (w.alloc _) (w.heap.size + 1) k (f3 0 0 0) (by simp)
  have HT : Hid (Tab W) := hT.quiet HQ.out
  have C : Hid (∀ w, Tab w → _) := fun w h => count_any w h k hk
  have HR : Hid (Rd B w br g P t) := hR
  have E : Hid (∀ _ : Unit, _) := fun _ => eachField_get (.pointer (some ⟨bx, 0, none⟩)) (.pointer (some ⟨bk, 0, none⟩)) B W HT.out br hbr g P t k hk (f3 0 0 0) _ _ _ (hR.quiet HQ.out) (get11_flds B W HT.out br bx bk hbr g P k hk ((HQ.out.cell (p := ⟨bx, 0, none⟩) l1 id).trans c1) ((HQ.out.cell (p := ⟨bk, 0, none⟩) l2 id).trans c2) n1 n2)
  clear hR hf ht hT h1 h2
  by_cases h0 : cnt k = 0
  · have eg : gcode k P t = 1 := by unfold gcode; rw [if_pos h0]
    rw [eg]
    rw [h0] at C
    clear E eg
    have HT' := HT.out
    rw [hW] at HT'
    have HT2 : Hid _ := HT'
    clear HT' HQ HX HY HT hW
    go_enter Tryz.func218, Tryz.ntmps218
    go_wp2_with fail
    refine (C.out _ HT2.out).mono ?_
    rintro e w1 ⟨rfl, rfl⟩
    go_wp2
    (try simp only [Exit.inBlock, Exit.then])
    refine bodyPost_ret (v := .tuple #[.agg #[.int .u8 (k : Int), .int .i32 0, .int .i32 0, .int .i32 0], .int .i64 1]) ?_ rfl ⟨k, f3 0 0 0, rfl, (fun e => by cases e), t, ?_, ?_, (fun e => by cases e)⟩
    · rw [results_cell_tmp rfl]
      go_simp
    · exact HR.out.quiet (((Fr.refl _ _).alloc _).alloc _)
    · exact ((Fr.refl _ _).alloc _).alloc _
  · have hne : ((cnt k : Int) == 0) = false := by rw [beq_eq_false_iff_ne]; omega
    have EG : Hid (gcode k P t = (rat (fun t j => (gf k P t j).1) (fun t j => (gf k P t j).2.2) t (cnt k)).1) := by show _ = _; unfold gcode; rw [if_neg h0]
    have EN : Hid (gcode k P t = 0 → gcons k P t = (rat (fun t j => (gf k P t j).1) (fun t j => (gf k P t j).2.2) t (cnt k)).2 - t) := fun e => by unfold gcons; rw [if_pos e]
    have EF : Hid (gfld k P t = upd (fun t j => (gf k P t j).1) (fun t j => (gf k P t j).2.1) (fun t j => (gf k P t j).2.2) t (f3 0 0 0) (cnt k)) := rfl
    have hbn : w.heap.size ≠ br := by omega
    generalize (rat (fun t j => (gf k P t j).1) (fun t j => (gf k P t j).2.2) t (cnt k)).1 = rc at *
    generalize (rat (fun t j => (gf k P t j).1) (fun t j => (gf k P t j).2.2) t (cnt k)).2 - t = rn at *
    generalize upd (fun t j => (gf k P t j).1) (fun t j => (gf k P t j).2.1) (fun t j => (gf k P t j).2.2) t (f3 0 0 0) (cnt k) = RF at *
    have HEQ : Hid (W = _) := hW
    generalize hcc : cnt k = c at *
    have HT' := HT.out
    rw [hW] at HT'
    have HT2 : Hid _ := HT'
    clear HT' h0
    unfold cmp at E
    go_enter Tryz.func218, Tryz.ntmps218
    go_wp2_with fail
    refine (C.out _ HT2.out).mono ?_
    rintro e w1 ⟨rfl, rfl⟩
    go_wp2_with fail
    rw [← HEQ.out]
    refine (E.out ()).mono ?_
    rintro e w2 ⟨F', rfl, hF', t', hR', hf', ht'⟩
    have X2 : Hid (Box w2 w.heap.size 0 (f3 0 0 0)) := HX.out.fr1 hf' hbn
    obtain ⟨y0, y1, y2, y3⟩ := X2.out.cells
    have z0 := X2.out.frozen 0
    have z1 := X2.out.frozen 1
    have z2 := X2.out.frozen 2
    have z3 := X2.out.frozen 3
    have HRX : Hid (Box (put4 w2 w.heap.size k F') w.heap.size k F') := put4_box X2.out
    have HRD : Hid (Rd B (put4 w2 w.heap.size k F') br g P t' ∧ Fr (At br none) w (put4 w2 w.heap.size k F') ∧ (rc = 0 → t' = t + rn) ∧ (rc = 0 → F' = RF)) := ⟨hR'.put4 X2.out, put4_fr1 ((HQ.out.mono (fun _ _ k => k.elim)).trans hf') (Nat.le_refl _), ht', hF'⟩
    clear hR' hf' ht' hF' X2 E C HX HY HT HT2 HQ hW HEQ
    simp only [f3] at y1 y2 y3
    go_wp2
    (try simp only [Exit.inBlock, Exit.then])
    refine bodyPost_ret (v := .tuple #[.agg #[.int .u8 (k : Int), .int .i32 (F' 0), .int .i32 (F' 1), .int .i32 (F' 2)], .int .i64 rc]) ?_ rfl ⟨k, F', by rw [EG.out]; rfl, fun e => by rw [HRD.out.2.2.2 (EG.out.symm.trans e), EF.out], t', HRD.out.1, HRD.out.2.1, fun e => by rw [EN.out e]; exact HRD.out.2.2.1 (EG.out.symm.trans e)⟩
    rw [results_cell_tmp rfl]
    obtain ⟨r0, r1, r2, r3⟩ := HRX.out.cells
    simp only [put4] at r0 r1 r2 r3
    go_simp

set_option maxHeartbeats 2000000 in
theorem getC_rd (B : Nat) (w : World) (ht : Tab w) (br : Nat) (hbr : br ≠ 1) (g : Option Nat) (P : List Nat) (t k : Nat) (hk : k < 256) (h : Rd B w br g P t) (RV : Array Value) (hv1 : gcode k P t = 0 → RV = cmp k (gfld k P t)) (hv2 : gcode k P t ≠ 0 → RV = cmp 0 (f3 0 0 0)) :
    Calls Tryz.prog 202 #[.pointer (some ⟨br, 0, none⟩), .int .u8 (k : Int)] w fun e w' => e = .returned (.tuple #[.agg RV, .int .i64 (gcode k P t)]) ∧ Rd B w' br g P (t + gcons k P t) ∧ Fr (At br none) w w' := by
  have hlt := h.lt
  have HR : Hid (Rd B w br g P t) := h
  obtain ⟨W, hW⟩ : ∃ W, W = (((w.alloc (.cells #[.pointer (some ⟨br, 0, none⟩)] 121)).alloc (.cells #[.int .u8 (k : Int)] 5)).alloc (.cells #[.int .u8 0, .int .i32 0, .int .i32 0, .int .i32 0] 68)) := ⟨_, rfl⟩
  have HQ : Hid (Fr Nobody w W) := by subst hW; exact (((Fr.refl _ _).alloc _).alloc _).alloc _
  have HX : Hid (Box W (w.heap.size + 1 + 1) 0 (f3 0 0 0)) := by subst hW; exact Box.new' _ _ 0 (f3 0 0 0) (by simp)
  have d1 : W.cell? ⟨w.heap.size, 0, none⟩ = some (.pointer (some ⟨br, 0, none⟩)) := by
    subst hW
    exact ((((Fr.refl Nobody (w.alloc _)).alloc _).alloc _).cell (p := ⟨w.heap.size, 0, none⟩) (by simp) id).trans (cell_new w _ _ _ rfl)
  have d2 : W.cell? ⟨w.heap.size + 1, 0, none⟩ = some (.int .u8 (k : Int)) := by
    subst hW
    exact (((Fr.refl Nobody ((w.alloc _).alloc _)).alloc _).cell (p := ⟨w.heap.size + 1, 0, none⟩) (by simp) id).trans (cell_new (w.alloc _) _ _ _ (by simp))
  have HTW : Hid (Tab W) := ht.quiet HQ.out
  obtain ⟨RA, hRA⟩ : ∃ RA, RA = RV := ⟨_, rfl⟩
  have E : Hid (∀ _ : Unit, _) := fun _ => tryC_get (.pointer (some ⟨w.heap.size + 1, 0, none⟩)) (.pointer (some ⟨w.heap.size, 0, none⟩)) B W br g P t (gcode k P t) k (gfld k P t) (gcons k P t) (h.quiet HQ.out) (get1_reads B W HTW.out br w.heap.size (w.heap.size + 1) hbr g P t k hk d1 d2 (by omega) (by omega)) (fun e => by unfold gcons; rw [if_neg e]) RV hv1 hv2
  obtain ⟨k', F', hkf⟩ : ∃ k' F', RV = cmp k' F' := by
    by_cases e : gcode k P t = 0
    · exact ⟨_, _, hv1 e⟩
    · exact ⟨_, _, hv2 e⟩
  clear hv1 hv2 hRA d1 d2
  subst hkf
  generalize gcode k P t = rc at *
  generalize gcons k P t = rn at *
  have hbn : w.heap.size + 1 + 1 ≠ br := by omega
  unfold cmp at E
  unfold cmp
  have HEQ : Hid (W = _) := hW
  clear ht h hW
  go_enter Tryz.func202, Tryz.ntmps202
  go_wp2_with fail
  rw [← HEQ.out]
  refine (E.out ()).mono ?_
  rintro e w2 ⟨rfl, hR', hf'⟩
  have X2 : Hid (Box w2 (w.heap.size + 1 + 1) 0 (f3 0 0 0)) := HX.out.fr1 hf' hbn
  obtain ⟨y0, y1, y2, y3⟩ := X2.out.cells
  have z0 := X2.out.frozen 0
  have z1 := X2.out.frozen 1
  have z2 := X2.out.frozen 2
  have z3 := X2.out.frozen 3
  have HRX : Hid (Box (put4 w2 (w.heap.size + 1 + 1) k' F') (w.heap.size + 1 + 1) k' F') := put4_box X2.out
  have HRD : Hid (Rd B (put4 w2 (w.heap.size + 1 + 1) k' F') br g P (t + rn) ∧ Fr (At br none) w (put4 w2 (w.heap.size + 1 + 1) k' F')) := ⟨hR'.put4 X2.out, put4_fr1 ((HQ.out.mono (fun _ _ k => k.elim)).trans hf') (by omega)⟩
  clear hR' hf' X2 E HX HTW HQ HEQ
  simp only [f3] at y1 y2 y3
  go_wp2
  (try simp only [Exit.inBlock, Exit.then])
  refine bodyPost_ret (v := .tuple #[.agg #[.int .u8 (k' : Int), .int .i32 (F' 0), .int .i32 (F' 1), .int .i32 (F' 2)], .int .i64 rc]) ?_ rfl ⟨rfl, HRD.out.1, HRD.out.2⟩
  rw [results_cell_tmp rfl]
  obtain ⟨r0, r1, r2, r3⟩ := HRX.out.cells
  simp only [put4] at r0 r1 r2 r3
  go_simp
end Go.Proofs.YtbencjopjdjepaaGreatDoor


/-
  The document's Get of components, on lists of bits.
-/
namespace Go.Proofs.YtbencjopjdjepaaGreatDoor
open Go.RowKit
set_option linter.unusedVariables false
set_option maxRecDepth 100000

theorem Bs.setBox {w : World} {v : Value} {L : List Bool} {b k o : Nat} {F : Nat → Int} (h : Bs w v L) (hb : Box w b k F) (x : Value) : Bs (w.setCell ⟨b, o, none⟩ x) v L := by
  refine h.keep (Fr.setCell (S := fun k => k = b) (Fr.refl _ _) (p := ⟨b, o, none⟩) (.inl rfl) x) ?_
  rintro k cur hk rfl
  unfold Box at hb
  rw [hk] at hb
  simp at hb
theorem Bs.put4 {w : World} {v : Value} {L : List Bool} {b k k0 : Nat} {F F0 : Nat → Int} (h : Bs w v L) (hb : Box w b k0 F0) : Bs (put4 w b k F) v L := by
  refine h.keep (put4_fr (S := fun k => k = b) (Fr.refl _ _) (.inl rfl)) ?_
  rintro k cur hk rfl
  unfold Box at hb
  rw [hk] at hb
  simp at hb

end Go.Proofs.YtbencjopjdjepaaGreatDoor


/-
  Get of package comp on an owned reader.
-/
namespace Go.Proofs.YtbencjopjdjepaaGreatDoor
open Go.RowKit
set_option linter.unusedVariables false
set_option maxRecDepth 100000

theorem Or.low {w0 w : World} {br : Nat} {P : List Nat} {t : Nat} (h : Or w0 w br P t) (ht : Tab w0) : br ≠ 1 := by
  obtain ⟨g, hR, _⟩ := h
  have := hR.low
  have := ht.size
  omega
end Go.Proofs.YtbencjopjdjepaaGreatDoor


