/-
  Try of package reading, of components.
-/
import Derived.Test.YtllhipfielgnbaaDoorKfg
namespace Go.Proofs.YtllhipfielgnbaaDoor
open Go.RowKit
set_option linter.unusedVariables false
set_option maxRecDepth 100000

/-- a closure that reads a component: it answers rc, beside no error the component, and leaves the reader somewhere -/
def ReadsC (f : FuncId) (c1 c2 : Value) (B : Nat) (w0 : World) (br : Nat) (g : Option Nat) (P : List Nat) (t : Nat) (rc : Int) (k : Nat) (F : Nat → Int) (rn : Nat) : Prop :=
  ∀ w, Rd B w br g P t → Fr (At br none) w0 w → Calls Tryd.prog f #[c1, c2] w fun e w' => ∃ k' F', e = .returned (.tuple #[.agg (cmp k' F'), .int .i64 rc]) ∧ (rc = 0 → cmp k' F' = cmp k F) ∧ GvEnd B w w' br g P t rc rn

theorem put4_fr1 {w0 w : World} {br b k : Nat} {F : Nat → Int} (h : Fr (At br none) w0 w) (hb : w0.heap.size ≤ b) : Fr (At br none) w0 (put4 w b k F) := put4_fr h (.inr hb)
theorem Rd.fresh {B : Nat} {w w' : World} {br : Nat} {g : Option Nat} {P : List Nat} {t b : Nat} (h : Rd B w br g P t) (hf : Fr (fun k => k = b) w w') (h1 : b ≠ br) (h2 : g ≠ some b) : Rd B w' br g P t :=
  h.keep hf (fun e => h1 e.symm) (fun k hk e => h2 (by rw [hk, e]))
/-- a component laid over a block leaves a reader -/
theorem Rd.put4 {B : Nat} {w : World} {br : Nat} {g : Option Nat} {P : List Nat} {t b k k0 : Nat} {F F0 : Nat → Int} (h : Rd B w br g P t) (hb : Box w b k0 F0) : Rd B (put4 w b k F) br g P t := by
  have h1 : b ≠ br := by
    rintro rfl
    obtain ⟨v, hv, _⟩ := h.obj
    unfold Box at hb
    rw [hv] at hb
    simp at hb
  have h2 : g ≠ some b := by
    intro e
    obtain ⟨v, hv, ho, hg⟩ := h.obj
    rcases ho.2 with ⟨rfl, _⟩ | ⟨g', cap, cur, rfl, _, hgg, _⟩
    · rw [← hg] at e; simp [Value.ownBlock] at e
    · rw [← hg] at e
      simp [Value.ownBlock] at e
      subst e
      unfold Box at hb
      rw [hgg] at hb
      simp at hb
  exact h.fresh (put4_fr (S := fun k => k = b) (Fr.refl _ _) (.inl rfl)) h1 h2
theorem Box.fr1 {w w' : World} {b k br : Nat} {F : Nat → Int} (h : Box w b k F) (hf : Fr (At br none) w w') (hb : b ≠ br) : Box w' b k F :=
  (hf.block b (Array.getElem?_eq_some_iff.1 h).1 (by rintro (e | e); exact hb e; cases e)).trans h

set_option maxHeartbeats 1000000 in
theorem tryC_step (c1 c2 : Value) (B : Nat) (w : World) (br : Nat) (g : Option Nat) (P : List Nat) (t : Nat) (rc : Int) (k : Nat) (F : Nat → Int) (rn : Nat) (h : Rd B w br g P t) (hr : ReadsC 38 c1 c2 B w br g P t rc k F rn) (hz : rc ≠ 0 → rn = 0) (RV : Array Value) (hv1 : rc = 0 → RV = cmp k F) (hv2 : rc ≠ 0 → RV = cmp 0 (f3 0 0 0)) :
    Calls Tryd.prog 37 #[.pointer (some ⟨br, 0, none⟩), .func (.func 38) #[] #[c1, c2]] w fun e w' => e = .returned (.tuple #[.agg RV, .int .i64 rc]) ∧ Rd B w' br g P (t + rn) ∧ Fr (At br none) w w' := by
  obtain ⟨v, hb, ho, hv⟩ := h.obj
  have c0 := cell0 hb
  have c1' := cell1 hb
  obtain ⟨ao, cap, hvs⟩ : ∃ ao cap, v = .slice ao P.length cap := by
    rcases ho.2 with ⟨rfl, h0⟩ | ⟨g, cap, cur, rfl, _⟩
    · exact ⟨none, 0, by rw [h0]⟩
    · exact ⟨_, _, rfl⟩
  subst hvs
  have hlt := h.lt
  have H : Hid (Rd B w br g P t ∧ ReadsC 38 c1 c2 B w br g P t rc k F rn ∧ (rc ≠ 0 → rn = 0)) := ⟨h, hr, hz⟩
  have HO : Hid (w.ownsRow 0 5 1 (.slice ao P.length cap) P.length (vrow P) ∧ (Value.slice ao P.length cap).ownBlock = g) := ⟨ho, hv⟩
  clear h hr hz hb ho hv
  obtain ⟨W, hW⟩ : ∃ W, W = (((w.alloc (.cells #[.int .u8 0, .int .i32 0, .int .i32 0, .int .i32 0] 24)).alloc (.cells #[.int .u8 0, .int .i32 0, .int .i32 0, .int .i32 0] 24)).alloc (.cells #[.slice ao P.length cap, .int .i64 (t : Int)] 69)) := ⟨_, rfl⟩
  have HQ : Hid (Fr Nobody w W) := by subst hW; exact ((((Fr.refl _ _).alloc _).alloc _).alloc _)
  have HS : Hid (W.heap.size = w.heap.size + 1 + 1 + 1) := by subst hW; show _ = _; simp
  have HX : Hid (Box W w.heap.size 0 (f3 0 0 0)) := by
    subst hW
    exact ((Box.new w 0 (f3 0 0 0)).quiet ((Fr.refl _ _).alloc _)).quiet ((Fr.refl _ _).alloc _)
  have HY : Hid (Box W (w.heap.size + 1) 0 (f3 0 0 0)) := by
    subst hW
    exact (Box.new' (w.alloc _) (w.heap.size + 1) 0 (f3 0 0 0) (by simp)).quiet ((Fr.refl _ _).alloc _)
  have HZ : Hid (W.heap[w.heap.size + 1 + 1]? = some (.cells #[.slice ao P.length cap, .int .i64 (t : Int)] 69 (0, 0))) := by
    subst hW
    show _ = _
    have := heap_alloc_new ((w.alloc (.cells #[.int .u8 0, .int .i32 0, .int .i32 0, .int .i32 0] 24)).alloc (.cells #[.int .u8 0, .int .i32 0, .int .i32 0, .int .i32 0] 24)) (.cells #[.slice ao P.length cap, .int .i64 (t : Int)] 69)
    simpa using this
  have HC : Hid (Calls Tryd.prog 38 #[c1, c2] W fun e w' => ∃ k' F', e = .returned (.tuple #[.agg (cmp k' F'), .int .i64 rc]) ∧ (rc = 0 → cmp k' F' = cmp k F) ∧ GvEnd B W w' br g P t rc rn) := H.out.2.1 W (H.out.1.quiet HQ.out) (HQ.out.mono (fun _ _ k => k.elim))
  go_enter Tryd.func37, Tryd.ntmps37
  go_wp2_with fail
  rw [← hW]
  refine HC.out.mono ?_
  rintro e w2 ⟨k', F', rfl, hcm, t', hR', hf', ht'⟩
  have hs2 := hf'.size
  have HF : Hid (Fr (At br none) w w2 ∧ Rd B w2 br g P t' ∧ (rc = 0 → t' = t + rn)) := ⟨(HQ.out.mono (fun _ _ k => k.elim)).trans hf', hR', ht'⟩
  have hn0 : w.heap.size ≠ br := by omega
  have hn1 : w.heap.size + 1 ≠ br := by omega
  have hn2 : w.heap.size + 1 + 1 ≠ br := by omega
  have X2 : Hid (Box w2 w.heap.size 0 (f3 0 0 0)) := HX.out.fr1 hf' hn0
  have Y2 : Hid (Box w2 (w.heap.size + 1) 0 (f3 0 0 0)) := HY.out.fr1 hf' hn1
  have hnew : w2.heap[w.heap.size + 1 + 1]? = some (.cells #[.slice ao P.length cap, .int .i64 (t : Int)] 69 (0, 0)) := (hf'.block _ (by rw [HS.out]; omega) (by rintro (e | e); exact hn2 e; cases e)).trans HZ.out
  have d0 := cell0 hnew
  have d1 := cell1 hnew
  obtain ⟨v2, hb2, hx1, hx2⟩ := hR'.obj
  clear hx1 hx2
  have HB2 : Hid (w2.heap[br]? = some (.cells #[v2, .int .i64 (t' : Int)] 69 (0, 0))) := hb2
  have e0 := cell0 hb2
  have e1 := cell1 hb2
  have g0 : w2.frozen? ⟨br, 0, none⟩ = false := froz hb2
  have g1 : w2.frozen? ⟨br, 1, none⟩ = false := froz hb2
  have hl2 := hR'.lt
  have HSZ : Hid (w.heap.size + 1 + 1 + 1 ≤ w2.heap.size) := by have := HS.out; show _ ≤ _; omega
  obtain ⟨x0, x1, x2, x3⟩ := X2.out.cells
  obtain ⟨y0, y1, y2, y3⟩ := Y2.out.cells
  have z0 := X2.out.frozen 0
  have z1 := X2.out.frozen 1
  have z2 := X2.out.frozen 2
  have z3 := X2.out.frozen 3
  have q0 : w2.heap.size ≠ w.heap.size := by have := HSZ.out; omega
  have q1 : w2.heap.size ≠ br := by omega
  have q2 : w.heap.size < w2.heap.size := by have := HSZ.out; omega
  have q3 : w.heap.size + 1 < w2.heap.size := by have := HSZ.out; omega
  have q4 : w.heap.size + 1 + 1 < w2.heap.size := by have := HSZ.out; omega
  clear hR' hf' ht' hb2 hnew HQ HS HX HY HZ HC c0 c1' hs2 hW
  simp only [f3] at x1 x2 x3 y1 y2 y3
  have HSB : Hid (Box (w2.alloc (.cells (cmp k' F') 24)) w2.heap.size k' F') := Box.new w2 k' F'
  by_cases hrc : rc = 0
  · have HT : Hid (Rd B w2 br g P (t + rn) ∧ Fr (At br none) w w2) := ⟨by rw [← HF.out.2.2 hrc]; exact HF.out.2.1, HF.out.1⟩
    have hcm' := hcm hrc
    have HV : Hid (RV = cmp k' F') := (hv1 hrc).trans hcm'.symm
    clear HF H hcm hcm' hv1 hv2 y0 y1 y2 y3 d0 d1 e0 e1 g0 g1 Y2 HB2 HO hn0 hn1 hn2 q1
    subst hrc
    have HR3 : Hid (Rd B ((put4 w2 w.heap.size k' F').alloc (.cells (cmp k' F') 24)) br g P (t + rn)) := (HT.out.1.put4 X2.out).quiet ((Fr.refl _ _).alloc _)
    have HF3 : Hid (Fr (At br none) w ((put4 w2 w.heap.size k' F').alloc (.cells (cmp k' F') 24))) := (put4_fr1 HT.out.2 (Nat.le_refl _)).alloc _
    have HRR : Hid (Box ((put4 w2 w.heap.size k' F').alloc (.cells (cmp k' F') 24)) w.heap.size k' F') := (put4_box X2.out).quiet ((Fr.refl _ _).alloc _)
    unfold cmp at *
    go_wp2
    (try simp only [Exit.inBlock, Exit.then])
    refine bodyPost_ret (v := .tuple #[.agg #[.int .u8 (k' : Int), .int .i32 (F' 0), .int .i32 (F' 1), .int .i32 (F' 2)], .int .i64 0]) ?_ rfl ⟨by rw [HV.out], HR3.out, HF3.out⟩
    rw [results_cell_tmp rfl]
    obtain ⟨r0, r1, r2, r3⟩ := HRR.out.cells
    simp only [put4] at r0 r1 r2 r3
    go_simp
  · have tr : (rc != 0) = true := by rw [bne_iff_ne]; exact hrc
    have hz2 := H.out.2.2 hrc
    subst hz2
    have HV : Hid (RV = cmp 0 (f3 0 0 0)) := hv2 hrc
    clear hv1 hv2
    have HT : Hid (Rd B ((w2.setCell ⟨br, 0, none⟩ (.slice ao P.length cap)).setCell ⟨br, 1, none⟩ (.int .i64 (t : Int))) br g P (t + 0) ∧ Fr (At br none) w ((w2.setCell ⟨br, 0, none⟩ (.slice ao P.length cap)).setCell ⟨br, 1, none⟩ (.int .i64 (t : Int)))) := by
      have R := H.out.1
      have hgne : g ≠ some br := R.ne
      have ho2 : w2.ownsRow 0 5 1 (.slice ao P.length cap) P.length (vrow P) := HF.out.1.row HO.out.1 (fun k hk => by
        rintro (e | e)
        · subst e; exact hgne (HO.out.2.symm.trans hk)
        · cases e)
      have hk1 : (Value.slice ao P.length cap).ownBlock ≠ some br := by rw [HO.out.2]; exact hgne
      refine ⟨⟨R.low, R.glow, R.ne, R.byt, R.len, R.le, ⟨.slice ao P.length cap, ?_, row_setCell (row_setCell ho2 _ _ hk1) _ _ hk1, HO.out.2⟩⟩, (HF.out.1.setCell (.inl (.inl rfl)) _).setCell (.inl (.inl rfl)) _⟩
      refine (setCell_heap _ br 1 _ _ _ (setCell_heap w2 br 0 _ _ _ HB2.out)).trans ?_
      simp
    have X3 : Hid (Box ((w2.setCell ⟨br, 0, none⟩ (.slice ao P.length cap)).setCell ⟨br, 1, none⟩ (.int .i64 (t : Int))) w.heap.size 0 (f3 0 0 0)) := X2.out.fr1 (((Fr.refl _ w2).setCell (p := ⟨br, 0, none⟩) (.inl (.inl rfl)) _).setCell (p := ⟨br, 1, none⟩) (.inl (.inl rfl)) _) hn0
    have HR3 : Hid (Rd B ((put4 ((w2.setCell ⟨br, 0, none⟩ (.slice ao P.length cap)).setCell ⟨br, 1, none⟩ (.int .i64 (t : Int))) w.heap.size 0 (f3 0 0 0)).alloc (.cells (cmp k' F') 24)) br g P (t + 0)) := (HT.out.1.put4 X3.out).quiet ((Fr.refl _ _).alloc _)
    have HF3 : Hid (Fr (At br none) w ((put4 ((w2.setCell ⟨br, 0, none⟩ (.slice ao P.length cap)).setCell ⟨br, 1, none⟩ (.int .i64 (t : Int))) w.heap.size 0 (f3 0 0 0)).alloc (.cells (cmp k' F') 24))) := (put4_fr1 HT.out.2 (Nat.le_refl _)).alloc _
    have HRR : Hid (Box ((put4 ((w2.setCell ⟨br, 0, none⟩ (.slice ao P.length cap)).setCell ⟨br, 1, none⟩ (.int .i64 (t : Int))) w.heap.size 0 (f3 0 0 0)).alloc (.cells (cmp k' F') 24)) w.heap.size 0 (f3 0 0 0)) := (put4_box X3.out).quiet ((Fr.refl _ _).alloc _)
    clear HF H HB2 HO hcm
    unfold cmp at *
    go_wp2
    (try simp only [Exit.inBlock, Exit.then])
    refine bodyPost_ret (v := .tuple #[.agg #[.int .u8 0, .int .i32 0, .int .i32 0, .int .i32 0], .int .i64 rc]) ?_ rfl ⟨by rw [HV.out]; rfl, HR3.out, HF3.out⟩
    rw [results_cell_tmp rfl]
    obtain ⟨r0, r1, r2, r3⟩ := HRR.out.cells
    simp only [put4, f3] at r0 r1 r2 r3
    go_simp


end Go.Proofs.YtllhipfielgnbaaDoor

/-
  Fields that are read one by one: eachField of package comp.
-/
namespace Go.Proofs.YtllhipfielgnbaaDoor
open Go.RowKit
set_option linter.unusedVariables false
set_option maxRecDepth 100000

/-- the error and the place behind the first fields: code, cons: of a place and a field -/
def rat (code : Nat → Nat → Int) (cons : Nat → Nat → Nat) (t : Nat) : Nat → Int × Nat
  | 0 => (0, t)
  | j + 1 => if (rat code cons t j).1 = 0 then (code (rat code cons t j).2 j, (rat code cons t j).2 + cons (rat code cons t j).2 j) else rat code cons t j
theorem rat_err (code : Nat → Nat → Int) (cons : Nat → Nat → Nat) (t j n : Nat) (h : (rat code cons t j).1 ≠ 0) : rat code cons t (j + n) = rat code cons t j := by
  induction n with
  | zero => rfl
  | succ n ih => rw [← Nat.add_assoc, rat, ih, if_neg h]
theorem rat_ge (code : Nat → Nat → Int) (cons : Nat → Nat → Nat) (t j : Nat) : t ≤ (rat code cons t j).2 := by
  induction j with
  | zero => exact Nat.le_refl _
  | succ j ih =>
    rw [rat]
    split
    · show t ≤ _ + _; omega
    · exact ih
/-- the fields as read -/
def upd (code val : Nat → Nat → Int) (cons : Nat → Nat → Nat) (t : Nat) (F : Nat → Int) (n : Nat) (j : Nat) : Int := if j < n then val (rat code cons t j).2 j else F j
theorem upd_zero (code val : Nat → Nat → Int) (cons : Nat → Nat → Nat) (t : Nat) (F : Nat → Int) : upd code val cons t F 0 = F := by funext j; simp [upd]

/-- a closure that reads field j -/
def Flds (f : FuncId) (c1 c2 : Value) (B : Nat) (w0 : World) (br : Nat) (g : Option Nat) (P : List Nat) (K : Nat) (code val : Nat → Nat → Int) (cons : Nat → Nat → Nat) : Prop :=
  ∀ w t j, Rd B w br g P t → Fr (At br none) w0 w → j < K → Calls Tryd.prog f #[.int .i64 ((j : Nat) : Int), c1, c2] w fun e w' => e = .returned (.tuple #[.int .i32 (val t j), .int .i64 (code t j)]) ∧ GvEnd B w w' br g P t (code t j) (cons t j)

theorem Box.set {w : World} {b k j : Nat} {F : Nat → Int} (h : Box w b k F) (hj : j < 3) (x : Int) : Box (w.setCell ⟨b, 1 + j, none⟩ (.int .i32 x)) b k (fun i => if i = j then x else F i) := by
  unfold Box cmp at *
  rw [setCell_heap w b (1 + j) _ _ _ h]
  have : j = 0 ∨ j = 1 ∨ j = 2 := by omega
  rcases this with rfl | rfl | rfl <;> rfl
theorem Rd.setBox {B : Nat} {w : World} {br : Nat} {g : Option Nat} {P : List Nat} {t b k o : Nat} {F : Nat → Int} (h : Rd B w br g P t) (hb : Box w b k F) (x : Value) : Rd B (w.setCell ⟨b, o, none⟩ x) br g P t := by
  have h1 : b ≠ br := by
    rintro rfl
    obtain ⟨v, hv, _⟩ := h.obj
    unfold Box at hb
    rw [hv] at hb
    simp at hb
  have h2 : g ≠ some b := by
    intro e
    obtain ⟨v, hv, ho, hg⟩ := h.obj
    rcases ho.2 with ⟨rfl, _⟩ | ⟨g', cap, cur, rfl, _, hgg, _⟩
    · rw [← hg] at e; simp [Value.ownBlock] at e
    · rw [← hg] at e
      simp [Value.ownBlock] at e
      subst e
      unfold Box at hb
      rw [hgg] at hb
      simp at hb
  exact h.fresh (Fr.setCell (S := fun k => k = b) (Fr.refl _ _) (p := ⟨b, o, none⟩) (.inl rfl) x) h1 h2

set_option maxHeartbeats 2000000 in
theorem eachField_step (c1 c2 : Value) (B : Nat) (w : World) (ht : Tab w) (br : Nat) (hbr : br ≠ 0) (g : Option Nat) (P : List Nat) (t : Nat) (k : Nat) (hk : k < 256) (F : Nat → Int) (code val : Nat → Nat → Int) (cons : Nat → Nat → Nat) (h : Rd B w br g P t) (hr : Flds 41 c1 c2 B w br g P (cnt k) code val cons) :
    Calls Tryd.prog 40 #[.agg (cmp k F), .func (.func 41) #[] #[c1, c2]] w fun e w' => ∃ F', e = .returned (.tuple #[.agg (cmp k F'), .int .i64 (rat code cons t (cnt k)).1]) ∧ ((rat code cons t (cnt k)).1 = 0 → F' = upd code val cons t F (cnt k)) ∧ GvEnd B w w' br g P t (rat code cons t (cnt k)).1 ((rat code cons t (cnt k)).2 - t) := by
  have HT : Hid (Tab w) := ht
  have H : Hid (Rd B w br g P t) := h
  have hlt := h.lt
  have hc := cnt_le k
  obtain ⟨c, ec⟩ : ∃ c, cnt k = c := ⟨_, rfl⟩
  have C : Hid (∀ w, Tab w → Calls Tryd.prog 32 #[.int .u8 (k : Int)] w fun e w' => e = .returned (.int .i64 (c : Int)) ∧ w' = w) := fun w h => by have := count_any w h k hk; rw [ec] at this; exact this
  rw [ec] at hr hc
  rw [ec]
  have R : Hid (Flds 41 c1 c2 B w br g P c code val cons) := hr
  obtain ⟨b1, b2, hf⟩ := boxes w k 0 F (f3 0 0 0)
  have HB1 : Hid (Box _ w.heap.size k F) := b1
  have HB2 : Hid (Box _ (w.heap.size + 1) 0 (f3 0 0 0)) := b2
  have HF : Hid (Fr Nobody w _) := hf
  have hb1n : w.heap.size ≠ br := by omega
  have hb2n : w.heap.size + 1 ≠ br := by omega
  clear ht h ec hr b1 b2 hf
  unfold cmp at *
  go_enter Tryd.func40, Tryd.ntmps40
  go_wp2_with fail
  refine (C.out _ (HT.out.quiet HF.out)).mono ?_
  rintro e w1 ⟨rfl, rfl⟩
  go_wp2
  go_loopw [12] (fun a wr => ∃ j : Nat, j ≤ c ∧ a = .int .i64 j ∧ (rat code cons t j).1 = 0 ∧ Rd B wr br g P (rat code cons t j).2 ∧ Box wr w.heap.size k (upd code val cons t F j) ∧ Box wr (w.heap.size + 1) 0 (f3 0 0 0) ∧ Fr (At br none) w wr) (fun a _ => c - (intOf a).toNat)
  case atStart => exact ⟨0, by omega, rfl, rfl, H.out.quiet HF.out, by rw [upd_zero]; exact HB1.out, HB2.out, HF.out.mono (fun _ _ k => k.elim)⟩
  case round =>
    obtain ⟨j, hj, rfl, hz, hR, hb1, hb2, hf⟩ := hrel
    have HZ : Hid ((rat code cons t j).1 = 0) := hz
    have HR : Hid (Rd B wr br g P (rat code cons t j).2) := hR
    have B1 : Hid (Box wr w.heap.size k (upd code val cons t F j)) := hb1
    have B2 : Hid (Box wr (w.heap.size + 1) 0 (f3 0 0 0)) := hb2
    have HG : Hid (Fr (At br none) w wr) := hf
    clear hz hR hb1 hb2 hf HB1 HB2 HF H
    by_cases hlt2 : j < c
    · have RJ : Hid (∀ _ : Unit, _) := fun _ => R.out wr (rat code cons t j).2 j HR.out HG.out hlt2
      have HSN : Hid (rat code cons t (j + 1) = (code (rat code cons t j).2 j, (rat code cons t j).2 + cons (rat code cons t j).2 j)) := by
        show _ = _
        rw [rat, if_pos HZ.out]
      go_wp2_with fail
      refine (RJ.out ()).mono ?_
      rintro e w2 ⟨rfl, t', hR', hf', ht'⟩
      have B12 : Hid (Box w2 w.heap.size k (upd code val cons t F j)) := B1.out.fr1 hf' hb1n
      have B22 : Hid (Box w2 (w.heap.size + 1) 0 (f3 0 0 0)) := B2.out.fr1 hf' hb2n
      have HG2 : Hid (Fr (At br none) w w2) := HG.out.trans hf'
      have HR2 : Hid (Rd B w2 br g P t' ∧ (code (rat code cons t j).2 j = 0 → t' = (rat code cons t j).2 + cons (rat code cons t j).2 j)) := ⟨hR', ht'⟩
      clear hR' hf' ht' RJ
      by_cases hcd : code (rat code cons t j).2 j = 0
      · have hx := B12.out.at j (by omega)
        have hfz := B12.out.frozen (1 + j)
        have B13 := B12.out.set (j := j) (by omega) (val (rat code cons t j).2 j)
        have B23 : Box (w2.setCell ⟨w.heap.size, 1 + j, none⟩ (.int .i32 (val (rat code cons t j).2 j))) (w.heap.size + 1) 0 (f3 0 0 0) := (Below.heap_setCell w2 _ _ (w.heap.size + 1) (by simp)).trans B22.out
        have eU : (fun i => if i = j then val (rat code cons t j).2 j else upd code val cons t F j i) = upd code val cons t F (j + 1) := by
          funext i
          unfold upd
          by_cases e1 : i = j
          · subst e1; simp
          · rw [if_neg e1]
            by_cases e2 : i < j
            · rw [if_pos e2, if_pos (by omega)]
            · rw [if_neg e2, if_neg (by omega)]
        rw [eU] at B13
        have HN : Hid ((rat code cons t (j + 1)).1 = 0 ∧ Rd B (w2.setCell ⟨w.heap.size, 1 + j, none⟩ (.int .i32 (val (rat code cons t j).2 j))) br g P (rat code cons t (j + 1)).2 ∧ Box (w2.setCell ⟨w.heap.size, 1 + j, none⟩ (.int .i32 (val (rat code cons t j).2 j))) w.heap.size k (upd code val cons t F (j + 1)) ∧ Box (w2.setCell ⟨w.heap.size, 1 + j, none⟩ (.int .i32 (val (rat code cons t j).2 j))) (w.heap.size + 1) 0 (f3 0 0 0) ∧ Fr (At br none) w (w2.setCell ⟨w.heap.size, 1 + j, none⟩ (.int .i32 (val (rat code cons t j).2 j)))) := by
          rw [HSN.out]
          refine ⟨hcd, ?_, B13, B23, HG2.out.setCell (p := ⟨w.heap.size, 1 + j, none⟩) (.inr (Nat.le_refl _)) _⟩
          rw [← HR2.out.2 hcd]
          exact HR2.out.1.setBox B12.out _
        rw [hcd]
        clear B13 B23 eU HR2 HSN hcd B12 B22 HG2
        generalize upd code val cons t F j j = ov at *
        generalize hv : val (rat code cons t j).2 j = x at *
        go_wp2
        go_roundw
        case rel => exact ⟨j + 1, by omega, by go_num, HN.out.1, HN.out.2.1, HN.out.2.2.1, HN.out.2.2.2.1, HN.out.2.2.2.2⟩
        case measure => simp [intOf]; omega
      · have hne : (code (rat code cons t j).2 j != 0) = true := by rw [bne_iff_ne]; exact hcd
        have HEND : Hid ((rat code cons t c).1 = code (rat code cons t j).2 j) := by
          show _ = _
          have : c = (j + 1) + (c - (j + 1)) := by omega
          rw [this, rat_err code cons t (j + 1) _ (by rw [HSN.out]; exact hcd), HSN.out]
        obtain ⟨x0, x1, x2, x3⟩ := B12.out.cells
        obtain ⟨y0, y1, y2, y3⟩ := B22.out.cells
        have z0 := B22.out.frozen 0
        have z1 := B22.out.frozen 1
        have z2 := B22.out.frozen 2
        have z3 := B22.out.frozen 3
        have HRR := put4_box (k := k) (F := upd code val cons t F j) B22.out
        have HRX : Hid (Box (put4 w2 (w.heap.size + 1) k (upd code val cons t F j)) (w.heap.size + 1) k (upd code val cons t F j)) := HRR
        have HRD : Hid (Rd B (put4 w2 (w.heap.size + 1) k (upd code val cons t F j)) br g P t' ∧ Fr (At br none) w (put4 w2 (w.heap.size + 1) k (upd code val cons t F j))) := ⟨HR2.out.1.put4 B22.out, put4_fr1 HG2.out (by omega)⟩
        have HCD : Hid (code (rat code cons t j).2 j ≠ 0) := hcd
        clear HRR HR2 HSN B12 B22 HG2 hcd
        simp only [f3] at y1 y2 y3
        generalize code (rat code cons t j).2 j = cd at *
        go_wp2
        (try simp only [Exit.inBlock, Exit.then])
        refine bodyPost_ret (v := .tuple #[.agg #[.int .u8 (k : Int), .int .i32 (upd code val cons t F j 0), .int .i32 (upd code val cons t F j 1), .int .i32 (upd code val cons t F j 2)], .int .i64 cd]) ?_ rfl ⟨upd code val cons t F j, by rw [HEND.out], fun e => absurd (HEND.out.symm.trans e) HCD.out, t', HRD.out.1, HRD.out.2, fun e => absurd (HEND.out.symm.trans e) HCD.out⟩
        rw [results_cell_tmp rfl]
        obtain ⟨r0, r1, r2, r3⟩ := HRX.out.cells
        simp only [put4] at r0 r1 r2 r3
        go_simp
    · have e : j = c := by omega
      subst e
      obtain ⟨x0, x1, x2, x3⟩ := B1.out.cells
      obtain ⟨y0, y1, y2, y3⟩ := B2.out.cells
      have z0 := B2.out.frozen 0
      have z1 := B2.out.frozen 1
      have z2 := B2.out.frozen 2
      have z3 := B2.out.frozen 3
      have HRX : Hid (Box (put4 wr (w.heap.size + 1) k (upd code val cons t F j)) (w.heap.size + 1) k (upd code val cons t F j)) := put4_box B2.out
      have HRD : Hid (Rd B (put4 wr (w.heap.size + 1) k (upd code val cons t F j)) br g P (rat code cons t j).2 ∧ Fr (At br none) w (put4 wr (w.heap.size + 1) k (upd code val cons t F j))) := ⟨HR.out.put4 B2.out, put4_fr1 HG.out (by omega)⟩
      have HGE : Hid (t ≤ (rat code cons t j).2) := rat_ge code cons t j
      clear B1 B2 HR HG R
      simp only [f3] at y1 y2 y3
      go_wp2
      (try simp only [Exit.inBlock, Exit.then])
      refine bodyPost_ret (v := .tuple #[.agg #[.int .u8 (k : Int), .int .i32 (upd code val cons t F j 0), .int .i32 (upd code val cons t F j 1), .int .i32 (upd code val cons t F j 2)], .int .i64 0]) ?_ rfl ⟨upd code val cons t F j, by rw [HZ.out], fun _ => rfl, (rat code cons t j).2, HRD.out.1, HRD.out.2, fun _ => by have := HGE.out; omega⟩
      rw [results_cell_tmp rfl]
      obtain ⟨r0, r1, r2, r3⟩ := HRX.out.cells
      simp only [put4] at r0 r1 r2 r3
      go_simp
end Go.Proofs.YtllhipfielgnbaaDoor
