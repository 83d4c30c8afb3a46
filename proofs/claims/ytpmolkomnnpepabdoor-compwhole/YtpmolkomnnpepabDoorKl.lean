/-
  Try of package reading, of components.
-/
import Derived.Test.YtpmolkomnnpepabDoorKe
namespace Go.Proofs.YtpmolkomnnpepabDoor
open Go.RowKit
set_option linter.unusedVariables false
set_option maxRecDepth 100000

/-- a closure that reads a component: it answers rc, beside no error the component, and leaves the reader somewhere -/
def ReadsC (f : FuncId) (c1 c2 : Value) (B : Nat) (w0 : World) (br : Nat) (g : Option Nat) (P : List Nat) (t : Nat) (rc : Int) (k : Nat) (F : Nat → Int) (rn : Nat) : Prop :=
  ∀ w, Rd B w br g P t → Fr (At br none) w0 w → Calls Tryd.prog f #[c1, c2] w fun e w' => ∃ k' F', e = .returned (.tuple #[.agg (cmp k' F'), .int .i64 rc]) ∧ (rc = 0 → cmp k' F' = cmp k F) ∧ GvEnd B w w' br g P t rc rn

theorem put4_fr1 {w0 w : World} {br b k : Nat} {F : Nat → Int} (h : Fr (At br none) w0 w) (hb : w0.heap.size ≤ b) : Fr (At br none) w0 (put4 w b k F) := put4_fr h (.inr hb)
theorem Rd.fresh {B : Nat} {w w' : World} {br : Nat} {g : Option Nat} {P : List Nat} {t b : Nat} (h : Rd B w br g P t) (hf : Fr (fun k => k = b) w w') (h1 : b ≠ br) (h2 : g ≠ some b) : Rd B w' br g P t :=
  h.keep hf (fun e => h1 e.symm) (fun k hk e => h2 (by rw [hk, e]))
/-- a component laid over a block leaves a reader -/
theorem Rd.put4 {B : Nat} {w : World} {br : Nat} {g : Option Nat} {P : List Nat} {t b k k0 : Nat} {F F0 : Nat → Int} (h : Rd B w br g P t) (hb : Box w b k0 F0) : Rd B (put4 w b k F) br g P t := by
  have h1 : b ≠ br := by
    rintro rfl
    obtain ⟨v, hv, _⟩ := h.obj
    unfold Box at hb
    rw [hv] at hb
    simp at hb
  have h2 : g ≠ some b := by
    intro e
    obtain ⟨v, hv, ho, hg⟩ := h.obj
    rcases ho.2 with ⟨rfl, _⟩ | ⟨g', cap, cur, rfl, _, hgg, _⟩
    · rw [← hg] at e; simp [Value.ownBlock] at e
    · rw [← hg] at e
      simp [Value.ownBlock] at e
      subst e
      unfold Box at hb
      rw [hgg] at hb
      simp at hb
  exact h.fresh (put4_fr (S := fun k => k = b) (Fr.refl _ _) (.inl rfl)) h1 h2
theorem Box.fr1 {w w' : World} {b k br : Nat} {F : Nat → Int} (h : Box w b k F) (hf : Fr (At br none) w w') (hb : b ≠ br) : Box w' b k F :=
  (hf.block b (Array.getElem?_eq_some_iff.1 h).1 (by rintro (e | e); exact hb e; cases e)).trans h

set_option maxHeartbeats 1000000 in
theorem tryC_get (c1 c2 : Value) (B : Nat) (w : World) (br : Nat) (g : Option Nat) (P : List Nat) (t : Nat) (rc : Int) (k : Nat) (F : Nat → Int) (rn : Nat) (h : Rd B w br g P t) (hr : ReadsC 47 c1 c2 B w br g P t rc k F rn) (hz : rc ≠ 0 → rn = 0) (RV : Array Value) (hv1 : rc = 0 → RV = cmp k F) (hv2 : rc ≠ 0 → RV = cmp 0 (f3 0 0 0)) :
    Calls Tryd.prog 46 #[.pointer (some ⟨br, 0, none⟩), .func (.func 47) #[] #[c1, c2]] w fun e w' => e = .returned (.tuple #[.agg RV, .int .i64 rc]) ∧ Rd B w' br g P (t + rn) ∧ Fr (At br none) w w' := by
  obtain ⟨v, hb, ho, hv⟩ := h.obj
  have c0 := cell0 hb
  have c1' := cell1 hb
  obtain ⟨ao, cap, hvs⟩ : ∃ ao cap, v = .slice ao P.length cap := by
    rcases ho.2 with ⟨rfl, h0⟩ | ⟨g, cap, cur, rfl, _⟩
    · exact ⟨none, 0, by rw [h0]⟩
    · exact ⟨_, _, rfl⟩
  subst hvs
  have hlt := h.lt
  have H : Hid (Rd B w br g P t ∧ ReadsC 47 c1 c2 B w br g P t rc k F rn ∧ (rc ≠ 0 → rn = 0)) := ⟨h, hr, hz⟩
  have HO : Hid (w.ownsRow 0 5 1 (.slice ao P.length cap) P.length (vrow P) ∧ (Value.slice ao P.length cap).ownBlock = g) := ⟨ho, hv⟩
  clear h hr hz hb ho hv
  obtain ⟨W, hW⟩ : ∃ W, W = (((w.alloc (.cells #[.int .u8 0, .int .i32 0, .int .i32 0, .int .i32 0] 24)).alloc (.cells #[.int .u8 0, .int .i32 0, .int .i32 0, .int .i32 0] 24)).alloc (.cells #[.slice ao P.length cap, .int .i64 (t : Int)] 78)) := ⟨_, rfl⟩
  have HQ : Hid (Fr Nobody w W) := by subst hW; exact ((((Fr.refl _ _).alloc _).alloc _).alloc _)
  have HS : Hid (W.heap.size = w.heap.size + 1 + 1 + 1) := by subst hW; show _ = _; simp
  have HX : Hid (Box W w.heap.size 0 (f3 0 0 0)) := by
    subst hW
    exact ((Box.new w 0 (f3 0 0 0)).quiet ((Fr.refl _ _).alloc _)).quiet ((Fr.refl _ _).alloc _)
  have HY : Hid (Box W (w.heap.size + 1) 0 (f3 0 0 0)) := by
    subst hW
    exact (Box.new' (w.alloc _) (w.heap.size + 1) 0 (f3 0 0 0) (by simp)).quiet ((Fr.refl _ _).alloc _)
  have HZ : Hid (W.heap[w.heap.size + 1 + 1]? = some (.cells #[.slice ao P.length cap, .int .i64 (t : Int)] 78 (0, 0))) := by
    subst hW
    show _ = _
    have := heap_alloc_new ((w.alloc (.cells #[.int .u8 0, .int .i32 0, .int .i32 0, .int .i32 0] 24)).alloc (.cells #[.int .u8 0, .int .i32 0, .int .i32 0, .int .i32 0] 24)) (.cells #[.slice ao P.length cap, .int .i64 (t : Int)] 78)
    simpa using this
  have HC : Hid (Calls Tryd.prog 47 #[c1, c2] W fun e w' => ∃ k' F', e = .returned (.tuple #[.agg (cmp k' F'), .int .i64 rc]) ∧ (rc = 0 → cmp k' F' = cmp k F) ∧ GvEnd B W w' br g P t rc rn) := H.out.2.1 W (H.out.1.quiet HQ.out) (HQ.out.mono (fun _ _ k => k.elim))
  go_enter Tryd.func46, Tryd.ntmps46
  go_wp2_with fail
  rw [← hW]
  refine HC.out.mono ?_
  rintro e w2 ⟨k', F', rfl, hcm, t', hR', hf', ht'⟩
  have hs2 := hf'.size
  have HF : Hid (Fr (At br none) w w2 ∧ Rd B w2 br g P t' ∧ (rc = 0 → t' = t + rn)) := ⟨(HQ.out.mono (fun _ _ k => k.elim)).trans hf', hR', ht'⟩
  have hn0 : w.heap.size ≠ br := by omega
  have hn1 : w.heap.size + 1 ≠ br := by omega
  have hn2 : w.heap.size + 1 + 1 ≠ br := by omega
  have X2 : Hid (Box w2 w.heap.size 0 (f3 0 0 0)) := HX.out.fr1 hf' hn0
  have Y2 : Hid (Box w2 (w.heap.size + 1) 0 (f3 0 0 0)) := HY.out.fr1 hf' hn1
  have hnew : w2.heap[w.heap.size + 1 + 1]? = some (.cells #[.slice ao P.length cap, .int .i64 (t : Int)] 78 (0, 0)) := (hf'.block _ (by rw [HS.out]; omega) (by rintro (e | e); exact hn2 e; cases e)).trans HZ.out
  have d0 := cell0 hnew
  have d1 := cell1 hnew
  obtain ⟨v2, hb2, hx1, hx2⟩ := hR'.obj
  clear hx1 hx2
  have HB2 : Hid (w2.heap[br]? = some (.cells #[v2, .int .i64 (t' : Int)] 78 (0, 0))) := hb2
  have e0 := cell0 hb2
  have e1 := cell1 hb2
  have g0 : w2.frozen? ⟨br, 0, none⟩ = false := froz hb2
  have g1 : w2.frozen? ⟨br, 1, none⟩ = false := froz hb2
  have hl2 := hR'.lt
  have HSZ : Hid (w.heap.size + 1 + 1 + 1 ≤ w2.heap.size) := by have := HS.out; show _ ≤ _; omega
  obtain ⟨x0, x1, x2, x3⟩ := X2.out.cells
  obtain ⟨y0, y1, y2, y3⟩ := Y2.out.cells
  have z0 := X2.out.frozen 0
  have z1 := X2.out.frozen 1
  have z2 := X2.out.frozen 2
  have z3 := X2.out.frozen 3
  have q0 : w2.heap.size ≠ w.heap.size := by have := HSZ.out; omega
  have q1 : w2.heap.size ≠ br := by omega
  have q2 : w.heap.size < w2.heap.size := by have := HSZ.out; omega
  have q3 : w.heap.size + 1 < w2.heap.size := by have := HSZ.out; omega
  have q4 : w.heap.size + 1 + 1 < w2.heap.size := by have := HSZ.out; omega
  clear hR' hf' ht' hb2 hnew HQ HS HX HY HZ HC c0 c1' hs2 hW
  simp only [f3] at x1 x2 x3 y1 y2 y3
  have HSB : Hid (Box (w2.alloc (.cells (cmp k' F') 24)) w2.heap.size k' F') := Box.new w2 k' F'
  by_cases hrc : rc = 0
  · have HT : Hid (Rd B w2 br g P (t + rn) ∧ Fr (At br none) w w2) := ⟨by rw [← HF.out.2.2 hrc]; exact HF.out.2.1, HF.out.1⟩
    have hcm' := hcm hrc
    have HV : Hid (RV = cmp k' F') := (hv1 hrc).trans hcm'.symm
    clear HF H hcm hcm' hv1 hv2 y0 y1 y2 y3 d0 d1 e0 e1 g0 g1 Y2 HB2 HO hn0 hn1 hn2 q1
    subst hrc
    have HR3 : Hid (Rd B ((put4 w2 w.heap.size k' F').alloc (.cells (cmp k' F') 24)) br g P (t + rn)) := (HT.out.1.put4 X2.out).quiet ((Fr.refl _ _).alloc _)
    have HF3 : Hid (Fr (At br none) w ((put4 w2 w.heap.size k' F').alloc (.cells (cmp k' F') 24))) := (put4_fr1 HT.out.2 (Nat.le_refl _)).alloc _
    have HRR : Hid (Box ((put4 w2 w.heap.size k' F').alloc (.cells (cmp k' F') 24)) w.heap.size k' F') := (put4_box X2.out).quiet ((Fr.refl _ _).alloc _)
    unfold cmp at *
    go_wp2
    (try simp only [Exit.inBlock, Exit.then])
    refine bodyPost_ret (v := .tuple #[.agg #[.int .u8 (k' : Int), .int .i32 (F' 0), .int .i32 (F' 1), .int .i32 (F' 2)], .int .i64 0]) ?_ rfl ⟨by rw [HV.out], HR3.out, HF3.out⟩
    rw [results_cell_tmp rfl]
    obtain ⟨r0, r1, r2, r3⟩ := HRR.out.cells
    simp only [put4] at r0 r1 r2 r3
    go_simp
  · have tr : (rc != 0) = true := by rw [bne_iff_ne]; exact hrc
    have hz2 := H.out.2.2 hrc
    subst hz2
    have HV : Hid (RV = cmp 0 (f3 0 0 0)) := hv2 hrc
    clear hv1 hv2
    have HT : Hid (Rd B ((w2.setCell ⟨br, 0, none⟩ (.slice ao P.length cap)).setCell ⟨br, 1, none⟩ (.int .i64 (t : Int))) br g P (t + 0) ∧ Fr (At br none) w ((w2.setCell ⟨br, 0, none⟩ (.slice ao P.length cap)).setCell ⟨br, 1, none⟩ (.int .i64 (t : Int)))) := by
      have R := H.out.1
      have hgne : g ≠ some br := R.ne
      have ho2 : w2.ownsRow 0 5 1 (.slice ao P.length cap) P.length (vrow P) := HF.out.1.row HO.out.1 (fun k hk => by
        rintro (e | e)
        · subst e; exact hgne (HO.out.2.symm.trans hk)
        · cases e)
      have hk1 : (Value.slice ao P.length cap).ownBlock ≠ some br := by rw [HO.out.2]; exact hgne
      refine ⟨⟨R.low, R.glow, R.ne, R.byt, R.len, R.le, ⟨.slice ao P.length cap, ?_, row_setCell (row_setCell ho2 _ _ hk1) _ _ hk1, HO.out.2⟩⟩, (HF.out.1.setCell (.inl (.inl rfl)) _).setCell (.inl (.inl rfl)) _⟩
      refine (setCell_heap _ br 1 _ _ _ (setCell_heap w2 br 0 _ _ _ HB2.out)).trans ?_
      simp
    have X3 : Hid (Box ((w2.setCell ⟨br, 0, none⟩ (.slice ao P.length cap)).setCell ⟨br, 1, none⟩ (.int .i64 (t : Int))) w.heap.size 0 (f3 0 0 0)) := X2.out.fr1 (((Fr.refl _ w2).setCell (p := ⟨br, 0, none⟩) (.inl (.inl rfl)) _).setCell (p := ⟨br, 1, none⟩) (.inl (.inl rfl)) _) hn0
    have HR3 : Hid (Rd B ((put4 ((w2.setCell ⟨br, 0, none⟩ (.slice ao P.length cap)).setCell ⟨br, 1, none⟩ (.int .i64 (t : Int))) w.heap.size 0 (f3 0 0 0)).alloc (.cells (cmp k' F') 24)) br g P (t + 0)) := (HT.out.1.put4 X3.out).quiet ((Fr.refl _ _).alloc _)
    have HF3 : Hid (Fr (At br none) w ((put4 ((w2.setCell ⟨br, 0, none⟩ (.slice ao P.length cap)).setCell ⟨br, 1, none⟩ (.int .i64 (t : Int))) w.heap.size 0 (f3 0 0 0)).alloc (.cells (cmp k' F') 24))) := (put4_fr1 HT.out.2 (Nat.le_refl _)).alloc _
    have HRR : Hid (Box ((put4 ((w2.setCell ⟨br, 0, none⟩ (.slice ao P.length cap)).setCell ⟨br, 1, none⟩ (.int .i64 (t : Int))) w.heap.size 0 (f3 0 0 0)).alloc (.cells (cmp k' F') 24)) w.heap.size 0 (f3 0 0 0)) := (put4_box X3.out).quiet ((Fr.refl _ _).alloc _)
    clear HF H HB2 HO hcm
    unfold cmp at *
    go_wp2
    (try simp only [Exit.inBlock, Exit.then])
    refine bodyPost_ret (v := .tuple #[.agg #[.int .u8 0, .int .i32 0, .int .i32 0, .int .i32 0], .int .i64 rc]) ?_ rfl ⟨by rw [HV.out]; rfl, HR3.out, HF3.out⟩
    rw [results_cell_tmp rfl]
    obtain ⟨r0, r1, r2, r3⟩ := HRR.out.cells
    simp only [put4, f3] at r0 r1 r2 r3
    go_simp


set_option maxHeartbeats 1000000 in
theorem tryC_step (c1 c2 : Value) (B : Nat) (w : World) (br : Nat) (g : Option Nat) (P : List Nat) (t : Nat) (rc : Int) (k : Nat) (F : Nat → Int) (rn : Nat) (h : Rd B w br g P t) (hr : ReadsC 55 c1 c2 B w br g P t rc k F rn) (hz : rc ≠ 0 → rn = 0) (RV : Array Value) (hv1 : rc = 0 → RV = cmp k F) (hv2 : rc ≠ 0 → RV = cmp 0 (f3 0 0 0)) :
    Calls Tryd.prog 46 #[.pointer (some ⟨br, 0, none⟩), .func (.func 55) #[] #[c1, c2]] w fun e w' => e = .returned (.tuple #[.agg RV, .int .i64 rc]) ∧ Rd B w' br g P (t + rn) ∧ Fr (At br none) w w' := by
  obtain ⟨v, hb, ho, hv⟩ := h.obj
  have c0 := cell0 hb
  have c1' := cell1 hb
  obtain ⟨ao, cap, hvs⟩ : ∃ ao cap, v = .slice ao P.length cap := by
    rcases ho.2 with ⟨rfl, h0⟩ | ⟨g, cap, cur, rfl, _⟩
    · exact ⟨none, 0, by rw [h0]⟩
    · exact ⟨_, _, rfl⟩
  subst hvs
  have hlt := h.lt
  have H : Hid (Rd B w br g P t ∧ ReadsC 55 c1 c2 B w br g P t rc k F rn ∧ (rc ≠ 0 → rn = 0)) := ⟨h, hr, hz⟩
  have HO : Hid (w.ownsRow 0 5 1 (.slice ao P.length cap) P.length (vrow P) ∧ (Value.slice ao P.length cap).ownBlock = g) := ⟨ho, hv⟩
  clear h hr hz hb ho hv
  obtain ⟨W, hW⟩ : ∃ W, W = (((w.alloc (.cells #[.int .u8 0, .int .i32 0, .int .i32 0, .int .i32 0] 24)).alloc (.cells #[.int .u8 0, .int .i32 0, .int .i32 0, .int .i32 0] 24)).alloc (.cells #[.slice ao P.length cap, .int .i64 (t : Int)] 78)) := ⟨_, rfl⟩
  have HQ : Hid (Fr Nobody w W) := by subst hW; exact ((((Fr.refl _ _).alloc _).alloc _).alloc _)
  have HS : Hid (W.heap.size = w.heap.size + 1 + 1 + 1) := by subst hW; show _ = _; simp
  have HX : Hid (Box W w.heap.size 0 (f3 0 0 0)) := by
    subst hW
    exact ((Box.new w 0 (f3 0 0 0)).quiet ((Fr.refl _ _).alloc _)).quiet ((Fr.refl _ _).alloc _)
  have HY : Hid (Box W (w.heap.size + 1) 0 (f3 0 0 0)) := by
    subst hW
    exact (Box.new' (w.alloc _) (w.heap.size + 1) 0 (f3 0 0 0) (by simp)).quiet ((Fr.refl _ _).alloc _)
  have HZ : Hid (W.heap[w.heap.size + 1 + 1]? = some (.cells #[.slice ao P.length cap, .int .i64 (t : Int)] 78 (0, 0))) := by
    subst hW
    show _ = _
    have := heap_alloc_new ((w.alloc (.cells #[.int .u8 0, .int .i32 0, .int .i32 0, .int .i32 0] 24)).alloc (.cells #[.int .u8 0, .int .i32 0, .int .i32 0, .int .i32 0] 24)) (.cells #[.slice ao P.length cap, .int .i64 (t : Int)] 78)
    simpa using this
  have HC : Hid (Calls Tryd.prog 55 #[c1, c2] W fun e w' => ∃ k' F', e = .returned (.tuple #[.agg (cmp k' F'), .int .i64 rc]) ∧ (rc = 0 → cmp k' F' = cmp k F) ∧ GvEnd B W w' br g P t rc rn) := H.out.2.1 W (H.out.1.quiet HQ.out) (HQ.out.mono (fun _ _ k => k.elim))
  go_enter Tryd.func46, Tryd.ntmps46
  go_wp2_with fail
  rw [← hW]
  refine HC.out.mono ?_
  rintro e w2 ⟨k', F', rfl, hcm, t', hR', hf', ht'⟩
  have hs2 := hf'.size
  have HF : Hid (Fr (At br none) w w2 ∧ Rd B w2 br g P t' ∧ (rc = 0 → t' = t + rn)) := ⟨(HQ.out.mono (fun _ _ k => k.elim)).trans hf', hR', ht'⟩
  have hn0 : w.heap.size ≠ br := by omega
  have hn1 : w.heap.size + 1 ≠ br := by omega
  have hn2 : w.heap.size + 1 + 1 ≠ br := by omega
  have X2 : Hid (Box w2 w.heap.size 0 (f3 0 0 0)) := HX.out.fr1 hf' hn0
  have Y2 : Hid (Box w2 (w.heap.size + 1) 0 (f3 0 0 0)) := HY.out.fr1 hf' hn1
  have hnew : w2.heap[w.heap.size + 1 + 1]? = some (.cells #[.slice ao P.length cap, .int .i64 (t : Int)] 78 (0, 0)) := (hf'.block _ (by rw [HS.out]; omega) (by rintro (e | e); exact hn2 e; cases e)).trans HZ.out
  have d0 := cell0 hnew
  have d1 := cell1 hnew
  obtain ⟨v2, hb2, hx1, hx2⟩ := hR'.obj
  clear hx1 hx2
  have HB2 : Hid (w2.heap[br]? = some (.cells #[v2, .int .i64 (t' : Int)] 78 (0, 0))) := hb2
  have e0 := cell0 hb2
  have e1 := cell1 hb2
  have g0 : w2.frozen? ⟨br, 0, none⟩ = false := froz hb2
  have g1 : w2.frozen? ⟨br, 1, none⟩ = false := froz hb2
  have hl2 := hR'.lt
  have HSZ : Hid (w.heap.size + 1 + 1 + 1 ≤ w2.heap.size) := by have := HS.out; show _ ≤ _; omega
  obtain ⟨x0, x1, x2, x3⟩ := X2.out.cells
  obtain ⟨y0, y1, y2, y3⟩ := Y2.out.cells
  have z0 := X2.out.frozen 0
  have z1 := X2.out.frozen 1
  have z2 := X2.out.frozen 2
  have z3 := X2.out.frozen 3
  have q0 : w2.heap.size ≠ w.heap.size := by have := HSZ.out; omega
  have q1 : w2.heap.size ≠ br := by omega
  have q2 : w.heap.size < w2.heap.size := by have := HSZ.out; omega
  have q3 : w.heap.size + 1 < w2.heap.size := by have := HSZ.out; omega
  have q4 : w.heap.size + 1 + 1 < w2.heap.size := by have := HSZ.out; omega
  clear hR' hf' ht' hb2 hnew HQ HS HX HY HZ HC c0 c1' hs2 hW
  simp only [f3] at x1 x2 x3 y1 y2 y3
  have HSB : Hid (Box (w2.alloc (.cells (cmp k' F') 24)) w2.heap.size k' F') := Box.new w2 k' F'
  by_cases hrc : rc = 0
  · have HT : Hid (Rd B w2 br g P (t + rn) ∧ Fr (At br none) w w2) := ⟨by rw [← HF.out.2.2 hrc]; exact HF.out.2.1, HF.out.1⟩
    have hcm' := hcm hrc
    have HV : Hid (RV = cmp k' F') := (hv1 hrc).trans hcm'.symm
    clear HF H hcm hcm' hv1 hv2 y0 y1 y2 y3 d0 d1 e0 e1 g0 g1 Y2 HB2 HO hn0 hn1 hn2 q1
    subst hrc
    have HR3 : Hid (Rd B ((put4 w2 w.heap.size k' F').alloc (.cells (cmp k' F') 24)) br g P (t + rn)) := (HT.out.1.put4 X2.out).quiet ((Fr.refl _ _).alloc _)
    have HF3 : Hid (Fr (At br none) w ((put4 w2 w.heap.size k' F').alloc (.cells (cmp k' F') 24))) := (put4_fr1 HT.out.2 (Nat.le_refl _)).alloc _
    have HRR : Hid (Box ((put4 w2 w.heap.size k' F').alloc (.cells (cmp k' F') 24)) w.heap.size k' F') := (put4_box X2.out).quiet ((Fr.refl _ _).alloc _)
    unfold cmp at *
    go_wp2
    (try simp only [Exit.inBlock, Exit.then])
    refine bodyPost_ret (v := .tuple #[.agg #[.int .u8 (k' : Int), .int .i32 (F' 0), .int .i32 (F' 1), .int .i32 (F' 2)], .int .i64 0]) ?_ rfl ⟨by rw [HV.out], HR3.out, HF3.out⟩
    rw [results_cell_tmp rfl]
    obtain ⟨r0, r1, r2, r3⟩ := HRR.out.cells
    simp only [put4] at r0 r1 r2 r3
    go_simp
  · have tr : (rc != 0) = true := by rw [bne_iff_ne]; exact hrc
    have hz2 := H.out.2.2 hrc
    subst hz2
    have HV : Hid (RV = cmp 0 (f3 0 0 0)) := hv2 hrc
    clear hv1 hv2
    have HT : Hid (Rd B ((w2.setCell ⟨br, 0, none⟩ (.slice ao P.length cap)).setCell ⟨br, 1, none⟩ (.int .i64 (t : Int))) br g P (t + 0) ∧ Fr (At br none) w ((w2.setCell ⟨br, 0, none⟩ (.slice ao P.length cap)).setCell ⟨br, 1, none⟩ (.int .i64 (t : Int)))) := by
      have R := H.out.1
      have hgne : g ≠ some br := R.ne
      have ho2 : w2.ownsRow 0 5 1 (.slice ao P.length cap) P.length (vrow P) := HF.out.1.row HO.out.1 (fun k hk => by
        rintro (e | e)
        · subst e; exact hgne (HO.out.2.symm.trans hk)
        · cases e)
      have hk1 : (Value.slice ao P.length cap).ownBlock ≠ some br := by rw [HO.out.2]; exact hgne
      refine ⟨⟨R.low, R.glow, R.ne, R.byt, R.len, R.le, ⟨.slice ao P.length cap, ?_, row_setCell (row_setCell ho2 _ _ hk1) _ _ hk1, HO.out.2⟩⟩, (HF.out.1.setCell (.inl (.inl rfl)) _).setCell (.inl (.inl rfl)) _⟩
      refine (setCell_heap _ br 1 _ _ _ (setCell_heap w2 br 0 _ _ _ HB2.out)).trans ?_
      simp
    have X3 : Hid (Box ((w2.setCell ⟨br, 0, none⟩ (.slice ao P.length cap)).setCell ⟨br, 1, none⟩ (.int .i64 (t : Int))) w.heap.size 0 (f3 0 0 0)) := X2.out.fr1 (((Fr.refl _ w2).setCell (p := ⟨br, 0, none⟩) (.inl (.inl rfl)) _).setCell (p := ⟨br, 1, none⟩) (.inl (.inl rfl)) _) hn0
    have HR3 : Hid (Rd B ((put4 ((w2.setCell ⟨br, 0, none⟩ (.slice ao P.length cap)).setCell ⟨br, 1, none⟩ (.int .i64 (t : Int))) w.heap.size 0 (f3 0 0 0)).alloc (.cells (cmp k' F') 24)) br g P (t + 0)) := (HT.out.1.put4 X3.out).quiet ((Fr.refl _ _).alloc _)
    have HF3 : Hid (Fr (At br none) w ((put4 ((w2.setCell ⟨br, 0, none⟩ (.slice ao P.length cap)).setCell ⟨br, 1, none⟩ (.int .i64 (t : Int))) w.heap.size 0 (f3 0 0 0)).alloc (.cells (cmp k' F') 24))) := (put4_fr1 HT.out.2 (Nat.le_refl _)).alloc _
    have HRR : Hid (Box ((put4 ((w2.setCell ⟨br, 0, none⟩ (.slice ao P.length cap)).setCell ⟨br, 1, none⟩ (.int .i64 (t : Int))) w.heap.size 0 (f3 0 0 0)).alloc (.cells (cmp k' F') 24)) w.heap.size 0 (f3 0 0 0)) := (put4_box X3.out).quiet ((Fr.refl _ _).alloc _)
    clear HF H HB2 HO hcm
    unfold cmp at *
    go_wp2
    (try simp only [Exit.inBlock, Exit.then])
    refine bodyPost_ret (v := .tuple #[.agg #[.int .u8 0, .int .i32 0, .int .i32 0, .int .i32 0], .int .i64 rc]) ?_ rfl ⟨by rw [HV.out]; rfl, HR3.out, HF3.out⟩
    rw [results_cell_tmp rfl]
    obtain ⟨r0, r1, r2, r3⟩ := HRR.out.cells
    simp only [put4, f3] at r0 r1 r2 r3
    go_simp


end Go.Proofs.YtpmolkomnnpepabDoor
