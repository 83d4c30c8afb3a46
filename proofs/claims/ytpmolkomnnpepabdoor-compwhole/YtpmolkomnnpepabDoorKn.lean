/-
  Get of package comp: a component that is read.
-/
import Derived.Test.YtpmolkomnnpepabDoorKm
import Derived.Test.YtpmolkomnnpepabDoorKf
namespace Go.Proofs.YtpmolkomnnpepabDoor
open Go.RowKit
set_option linter.unusedVariables false
set_option maxRecDepth 100000

/-- field j of a kind, read from place t on: error, number, bits -/
def gf (k : Nat) (P : List Nat) (t j : Nat) : Int × Int × Nat := gi (lo k j) (hi k j) ((bitsB P).drop t)
theorem gi_rng (x y : Int) (L : List Bool) : (gi x y L).2.1 = 0 ∨ (x ≤ (gi x y L).2.1 ∧ (gi x y L).2.1 ≤ y) := by
  unfold gi
  split
  · exact .inl rfl
  · split
    · exact .inl rfl
    · split
      · exact .inl rfl
      · right
        show x ≤ x + _ ∧ x + _ ≤ y
        omega
theorem gi_code (x y : Int) (L : List Bool) : (gi x y L).1 = 0 ∨ (gi x y L).1 = 1 ∨ (gi x y L).1 = 2 ∨ (gi x y L).1 = 5 := by
  unfold gi
  split
  · exact .inr (.inl rfl)
  · split
    · exact .inr (.inr (.inl rfl))
    · split
      · exact .inr (.inr (.inr rfl))
      · exact .inl rfl

theorem Tab.fr1 {w w' : World} {br : Nat} (h : Tab w) (hf : Fr (At br none) w w') (hb : br ≠ 0) : Tab w' := h.keep hf (by rintro (e | e); exact hb e.symm; cases e)

set_option maxHeartbeats 1000000 in
theorem getField_any (B : Nat) (w : World) (ht : Tab w) (br : Nat) (g : Option Nat) (P : List Nat) (t k j : Nat) (hk : k < 256) (hj : j < cnt k) (h : Rd B w br g P t) :
    Calls Tryd.prog 50 #[.pointer (some ⟨br, 0, none⟩), .int .u8 (k : Int), .int .i64 (j : Int)] w fun e w' => e = .returned (.tuple #[.int .i32 (gf k P t j).2.1, .int .i64 (gf k P t j).1]) ∧ Rd B w' br g P (t + (gf k P t j).2.2) ∧ Fr (At br none) w w' := by
  obtain ⟨l0, l1, l2, l3⟩ := rng_ok k j hj
  have R : Hid (∀ _ : Unit, _) := fun _ => range_ok w ht k hk j hj
  have G : Hid (∀ w, Rd B w br g P t → _) := fun w hw => getIn_rd B w br g P t (lo k j) (hi k j) hw (by omega) (by omega) (by omega) (by omega)
  have H : Hid (Rd B w br g P t) := h
  have hv := gi_rng (lo k j) (hi k j) ((bitsB P).drop t)
  have hr : -524288 ≤ (gi (lo k j) (hi k j) ((bitsB P).drop t)).2.1 ∧ (gi (lo k j) (hi k j) ((bitsB P).drop t)).2.1 ≤ 524287 := by omega
  obtain ⟨r0, r1⟩ := hr
  unfold gf
  generalize (gi (lo k j) (hi k j) ((bitsB P).drop t)).2.1 = v at *
  generalize (gi (lo k j) (hi k j) ((bitsB P).drop t)).1 = cd at *
  generalize (gi (lo k j) (hi k j) ((bitsB P).drop t)).2.2 = n at *
  generalize lo k j = x at *
  generalize hi k j = y at *
  clear ht h hv hj
  go_enter Tryd.func50, Tryd.ntmps50
  go_wp2_with fail
  refine (R.out ()).mono ?_
  rintro e w1 ⟨rfl, hf1⟩
  have HF1 : Hid (Fr Nobody w w1) := hf1
  clear hf1
  go_wp2_with fail
  refine (G.out _ (H.out.quiet HF1.out)).mono ?_
  rintro e w2 ⟨rfl, hR, hf2⟩
  have HR : Hid (Rd B w2 br g P (t + n)) := hR
  have HF2 : Hid (Fr (At br none) w w2) := (HF1.out.mono (fun _ _ k => k.elim)).trans hf2
  clear hR hf2
  go_wp2
  go_ret2
  exact ⟨rfl, HR.out, HF2.out⟩

set_option maxHeartbeats 1000000 in
theorem get11_flds (B : Nat) (w0 : World) (ht : Tab w0) (br bx bk : Nat) (hbr : br ≠ 0) (g : Option Nat) (P : List Nat) (k : Nat) (hk : k < 256) (h1 : w0.cell? ⟨bx, 0, none⟩ = some (.pointer (some ⟨br, 0, none⟩))) (h2 : w0.cell? ⟨bk, 0, none⟩ = some (.int .u8 (k : Int))) (n1 : bx ≠ br) (n2 : bk ≠ br) :
    Flds 49 (.pointer (some ⟨bx, 0, none⟩)) (.pointer (some ⟨bk, 0, none⟩)) B w0 br g P (cnt k) (fun t j => (gf k P t j).1) (fun t j => (gf k P t j).2.1) (fun t j => (gf k P t j).2.2) := by
  intro w t j hR hf hj
  have c1 : w.cell? ⟨bx, 0, none⟩ = some (.pointer (some ⟨br, 0, none⟩)) := (hf.cell (p := ⟨bx, 0, none⟩) (World.block_lt_of_cell? w0 _ h1) (by rintro (e | e); exact n1 e; cases e)).trans h1
  have c2 : w.cell? ⟨bk, 0, none⟩ = some (.int .u8 (k : Int)) := (hf.cell (p := ⟨bk, 0, none⟩) (World.block_lt_of_cell? w0 _ h2) (by rintro (e | e); exact n2 e; cases e)).trans h2
  have G : Hid (∀ _ : Unit, _) := fun _ => getField_any B w (ht.fr1 hf hbr) br g P t k j hk hj hR
  show Calls Tryd.prog 49 #[.int .i64 (j : Int), .pointer (some ⟨bx, 0, none⟩), .pointer (some ⟨bk, 0, none⟩)] w fun e w' => e = .returned (.tuple #[.int .i32 (gf k P t j).2.1, .int .i64 (gf k P t j).1]) ∧ GvEnd B w w' br g P t (gf k P t j).1 (gf k P t j).2.2
  generalize (gf k P t j).1 = cd at *
  generalize (gf k P t j).2.1 = v at *
  generalize (gf k P t j).2.2 = n at *
  clear hR hf h1 h2 ht hj
  go_enter Tryd.func49, Tryd.ntmps49
  go_wp2_with fail
  refine (G.out ()).mono ?_
  rintro e w1 ⟨rfl, hR1, hf1⟩
  have HE : Hid (GvEnd B w w1 br g P t cd n) := ⟨_, hR1, hf1, fun _ => rfl⟩
  clear hR1 hf1
  go_wp2
  go_ret2
  exact ⟨rfl, HE.out⟩

/-- the component of a kind from place t on: error, fields, bits -/
def gcode (k : Nat) (P : List Nat) (t : Nat) : Int := if cnt k = 0 then 1 else (rat (fun t j => (gf k P t j).1) (fun t j => (gf k P t j).2.2) t (cnt k)).1
def gfld (k : Nat) (P : List Nat) (t : Nat) : Nat → Int := upd (fun t j => (gf k P t j).1) (fun t j => (gf k P t j).2.1) (fun t j => (gf k P t j).2.2) t (f3 0 0 0) (cnt k)
def gcons (k : Nat) (P : List Nat) (t : Nat) : Nat := if gcode k P t = 0 then (rat (fun t j => (gf k P t j).1) (fun t j => (gf k P t j).2.2) t (cnt k)).2 - t else 0

set_option maxHeartbeats 2000000 in
theorem get1_reads (B : Nat) (w0 : World) (ht : Tab w0) (br bx bk : Nat) (hbr : br ≠ 0) (g : Option Nat) (P : List Nat) (t k : Nat) (hk : k < 256) (h1 : w0.cell? ⟨bx, 0, none⟩ = some (.pointer (some ⟨br, 0, none⟩))) (h2 : w0.cell? ⟨bk, 0, none⟩ = some (.int .u8 (k : Int))) (n1 : bx ≠ br) (n2 : bk ≠ br) :
    ReadsC 47 (.pointer (some ⟨bk, 0, none⟩)) (.pointer (some ⟨bx, 0, none⟩)) B w0 br g P t (gcode k P t) k (gfld k P t) (gcons k P t) := by
  intro w hR hf
  have c1 : w.cell? ⟨bx, 0, none⟩ = some (.pointer (some ⟨br, 0, none⟩)) := (hf.cell (p := ⟨bx, 0, none⟩) (World.block_lt_of_cell? w0 _ h1) (by rintro (e | e); exact n1 e; cases e)).trans h1
  have c2 : w.cell? ⟨bk, 0, none⟩ = some (.int .u8 (k : Int)) := (hf.cell (p := ⟨bk, 0, none⟩) (World.block_lt_of_cell? w0 _ h2) (by rintro (e | e); exact n2 e; cases e)).trans h2
  have hT : Tab w := ht.fr1 hf hbr
  have l1 := World.block_lt_of_cell? w _ c1
  have l2 := World.block_lt_of_cell? w _ c2
  have l3 := hR.lt
  obtain ⟨W, hW⟩ : ∃ W, W = ((w.alloc (.cells #[.int .u8 0, .int .i32 0, .int .i32 0, .int .i32 0] 24)).alloc (.cells #[.int .u8 (k : Int), .int .i32 0, .int .i32 0, .int .i32 0] 24)) := ⟨_, rfl⟩
  have HQ : Hid (Fr Nobody w W) := by subst hW; exact ((Fr.refl _ _).alloc _).alloc _
  have HX : Hid (Box W w.heap.size 0 (f3 0 0 0)) := by subst hW; exact (Box.new w 0 (f3 0 0 0)).quiet ((Fr.refl _ _).alloc _)
  have HY : Hid (Box W (w.heap.size + 1) k (f3 0 0 0)) := by subst hW; exact Box.new' (w.alloc _) (w.heap.size + 1) k (f3 0 0 0) (by simp)
  have HT : Hid (Tab W) := hT.quiet HQ.out
  have C : Hid (∀ w, Tab w → _) := fun w h => count_any w h k hk
  have HR : Hid (Rd B w br g P t) := hR
  have E : Hid (∀ _ : Unit, _) := fun _ => eachField_get (.pointer (some ⟨bx, 0, none⟩)) (.pointer (some ⟨bk, 0, none⟩)) B W HT.out br hbr g P t k hk (f3 0 0 0) _ _ _ (hR.quiet HQ.out) (get11_flds B W HT.out br bx bk hbr g P k hk ((HQ.out.cell (p := ⟨bx, 0, none⟩) l1 id).trans c1) ((HQ.out.cell (p := ⟨bk, 0, none⟩) l2 id).trans c2) n1 n2)
  clear hR hf ht hT h1 h2
  by_cases h0 : cnt k = 0
  · have eg : gcode k P t = 1 := by unfold gcode; rw [if_pos h0]
    rw [eg]
    rw [h0] at C
    clear E eg
    have HT' := HT.out
    rw [hW] at HT'
    have HT2 : Hid _ := HT'
    clear HT' HQ HX HY HT hW
    go_enter Tryd.func47, Tryd.ntmps47
    go_wp2_with fail
    refine (C.out _ HT2.out).mono ?_
    rintro e w1 ⟨rfl, rfl⟩
    go_wp2
    (try simp only [Exit.inBlock, Exit.then])
    refine bodyPost_ret (v := .tuple #[.agg #[.int .u8 (k : Int), .int .i32 0, .int .i32 0, .int .i32 0], .int .i64 1]) ?_ rfl ⟨k, f3 0 0 0, rfl, (fun e => by cases e), t, ?_, ?_, (fun e => by cases e)⟩
    · rw [results_cell_tmp rfl]
      go_simp
    · exact HR.out.quiet (((Fr.refl _ _).alloc _).alloc _)
    · exact ((Fr.refl _ _).alloc _).alloc _
  · have hne : ((cnt k : Int) == 0) = false := by rw [beq_eq_false_iff_ne]; omega
    have EG : Hid (gcode k P t = (rat (fun t j => (gf k P t j).1) (fun t j => (gf k P t j).2.2) t (cnt k)).1) := by show _ = _; unfold gcode; rw [if_neg h0]
    have EN : Hid (gcode k P t = 0 → gcons k P t = (rat (fun t j => (gf k P t j).1) (fun t j => (gf k P t j).2.2) t (cnt k)).2 - t) := fun e => by unfold gcons; rw [if_pos e]
    have EF : Hid (gfld k P t = upd (fun t j => (gf k P t j).1) (fun t j => (gf k P t j).2.1) (fun t j => (gf k P t j).2.2) t (f3 0 0 0) (cnt k)) := rfl
    have hbn : w.heap.size ≠ br := by omega
    generalize (rat (fun t j => (gf k P t j).1) (fun t j => (gf k P t j).2.2) t (cnt k)).1 = rc at *
    generalize (rat (fun t j => (gf k P t j).1) (fun t j => (gf k P t j).2.2) t (cnt k)).2 - t = rn at *
    generalize upd (fun t j => (gf k P t j).1) (fun t j => (gf k P t j).2.1) (fun t j => (gf k P t j).2.2) t (f3 0 0 0) (cnt k) = RF at *
    have HEQ : Hid (W = _) := hW
    generalize hcc : cnt k = c at *
    have HT' := HT.out
    rw [hW] at HT'
    have HT2 : Hid _ := HT'
    clear HT' h0
    unfold cmp at E
    go_enter Tryd.func47, Tryd.ntmps47
    go_wp2_with fail
    refine (C.out _ HT2.out).mono ?_
    rintro e w1 ⟨rfl, rfl⟩
    go_wp2_with fail
    rw [← HEQ.out]
    refine (E.out ()).mono ?_
    rintro e w2 ⟨F', rfl, hF', t', hR', hf', ht'⟩
    have X2 : Hid (Box w2 w.heap.size 0 (f3 0 0 0)) := HX.out.fr1 hf' hbn
    obtain ⟨y0, y1, y2, y3⟩ := X2.out.cells
    have z0 := X2.out.frozen 0
    have z1 := X2.out.frozen 1
    have z2 := X2.out.frozen 2
    have z3 := X2.out.frozen 3
    have HRX : Hid (Box (put4 w2 w.heap.size k F') w.heap.size k F') := put4_box X2.out
    have HRD : Hid (Rd B (put4 w2 w.heap.size k F') br g P t' ∧ Fr (At br none) w (put4 w2 w.heap.size k F') ∧ (rc = 0 → t' = t + rn) ∧ (rc = 0 → F' = RF)) := ⟨hR'.put4 X2.out, put4_fr1 ((HQ.out.mono (fun _ _ k => k.elim)).trans hf') (Nat.le_refl _), ht', hF'⟩
    clear hR' hf' ht' hF' X2 E C HX HY HT HT2 HQ hW HEQ
    simp only [f3] at y1 y2 y3
    go_wp2
    (try simp only [Exit.inBlock, Exit.then])
    refine bodyPost_ret (v := .tuple #[.agg #[.int .u8 (k : Int), .int .i32 (F' 0), .int .i32 (F' 1), .int .i32 (F' 2)], .int .i64 rc]) ?_ rfl ⟨k, F', by rw [EG.out]; rfl, fun e => by rw [HRD.out.2.2.2 (EG.out.symm.trans e), EF.out], t', HRD.out.1, HRD.out.2.1, fun e => by rw [EN.out e]; exact HRD.out.2.2.1 (EG.out.symm.trans e)⟩
    rw [results_cell_tmp rfl]
    obtain ⟨r0, r1, r2, r3⟩ := HRX.out.cells
    simp only [put4] at r0 r1 r2 r3
    go_simp

set_option maxHeartbeats 2000000 in
theorem getC_rd (B : Nat) (w : World) (ht : Tab w) (br : Nat) (hbr : br ≠ 0) (g : Option Nat) (P : List Nat) (t k : Nat) (hk : k < 256) (h : Rd B w br g P t) (RV : Array Value) (hv1 : gcode k P t = 0 → RV = cmp k (gfld k P t)) (hv2 : gcode k P t ≠ 0 → RV = cmp 0 (f3 0 0 0)) :
    Calls Tryd.prog 20 #[.pointer (some ⟨br, 0, none⟩), .int .u8 (k : Int)] w fun e w' => e = .returned (.tuple #[.agg RV, .int .i64 (gcode k P t)]) ∧ Rd B w' br g P (t + gcons k P t) ∧ Fr (At br none) w w' := by
  have hlt := h.lt
  have HR : Hid (Rd B w br g P t) := h
  obtain ⟨W, hW⟩ : ∃ W, W = (((w.alloc (.cells #[.pointer (some ⟨br, 0, none⟩)] 40)).alloc (.cells #[.int .u8 (k : Int)] 5)).alloc (.cells #[.int .u8 0, .int .i32 0, .int .i32 0, .int .i32 0] 24)) := ⟨_, rfl⟩
  have HQ : Hid (Fr Nobody w W) := by subst hW; exact (((Fr.refl _ _).alloc _).alloc _).alloc _
  have HX : Hid (Box W (w.heap.size + 1 + 1) 0 (f3 0 0 0)) := by subst hW; exact Box.new' _ _ 0 (f3 0 0 0) (by simp)
  have d1 : W.cell? ⟨w.heap.size, 0, none⟩ = some (.pointer (some ⟨br, 0, none⟩)) := by
    subst hW
    exact ((((Fr.refl Nobody (w.alloc _)).alloc _).alloc _).cell (p := ⟨w.heap.size, 0, none⟩) (by simp) id).trans (cell_new w _ _ _ rfl)
  have d2 : W.cell? ⟨w.heap.size + 1, 0, none⟩ = some (.int .u8 (k : Int)) := by
    subst hW
    exact (((Fr.refl Nobody ((w.alloc _).alloc _)).alloc _).cell (p := ⟨w.heap.size + 1, 0, none⟩) (by simp) id).trans (cell_new (w.alloc _) _ _ _ (by simp))
  have HTW : Hid (Tab W) := ht.quiet HQ.out
  obtain ⟨RA, hRA⟩ : ∃ RA, RA = RV := ⟨_, rfl⟩
  have E : Hid (∀ _ : Unit, _) := fun _ => tryC_get (.pointer (some ⟨w.heap.size + 1, 0, none⟩)) (.pointer (some ⟨w.heap.size, 0, none⟩)) B W br g P t (gcode k P t) k (gfld k P t) (gcons k P t) (h.quiet HQ.out) (get1_reads B W HTW.out br w.heap.size (w.heap.size + 1) hbr g P t k hk d1 d2 (by omega) (by omega)) (fun e => by unfold gcons; rw [if_neg e]) RV hv1 hv2
  obtain ⟨k', F', hkf⟩ : ∃ k' F', RV = cmp k' F' := by
    by_cases e : gcode k P t = 0
    · exact ⟨_, _, hv1 e⟩
    · exact ⟨_, _, hv2 e⟩
  clear hv1 hv2 hRA d1 d2
  subst hkf
  generalize gcode k P t = rc at *
  generalize gcons k P t = rn at *
  have hbn : w.heap.size + 1 + 1 ≠ br := by omega
  unfold cmp at E
  unfold cmp
  have HEQ : Hid (W = _) := hW
  clear ht h hW
  go_enter Tryd.func20, Tryd.ntmps20
  go_wp2_with fail
  rw [← HEQ.out]
  refine (E.out ()).mono ?_
  rintro e w2 ⟨rfl, hR', hf'⟩
  have X2 : Hid (Box w2 (w.heap.size + 1 + 1) 0 (f3 0 0 0)) := HX.out.fr1 hf' hbn
  obtain ⟨y0, y1, y2, y3⟩ := X2.out.cells
  have z0 := X2.out.frozen 0
  have z1 := X2.out.frozen 1
  have z2 := X2.out.frozen 2
  have z3 := X2.out.frozen 3
  have HRX : Hid (Box (put4 w2 (w.heap.size + 1 + 1) k' F') (w.heap.size + 1 + 1) k' F') := put4_box X2.out
  have HRD : Hid (Rd B (put4 w2 (w.heap.size + 1 + 1) k' F') br g P (t + rn) ∧ Fr (At br none) w (put4 w2 (w.heap.size + 1 + 1) k' F')) := ⟨hR'.put4 X2.out, put4_fr1 ((HQ.out.mono (fun _ _ k => k.elim)).trans hf') (by omega)⟩
  clear hR' hf' X2 E HX HTW HQ HEQ
  simp only [f3] at y1 y2 y3
  go_wp2
  (try simp only [Exit.inBlock, Exit.then])
  refine bodyPost_ret (v := .tuple #[.agg #[.int .u8 (k' : Int), .int .i32 (F' 0), .int .i32 (F' 1), .int .i32 (F' 2)], .int .i64 rc]) ?_ rfl ⟨rfl, HRD.out.1, HRD.out.2⟩
  rw [results_cell_tmp rfl]
  obtain ⟨r0, r1, r2, r3⟩ := HRX.out.cells
  simp only [put4] at r0 r1 r2 r3
  go_simp
end Go.Proofs.YtpmolkomnnpepabDoor
