/-
  The document's Get of components, on lists of bits.
-/
import Derived.Test.YtpmolkomnnpepabDoorKn
namespace Go.Proofs.YtpmolkomnnpepabDoor
open Go.RowKit
set_option linter.unusedVariables false
set_option maxRecDepth 100000

theorem Bs.setBox {w : World} {v : Value} {L : List Bool} {b k o : Nat} {F : Nat → Int} (h : Bs w v L) (hb : Box w b k F) (x : Value) : Bs (w.setCell ⟨b, o, none⟩ x) v L := by
  refine h.keep (Fr.setCell (S := fun k => k = b) (Fr.refl _ _) (p := ⟨b, o, none⟩) (.inl rfl) x) ?_
  rintro k cur hk rfl
  unfold Box at hb
  rw [hk] at hb
  simp at hb
theorem Bs.put4 {w : World} {v : Value} {L : List Bool} {b k k0 : Nat} {F F0 : Nat → Int} (h : Bs w v L) (hb : Box w b k0 F0) : Bs (put4 w b k F) v L := by
  refine h.keep (put4_fr (S := fun k => k = b) (Fr.refl _ _) (.inl rfl)) ?_
  rintro k cur hk rfl
  unfold Box at hb
  rw [hk] at hb
  simp at hb

set_option maxHeartbeats 4000000 in
theorem rgetC_any (w : World) (v : Value) (P : List Nat) (t k : Nat) (hk : k < 256) (h : Bs w v ((bitsB P).drop t)) (hP : (bitsB P).length ≤ 10000) (RV : Array Value) (hv1 : gcode k P t = 0 → RV = cmp k (gfld k P t)) (hv2 : gcode k P t ≠ 0 → RV = cmp 0 (f3 0 0 0)) :
    Calls Tryd.prog 27 #[v, .int .u8 (k : Int)] w fun e w' => ∃ u, e = .returned (.tuple #[.agg RV, u, .int .i64 (gcode k P t)]) ∧ GvRest w w' u ((bitsB P).drop (t + gcons k P t)) := by
  have hres : Tryd.f27.results = #[.cell 4 24, .tmp 5, .tmp 6] := by kernel_rfl
  have HV1 : Hid (gcode k P t = 0 → RV = cmp k (gfld k P t)) := hv1
  have HV2 : Hid (gcode k P t ≠ 0 → RV = cmp 0 (f3 0 0 0)) := hv2
  have H : Hid (Bs w v ((bitsB P).drop t)) := h
  have C : Hid (∀ w, _) := fun w => rcount_any w k hk
  have HF0 : Hid (Fr Nobody w (w.alloc (.cells (cmp 0 (f3 0 0 0)) 24))) := (Fr.refl _ _).alloc _
  have HX0 : Hid (Box (w.alloc (.cells (cmp 0 (f3 0 0 0)) 24)) w.heap.size 0 (f3 0 0 0)) := Box.new _ _ _
  have HG0 : Hid (gcode k P t ≠ 0 → gcons k P t = 0) := fun e => by unfold gcons; rw [if_neg e]
  clear h hv1 hv2
  by_cases h0 : cnt k = 0
  · have eg : gcode k P t = 1 := by unfold gcode; rw [if_pos h0]
    have HV : Hid (RV = cmp 0 (f3 0 0 0)) := HV2.out (by rw [eg]; decide)
    have HG : Hid (gcons k P t = 0) := HG0.out (by rw [eg]; decide)
    rw [eg]
    rw [h0] at C
    clear HV1 HV2 HG0 eg
    go_enter Tryd.func27, Tryd.ntmps27
    go_wp2_with fail
    refine (C.out _).mono ?_
    rintro e w1 ⟨rfl, hf1⟩
    have X1 : Hid (Box w1 w.heap.size 0 (f3 0 0 0)) := Box.quiet HX0.out hf1
    have HF1 : Hid (Fr Nobody w w1) := Fr.trans HF0.out hf1
    obtain ⟨y0, y1, y2, y3⟩ := X1.out.cells
    have z0 := X1.out.frozen 0
    have z1 := X1.out.frozen 1
    have z2 := X1.out.frozen 2
    have z3 := X1.out.frozen 3
    have HRX : Hid (Box (put4 w1 w.heap.size 0 (f3 0 0 0)) w.heap.size 0 (f3 0 0 0)) := put4_box X1.out
    have HRD : Hid (Fr Nobody w (put4 w1 w.heap.size 0 (f3 0 0 0))) := put4_fr HF1.out (.inr (Nat.le_refl _))
    clear hf1
    simp only [f3] at y1 y2 y3
    go_wp2
    (try simp only [Exit.inBlock, Exit.then])
    refine bodyPost_ret (v := .tuple #[.agg #[.int .u8 0, .int .i32 0, .int .i32 0, .int .i32 0], v, .int .i64 1]) ?_ rfl ⟨v, by rw [HV.out]; rfl, ?_, HRD.out⟩
    · simp only [results, hres]
      obtain ⟨r0, r1, r2, r3⟩ := HRX.out.cells
      simp only [put4, f3] at r0 r1 r2 r3
      go_simp
    · rw [HG.out]
      exact H.out.quiet HRD.out
  · have EG : Hid (gcode k P t = (rat (fun t j => (gf k P t j).1) (fun t j => (gf k P t j).2.2) t (cnt k)).1) := by show _ = _; unfold gcode; rw [if_neg h0]
    have EN : Hid (gcode k P t = 0 → gcons k P t = (rat (fun t j => (gf k P t j).1) (fun t j => (gf k P t j).2.2) t (cnt k)).2 - t) := fun e => by unfold gcons; rw [if_pos e]
    have EF : Hid (gfld k P t = upd (fun t j => (gf k P t j).1) (fun t j => (gf k P t j).2.1) (fun t j => (gf k P t j).2.2) t (f3 0 0 0) (cnt k)) := rfl
    obtain ⟨code, hcode⟩ : ∃ code : Nat → Nat → Int, code = fun t j => (gf k P t j).1 := ⟨_, rfl⟩
    obtain ⟨val, hval⟩ : ∃ val : Nat → Nat → Int, val = fun t j => (gf k P t j).2.1 := ⟨_, rfl⟩
    obtain ⟨cons, hcons⟩ : ∃ cons : Nat → Nat → Nat, cons = fun t j => (gf k P t j).2.2 := ⟨_, rfl⟩
    rw [← hcode, ← hcons] at EG EN
    rw [← hcode, ← hcons, ← hval] at EF
    have hc := cnt_le k
    have G : Hid (∀ w v m j, j < cnt k → Bs w v ((bitsB P).drop m) → Calls Tryd.prog 58 #[v, .int .i64 (lo k j), .int .i64 (hi k j)] w fun e w' => ∃ u, e = .returned (.tuple #[.int .i64 (val m j), u, .int .i64 (code m j)]) ∧ GvRest w w' u ((bitsB P).drop (m + cons m j))) := by
      intro w v m j hj hb
      obtain ⟨l0, l1, l2, l3⟩ := rng_ok k j hj
      have := rgetIn_any w v _ (lo k j) (hi k j) hb (by rw [List.length_drop]; omega) (by omega) (by omega) (by omega) (by omega)
      rw [List.drop_drop] at this
      rw [hcode, hval, hcons]
      exact this
    have VR : Hid (∀ m j, j < cnt k → -524288 ≤ val m j ∧ val m j ≤ 524287) := by
      intro m j hj
      obtain ⟨l0, l1, l2, l3⟩ := rng_ok k j hj
      have := gi_rng (lo k j) (hi k j) ((bitsB P).drop m)
      rw [hval]
      show -524288 ≤ (gi (lo k j) (hi k j) ((bitsB P).drop m)).2.1 ∧ (gi (lo k j) (hi k j) ((bitsB P).drop m)).2.1 ≤ 524287
      omega
    have RR : Hid (∀ w j, j < cnt k → _) := fun w j hj => rrange_ok w k j hj
    have RB : Hid (∀ j, j < cnt k → -524288 ≤ lo k j ∧ lo k j ≤ 1 ∧ 7 ≤ hi k j ∧ hi k j ≤ 524287) := fun j hj => rng_ok k j hj
    clear hcode hval hcons
    have hne : ((cnt k : Int) == 0) = false := by rw [beq_eq_false_iff_ne]; omega
    generalize cnt k = c at *
    clear h0
    go_enter Tryd.func27, Tryd.ntmps27
    go_wp2_with fail
    refine (C.out _).mono ?_
    rintro e w1 ⟨rfl, hf1⟩
    have X1 : Hid (Box w1 w.heap.size 0 (f3 0 0 0)) := Box.quiet HX0.out hf1
    have HF1 : Hid (Fr Nobody w w1) := Fr.trans HF0.out hf1
    have hs1 : w.heap.size < w1.heap.size := (Array.getElem?_eq_some_iff.1 X1.out).1
    have Y1 : Hid (Box (w1.alloc (.cells #[.int .u8 (k : Int), .int .i32 0, .int .i32 0, .int .i32 0] 24)) w1.heap.size k (f3 0 0 0)) := Box.new w1 k (f3 0 0 0)
    clear hf1
    go_wp2_with fail
    refine (C.out _).mono ?_
    rintro e w2 ⟨rfl, hf2⟩
    have X2 : Hid (Box w2 w.heap.size 0 (f3 0 0 0)) := (X1.out.quiet ((Fr.refl _ _).alloc _)).quiet hf2
    have Y2 : Hid (Box w2 w1.heap.size k (f3 0 0 0)) := Y1.out.quiet hf2
    have HF2 : Hid (Fr Nobody w w2) := (HF1.out.alloc _).trans hf2
    clear hf2 X1 Y1 HX0 HF0
    go_wp2
    go_loopw [8, 26] (fun rv a wr => ∃ j : Nat, j ≤ c ∧ a = .int .i64 j ∧ (rat code cons t j).1 = 0 ∧ Bs wr rv ((bitsB P).drop (rat code cons t j).2) ∧ Box wr w1.heap.size k (upd code val cons t (f3 0 0 0) j) ∧ Box wr w.heap.size 0 (f3 0 0 0) ∧ Fr Nobody w wr) (fun _ a _ => c - (intOf a).toNat)
    case atStart => exact ⟨0, by omega, rfl, rfl, H.out.quiet HF2.out, by rw [upd_zero]; exact Y2.out, X2.out, HF2.out⟩
    case round =>
      obtain ⟨j, hj, rfl, hz, hB, hb1, hb2, hf⟩ := hrel
      have HZ : Hid ((rat code cons t j).1 = 0) := hz
      have HB : Hid (Bs wr u8 ((bitsB P).drop (rat code cons t j).2)) := hB
      have B1 : Hid (Box wr w1.heap.size k (upd code val cons t (f3 0 0 0) j)) := hb1
      have B2 : Hid (Box wr w.heap.size 0 (f3 0 0 0)) := hb2
      have HG : Hid (Fr Nobody w wr) := hf
      clear hz hB hb1 hb2 hf X2 Y2 HF2 HF1
      by_cases hlt2 : j < c
      · have RJ : Hid (∀ w, _) := fun w => RR.out w j hlt2
        have GJ : Hid (∀ w v, Bs w v ((bitsB P).drop (rat code cons t j).2) → _) := fun w v hb => G.out w v (rat code cons t j).2 j hlt2 hb
        obtain ⟨l0, l1, l2, l3⟩ := RB.out j hlt2
        obtain ⟨v0, v1⟩ := VR.out (rat code cons t j).2 j hlt2
        have HSN : Hid (rat code cons t (j + 1) = (code (rat code cons t j).2 j, (rat code cons t j).2 + cons (rat code cons t j).2 j)) := by
          show _ = _
          rw [rat, if_pos HZ.out]
        generalize lo k j = x at *
        generalize hi k j = y at *
        go_wp2_with fail
        refine (RJ.out _).mono ?_
        rintro e w3 ⟨rfl, hf3⟩
        have HF3 : Hid (Fr Nobody wr w3) := hf3
        clear hf3
        go_wp2_with fail
        refine (GJ.out _ _ (HB.out.quiet HF3.out)).mono ?_
        rintro e w4 ⟨u, rfl, hU, hf4⟩
        have HF4 : Hid (Fr Nobody wr w4) := HF3.out.trans hf4
        have HU : Hid (Bs w4 u ((bitsB P).drop ((rat code cons t j).2 + cons (rat code cons t j).2 j))) := hU
        have B14 : Hid (Box w4 w1.heap.size k (upd code val cons t (f3 0 0 0) j)) := B1.out.quiet HF4.out
        have B24 : Hid (Box w4 w.heap.size 0 (f3 0 0 0)) := B2.out.quiet HF4.out
        have HG4 : Hid (Fr Nobody w w4) := HG.out.trans HF4.out
        clear hU hf4 HF3 HF4 B1 B2 HB RJ GJ
        by_cases hcd : code (rat code cons t j).2 j = 0
        · have hx := B14.out.at j (by omega)
          have hfz := B14.out.frozen (1 + j)
          have B13 := B14.out.set (j := j) (by omega) (val (rat code cons t j).2 j)
          have hne2 : w.heap.size ≠ w1.heap.size := by omega
          have B23 : Box (w4.setCell ⟨w1.heap.size, 1 + j, none⟩ (.int .i32 (val (rat code cons t j).2 j))) w.heap.size 0 (f3 0 0 0) := (Below.heap_setCell w4 _ _ w.heap.size (by simpa using hne2)).trans B24.out
          have eU : (fun i => if i = j then val (rat code cons t j).2 j else upd code val cons t (f3 0 0 0) j i) = upd code val cons t (f3 0 0 0) (j + 1) := by
            funext i
            unfold upd
            by_cases e1 : i = j
            · subst e1; simp
            · rw [if_neg e1]
              by_cases e2 : i < j
              · rw [if_pos e2, if_pos (by omega)]
              · rw [if_neg e2, if_neg (by omega)]
          rw [eU] at B13
          have HN : Hid ((rat code cons t (j + 1)).1 = 0 ∧ Bs (w4.setCell ⟨w1.heap.size, 1 + j, none⟩ (.int .i32 (val (rat code cons t j).2 j))) u ((bitsB P).drop (rat code cons t (j + 1)).2) ∧ Box (w4.setCell ⟨w1.heap.size, 1 + j, none⟩ (.int .i32 (val (rat code cons t j).2 j))) w1.heap.size k (upd code val cons t (f3 0 0 0) (j + 1)) ∧ Box (w4.setCell ⟨w1.heap.size, 1 + j, none⟩ (.int .i32 (val (rat code cons t j).2 j))) w.heap.size 0 (f3 0 0 0) ∧ Fr Nobody w (w4.setCell ⟨w1.heap.size, 1 + j, none⟩ (.int .i32 (val (rat code cons t j).2 j)))) := by
            rw [HSN.out]
            exact ⟨hcd, HU.out.setBox B14.out _, B13, B23, HG4.out.setCell (p := ⟨w1.heap.size, 1 + j, none⟩) (.inr (by show w.heap.size ≤ w1.heap.size; omega)) _⟩
          rw [hcd]
          clear B13 B23 eU HSN hcd B14 B24 HG4 HU
          generalize upd code val cons t (f3 0 0 0) j j = ov at *
          generalize val (rat code cons t j).2 j = x1 at *
          go_wp2
          go_roundw
          case rel => exact ⟨j + 1, by omega, by go_num, HN.out.1, HN.out.2.1, HN.out.2.2.1, HN.out.2.2.2.1, HN.out.2.2.2.2⟩
          case measure => simp [intOf]; omega
        · have hne3 : (code (rat code cons t j).2 j != 0) = true := by rw [bne_iff_ne]; exact hcd
          have HEND : Hid (gcode k P t = code (rat code cons t j).2 j) := by
            show _ = _
            rw [EG.out]
            have : c = (j + 1) + (c - (j + 1)) := by omega
            rw [this, rat_err code cons t (j + 1) _ (by rw [HSN.out]; exact hcd), HSN.out]
          have HV : Hid (RV = cmp 0 (f3 0 0 0)) := HV2.out (by rw [HEND.out]; exact hcd)
          have HGC : Hid (gcons k P t = 0) := HG0.out (by rw [HEND.out]; exact hcd)
          obtain ⟨y0, y1, y2, y3⟩ := B24.out.cells
          have z0 := B24.out.frozen 0
          have z1 := B24.out.frozen 1
          have z2 := B24.out.frozen 2
          have z3 := B24.out.frozen 3
          have HRX : Hid (Box (put4 w4 w.heap.size 0 (f3 0 0 0)) w.heap.size 0 (f3 0 0 0)) := put4_box B24.out
          have HRD : Hid (Fr Nobody w (put4 w4 w.heap.size 0 (f3 0 0 0))) := put4_fr HG4.out (.inr (Nat.le_refl _))
          clear HSN B14 B24 HG4 hcd HU
          simp only [f3] at y1 y2 y3
          generalize code (rat code cons t j).2 j = cd at *
          generalize val (rat code cons t j).2 j = x1 at *
          go_wp2
          (try simp only [Exit.inBlock, Exit.then])
          refine bodyPost_ret (v := .tuple #[.agg #[.int .u8 0, .int .i32 0, .int .i32 0, .int .i32 0], v, .int .i64 cd]) ?_ rfl ⟨v, by rw [HV.out, HEND.out]; rfl, ?_, HRD.out⟩
          · simp only [results, hres]
            obtain ⟨r0, r1, r2, r3⟩ := HRX.out.cells
            simp only [put4, f3] at r0 r1 r2 r3
            go_simp
          · rw [HGC.out]
            exact H.out.quiet HRD.out
      · have e : j = c := by omega
        subst e
        have HV : Hid (RV = cmp k (upd code val cons t (f3 0 0 0) j)) := by rw [← EF.out]; exact HV1.out (EG.out.trans HZ.out)
        have HE0 : Hid (gcode k P t = 0) := EG.out.trans HZ.out
        have HGC : Hid (t + gcons k P t = (rat code cons t j).2) := by
          show _ = _
          rw [EN.out (EG.out.trans HZ.out)]
          have := rat_ge code cons t j
          omega
        obtain ⟨x0, x1, x2, x3⟩ := B1.out.cells
        obtain ⟨y0, y1, y2, y3⟩ := B2.out.cells
        have z0 := B2.out.frozen 0
        have z1 := B2.out.frozen 1
        have z2 := B2.out.frozen 2
        have z3 := B2.out.frozen 3
        have HRX : Hid (Box (put4 wr w.heap.size k (upd code val cons t (f3 0 0 0) j)) w.heap.size k (upd code val cons t (f3 0 0 0) j)) := put4_box B2.out
        have HRD : Hid (Bs (put4 wr w.heap.size k (upd code val cons t (f3 0 0 0) j)) u8 ((bitsB P).drop (rat code cons t j).2) ∧ Fr Nobody w (put4 wr w.heap.size k (upd code val cons t (f3 0 0 0) j))) := ⟨HB.out.put4 B2.out, put4_fr HG.out (.inr (Nat.le_refl _))⟩
        clear B1 B2 HB HG G RR
        simp only [f3] at y1 y2 y3
        go_wp2
        (try simp only [Exit.inBlock, Exit.then])
        refine bodyPost_ret (v := .tuple #[.agg #[.int .u8 (k : Int), .int .i32 (upd code val cons t (f3 0 0 0) j 0), .int .i32 (upd code val cons t (f3 0 0 0) j 1), .int .i32 (upd code val cons t (f3 0 0 0) j 2)], u8, .int .i64 0]) ?_ rfl ⟨u8, by rw [HV.out, HE0.out]; rfl, ?_, HRD.out.2⟩
        · simp only [results, hres]
          obtain ⟨r0, r1, r2, r3⟩ := HRX.out.cells
          simp only [put4] at r0 r1 r2 r3
          go_simp
        · rw [HGC.out]
          exact HRD.out.1
end Go.Proofs.YtpmolkomnnpepabDoor
