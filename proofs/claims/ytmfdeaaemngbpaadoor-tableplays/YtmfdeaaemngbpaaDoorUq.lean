/-
  Does a table have what the document's has: alike.
-/
import Derived.Test.YtmfdeaaemngbpaaDoorUp
import Derived.Deep.RegionHeld3
namespace Go.Proofs.YtmfdeaaemngbpaaDoor
open Go.RowKit Go.Maps
set_option linter.unusedVariables false
set_option maxRecDepth 100000

theorem ccat_set1 (C : List Cp) (k : Nat) (q : Cp) (a : Int) (hq : C[k]? = some q) : ccat (C.set k ⟨q.k, a, q.b, q.c⟩) = (ccat C).set (k * 4 + 1) (.int .i32 a) := by
  induction C generalizing k with
  | nil => simp at hq
  | cons y C ih =>
    have e1 : ∀ (A : List Cp) (z : Cp), ccat (z :: A) = [.int .u8 (z.k : Int), .int .i32 z.a, .int .i32 z.b, .int .i32 z.c] ++ ccat A := fun _ _ => rfl
    cases k with
    | zero => simp at hq; subst hq; rw [List.set_cons_zero, e1, e1]; simp
    | succ k =>
      have ih := ih k (by simpa using hq)
      rw [List.set_cons_succ, e1, e1, ih, show (k + 1) * 4 + 1 = k * 4 + 1 + 1 + 1 + 1 + 1 by omega]
      simp

set_option maxHeartbeats 400000 in
theorem alikeN (w : World) : Calls Tryd.prog 18 #[.pointer none, .pointer none] w fun e w' => e = .returned (.bool true) ∧ Fr Nobody w w' := by
  have HA : Hid (Calls _ _ _ _ _) := tatN w
  go_enter Tryd.func18, Tryd.ntmps18
  go_wp2_with fail
  refine HA.out.mono ?_
  rintro e w1 ⟨rfl, hf⟩
  have H1 : Hid (Fr Nobody w (w1.alloc (.cells #[.int .u32 0, .slice none 0 0] 81))) := hf.trans ((Fr.refl _ _).alloc _)
  clear hf HA
  go_wp2_with fail
  refine (tlenN _).mono ?_
  rintro e w2 ⟨rfl, rfl⟩
  go_wp2_with fail
  refine (tidsN _).mono ?_
  rintro e w2 ⟨rfl, rfl⟩
  go_wp2_with fail
  refine (tmaskN _).mono ?_
  rintro e w2 ⟨rfl, rfl⟩
  go_wp2
  go_ret
  exact ⟨rfl, H1.out⟩

set_option maxHeartbeats 8000000 in
theorem alikeC (w0 w : World) (l : List Thing) (b b2 m : Nat) (L : List Ent) (c : Nat) (h : Own w0 w (Table b m L c :: RTab b2 m L :: l)) (hT : TOk m L) (hL : L.length ≤ 1000) :
    Calls Tryd.prog 18 #[.pointer (some ⟨b, 0, none⟩), .pointer (some ⟨b2, 0, none⟩)] w fun e w' => e = .returned (.bool true) ∧ Own w0 w' (Table b m L c :: RTab b2 m L :: l) := by
  obtain ⟨v, E, hE, hO⟩ := RTab.open h.two
  have hlen : E.length = L.length := by rw [← hE, List.length_map]
  obtain ⟨ae, ce, rfl⟩ := row_any hO.two.row
  have hm := hT.m64
  obtain ⟨n, hn⟩ : ∃ n, n = L.length := ⟨_, rfl⟩
  rw [hlen, ← hn] at hO
  obtain ⟨R, hR⟩ : ∃ R, R = Cells b2 #[.int .u8 (m : Int), .slice ae n ce] 70 :: Row 81 2 (.slice ae n ce) n (cat rcells E) :: (E.map rrow ++ l) := ⟨_, rfl⟩
  have hO1 : Own w0 w (Table b m L c :: R) := by
    rw [hR]
    refine hO.perm ?_
    have := (List.perm_middle (l₁ := Cells b2 #[.int .u8 (m : Int), .slice ae n ce] 70 :: Row 81 2 (.slice ae n ce) n (cat rcells E) :: E.map rrow) (a := Table b m L c) (l₂ := l))
    exact this
  have HEND : Hid (∀ w', Own w0 w' (Table b m L c :: R) → Own w0 w' (Table b m L c :: RTab b2 m L :: l)) := by
    intro w' h'
    rw [hR] at h'
    refine (RTab.shut (v := .slice ae n ce) (E := E) hE ?_).two
    rw [hlen, ← hn]
    refine h'.perm ?_
    exact (List.perm_middle (l₁ := Cells b2 #[.int .u8 (m : Int), .slice ae n ce] 70 :: Row 81 2 (.slice ae n ce) n (cat rcells E) :: E.map rrow) (a := Table b m L c) (l₂ := l)).symm
  have HC2 : Hid (∀ w' l', Own w0 w' (R ++ l') → w'.cell? ⟨b2, 0, none⟩ = some (.int .u8 (m : Int)) ∧ w'.cell? ⟨b2, 1, none⟩ = some (.slice ae n ce)) := by
    intro w' l' h'
    rw [hR] at h'
    have h' : Own w0 w' (Cells b2 #[.int .u8 (m : Int), .slice ae n ce] 70 :: _) := h'
    have x0 := h'.cell 0
    have x1 := h'.cell 1
    simp at x0 x1
    exact ⟨x0, x1⟩
  have HEN : Hid (∀ w' l', Own w0 w' (R ++ l') → ∀ i x, E[i]? = some x → ∃ g, ae = some ⟨g, 0, none⟩ ∧ w'.cell? ⟨g, i * 2, none⟩ = some (.int .u32 (x.1 : Int)) ∧ w'.cell? ⟨g, i * 2 + 1, none⟩ = some (.slice x.2.2.1 x.2.1.length x.2.2.2) ∧ Cs w' x.2.2.1 x.2.1) := by
    intro w' l' h' i x hx
    have hi := (List.getElem?_eq_some_iff.1 hx).1
    rw [hR] at h'
    have h'' : Own w0 w' (Cells b2 #[.int .u8 (m : Int), .slice ae n ce] 70 :: Row 81 2 (.slice ae n ce) n (cat rcells E) :: (E.map rrow ++ (l ++ l'))) := by
      rw [← List.append_assoc]; exact h'
    obtain ⟨g, ce', hv, _⟩ := row_shape h''.two.row (by omega)
    have hg := (Value.slice.inj hv).1
    subst hg
    have h3 := h''.two
    rw [hn, ← hlen] at h3
    obtain ⟨y0, y1⟩ := ecell h3 i x hx
    exact ⟨g, rfl, y0, y1, Own.rcs (Own.pick i x hx h'') rfl⟩
  have HE : Hid (∀ i, i < n → ∃ x, E[i]? = some x ∧ L[i]? = some (x.1, x.2.1) ∧ plc L x.1 = some i ∧ x.1 < 4294967296 ∧ x.2.1.length ≤ 6) := by
    intro i hi
    obtain ⟨x, hx⟩ : ∃ x, E[i]? = some x := ⟨_, List.getElem?_eq_getElem (by omega)⟩
    have hLx : L[i]? = some (x.1, x.2.1) := by rw [← hE, List.getElem?_map, hx]; rfl
    exact ⟨x, hx, hLx, (plc_some hT.ap x.1 i).2 ⟨_, hLx, rfl⟩, hT.id _ (List.mem_of_getElem? hLx), hT.c6 hLx⟩
  have HLN : Hid (∀ w' l', Own w0 w' (Table b m L c :: l') → Calls Tryd.prog 24 #[.pointer (some ⟨b, 0, none⟩)] w' fun e w'' => e = .returned (.int .i64 (n : Int)) ∧ w'' = w') := fun w' l' h' => by have := tlen w0 w' l' b m _ _ _ c h'; rw [length_ids, ← hn] at this; exact this
  have HMK : Hid (∀ w' l', Own w0 w' (Table b m L c :: l') → Calls Tryd.prog 40 #[.pointer (some ⟨b, 0, none⟩)] w' fun e w'' => e = .returned (.int .u8 (m : Int)) ∧ w'' = w') := fun w' l' h' => tmask w0 w' l' b m _ _ _ c h'
  have HID : Hid (∀ w' l', Own w0 w' (Table b m L c :: l') → Calls Tryd.prog 20 #[.pointer (some ⟨b, 0, none⟩)] w' fun e w'' => ∃ ao cap, e = .returned (.slice ao n cap) ∧ Own w0 w'' (Row 32 1 (.slice ao n cap) n (irow .u32 (ids L)) :: Table b m L c :: l')) := fun w' l' h' => by have := tids w0 w' l' b m L c h' (by omega); rw [← hn] at this; exact this
  have HAT : Hid (∀ w' l' r e, Own w0 w' (Table b m L c :: l') → L[r]? = some e → Calls Tryd.prog 39 #[.pointer (some ⟨b, 0, none⟩), .int .i64 ((r : Nat) : Int)] w' fun out w'' => ∃ ao cap, out = .returned (.tuple #[.agg #[.int .u32 (e.1 : Int), .slice ao e.2.length cap], .bool true]) ∧ Own w0 w'' (Row 47 4 (.slice ao e.2.length cap) e.2.length (ccat e.2) :: Table b m L c :: l')) := fun w' l' r e h' he => tatC w0 w' l' b m L c h' hT r e he (by omega)
  have HNO : Hid (∀ w' l' (r : Int), Own w0 w' (Table b m L c :: l') → r < 0 ∨ (n : Int) ≤ r → Calls Tryd.prog 39 #[.pointer (some ⟨b, 0, none⟩), .int .i64 r] w' fun out w'' => out = .returned (.tuple #[.agg #[.int .u32 0, .slice none 0 0], .bool false]) ∧ Own w0 w'' (Table b m L c :: l')) := fun w' l' r h' hr => tatNo w0 w' l' b m L c h' r (by rw [← hn]; exact hr) (by omega)
  have hn1 : n ≤ 1000 := by omega
  have H1 : Hid (Own w0 w (Table b m L c :: R)) := hO1
  obtain ⟨q0, q1⟩ := HC2.out w [] (by rw [List.append_nil]; exact hO1.tail)
  clear h hO hO1 hR hE hlen hT hL hn
  go_enter Tryd.func18, Tryd.ntmps18
  go_wp2_with fail
  have HL1 : Hid (Calls _ _ _ _ _) := HLN.out _ _ H1.out.drew
  have HM1 : Hid (Calls _ _ _ _ _) := HMK.out _ _ H1.out.drew
  have HI1 : Hid (Calls _ _ _ _ _) := HID.out _ _ H1.out.drew
  have hnn : ((n : Int) != (n : Int)) = false := by simp
  have hmm : ((m : Int) != (m : Int)) = false := by simp
  go_region_held3 (fun w' => w'.cell? ⟨b2, 0, none⟩ = some (.int .u8 (m : Int)) ∧ w'.cell? ⟨b2, 1, none⟩ = some (.slice ae n ce)) (go_keep)
    (first
      | (go_at_call 24; refine HL1.out.mono ?_; rintro e w2 ⟨rfl, rfl⟩)
      | (go_at_call 40; refine HM1.out.mono ?_; rintro e w2 ⟨rfl, rfl⟩)
      | (go_at_call 20; refine HI1.out.mono ?_; rintro e w2 ⟨a2, c2, rfl, hO2⟩
         obtain ⟨t0, t1⟩ := HC2.out w2 [] (by rw [List.append_nil]; exact hO2.tail.tail)
         have H2 : Hid (Own w0 w2 (Table b m L c :: R)) := hO2.tail
         clear hO2))
  all_goals
    clear HL1 HM1 HI1 H1 q0 q1
    go_wp2
    go_loopw [76] (fun cv wr => ∃ i : Nat, i ≤ n ∧ cv = .int .i64 i ∧ Own w0 wr (Table b m L c :: R)) (fun cv _ => n - (intOf cv).toNat)
    case atStart => exact ⟨0, Nat.zero_le _, rfl, H2.out⟩
    case round =>
      obtain ⟨i, hi, rfl, hO3⟩ := hrel
      have H3 : Hid (Own w0 wr (Table b m L c :: R)) := hO3
      clear H2
      by_cases hlt : i < n
      · have hlt' : (i : Int) < (n : Int) := by omega
        obtain ⟨x, hx, hLx, hpx, hxi, hx6⟩ := HE.out i hlt
        obtain ⟨g, hae, y0, y1, _⟩ := HEN.out wr [] (by rw [List.append_nil]; exact hO3.tail) i x hx
        subst hae
        have HX : Hid (E[i]? = some x ∧ L[i]? = some (x.1, x.2.1)) := ⟨hx, hLx⟩
        obtain ⟨xi, xC, xa, xc⟩ := x
        simp only at y0 y1 hxi hx6 hpx
        obtain ⟨xl, hxl⟩ : ∃ xl, xl = xC.length := ⟨_, rfl⟩
        rw [← hxl] at y1 hx6
        have HXL : Hid (xl = xC.length) := hxl
        have hA := (hO3.allocC #[.int .u32 (xi : Int), .slice xa xl xc] 81).two
        have HRW : Hid (Calls Tryd.prog 22 #[.pointer (some ⟨b, 0, none⟩), .int .u32 (xi : Int)] (wr.alloc (.cells #[.int .u32 (xi : Int), .slice xa xl xc] 81)) fun e w' => e = .returned (.tuple #[.int .i64 (i : Int), .bool true]) ∧ w' = wr.alloc (.cells #[.int .u32 (xi : Int), .slice xa xl xc] 81)) := by
          have := trow w0 _ _ b m _ _ _ c hA xi hxi
          rw [hpx] at this
          exact this
        have HAT2 : Hid (Calls Tryd.prog 39 #[.pointer (some ⟨b, 0, none⟩), .int .i64 (i : Int)] (wr.alloc (.cells #[.int .u32 (xi : Int), .slice xa xl xc] 81)) fun out w'' => ∃ ao cap, out = .returned (.tuple #[.agg #[.int .u32 (xi : Int), .slice ao xl cap], .bool true]) ∧ Own w0 w'' (Row 47 4 (.slice ao xl cap) xl (ccat xC) :: Table b m L c :: Cells wr.heap.size #[.int .u32 (xi : Int), .slice xa xl xc] 81 :: R)) := by
          have := HAT.out _ _ i _ hA HX.out.2
          simp only at this
          rw [← hxl] at this
          exact this
        have t0 := hA.two.cell 0
        simp at t0
        clear hO3 hA hx hLx hpx hxl
        go_wp2_with fail
        refine HRW.out.mono ?_
        rintro e w4 ⟨rfl, rfl⟩
        clear HRW
        go_wp2_with fail
        refine HAT2.out.mono ?_
        rintro e w5 ⟨ao, cp, rfl, hO5⟩
        have hB := (hO5.allocC #[.int .u32 (xi : Int), .slice ao xl cp] 81)
        have hbe : w5.heap.size ≠ wr.heap.size := by
          have := hO5.three.lt
          omega
        have HB : Hid (Own w0 _ (Cells w5.heap.size #[.int .u32 (xi : Int), .slice ao xl cp] 81 :: Row 47 4 (.slice ao xl cp) xl (ccat xC) :: Table b m L c :: Cells wr.heap.size #[.int .u32 (xi : Int), .slice xa xl xc] 81 :: R)) := hB
        have HCSA : Hid (∀ w', Own w0 w' (Cells w5.heap.size #[.int .u32 (xi : Int), .slice ao xl cp] 81 :: Row 47 4 (.slice ao xl cp) xl (ccat xC) :: Table b m L c :: Cells wr.heap.size #[.int .u32 (xi : Int), .slice xa xl xc] 81 :: R) → Cs w' ao xC ∧ Cs w' xa xC) := by
          intro w' h'
          refine ⟨Own.rcs h'.two HXL.out.symm, ?_⟩
          obtain ⟨_, _, _, _, h6⟩ := HEN.out w' [] (by rw [List.append_nil]; exact h'.tail.tail.tail.tail) i _ HX.out.1
          exact h6
        clear hO5 hB HAT2 t0 H3 y0 y1
        have hxx : ((xi : Int) != (xi : Int)) = false := by simp
        have hii : ((i : Int) != (i : Int)) = false := by simp
        go_wp2_with fail
        generalize w5.alloc (.cells #[.int .u32 (xi : Int), .slice ao xl cp] 81) = wz at *
        have k0 := HB.out.cell 0
        have k1 := HB.out.cell 1
        have j0 := HB.out.four.cell 0
        have j1 := HB.out.four.cell 1
        simp at k0 k1 j0 j1
        have HSE : Hid (Calls _ _ _ _ _) := sameEnt_any wz.drew xi ao xa xl cp xc xC (HCSA.out _ HB.out.drew).1 (HCSA.out _ HB.out.drew).2 HXL.out.symm (by omega)
        generalize w5.heap.size = B5 at *
        generalize wr.heap.size = B8 at *
        refine wp_region_held_drew (S := (fun w' => w'.cell? ⟨B5, 0, none⟩ = some (.int .u32 (xi : Int)) ∧ w'.cell? ⟨B5, 1, none⟩ = some (.slice ao xl cp) ∧ w'.cell? ⟨B8, 0, none⟩ = some (.int .u32 (xi : Int)) ∧ w'.cell? ⟨B8, 1, none⟩ = some (.slice xa xl xc))) (by kernel_rfl) ⟨k0, k1, j0, j1⟩ (fun hHeld => ?_)
        refine wpAnyH_take (i := 0) (oi := { dst := some 94, op := Op.move (Operand.tmp 10), type := 4, pos := "law.go:41", after := #[], guard := none }) (v := ?_) rfl (by kernel_rfl) (by kernel_rfl) (by kernel_rfl) (fun _ _ _ h => h) (Or.inl ⟨by rfl, ?_⟩) (by assumption) ?_
        rotate_left
        · (intro wx hSw; (try dsimp only at hSw); go_simp; (try with_reducible rfl))
        (try simp only [Act.put, List.setIfInBounds_toArray, List.set_cons_zero, List.set_cons_succ])
        refine wpAnyH_take (i := 1) (oi := { dst := some 95, op := Op.unOp UnOp.not 4 (Operand.tmp 94), type := 4, pos := "law.go:41", after := #[{ on := 0, ground := Ground.data }], guard := none }) (v := ?_) rfl (by kernel_rfl) (by kernel_rfl) (by kernel_rfl) (fun _ _ _ h => h) (Or.inl ⟨by rfl, ?_⟩) (by assumption) ?_
        rotate_left
        · (intro wx hSw; (try dsimp only at hSw); go_simp; (try with_reducible rfl))
        (try simp only [Act.put, List.setIfInBounds_toArray, List.set_cons_zero, List.set_cons_succ])
        refine wpAnyH_take (i := 2) (oi := { dst := some 96, op := Op.move (Operand.tmp 95), type := 4, pos := "law.go:41", after := #[{ on := 1, ground := Ground.data }], guard := none }) (v := ?_) rfl (by kernel_rfl) (by kernel_rfl) (by kernel_rfl) (fun _ _ _ h => h) (Or.inl ⟨by rfl, ?_⟩) (by assumption) ?_
        rotate_left
        · (intro wx hSw; (try dsimp only at hSw); go_simp; (try with_reducible rfl))
        (try simp only [Act.put, List.setIfInBounds_toArray, List.set_cons_zero, List.set_cons_succ])
        refine wpAnyH_take (i := 3) (oi := { dst := some 97, op := Op.move (Operand.tmp 9), type := 3, pos := "law.go:41", after := #[{ on := 2, ground := Ground.guard }], guard := some (2, false) }) (v := ?_) rfl (by kernel_rfl) (by kernel_rfl) (by kernel_rfl) (fun _ _ _ h => h) (Or.inl ⟨by rfl, ?_⟩) (by assumption) ?_
        rotate_left
        · (intro wx hSw; (try dsimp only at hSw); go_simp; (try with_reducible rfl))
        (try simp only [Act.put, List.setIfInBounds_toArray, List.set_cons_zero, List.set_cons_succ])
        refine wpAnyH_take (i := 4) (oi := { dst := some 98, op := Op.move (Operand.tmp 7), type := 3, pos := "law.go:41", after := #[{ on := 2, ground := Ground.guard }], guard := some (2, false) }) (v := ?_) rfl (by kernel_rfl) (by kernel_rfl) (by kernel_rfl) (fun _ _ _ h => h) (Or.inl ⟨by rfl, ?_⟩) (by assumption) ?_
        rotate_left
        · (intro wx hSw; (try dsimp only at hSw); go_simp; (try with_reducible rfl))
        (try simp only [Act.put, List.setIfInBounds_toArray, List.set_cons_zero, List.set_cons_succ])
        refine wpAnyH_take (i := 5) (oi := { dst := some 99, op := Op.binOp BinOp.neq 3 (Operand.tmp 97) (Operand.tmp 98) 3, type := 4, pos := "law.go:41", after := #[{ on := 3, ground := Ground.data }, { on := 4, ground := Ground.data }, { on := 2, ground := Ground.guard }], guard := some (2, false) }) (v := ?_) rfl (by kernel_rfl) (by kernel_rfl) (by kernel_rfl) (fun _ _ _ h => h) (Or.inl ⟨by rfl, ?_⟩) (by assumption) ?_
        rotate_left
        · (intro wx hSw; (try dsimp only at hSw); go_simp; (try with_reducible rfl))
        (try simp only [Act.put, List.setIfInBounds_toArray, List.set_cons_zero, List.set_cons_succ])
        refine wpAnyH_take (i := 6) (oi := { dst := some 100, op := Op.pick (Operand.tmp 96) (Operand.const (Value.bool true)) (Operand.tmp 99), type := 4, pos := "law.go:41", after := #[{ on := 2, ground := Ground.data }, { on := 5, ground := Ground.data }], guard := none }) (v := ?_) rfl (by kernel_rfl) (by kernel_rfl) (by kernel_rfl) (fun _ _ _ h => h) (Or.inl ⟨by rfl, ?_⟩) (by assumption) ?_
        rotate_left
        · (intro wx hSw; (try dsimp only at hSw); go_simp; (try with_reducible rfl))
        (try simp only [Act.put, List.setIfInBounds_toArray, List.set_cons_zero, List.set_cons_succ])
        refine wpAnyH_take (i := 7) (oi := { dst := some 101, op := Op.move (Operand.tmp 100), type := 4, pos := "law.go:41", after := #[{ on := 6, ground := Ground.data }, { on := 2, ground := Ground.chain }], guard := none }) (v := ?_) rfl (by kernel_rfl) (by kernel_rfl) (by kernel_rfl) (fun _ _ _ h => h) (Or.inl ⟨by rfl, ?_⟩) (by assumption) ?_
        rotate_left
        · (intro wx hSw; (try dsimp only at hSw); go_simp; (try with_reducible rfl))
        (try simp only [Act.put, List.setIfInBounds_toArray, List.set_cons_zero, List.set_cons_succ])
        refine wpAnyH_take (i := 8) (oi := { dst := some 102, op := Op.move (Operand.tmp 12), type := 4, pos := "law.go:41", after := #[{ on := 7, ground := Ground.guard }], guard := some (7, false) }) (v := ?_) rfl (by kernel_rfl) (by kernel_rfl) (by kernel_rfl) (fun _ _ _ h => h) (Or.inl ⟨by rfl, ?_⟩) (by assumption) ?_
        rotate_left
        · (intro wx hSw; (try dsimp only at hSw); go_simp; (try with_reducible rfl))
        (try simp only [Act.put, List.setIfInBounds_toArray, List.set_cons_zero, List.set_cons_succ])
        refine wpAnyH_take (i := 9) (oi := { dst := some 103, op := Op.unOp UnOp.not 4 (Operand.tmp 102), type := 4, pos := "law.go:41", after := #[{ on := 8, ground := Ground.data }, { on := 7, ground := Ground.guard }], guard := some (7, false) }) (v := ?_) rfl (by kernel_rfl) (by kernel_rfl) (by kernel_rfl) (fun _ _ _ h => h) (Or.inl ⟨by rfl, ?_⟩) (by assumption) ?_
        rotate_left
        · (intro wx hSw; (try dsimp only at hSw); go_simp; (try with_reducible rfl))
        (try simp only [Act.put, List.setIfInBounds_toArray, List.set_cons_zero, List.set_cons_succ])
        refine wpAnyH_take (i := 10) (oi := { dst := some 104, op := Op.pick (Operand.tmp 101) (Operand.const (Value.bool true)) (Operand.tmp 103), type := 4, pos := "law.go:41", after := #[{ on := 7, ground := Ground.data }, { on := 9, ground := Ground.data }], guard := none }) (v := ?_) rfl (by kernel_rfl) (by kernel_rfl) (by kernel_rfl) (fun _ _ _ h => h) (Or.inl ⟨by rfl, ?_⟩) (by assumption) ?_
        rotate_left
        · (intro wx hSw; (try dsimp only at hSw); go_simp; (try with_reducible rfl))
        (try simp only [Act.put, List.setIfInBounds_toArray, List.set_cons_zero, List.set_cons_succ])
        refine wpAnyH_take (i := 11) (oi := { dst := some 105, op := Op.move (Operand.tmp 104), type := 4, pos := "law.go:41", after := #[{ on := 10, ground := Ground.data }, { on := 7, ground := Ground.chain }], guard := none }) (v := ?_) rfl (by kernel_rfl) (by kernel_rfl) (by kernel_rfl) (fun _ _ _ h => h) (Or.inl ⟨by rfl, ?_⟩) (by assumption) ?_
        rotate_left
        · (intro wx hSw; (try dsimp only at hSw); go_simp; (try with_reducible rfl))
        (try simp only [Act.put, List.setIfInBounds_toArray, List.set_cons_zero, List.set_cons_succ])
        refine wpAnyH_take (i := 12) (oi := { dst := some 106, op := Op.load 81 (Operand.tmp 11), type := 81, pos := "law.go:41", after := #[{ on := 11, ground := Ground.guard }], guard := some (11, false) }) (v := ?_) rfl (by kernel_rfl) (by kernel_rfl) (by kernel_rfl) (fun _ _ _ h => h) (Or.inl ⟨by rfl, ?_⟩) (by assumption) ?_
        rotate_left
        · (intro wx hSw; (try dsimp only at hSw); go_simp; (try with_reducible rfl))
        (try simp only [Act.put, List.setIfInBounds_toArray, List.set_cons_zero, List.set_cons_succ])
        refine wpAnyH_take (i := 13) (oi := { dst := some 107, op := Op.load 81 (Operand.tmp 8), type := 81, pos := "law.go:41", after := #[{ on := 11, ground := Ground.guard }], guard := some (11, false) }) (v := ?_) rfl (by kernel_rfl) (by kernel_rfl) (by kernel_rfl) (fun _ _ _ h => h) (Or.inl ⟨by rfl, ?_⟩) (by assumption) ?_
        rotate_left
        · (intro wx hSw; (try dsimp only at hSw); go_simp; (try with_reducible rfl))
        (try simp only [Act.put, List.setIfInBounds_toArray, List.set_cons_zero, List.set_cons_succ])
        refine wpAnyH_ready (rs := [14]) (by kernel_rfl) (by simp) ?_
        refine AllReadyH.cons (o := { dst := some 108, op := Op.call { callee := Callee.value (Operand.func 41), args := #[Operand.tmp 106, Operand.tmp 107], argTypes := #[81, 81] }, type := 4, pos := "law.go:41", after := #[{ on := 12, ground := Ground.data }, { on := 13, ground := Ground.data }, { on := 11, ground := Ground.chain }, { on := 11, ground := Ground.guard }], guard := some (11, false) }) rfl (fun K hK => ?_) AllReadyH.nil
        go_simp
        refine HSE.out.mono ?_
        rintro e w6 ⟨rfl, hf6⟩
        have hB6 := HB.out.drew.quiet hf6
        have k60 := hB6.cell 0
        have k61 := hB6.cell 1
        have j60 := hB6.four.cell 0
        have j61 := hB6.four.cell 1
        simp at k60 k61 j60 j61
        have HI6 : Hid (Calls _ _ _ _ _) := HID.out _ _ hB6.three
        clear hB6 hf6
        (try go_wp2_with fail)
        refine hK.out _ _ ⟨k60, k61, j60, j61⟩ (fun hHeld2 => ?_)
        clear hHeld hK K
        have hHeld := hHeld2
        clear hHeld2
        (try simp only [Act.put, List.setIfInBounds_toArray, List.set_cons_zero, List.set_cons_succ])
        refine wpAnyH_take (i := 15) (oi := { dst := some 109, op := Op.unOp UnOp.not 4 (Operand.tmp 108), type := 4, pos := "law.go:41", after := #[{ on := 14, ground := Ground.data }, { on := 11, ground := Ground.guard }], guard := some (11, false) }) (v := ?_) rfl (by kernel_rfl) (by kernel_rfl) (by kernel_rfl) (fun _ _ _ h => h) (Or.inl ⟨by rfl, ?_⟩) (by assumption) ?_
        rotate_left
        · (intro wx hSw; (try dsimp only at hSw); go_simp; (try with_reducible rfl))
        (try simp only [Act.put, List.setIfInBounds_toArray, List.set_cons_zero, List.set_cons_succ])
        refine wpAnyH_take (i := 16) (oi := { dst := some 110, op := Op.pick (Operand.tmp 105) (Operand.const (Value.bool true)) (Operand.tmp 109), type := 4, pos := "law.go:41", after := #[{ on := 11, ground := Ground.data }, { on := 15, ground := Ground.data }], guard := none }) (v := ?_) rfl (by kernel_rfl) (by kernel_rfl) (by kernel_rfl) (fun _ _ _ h => h) (Or.inl ⟨by rfl, ?_⟩) (by assumption) ?_
        rotate_left
        · (intro wx hSw; (try dsimp only at hSw); go_simp; (try with_reducible rfl))
        (try simp only [Act.put, List.setIfInBounds_toArray, List.set_cons_zero, List.set_cons_succ])
        refine wpAnyH_take (i := 17) (oi := { dst := some 111, op := Op.move (Operand.tmp 110), type := 4, pos := "law.go:41", after := #[{ on := 16, ground := Ground.data }, { on := 14, ground := Ground.chain }], guard := none }) (v := ?_) rfl (by kernel_rfl) (by kernel_rfl) (by kernel_rfl) (fun _ _ _ h => h) (Or.inl ⟨by rfl, ?_⟩) (by assumption) ?_
        rotate_left
        · (intro wx hSw; (try dsimp only at hSw); go_simp; (try with_reducible rfl))
        (try simp only [Act.put, List.setIfInBounds_toArray, List.set_cons_zero, List.set_cons_succ])
        refine wpAnyH_take (i := 18) (oi := { dst := some 112, op := Op.move (Operand.tmp 0), type := 24, pos := "law.go:41", after := #[{ on := 17, ground := Ground.guard }], guard := some (17, false) }) (v := ?_) rfl (by kernel_rfl) (by kernel_rfl) (by kernel_rfl) (fun _ _ _ h => h) (Or.inl ⟨by rfl, ?_⟩) (by assumption) ?_
        rotate_left
        · (intro wx hSw; (try dsimp only at hSw); go_simp; (try with_reducible rfl))
        (try simp only [Act.put, List.setIfInBounds_toArray, List.set_cons_zero, List.set_cons_succ])
        refine wpAnyH_take (i := 20) (oi := { dst := some 114, op := Op.move (Operand.tmp 7), type := 3, pos := "law.go:41", after := #[{ on := 17, ground := Ground.guard }], guard := some (17, false) }) (v := ?_) rfl (by kernel_rfl) (by kernel_rfl) (by kernel_rfl) (fun _ _ _ h => h) (Or.inl ⟨by rfl, ?_⟩) (by assumption) ?_
        rotate_left
        · (intro wx hSw; (try dsimp only at hSw); go_simp; (try with_reducible rfl))
        (try simp only [Act.put, List.setIfInBounds_toArray, List.set_cons_zero, List.set_cons_succ])
        refine wpAnyH_take (i := 23) (oi := { dst := some 117, op := Op.fieldAddr 81 (Operand.tmp 8) 0, type := 0, pos := "law.go:41", after := #[{ on := 17, ground := Ground.guard }], guard := some (17, false) }) (v := ?_) rfl (by kernel_rfl) (by kernel_rfl) (by kernel_rfl) (fun _ _ _ h => h) (Or.inl ⟨by rfl, ?_⟩) (by assumption) ?_
        rotate_left
        · (intro wx hSw; (try dsimp only at hSw); go_simp; (try with_reducible rfl))
        (try simp only [Act.put, List.setIfInBounds_toArray, List.set_cons_zero, List.set_cons_succ])
        refine wpAnyH_take (i := 24) (oi := { dst := some 118, op := Op.load 32 (Operand.tmp 117), type := 32, pos := "law.go:41", after := #[{ on := 23, ground := Ground.data }, { on := 17, ground := Ground.guard }], guard := some (17, false) }) (v := ?_) rfl (by kernel_rfl) (by kernel_rfl) (by kernel_rfl) (fun _ _ _ h => h) (Or.inl ⟨by rfl, ?_⟩) (by assumption) ?_
        rotate_left
        · (intro wx hSw; (try dsimp only at hSw); go_simp; (try with_reducible rfl))
        (try simp only [Act.put, List.setIfInBounds_toArray, List.set_cons_zero, List.set_cons_succ])
        refine wpAnyH_ready (rs := [19]) (by kernel_rfl) (by simp) ?_
        refine AllReadyH.cons (o := { dst := some 113, op := Op.call { callee := Callee.value (Operand.func 20), args := #[Operand.tmp 112], argTypes := #[24] }, type := 57, pos := "law.go:41", after := #[{ on := 18, ground := Ground.data }, { on := 17, ground := Ground.chain }, { on := 17, ground := Ground.guard }], guard := some (17, false) }) rfl (fun K hK => ?_) AllReadyH.nil
        go_simp
        refine HI6.out.mono ?_
        rintro e w7 ⟨a7, c7, rfl, hO7⟩
        obtain ⟨g7, c7', hv7, _⟩ := row_shape hO7.row (by omega)
        have hg7 := (Value.slice.inj hv7).1
        subst hg7
        have e7 := hO7.row.cellAt i (by omega)
        rw [getElem?_irow, ids, List.getElem?_map, HX.out.2] at e7
        simp only [Option.map_some] at e7
        have hB7 := hO7.tail.back3
        have k70 := hB7.cell 0
        have k71 := hB7.cell 1
        have j70 := hB7.four.cell 0
        have j71 := hB7.four.cell 1
        simp at k70 k71 j70 j71
        have H7 : Hid (Own w0 w7 (Cells B5 #[.int .u32 (xi : Int), .slice ao xl cp] 81 :: Row 47 4 (.slice ao xl cp) xl (ccat xC) :: Table b m L c :: Cells B8 #[.int .u32 (xi : Int), .slice xa xl xc] 81 :: R)) := hB7
        clear hO7 hB7 hv7
        (try go_wp2_with fail)
        refine hK.out _ _ ⟨k70, k71, j70, j71⟩ (fun hHeld2 => ?_)
        clear hHeld hK K
        have hHeld := hHeld2
        clear hHeld2
        (try simp only [Act.put, List.setIfInBounds_toArray, List.set_cons_zero, List.set_cons_succ])
        refine wpAnyH_take (i := 21) (oi := { dst := some 115, op := Op.indexAddr 57 (Operand.tmp 113) (Operand.tmp 114), type := 0, pos := "law.go:41", after := #[{ on := 19, ground := Ground.data }, { on := 20, ground := Ground.data }, { on := 17, ground := Ground.guard }], guard := some (17, false) }) (v := ?_) rfl (by kernel_rfl) (by kernel_rfl) (by kernel_rfl) (fun _ _ _ h => h) (Or.inl ⟨by rfl, ?_⟩) (by assumption) ?_
        rotate_left
        · (intro wx hSw; (try dsimp only at hSw); go_simp; (try with_reducible rfl))
        (try simp only [Act.put, List.setIfInBounds_toArray, List.set_cons_zero, List.set_cons_succ])
        refine wpAnyH_ready (rs := [22]) (by kernel_rfl) (by simp) ?_
        refine AllReadyH.cons (o := { dst := some 116, op := Op.load 32 (Operand.tmp 115), type := 32, pos := "law.go:41", after := #[{ on := 21, ground := Ground.data }, { on := 17, ground := Ground.guard }], guard := some (17, false) }) rfl (fun K hK => ?_) AllReadyH.nil
        go_simp
        refine hK.out _ _ ⟨k70, k71, j70, j71⟩ (fun hHeld2 => ?_)
        clear hHeld hK K
        have hHeld := hHeld2
        clear hHeld2
        (try simp only [Act.put, List.setIfInBounds_toArray, List.set_cons_zero, List.set_cons_succ])
        refine wpAnyH_take (i := 25) (oi := { dst := some 119, op := Op.binOp BinOp.neq 32 (Operand.tmp 116) (Operand.tmp 118) 32, type := 4, pos := "law.go:41", after := #[{ on := 22, ground := Ground.data }, { on := 24, ground := Ground.data }, { on := 17, ground := Ground.guard }], guard := some (17, false) }) (v := ?_) rfl (by kernel_rfl) (by kernel_rfl) (by kernel_rfl) (fun _ _ _ h => h) (Or.inl ⟨by rfl, ?_⟩) (by assumption) ?_
        rotate_left
        · (intro wx hSw; (try dsimp only at hSw); go_simp; (try with_reducible rfl))
        (try simp only [Act.put, List.setIfInBounds_toArray, List.set_cons_zero, List.set_cons_succ])
        refine wpAnyH_take (i := 26) (oi := { dst := some 120, op := Op.pick (Operand.tmp 111) (Operand.const (Value.bool true)) (Operand.tmp 119), type := 4, pos := "law.go:41", after := #[{ on := 17, ground := Ground.data }, { on := 25, ground := Ground.data }], guard := none }) (v := ?_) rfl (by kernel_rfl) (by kernel_rfl) (by kernel_rfl) (fun _ _ _ h => h) (Or.inl ⟨by rfl, ?_⟩) (by assumption) ?_
        rotate_left
        · (intro wx hSw; (try dsimp only at hSw); go_simp; (try with_reducible rfl))
        (try simp only [Act.put, List.setIfInBounds_toArray, List.set_cons_zero, List.set_cons_succ])
        refine wpAnyH_done (by kernel_rfl) ?_ _
        clear hHeld HB HSE HI6 HCSA k0 k1 j0 j1 k60 k61 j60 j61 j70 j71 e7 k70
        go_wp2
        go_loopw [124] (fun cv3 wr3 => ∃ q : Nat, q ≤ xl ∧ cv3 = .int .i64 q ∧ ∃ C' : List Cp, C'.length = xl ∧ Own w0 wr3 (Cells B5 #[.int .u32 (xi : Int), .slice ao xl cp] 81 :: Row 47 4 (.slice ao xl cp) xl (ccat C') :: Table b m L c :: Cells B8 #[.int .u32 (xi : Int), .slice xa xl xc] 81 :: R)) (fun cv3 _ => xl - (intOf cv3).toNat)
        case atStart => exact ⟨0, Nat.zero_le _, rfl, xC, HXL.out.symm, H7.out⟩
        case round =>
          obtain ⟨q, hq, rfl, C', hC', hO8⟩ := hrel
          have H8 : Hid (Own w0 _ (Cells B5 #[.int .u32 (xi : Int), .slice ao xl cp] 81 :: Row 47 4 (.slice ao xl cp) xl (ccat C') :: Table b m L c :: Cells B8 #[.int .u32 (xi : Int), .slice xa xl xc] 81 :: R)) := hO8
          clear H7 k71
          by_cases hqx : q < xl
          · have hqx' : (q : Int) < (xl : Int) := by omega
            obtain ⟨z, hz⟩ : ∃ z, C'[q]? = some z := ⟨_, List.getElem?_eq_getElem (by omega)⟩
            obtain ⟨gl, cl', hvl, _⟩ := row_shape hO8.two.row (by omega)
            have hgl := (Value.slice.inj hvl).1
            subst hgl
            have f1 := hO8.two.row.cellAt (q * 4 + 1) (by omega)
            rw [ccat_at C' q z hz 1 (by decide)] at f1
            have f1' : World.cell? wr ⟨gl, q * 4 + 1, none⟩ = some (.int .i32 z.a) := f1
            have f2 := hO8.two.row.frozenAt (q * 4 + 1)
            have k8 := hO8.cell 1
            simp at k8
            obtain ⟨nv, hnv⟩ : ∃ nv, nv = bits .xor .i32 z.a 1 := ⟨_, rfl⟩
            have HN : Hid (Own w0 (World.setCell wr ⟨gl, q * 4 + 1, none⟩ (.int .i32 nv)) (Cells B5 #[.int .u32 (xi : Int), .slice (some ⟨gl, 0, none⟩) xl cp] 81 :: Row 47 4 (.slice (some ⟨gl, 0, none⟩) xl cp) xl (ccat (C'.set q ⟨z.k, nv, z.b, z.c⟩)) :: Table b m L c :: Cells B8 #[.int .u32 (xi : Int), .slice xa xl xc] 81 :: R)) := by
              have := (hO8.two.setR (q * 4 + 1) (.int .i32 nv)).two
              rw [ccat_set1 C' q z nv hz]
              exact this
            have HCL : Hid ((C'.set q ⟨z.k, nv, z.b, z.c⟩).length = xl) := by show _ = _; rw [List.length_set, hC']
            clear hO8 hvl hz f1
            generalize z.a = za at *
            have hnv' := hnv.symm
            clear hnv
            go_wp2
            go_region
            all_goals
              go_wp2
              go_roundw
              case rel => exact ⟨q + 1, by omega, by go_num, _, HCL.out, HN.out.drew⟩
              case measure => simp [intOf]; omega
          · have hqx' : ¬ (q : Int) < (xl : Int) := by omega
            clear hO8
            go_wp2
            go_roundw
            case rel => exact ⟨i + 1, by omega, by go_num, H8.out.tail.tail.two.tail⟩
            case measure => simp [intOf]; omega
      · have hlt' : ¬ (i : Int) < (n : Int) := by omega
        have t1 := (HC2.out wr [] (by rw [List.append_nil]; exact hO3.tail)).2
        have HN1 : Hid (Calls _ _ _ _ _) := HNO.out wr _ (n : Int) hO3 (.inr (by omega))
        clear hO3
        go_wp2_with fail
        refine HN1.out.mono ?_
        rintro e w4 ⟨rfl, hO4⟩
        have HN2 : Hid (Calls _ _ _ _ _) := HNO.out (w4.alloc (.cells #[.int .u32 0, .slice none 0 0] 81)) _ (-1) (hO4.alloc _) (.inl (by decide))
        clear hO4 HN1 t1
        go_wp2_with fail
        refine HN2.out.mono ?_
        rintro e w5 ⟨rfl, hO5⟩
        have H5 : Hid (Own w0 w5 (Table b m L c :: R)) := hO5
        clear hO5 HN2
        go_wp2
        go_ret
        exact ⟨rfl, HEND.out _ (H5.out.alloc _)⟩
end Go.Proofs.YtmfdeaaemngbpaaDoor
