/-
  For every two components: Changed of package comp has just the bits of the fields that aren't alike; a step without a change has a bit a field, and a step is never more than three bits a field longer than the whole: CompChanges returns true, whatever its arguments, where the table of the components lies as the program's text lays it, and changes nothing that was there.
-/
import Derived.Test.YtllhipfielgnbaaDoorKg
import Derived.Deep.RegionHeld3
namespace Go.Proofs.YtllhipfielgnbaaDoor
open Go.ChangeShapes Go.WideShapes Go.ChangeAt Go.RowKit
set_option linter.unusedVariables false
set_option maxRecDepth 100000

def Bth (w0 w : World) (k k' : Nat) (F G : Nat → Int) : Prop := Box w w0.heap.size k F ∧ Box w (w0.heap.size + 1) k' G ∧ Fr Nobody w0 w
theorem Bth.next {w0 w w' : World} {k k' : Nat} {F G : Nat → Int} (h : Bth w0 w k k' F G) (hf : Fr Nobody w w') : Bth w0 w' k k' F G := ⟨h.1.quiet hf, h.2.1.quiet hf, h.2.2.trans hf⟩

set_option maxHeartbeats 8000000 in
theorem compChanges_main (w : World) (ht : Tab w) (k k' : Nat) (hk : k < 256) (hk' : k' < 256) (F G : Nat → Int) (hF : I32 F) (hG : I32 G) :
    Calls Tryd.prog 4 #[.agg (cmp k F), .agg (cmp k' G)] w fun e w' => e = .returned (.bool true) ∧ Fr Nobody w w' := by
  have b1 : Bth w ((w.alloc (.cells (cmp k F) 24)).alloc (.cells (cmp k' G) 24)) k k' F G := boxes w k k' F G
  have H : Hid (Tab w) := ht
  have HB : Hid _ := b1
  have hc := cnt_le k'
  have C : Hid (∀ w, _) := fun w => changed_any w k k' F G
  have R1 : Hid (∀ w, Calls Tryd.prog 19 #[.agg (cmp k F)] w fun e w' => e = .returned (.int .i64 ((chk k F : Nat) : Int)) ∧ Fr Nobody w w') := fun w => rcheck_any w k hk F
  have R2 : Hid (∀ w, Calls Tryd.prog 19 #[.agg (cmp k' G)] w fun e w' => e = .returned (.int .i64 ((chk k' G : Nat) : Int)) ∧ Fr Nobody w w') := fun w => rcheck_any w k' hk' G
  have RC : Hid (∀ w, _) := fun w => rcount_any w k' hk'
  have S1 : Hid (∀ w, Tab w → _) := fun w h => sizeStep_any w h k k' hk hk' F G hF hG
  have S2 : Hid (∀ w, Tab w → _) := fun w h => sizeStep_any w h k' k hk' hk G F hG hF
  have Z : Hid (∀ w, Tab w → _) := fun w h => size_any w h k' hk' G
  have hm := chg_lt F G 3
  have HBIT : Hid (∀ j, j < 3 → chg F G 3 / 2 ^ j % 2 = dif F G j) := fun j hj => chg_bit F G j hj
  have HL : Hid (chk k F = 0 → chk k' G = 0 → k = k' → sizeS k k' F G ≤ sizeK k' G + 3 * cnt k' ∧ cnt k' ≤ sizeS k' k G F ∧ (chg F G 3 = 0 → sizeS k k' F G = cnt k') ∧ sizeK k' G ≤ 60 ∧ sizeS k k' F G ≤ 66 ∧ sizeS k' k G F ≤ 66) := by
    intro h1 h2 h3
    subst h3
    have e1 : ckS k k F G = 0 := by unfold ckS; rw [if_pos h1, if_pos h2, if_pos rfl]
    have e2 : ckS k k G F = 0 := by unfold ckS; rw [if_pos h2, if_pos h1, if_pos rfl]
    unfold sizeS sizeK
    rw [if_pos e1, if_pos e2, if_pos h2]
    have a1 := ssum_bits k (cnt k) F G (Nat.le_refl _)
    have a2 := ssum_ge k (cnt k) G F (Nat.le_refl _)
    have a3 := bsum_le k (cnt k) (Nat.le_refl _)
    have a4 := ssum_le k (cnt k) F G (Nat.le_refl _)
    have a5 := ssum_le k (cnt k) G F (Nat.le_refl _)
    refine ⟨a1, a2, fun h0 => ssum_same k (cnt k) F G (fun j hj => chg_zero F G h0 j hj) (Nat.le_refl _), ?_, ?_, ?_⟩
    · unfold bitsK; omega
    · omega
    · omega
  clear ht b1 hF hG
  generalize chg F G 3 = m at *
  generalize chk k F = p at *
  generalize chk k' G = q at *
  generalize sizeS k k' F G = s1 at *
  generalize sizeS k' k G F = s2 at *
  generalize sizeK k' G = z at *
  generalize cnt k' = c at *
  unfold cmp at *
  go_enter Tryd.func4, Tryd.ntmps4
  go_wp2_with fail
  refine (awake6 _ (H.out.quiet HB.out.2.2)).mono ?_
  rintro e w1 ⟨rfl, hf1⟩
  have B1 : Hid (Bth w w1 k k' F G) := Bth.next HB.out hf1
  obtain ⟨p0, p1, p2, p3⟩ := B1.out.1.cells
  obtain ⟨q0, q1, q2, q3⟩ := B1.out.2.1.cells
  clear hf1 HB
  go_wp2_with fail
  refine (C.out _).mono ?_
  rintro e w2 ⟨rfl, hf2⟩
  have B2 : Hid (Bth w w2 k k' F G) := B1.out.next hf2
  clear hf2 p0 p1 p2 p3 q0 q1 q2 q3 C B1
  go_wp2
  go_loopw [13] (fun a wr => ∃ j : Nat, j ≤ 3 ∧ a = .int .i64 j ∧ Bth w wr k k' F G) (fun a _ => 3 - (intOf a).toNat)
  case atStart => exact ⟨0, by omega, rfl, B2.out⟩
  case round =>
    obtain ⟨j, hj, rfl, hb⟩ := hrel
    have B3 : Hid (Bth w wr k k' F G) := hb
    clear hb
    by_cases hlt : j < 3
    · have x1 := B3.out.1.at j hlt
      have x2 := B3.out.2.1.at j hlt
      have hbit := HBIT.out j hlt
      have hand := and_one_u8 m j (by omega)
      rw [hbit] at hand
      clear hbit
      by_cases he : F j = G j
      · have hd : dif F G j = 0 := by unfold dif; rw [if_pos he]
        rw [hd] at hand
        rw [he] at x1
        clear hd he
        generalize G j = g at *
        go_wp2
        go_quiet (fail)
        have B4 : Hid (Bth w (wr.drewN nq) k k' F G) := B3.out.next ((Fr.refl _ _).drewN nq)
        go_wp2
        go_roundw
        case rel => exact ⟨j + 1, by omega, by go_num, B4.out⟩
        case measure => simp [intOf]; omega
      · have hd : dif F G j = 1 := by unfold dif; rw [if_neg he]
        rw [hd] at hand
        have hne : (F j != G j) = true := by simpa using he
        clear hd he
        generalize F j = f at *
        generalize G j = g at *
        go_wp2
        go_quiet (fail)
        have B4 : Hid (Bth w (wr.drewN nq) k k' F G) := B3.out.next ((Fr.refl _ _).drewN nq)
        go_wp2
        go_roundw
        case rel => exact ⟨j + 1, by omega, by go_num, B4.out⟩
        case measure => simp [intOf]; omega
    · have e3 : j = 3 := by omega
      subst e3
      have d7 : decide ((7 : Int) < (m : Int)) = false := by simp; omega
      have d8 : decide ((m : Int) ≤ 7) = true := by simp; omega
      clear hlt hj hm HBIT B2
      obtain ⟨p0, p1, p2, p3⟩ := B3.out.1.cells
      obtain ⟨q0, q1, q2, q3⟩ := B3.out.2.1.cells
      by_cases hp : p = 0
      · subst hp
        by_cases hq : q = 0
        · subst hq
          by_cases hkk : k = k'
          · obtain ⟨a1, a2, a3, a4, a5, a6⟩ := HL.out rfl rfl hkk
            subst hkk
            clear HL
            go_wp2_with fail
            refine (R1.out _).mono ?_
            rintro e w4 ⟨rfl, hf4⟩
            have B4 : Hid (Bth w w4 k k F G) := B3.out.next hf4
            clear hf4 p0 p1 p2 p3 q0 q1 q2 q3 B3
            obtain ⟨p0, p1, p2, p3⟩ := B4.out.1.cells
            obtain ⟨q0, q1, q2, q3⟩ := B4.out.2.1.cells
            go_wp2_with fail
            refine (R2.out _).mono ?_
            rintro e w5 ⟨rfl, hf5⟩
            have B5 : Hid (Bth w w5 k k F G) := B4.out.next hf5
            clear hf5 p0 p1 p2 p3 q0 q1 q2 q3 B4
            obtain ⟨p0, p1, p2, p3⟩ := B5.out.1.cells
            obtain ⟨q0, q1, q2, q3⟩ := B5.out.2.1.cells
            go_wp2_with fail
            refine (RC.out _).mono ?_
            rintro e w6 ⟨rfl, hf6⟩
            have BB : Hid (Bth w w6.drew k k F G) := B5.out.next hf6.drew
            clear hf6 p0 p1 p2 p3 q0 q1 q2 q3 B5 R1 R2 RC d7 d8
            obtain ⟨p0, p1, p2, p3⟩ := BB.out.1.cells
            obtain ⟨q0, q1, q2, q3⟩ := BB.out.2.1.cells
            have l1 : decide ((s1 : Int) ≤ IntKind.i64.wrap ((z : Int) + IntKind.i64.wrap (3 * (c : Int)))) = true := by
              have e1 : IntKind.i64.wrap (3 * (c : Int)) = 3 * (c : Int) := by rw [IntKind.wrap_i64]; omega
              have e2 : IntKind.i64.wrap ((z : Int) + 3 * (c : Int)) = (z : Int) + 3 * (c : Int) := by rw [IntKind.wrap_i64]; omega
              rw [e1, e2]; simp; omega
            have l2 : decide ((c : Int) ≤ (s2 : Int)) = true := by simp; omega
            by_cases hm0 : m = 0
            · have a7 := a3 hm0
              subst hm0
              subst a7
              clear a3
              go_wp2_with fail
              go_region_held3 (fun w' => w'.cell? ⟨w.heap.size, 0, none⟩ = some (.int .u8 (k : Int)) ∧ w'.cell? ⟨w.heap.size, 1, none⟩ = some (.int .i32 (F 0)) ∧ w'.cell? ⟨w.heap.size, 2, none⟩ = some (.int .i32 (F 1)) ∧ w'.cell? ⟨w.heap.size, 3, none⟩ = some (.int .i32 (F 2)) ∧ w'.cell? ⟨w.heap.size + 1, 0, none⟩ = some (.int .u8 (k : Int)) ∧ w'.cell? ⟨w.heap.size + 1, 1, none⟩ = some (.int .i32 (G 0)) ∧ w'.cell? ⟨w.heap.size + 1, 2, none⟩ = some (.int .i32 (G 1)) ∧ w'.cell? ⟨w.heap.size + 1, 3, none⟩ = some (.int .i32 (G 2))) (go_keep)
                (first
                | (go_at_call 13; have TT := H.out.quiet BB.out.2.2; first | with_reducible refine (S1.out _ TT).mono ?_ | with_reducible refine (S2.out _ TT).mono ?_
                   clear TT
                   rintro e w9 ⟨rfl, hf9⟩
                   have Bn : Bth w w9 k k F G := BB.out.next hf9
                   clear BB hf9 p0 p1 p2 p3 q0 q1 q2 q3
                   have BB : Hid (Bth w w9 k k F G) := Bn
                   obtain ⟨p0, p1, p2, p3⟩ := Bn.1.cells
                   obtain ⟨q0, q1, q2, q3⟩ := Bn.2.1.cells
                   clear Bn)
                | (go_at_call 21; refine (Z.out _ (H.out.quiet BB.out.2.2)).mono ?_
                   rintro e w9 ⟨rfl, hf9⟩
                   have Bn : Bth w w9 k k F G := BB.out.next hf9
                   clear BB hf9 p0 p1 p2 p3 q0 q1 q2 q3
                   have BB : Hid (Bth w w9 k k F G) := Bn
                   obtain ⟨p0, p1, p2, p3⟩ := Bn.1.cells
                   obtain ⟨q0, q1, q2, q3⟩ := Bn.2.1.cells
                   clear Bn))
              all_goals
                go_wp2
                go_ret
                exact ⟨rfl, BB.out.2.2⟩
            · have hm1 : ((m : Int) != 0) = true := by rw [bne_iff_ne]; omega
              clear a3 hm0
              go_wp2_with fail
              refine wp_region_held_drew (S := (fun w' => w'.cell? ⟨w.heap.size, 0, none⟩ = some (.int .u8 (k : Int)) ∧ w'.cell? ⟨w.heap.size, 1, none⟩ = some (.int .i32 (F 0)) ∧ w'.cell? ⟨w.heap.size, 2, none⟩ = some (.int .i32 (F 1)) ∧ w'.cell? ⟨w.heap.size, 3, none⟩ = some (.int .i32 (F 2)) ∧ w'.cell? ⟨w.heap.size + 1, 0, none⟩ = some (.int .u8 (k : Int)) ∧ w'.cell? ⟨w.heap.size + 1, 1, none⟩ = some (.int .i32 (G 0)) ∧ w'.cell? ⟨w.heap.size + 1, 2, none⟩ = some (.int .i32 (G 1)) ∧ w'.cell? ⟨w.heap.size + 1, 3, none⟩ = some (.int .i32 (G 2)))) (by kernel_rfl) ⟨p0, p1, p2, p3, q0, q1, q2, q3⟩ (fun hHeld => ?_)
              refine wpAnyH_take (i := 0) (oi := { dst := some 56, op := Op.move (Operand.tmp 5), type := 5, pos := "law.go:117", after := #[], guard := none }) (v := ?_) rfl (by kernel_rfl) (by kernel_rfl) (by kernel_rfl) (fun _ _ _ h => h) (Or.inl ⟨by rfl, ?_⟩) (by assumption) ?_
              rotate_left
              · (intro wx hSw; (try dsimp only at hSw); go_simp; (try with_reducible rfl))
              (try simp only [Act.put, List.setIfInBounds_toArray, List.set_cons_zero, List.set_cons_succ])
              refine wpAnyH_take (i := 1) (oi := { dst := some 57, op := Op.binOp BinOp.neq 5 (Operand.tmp 56) (Operand.const (Value.int IntKind.u8 0)) 5, type := 4, pos := "law.go:117", after := #[{ on := 0, ground := Ground.data }], guard := none }) (v := ?_) rfl (by kernel_rfl) (by kernel_rfl) (by kernel_rfl) (fun _ _ _ h => h) (Or.inl ⟨by rfl, ?_⟩) (by assumption) ?_
              rotate_left
              · (intro wx hSw; (try dsimp only at hSw); go_simp; (try with_reducible rfl))
              (try simp only [Act.put, List.setIfInBounds_toArray, List.set_cons_zero, List.set_cons_succ])
              refine wpAnyH_take (i := 2) (oi := { dst := some 58, op := Op.move (Operand.tmp 57), type := 4, pos := "law.go:117", after := #[{ on := 1, ground := Ground.data }], guard := none }) (v := ?_) rfl (by kernel_rfl) (by kernel_rfl) (by kernel_rfl) (fun _ _ _ h => h) (Or.inl ⟨by rfl, ?_⟩) (by assumption) ?_
              rotate_left
              · (intro wx hSw; (try dsimp only at hSw); go_simp; (try with_reducible rfl))
              (try simp only [Act.put, List.setIfInBounds_toArray, List.set_cons_zero, List.set_cons_succ])
              refine wpAnyH_take (i := 3) (oi := { dst := some 59, op := Op.load 24 (Operand.tmp 2), type := 24, pos := "law.go:117", after := #[{ on := 2, ground := Ground.guard }], guard := some (2, false) }) (v := undef) rfl (by kernel_rfl) (by kernel_rfl) (by kernel_rfl) (fun _ _ _ h => h) (Or.inr ⟨by rfl, rfl⟩) (by assumption) ?_
              (try simp only [Act.put, List.setIfInBounds_toArray, List.set_cons_zero, List.set_cons_succ])
              refine wpAnyH_take (i := 4) (oi := { dst := some 60, op := Op.load 24 (Operand.tmp 3), type := 24, pos := "law.go:117", after := #[{ on := 2, ground := Ground.guard }], guard := some (2, false) }) (v := undef) rfl (by kernel_rfl) (by kernel_rfl) (by kernel_rfl) (fun _ _ _ h => h) (Or.inr ⟨by rfl, rfl⟩) (by assumption) ?_
              (try simp only [Act.put, List.setIfInBounds_toArray, List.set_cons_zero, List.set_cons_succ])
              refine wpAnyH_take (i := 5) (oi := { dst := some 61, op := Op.call { callee := Callee.value (Operand.func 13), args := #[Operand.tmp 59, Operand.tmp 60], argTypes := #[24, 24] }, type := 3, pos := "law.go:117", after := #[{ on := 3, ground := Ground.data }, { on := 4, ground := Ground.data }, { on := 2, ground := Ground.chain }, { on := 2, ground := Ground.guard }], guard := some (2, false) }) (v := undef) rfl (by kernel_rfl) (by kernel_rfl) (by kernel_rfl) (fun _ _ _ h => h) (Or.inr ⟨by rfl, rfl⟩) (by assumption) ?_
              (try simp only [Act.put, List.setIfInBounds_toArray, List.set_cons_zero, List.set_cons_succ])
              refine wpAnyH_take (i := 6) (oi := { dst := some 62, op := Op.move (Operand.tmp 7), type := 3, pos := "law.go:117", after := #[{ on := 2, ground := Ground.guard }], guard := some (2, false) }) (v := undef) rfl (by kernel_rfl) (by kernel_rfl) (by kernel_rfl) (fun _ _ _ h => h) (Or.inr ⟨by rfl, rfl⟩) (by assumption) ?_
              (try simp only [Act.put, List.setIfInBounds_toArray, List.set_cons_zero, List.set_cons_succ])
              refine wpAnyH_take (i := 7) (oi := { dst := some 63, op := Op.binOp BinOp.eql 3 (Operand.tmp 61) (Operand.tmp 62) 3, type := 4, pos := "law.go:117", after := #[{ on := 5, ground := Ground.data }, { on := 6, ground := Ground.data }, { on := 2, ground := Ground.guard }], guard := some (2, false) }) (v := undef) rfl (by kernel_rfl) (by kernel_rfl) (by kernel_rfl) (fun _ _ _ h => h) (Or.inr ⟨by rfl, rfl⟩) (by assumption) ?_
              (try simp only [Act.put, List.setIfInBounds_toArray, List.set_cons_zero, List.set_cons_succ])
              refine wpAnyH_take (i := 8) (oi := { dst := some 64, op := Op.pick (Operand.tmp 58) (Operand.const (Value.bool true)) (Operand.tmp 63), type := 4, pos := "law.go:117", after := #[{ on := 2, ground := Ground.data }, { on := 7, ground := Ground.data }], guard := none }) (v := ?_) rfl (by kernel_rfl) (by kernel_rfl) (by kernel_rfl) (fun _ _ _ h => h) (Or.inl ⟨by rfl, ?_⟩) (by assumption) ?_
              rotate_left
              · (intro wx hSw; (try dsimp only at hSw); go_simp; (try with_reducible rfl))
              (try simp only [Act.put, List.setIfInBounds_toArray, List.set_cons_zero, List.set_cons_succ])
              refine wpAnyH_take (i := 9) (oi := { dst := some 65, op := Op.move (Operand.tmp 64), type := 4, pos := "law.go:117", after := #[{ on := 8, ground := Ground.data }, { on := 5, ground := Ground.chain }], guard := none }) (v := ?_) rfl (by kernel_rfl) (by kernel_rfl) (by kernel_rfl) (fun _ _ _ h => h) (Or.inl ⟨by rfl, ?_⟩) (by assumption) ?_
              rotate_left
              · (intro wx hSw; (try dsimp only at hSw); go_simp; (try with_reducible rfl))
              (try simp only [Act.put, List.setIfInBounds_toArray, List.set_cons_zero, List.set_cons_succ])
              refine wpAnyH_take (i := 10) (oi := { dst := some 66, op := Op.load 24 (Operand.tmp 2), type := 24, pos := "law.go:117", after := #[{ on := 9, ground := Ground.guard }], guard := some (9, true) }) (v := ?_) rfl (by kernel_rfl) (by kernel_rfl) (by kernel_rfl) (fun _ _ _ h => h) (Or.inl ⟨by rfl, ?_⟩) (by assumption) ?_
              rotate_left
              · (intro wx hSw; (try dsimp only at hSw); go_simp; (try with_reducible rfl))
              (try simp only [Act.put, List.setIfInBounds_toArray, List.set_cons_zero, List.set_cons_succ])
              refine wpAnyH_take (i := 11) (oi := { dst := some 67, op := Op.load 24 (Operand.tmp 3), type := 24, pos := "law.go:117", after := #[{ on := 9, ground := Ground.guard }], guard := some (9, true) }) (v := ?_) rfl (by kernel_rfl) (by kernel_rfl) (by kernel_rfl) (fun _ _ _ h => h) (Or.inl ⟨by rfl, ?_⟩) (by assumption) ?_
              rotate_left
              · (intro wx hSw; (try dsimp only at hSw); go_simp; (try with_reducible rfl))
              (try simp only [Act.put, List.setIfInBounds_toArray, List.set_cons_zero, List.set_cons_succ])
              refine wpAnyH_take (i := 13) (oi := { dst := some 69, op := Op.load 24 (Operand.tmp 3), type := 24, pos := "law.go:117", after := #[{ on := 9, ground := Ground.guard }], guard := some (9, true) }) (v := ?_) rfl (by kernel_rfl) (by kernel_rfl) (by kernel_rfl) (fun _ _ _ h => h) (Or.inl ⟨by rfl, ?_⟩) (by assumption) ?_
              rotate_left
              · (intro wx hSw; (try dsimp only at hSw); go_simp; (try with_reducible rfl))
              (try simp only [Act.put, List.setIfInBounds_toArray, List.set_cons_zero, List.set_cons_succ])
              refine wpAnyH_take (i := 15) (oi := { dst := some 71, op := Op.move (Operand.tmp 7), type := 3, pos := "law.go:117", after := #[{ on := 9, ground := Ground.guard }], guard := some (9, true) }) (v := ?_) rfl (by kernel_rfl) (by kernel_rfl) (by kernel_rfl) (fun _ _ _ h => h) (Or.inl ⟨by rfl, ?_⟩) (by assumption) ?_
              rotate_left
              · (intro wx hSw; (try dsimp only at hSw); go_simp; (try with_reducible rfl))
              (try simp only [Act.put, List.setIfInBounds_toArray, List.set_cons_zero, List.set_cons_succ])
              refine wpAnyH_take (i := 16) (oi := { dst := some 72, op := Op.binOp BinOp.mul 3 (Operand.const (Value.int IntKind.i64 3)) (Operand.tmp 71) 3, type := 3, pos := "law.go:117", after := #[{ on := 15, ground := Ground.data }, { on := 9, ground := Ground.guard }], guard := some (9, true) }) (v := ?_) rfl (by kernel_rfl) (by kernel_rfl) (by kernel_rfl) (fun _ _ _ h => h) (Or.inl ⟨by rfl, ?_⟩) (by assumption) ?_
              rotate_left
              · (intro wx hSw; (try dsimp only at hSw); go_simp; (try with_reducible rfl))
              (try simp only [Act.put, List.setIfInBounds_toArray, List.set_cons_zero, List.set_cons_succ])
              refine wpAnyH_ready (rs := [12]) (by kernel_rfl) (by simp) ?_
              refine AllReadyH.cons (o := { dst := some 68, op := Op.call { callee := Callee.value (Operand.func 13), args := #[Operand.tmp 66, Operand.tmp 67], argTypes := #[24, 24] }, type := 3, pos := "law.go:117", after := #[{ on := 10, ground := Ground.data }, { on := 11, ground := Ground.data }, { on := 9, ground := Ground.chain }, { on := 9, ground := Ground.guard }], guard := some (9, true) }) rfl (fun K hK => ?_) AllReadyH.nil
              go_simp
              have TT := H.out.quiet BB.out.2.2
              refine (S1.out _ TT).mono ?_
              clear TT
              rintro e w9 ⟨rfl, hf9⟩
              have Bn : Bth w w9 k k F G := BB.out.next hf9
              clear BB hf9 p0 p1 p2 p3 q0 q1 q2 q3
              have BB : Hid (Bth w w9 k k F G) := Bn
              obtain ⟨p0, p1, p2, p3⟩ := Bn.1.cells
              obtain ⟨q0, q1, q2, q3⟩ := Bn.2.1.cells
              clear Bn
              (try go_wp2_with fail)
              refine hK.out _ _ ⟨p0, p1, p2, p3, q0, q1, q2, q3⟩ (fun hHeld2 => ?_)
              clear hHeld hK K
              have hHeld := hHeld2
              clear hHeld2
              (try simp only [Act.put, List.setIfInBounds_toArray, List.set_cons_zero, List.set_cons_succ])
              refine wpAnyH_ready (rs := [14]) (by kernel_rfl) (by simp) ?_
              refine AllReadyH.cons (o := { dst := some 70, op := Op.call { callee := Callee.value (Operand.func 21), args := #[Operand.tmp 69], argTypes := #[24] }, type := 3, pos := "law.go:117", after := #[{ on := 13, ground := Ground.data }, { on := 12, ground := Ground.chain }, { on := 9, ground := Ground.guard }], guard := some (9, true) }) rfl (fun K hK => ?_) AllReadyH.nil
              go_simp
              have TT := H.out.quiet BB.out.2.2
              refine (Z.out _ TT).mono ?_
              clear TT
              rintro e w9 ⟨rfl, hf9⟩
              have Bn : Bth w w9 k k F G := BB.out.next hf9
              clear BB hf9 p0 p1 p2 p3 q0 q1 q2 q3
              have BB : Hid (Bth w w9 k k F G) := Bn
              obtain ⟨p0, p1, p2, p3⟩ := Bn.1.cells
              obtain ⟨q0, q1, q2, q3⟩ := Bn.2.1.cells
              clear Bn
              (try go_wp2_with fail)
              refine hK.out _ _ ⟨p0, p1, p2, p3, q0, q1, q2, q3⟩ (fun hHeld2 => ?_)
              clear hHeld hK K
              have hHeld := hHeld2
              clear hHeld2
              (try simp only [Act.put, List.setIfInBounds_toArray, List.set_cons_zero, List.set_cons_succ])
              refine wpAnyH_take (i := 17) (oi := { dst := some 73, op := Op.binOp BinOp.add 3 (Operand.tmp 70) (Operand.tmp 72) 3, type := 3, pos := "law.go:117", after := #[{ on := 14, ground := Ground.data }, { on := 16, ground := Ground.data }, { on := 9, ground := Ground.guard }], guard := some (9, true) }) (v := ?_) rfl (by kernel_rfl) (by kernel_rfl) (by kernel_rfl) (fun _ _ _ h => h) (Or.inl ⟨by rfl, ?_⟩) (by assumption) ?_
              rotate_left
              · (intro wx hSw; (try dsimp only at hSw); go_simp; (try with_reducible rfl))
              (try simp only [Act.put, List.setIfInBounds_toArray, List.set_cons_zero, List.set_cons_succ])
              refine wpAnyH_take (i := 18) (oi := { dst := some 74, op := Op.binOp BinOp.leq 3 (Operand.tmp 68) (Operand.tmp 73) 3, type := 4, pos := "law.go:117", after := #[{ on := 12, ground := Ground.data }, { on := 17, ground := Ground.data }, { on := 9, ground := Ground.guard }], guard := some (9, true) }) (v := ?_) rfl (by kernel_rfl) (by kernel_rfl) (by kernel_rfl) (fun _ _ _ h => h) (Or.inl ⟨by rfl, ?_⟩) (by assumption) ?_
              rotate_left
              · (intro wx hSw; (try dsimp only at hSw); go_simp; (try with_reducible rfl))
              (try simp only [Act.put, List.setIfInBounds_toArray, List.set_cons_zero, List.set_cons_succ])
              refine wpAnyH_take (i := 19) (oi := { dst := some 75, op := Op.pick (Operand.tmp 65) (Operand.tmp 74) (Operand.const (Value.bool false)), type := 4, pos := "law.go:117", after := #[{ on := 9, ground := Ground.data }, { on := 18, ground := Ground.data }], guard := none }) (v := ?_) rfl (by kernel_rfl) (by kernel_rfl) (by kernel_rfl) (fun _ _ _ h => h) (Or.inl ⟨by rfl, ?_⟩) (by assumption) ?_
              rotate_left
              · (intro wx hSw; (try dsimp only at hSw); go_simp; (try with_reducible rfl))
              (try simp only [Act.put, List.setIfInBounds_toArray, List.set_cons_zero, List.set_cons_succ])
              refine wpAnyH_take (i := 20) (oi := { dst := some 76, op := Op.move (Operand.tmp 75), type := 4, pos := "law.go:117", after := #[{ on := 19, ground := Ground.data }, { on := 14, ground := Ground.chain }], guard := none }) (v := ?_) rfl (by kernel_rfl) (by kernel_rfl) (by kernel_rfl) (fun _ _ _ h => h) (Or.inl ⟨by rfl, ?_⟩) (by assumption) ?_
              rotate_left
              · (intro wx hSw; (try dsimp only at hSw); go_simp; (try with_reducible rfl))
              (try simp only [Act.put, List.setIfInBounds_toArray, List.set_cons_zero, List.set_cons_succ])
              refine wpAnyH_take (i := 21) (oi := { dst := some 77, op := Op.load 24 (Operand.tmp 3), type := 24, pos := "law.go:117", after := #[{ on := 20, ground := Ground.guard }], guard := some (20, true) }) (v := ?_) rfl (by kernel_rfl) (by kernel_rfl) (by kernel_rfl) (fun _ _ _ h => h) (Or.inl ⟨by rfl, ?_⟩) (by assumption) ?_
              rotate_left
              · (intro wx hSw; (try dsimp only at hSw); go_simp; (try with_reducible rfl))
              (try simp only [Act.put, List.setIfInBounds_toArray, List.set_cons_zero, List.set_cons_succ])
              refine wpAnyH_take (i := 22) (oi := { dst := some 78, op := Op.load 24 (Operand.tmp 2), type := 24, pos := "law.go:117", after := #[{ on := 20, ground := Ground.guard }], guard := some (20, true) }) (v := ?_) rfl (by kernel_rfl) (by kernel_rfl) (by kernel_rfl) (fun _ _ _ h => h) (Or.inl ⟨by rfl, ?_⟩) (by assumption) ?_
              rotate_left
              · (intro wx hSw; (try dsimp only at hSw); go_simp; (try with_reducible rfl))
              (try simp only [Act.put, List.setIfInBounds_toArray, List.set_cons_zero, List.set_cons_succ])
              refine wpAnyH_take (i := 24) (oi := { dst := some 80, op := Op.move (Operand.tmp 7), type := 3, pos := "law.go:117", after := #[{ on := 20, ground := Ground.guard }], guard := some (20, true) }) (v := ?_) rfl (by kernel_rfl) (by kernel_rfl) (by kernel_rfl) (fun _ _ _ h => h) (Or.inl ⟨by rfl, ?_⟩) (by assumption) ?_
              rotate_left
              · (intro wx hSw; (try dsimp only at hSw); go_simp; (try with_reducible rfl))
              (try simp only [Act.put, List.setIfInBounds_toArray, List.set_cons_zero, List.set_cons_succ])
              refine wpAnyH_ready (rs := [23]) (by kernel_rfl) (by simp) ?_
              refine AllReadyH.cons (o := { dst := some 79, op := Op.call { callee := Callee.value (Operand.func 13), args := #[Operand.tmp 77, Operand.tmp 78], argTypes := #[24, 24] }, type := 3, pos := "law.go:117", after := #[{ on := 21, ground := Ground.data }, { on := 22, ground := Ground.data }, { on := 20, ground := Ground.chain }, { on := 20, ground := Ground.guard }], guard := some (20, true) }) rfl (fun K hK => ?_) AllReadyH.nil
              go_simp
              have TT := H.out.quiet BB.out.2.2
              refine (S2.out _ TT).mono ?_
              clear TT
              rintro e w9 ⟨rfl, hf9⟩
              have Bn : Bth w w9 k k F G := BB.out.next hf9
              clear BB hf9 p0 p1 p2 p3 q0 q1 q2 q3
              have BB : Hid (Bth w w9 k k F G) := Bn
              obtain ⟨p0, p1, p2, p3⟩ := Bn.1.cells
              obtain ⟨q0, q1, q2, q3⟩ := Bn.2.1.cells
              clear Bn
              (try go_wp2_with fail)
              refine hK.out _ _ ⟨p0, p1, p2, p3, q0, q1, q2, q3⟩ (fun hHeld2 => ?_)
              clear hHeld hK K
              have hHeld := hHeld2
              clear hHeld2
              (try simp only [Act.put, List.setIfInBounds_toArray, List.set_cons_zero, List.set_cons_succ])
              refine wpAnyH_take (i := 25) (oi := { dst := some 81, op := Op.binOp BinOp.geq 3 (Operand.tmp 79) (Operand.tmp 80) 3, type := 4, pos := "law.go:117", after := #[{ on := 23, ground := Ground.data }, { on := 24, ground := Ground.data }, { on := 20, ground := Ground.guard }], guard := some (20, true) }) (v := ?_) rfl (by kernel_rfl) (by kernel_rfl) (by kernel_rfl) (fun _ _ _ h => h) (Or.inl ⟨by rfl, ?_⟩) (by assumption) ?_
              rotate_left
              · (intro wx hSw; (try dsimp only at hSw); go_simp; (try with_reducible rfl))
              (try simp only [Act.put, List.setIfInBounds_toArray, List.set_cons_zero, List.set_cons_succ])
              refine wpAnyH_take (i := 26) (oi := { dst := some 82, op := Op.pick (Operand.tmp 76) (Operand.tmp 81) (Operand.const (Value.bool false)), type := 4, pos := "law.go:117", after := #[{ on := 20, ground := Ground.data }, { on := 25, ground := Ground.data }], guard := none }) (v := ?_) rfl (by kernel_rfl) (by kernel_rfl) (by kernel_rfl) (fun _ _ _ h => h) (Or.inl ⟨by rfl, ?_⟩) (by assumption) ?_
              rotate_left
              · (intro wx hSw; (try dsimp only at hSw); go_simp; (try with_reducible rfl))
              (try simp only [Act.put, List.setIfInBounds_toArray, List.set_cons_zero, List.set_cons_succ])
              refine wpAnyH_take (i := 27) (oi := { dst := some 4, op := Op.assign (Operand.tmp 82), type := 4, pos := "law.go:117", after := #[{ on := 26, ground := Ground.data }, { on := 23, ground := Ground.chain }, { on := 0, ground := Ground.phase }, { on := 1, ground := Ground.phase }, { on := 2, ground := Ground.phase }, { on := 3, ground := Ground.phase }, { on := 4, ground := Ground.phase }, { on := 5, ground := Ground.phase }, { on := 6, ground := Ground.phase }, { on := 7, ground := Ground.phase }, { on := 8, ground := Ground.phase }, { on := 9, ground := Ground.phase }, { on := 10, ground := Ground.phase }, { on := 11, ground := Ground.phase }, { on := 12, ground := Ground.phase }, { on := 13, ground := Ground.phase }, { on := 14, ground := Ground.phase }, { on := 15, ground := Ground.phase }, { on := 16, ground := Ground.phase }, { on := 17, ground := Ground.phase }, { on := 18, ground := Ground.phase }, { on := 19, ground := Ground.phase }, { on := 20, ground := Ground.phase }, { on := 21, ground := Ground.phase }, { on := 22, ground := Ground.phase }, { on := 23, ground := Ground.phase }, { on := 24, ground := Ground.phase }, { on := 25, ground := Ground.phase }, { on := 26, ground := Ground.phase }], guard := none }) (v := ?_) rfl (by kernel_rfl) (by kernel_rfl) (by kernel_rfl) (fun _ _ _ h => h) (Or.inl ⟨by rfl, ?_⟩) (by assumption) ?_
              rotate_left
              · (intro wx hSw; (try dsimp only at hSw); go_simp; (try with_reducible rfl))
              (try simp only [Act.put, List.setIfInBounds_toArray, List.set_cons_zero, List.set_cons_succ])
              refine wpAnyH_done (by kernel_rfl) ?_ _
              go_wp2
              go_ret
              exact ⟨rfl, BB.out.2.2⟩
          · have hne : ((k : Int) != (k' : Int)) = true := by rw [bne_iff_ne]; omega
            clear HL hkk
            go_wp2_with fail
            refine (R1.out _).mono ?_
            rintro e w4 ⟨rfl, hf4⟩
            have B4 : Hid (Bth w w4 k k' F G) := B3.out.next hf4
            clear hf4 p0 p1 p2 p3 q0 q1 q2 q3 B3
            obtain ⟨q0, q1, q2, q3⟩ := B4.out.2.1.cells
            go_wp2_with fail
            refine (R2.out _).mono ?_
            rintro e w5 ⟨rfl, hf5⟩
            have B5 : Hid (Bth w w5 k k' F G) := B4.out.next hf5
            clear hf5 q0 q1 q2 q3 B4
            have p0 := B5.out.1.kind
            have q0 := B5.out.2.1.kind
            go_wp2
            go_ret
            exact ⟨rfl, B5.out.2.2⟩
        · have hne : ((q : Int) != 0) = true := by rw [bne_iff_ne]; omega
          clear HL hq
          go_wp2_with fail
          refine (R1.out _).mono ?_
          rintro e w4 ⟨rfl, hf4⟩
          have B4 : Hid (Bth w w4 k k' F G) := B3.out.next hf4
          clear hf4 p0 p1 p2 p3 q0 q1 q2 q3 B3
          obtain ⟨q0, q1, q2, q3⟩ := B4.out.2.1.cells
          go_wp2_with fail
          refine (R2.out _).mono ?_
          rintro e w5 ⟨rfl, hf5⟩
          have B5 : Hid (Bth w w5 k k' F G) := B4.out.next hf5
          clear hf5 q0 q1 q2 q3 B4
          go_wp2
          go_ret
          exact ⟨rfl, B5.out.2.2⟩
      · have hne : ((p : Int) != 0) = true := by rw [bne_iff_ne]; omega
        clear HL hp
        go_wp2_with fail
        refine (R1.out _).mono ?_
        rintro e w4 ⟨rfl, hf4⟩
        have B4 : Hid (Bth w w4 k k' F G) := B3.out.next hf4
        clear hf4 p0 p1 p2 p3 q0 q1 q2 q3 B3
        go_wp2
        go_ret
        exact ⟨rfl, B4.out.2.2⟩
theorem compChanges_walk (w : World) (ht : Tab w) (k : Int) (wk : ok8 k) (a : Int) (wa : ok32 a) (b : Int) (wb : ok32 b) (c : Int) (wc : ok32 c) (k' : Int) (wk' : ok8 k') (a' : Int) (wa' : ok32 a') (b' : Int) (wb' : ok32 b') (c' : Int) (wc' : ok32 c') :
    Calls Tryd.prog 4 #[.agg #[.int .u8 k, .int .i32 a, .int .i32 b, .int .i32 c], .agg #[.int .u8 k', .int .i32 a', .int .i32 b', .int .i32 c']] w fun e w' => e = .returned (.bool true) ∧ Below w.heap.size w w' := by
  obtain ⟨n, rfl, hn⟩ := ok8_nat wk
  obtain ⟨n', rfl, hn'⟩ := ok8_nat wk'
  refine (compChanges_main w ht n n' hn hn' (f3 a b c) (f3 a' b' c') (i32_f3 wa wb wc) (i32_f3 wa' wb' wc')).mono ?_
  rintro e w' ⟨rfl, hf⟩
  exact ⟨rfl, hf.below (Nat.le_refl _) (fun _ _ => id)⟩
theorem compChanges_lifted (os : Os) (started : os.Started) (H : Type) (enc : TypeId × Value → H) :
    ReturnsInHanded {} Tryd.checked os 4 .any (fun w args => (Rows.compChangesSpec.pre enc Tryd.prog Tryd.f4 [] false w args ∧ laidMetH Tryd.prog laid1 w) ∧ sizedMet enc Tryd.prog Tryd.f4 (OpenSpec.ofChange Rows.compChangesSpec) false w args) (Rows.compChangesSpec.post enc Tryd.prog Tryd.f4 false true false false) := by
  refine returnsInHanded_of_change_and (C := Tryd.checked) (X := fun w _ => laidMetH Tryd.prog laid1 w) (fun _ _ _ hh h => h.of_heap hh) own started (by kernel_rfl) Tryd.func4
    (ChangeSpec.witness_shaped (enc := enc) (C := Tryd.checked) (os := os) (X := fun w _ => laidMetH Tryd.prog laid1 w) false (World.doorLaid Tryd.prog 400 os) #[.agg #[.int .u8 0, .int .i32 0, .int .i32 0, .int .i32 0], .agg #[.int .u8 0, .int .i32 0, .int .i32 0, .int .i32 0]] 8 rfl (World.shaped_of_RefB (by kernel_rfl) (by kernel_rfl)) (by kernel_rfl) (by kernel_rfl) (by kernel_rfl) (door_met os _)) ?_
  intro W base args ds gs before hval0 hW _ _ hL _
  have hval : ∀ (j : Nat) t v, Tryd.f4.params[j]? = some t → args[j]? = some v → Value.okWide Tryd.prog W .any base t v := hval0
  have hW' := hW
  obtain ⟨p, q, hA0, hV, rfl, hfz, hnd⟩ := hW
  have hA : DataW.TrodAll enc Tryd.prog W 0 (fun _ => true) true Tryd.f4.params.toList args.toList ds p := hA0
  rw [Tryd.params4] at hA hval
  obtain ⟨v0, vs0, d0, ds0, p0, q0, hargs, rfl, rfl, h0, r0⟩ := trodAll_cons hA
  obtain ⟨v1, vs1, d1, ds1, p1, q1, rfl, rfl, rfl, h1, r1⟩ := trodAll_cons r0
  obtain ⟨rfl, rfl, rfl⟩ := trodAll_nil r1
  obtain rfl : args = #[v0, v1] := by cases args; simp_all
  obtain ⟨rfl, rfl⟩ := trodVars_none hV
  obtain ⟨k0, x0, y0, z0, rfl, rfl, rfl, wk0, wx0, wy0, wz0⟩ := open_comp (hval 0 24 v0 rfl rfl) h0
  obtain ⟨k1, x1, y1, z1, rfl, rfl, rfl, wk1, wx1, wy1, wz1⟩ := open_comp (hval 1 24 v1 rfl rfl) h1
  clear hA0 hval0
  refine (compChanges_walk W (of_laid hL) k0 wk0 x0 wx0 y0 wy0 z0 wz0 k1 wk1 x1 wx1 y1 wy1 z1 wz1).mono fun e W' ⟨he, bel⟩ => ?_
  subst he
  exact ⟨_, rfl, _, _, _, [], _, [], hW', trodAll_mk1 (shut_bool Tryd.underlying4 _), (trodAll_cons_mk (shut_comp wk0 wx0 wy0 wz0) (trodAll_cons_mk (shut_comp wk1 wx1 wy1 wz1) trodAll_mk0)), rfl, bel.frame _, fun h => by cases h⟩

theorem compChanges_row : Rows.CompChangesSaid :=
  OpenClaim.holds_of_wide 4 Tryd.f4 rfl rfl rfl rfl rfl rfl rfl ⟨rfl, rfl, rfl, rfl, rfl⟩ rfl rfl rfl rfl rfl (by kernel_rfl) Tryd.func4 (by kernel_rfl)
    (of_decide_eq_true (by kernel_rfl)) (by unfold Func.isWrapper; first | (rw [if_pos (by decide +kernel)]; kernel_rfl) | (rw [if_neg (by decide +kernel)]; exact ⟨rfl, rfl⟩))
    (fun os started H enc _ => compChanges_lifted os started H enc)

theorem compChanges_holds : Rows.CompChangesCardSaid :=
  Claim7.holds_tied_plain_at .later [] [.data] true (true, "3b6ec10ecb5a8dec2e0daf80b3764bbd442228e3f8940a8a4f93296a762da05d") false
    compChanges_row (fun _ h => by cases h) (by kernel_rfl) (fun _ h => by cases h) compChanges_row_tie rfl ⟨rfl, rfl⟩ (by kernel_rfl) rfl
    (fun f fn hf hfn => by
      obtain rfl : f = 4 := Option.some.inj ((show Tryd.prog.funcNamed "pinnace/pinnacelaw06.CompChanges" = some 4 by kernel_rfl).symm.trans hf) |>.symm
      obtain rfl : fn = Tryd.f4 := (Option.some.inj (Tryd.func4.symm.trans hfn)).symm
      exact ⟨by kernel_rfl, fun j t ht => by
        rw [Tryd.params4] at ht
        have hm : t ∈ [24, 24] := by simpa using Array.mem_of_getElem? ht
        have hall : ([24, 24].all fun u => !Tryd.prog.wantsStandIn u) = true := by kernel_rfl
        exact (show Tryd.prog.wantsStandIn t = false by simpa using List.all_eq_true.1 hall t hm)⟩)
    (by kernel_rfl)

end Go.Proofs.YtllhipfielgnbaaDoor
