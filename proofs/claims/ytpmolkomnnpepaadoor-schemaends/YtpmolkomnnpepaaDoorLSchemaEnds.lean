/-
  For every kind and field: the ends of its range may be, and what is beyond may not, as Check of package schema tells: SchemaEnds returns true, whatever its arguments, where the table of the components lies as the program's text lays it, and changes nothing that was there.
-/
import Derived.Test.YtpmolkomnnpepaaDoorSi
import Derived.Test.YtpmolkomnnpepaaDoorSj
import Derived.Deep.RegionWith
namespace Go.Proofs.YtpmolkomnnpepaaDoor
open Go.ChangeShapes Go.WideShapes Go.ChangeAt Go.RowKit
set_option linter.unusedVariables false
set_option maxRecDepth 100000

theorem Box.set5 {w : World} {b k j : Nat} {F : Nat → Int} (h : Box w b k F) (hj : j < 3) (x : Int) : Box (w.setCell ⟨b, 1 + j, none⟩ (.int .i32 x)) b k (fun i => if i = j then x else F i) := by
  unfold Box cmp at *
  rw [heap_setCell_same w b (1 + j) _ _ _ h]
  have : j = 0 ∨ j = 1 ∨ j = 2 := by omega
  rcases this with rfl | rfl | rfl <;> rfl
theorem Box.froz5 {w : World} {b k : Nat} {F : Nat → Int} (h : Box w b k F) (o : Nat) : w.frozen? ⟨b, o, none⟩ = false := by
  unfold Box at h; simp [World.frozen?, h]
/-- the fields at their lower ends, the first j of them -/
def lows (k j : Nat) (i : Nat) : Int := if i < j then lo k i else 0
def oneAt (k n : Nat) (y : Int) (i : Nat) : Int := if i = n then y else lows k (cnt k) i
theorem chk_in (k n : Nat) (hk : k < 6) (hn : n < cnt k) (y : Int) (h : lo k n ≤ y ∧ y ≤ hi k n) : chk k (oneAt k n y) = 0 := by
  have hs : stray k (oneAt k n y) = false := stray_false k _ (fun j h1 h2 => by
    unfold oneAt lows
    rw [if_neg (by omega), if_neg (by omega)])
  have ho : outside k (oneAt k n y) = false := outside_false k _ (fun j h1 => by
    unfold oneAt lows
    by_cases e : j = n
    · rw [if_pos e, e]; exact h
    · rw [if_neg e, if_pos h1]
      have := rng_ok k j h1
      omega)
  unfold chk
  rw [if_neg (by omega), hs, ho, if_neg (by decide), if_neg (by decide)]
theorem chk_off (k n : Nat) (hk : k < 6) (hn : n < cnt k) (y : Int) (h : y < lo k n ∨ hi k n < y) : chk k (oneAt k n y) = 5 := by
  have hs : stray k (oneAt k n y) = false := stray_false k _ (fun j h1 h2 => by
    unfold oneAt lows
    rw [if_neg (by omega), if_neg (by omega)])
  have ho : outside k (oneAt k n y) = true := outside_true k n _ hn (by unfold oneAt; rw [if_pos rfl]; exact h)
  unfold chk
  rw [if_neg (by omega), hs, ho, if_neg (by decide), if_pos rfl]

theorem chk_congr (k : Nat) (F G : Nat → Int) (h : ∀ j, j < 3 → F j = G j) : chk k F = chk k G := by
  have hc := cnt_le k
  have h1 : stray k F = stray k G := by
    cases hg : stray k G with
    | false => exact stray_false k F (fun j a b => by rw [h j b]; exact stray_no k j G hg a b)
    | true =>
      cases hf : stray k F with
      | true => rfl
      | false =>
        have := stray_false k G (fun j a b => by rw [← h j b]; exact stray_no k j F hf a b)
        rw [this] at hg; cases hg
  have h2 : outside k F = outside k G := by
    cases hg : outside k G with
    | false => exact outside_false k F (fun j a => by rw [h j (by omega)]; exact outside_no k j G hg a)
    | true =>
      cases hf : outside k F with
      | true => rfl
      | false =>
        have := outside_false k G (fun j a => by rw [← h j (by omega)]; exact outside_no k j F hf a)
        rw [this] at hg; cases hg
  unfold chk
  rw [h1, h2]

theorem cell_blk {w : World} {b o : Nat} {cur : Array Value} {t : TypeId} (h : w.heap[b]? = some (.cells cur t (0, 0))) : w.cell? ⟨b, o, none⟩ = cur[o]? := by simp [World.cell?, h]
theorem cell_new1 (w : World) (b o : Nat) (cs : Array Value) (t : TypeId) (h : b = w.heap.size) : (w.alloc (.cells cs t)).cell? ⟨b, o, none⟩ = cs[o]? := by
  subst h; exact cell_blk (heap_alloc_new w _)
/-- the four ends in memory: number and error, one by one -/
def Sl (w : World) (g : Nat) (x y : Int) : Prop :=
  w.cell? ⟨g, 0, none⟩ = some (.int .i32 x) ∧ w.cell? ⟨g, 1, none⟩ = some (.int .i64 0) ∧ w.cell? ⟨g, 2, none⟩ = some (.int .i32 y) ∧ w.cell? ⟨g, 3, none⟩ = some (.int .i64 0) ∧
  w.cell? ⟨g, 4, none⟩ = some (.int .i32 (x - 1)) ∧ w.cell? ⟨g, 5, none⟩ = some (.int .i64 5) ∧ w.cell? ⟨g, 6, none⟩ = some (.int .i32 (y + 1)) ∧ w.cell? ⟨g, 7, none⟩ = some (.int .i64 5)
theorem Sl.keep {S : Nat → Prop} {w w' : World} {g : Nat} {x y : Int} (h : Sl w g x y) (hf : Fr S w w') (hs : ¬ S g) : Sl w' g x y := by
  have key : ∀ o v, w.cell? ⟨g, o, none⟩ = some v → w'.cell? ⟨g, o, none⟩ = some v := fun o v hv => (hf.cell (p := ⟨g, o, none⟩) (World.block_lt_of_cell? w _ hv) hs).trans hv
  obtain ⟨h0, h1, h2, h3, h4, h5, h6, h7⟩ := h
  exact ⟨key _ _ h0, key _ _ h1, key _ _ h2, key _ _ h3, key _ _ h4, key _ _ h5, key _ _ h6, key _ _ h7⟩
theorem Sl.new (w : World) (t : TypeId) (x y : Int) : Sl (w.alloc (.cells #[.int .i32 x, .int .i64 0, .int .i32 y, .int .i64 0, .int .i32 (x - 1), .int .i64 5, .int .i32 (y + 1), .int .i64 5] t)) w.heap.size x y := by
  exact ⟨cell_new1 w _ 0 _ t rfl, cell_new1 w _ 1 _ t rfl, cell_new1 w _ 2 _ t rfl, cell_new1 w _ 3 _ t rfl, cell_new1 w _ 4 _ t rfl, cell_new1 w _ 5 _ t rfl, cell_new1 w _ 6 _ t rfl, cell_new1 w _ 7 _ t rfl⟩
theorem Sl.pick {w : World} {g : Nat} {x y : Int} (h : Sl w g x y) (p : Nat) (hp : p < 4) : ∃ v e : Int, w.cell? ⟨g, p * 2, none⟩ = some (.int .i32 v) ∧ w.cell? ⟨g, p * 2 + 1, none⟩ = some (.int .i64 e) ∧ ((e = 0 ∧ (v = x ∨ v = y)) ∨ (e = 5 ∧ (v = x - 1 ∨ v = y + 1))) := by
  obtain ⟨h0, h1, h2, h3, h4, h5, h6, h7⟩ := h
  have : p = 0 ∨ p = 1 ∨ p = 2 ∨ p = 3 := by omega
  rcases this with rfl | rfl | rfl | rfl
  · exact ⟨_, _, h0, h1, .inl ⟨rfl, .inl rfl⟩⟩
  · exact ⟨_, _, h2, h3, .inl ⟨rfl, .inr rfl⟩⟩
  · exact ⟨_, _, h4, h5, .inr ⟨rfl, .inl rfl⟩⟩
  · exact ⟨_, _, h6, h7, .inr ⟨rfl, .inr rfl⟩⟩

set_option maxHeartbeats 8000000 in
theorem schemaEnds_m0 (w : World) (ht : Tab w) (kd i k : Nat) (hkd : kd < 256) (hi0 : i < 256) (hk : k < 6) (hkm : (kd : Int) % 6 = (k : Int)) (hn : 0 < cnt k) (hnm : (i : Int) % (cnt k : Int) = 0) :
    Calls Tryd.prog 7 #[.int .u8 (kd : Int), .int .u8 (i : Int)] w fun e w' => e = .returned (.bool true) ∧ Fr Nobody w w' := by
  have H : Hid (Tab w) := ht
  have hc := cnt_le k
  have hc1 := cnt_pos k hk
  have C : Hid (∀ w, _) := fun w => rcount_any w k (by omega)
  have R : Hid (∀ w j, j < cnt k → _) := fun w j hj => rrange_ok w k j hj
  have KK : Hid (∀ w G, Tab w → Calls Tryd.prog 23 #[.agg (cmp k G)] w fun e w' => e = .returned (.int .i64 ((chk k G : Nat) : Int)) ∧ Fr Nobody w w') := fun w G h => check_any w h k (by omega) G
  have EI : Hid (∀ y, lo k 0 ≤ y ∧ y ≤ hi k 0 → chk k (oneAt k 0 y) = 0) := fun y h => chk_in k 0 hk hn y h
  have EO : Hid (∀ y, y < lo k 0 ∨ hi k 0 < y → chk k (oneAt k 0 y) = 5) := fun y h => chk_off k 0 hk hn y h
  obtain ⟨l0, l1, l2, l3⟩ := rng_ok k 0 hn
  obtain ⟨c, ec⟩ : ∃ c, cnt k = c := ⟨_, rfl⟩
  have HONE : Hid (∀ y, (fun j => if j = 0 then y else lows k c j) = oneAt k 0 y) := by intro y; funext j; unfold oneAt; rw [ec]
  rw [ec] at hn hnm hc hc1 C R
  clear ht ec
  have hcz : ((c : Int) == 0) = false := by rw [beq_eq_false_iff_ne]; omega
  go_enter Tryd.func7, Tryd.ntmps7
  go_wp2_with fail
  refine (awake5 _ H.out).mono ?_
  rintro e w1 ⟨rfl, hf1⟩
  have F1 : Hid (Fr Nobody w w1) := hf1
  have B1 : Hid (Box (w1.alloc (.cells #[.int .u8 (k : Int), .int .i32 0, .int .i32 0, .int .i32 0] 38)) w1.heap.size k (f3 0 0 0)) := Box.new w1 k (f3 0 0 0)
  have hs1 : w.heap.size ≤ w1.heap.size := hf1.size
  clear hf1
  go_wp2_with fail
  refine (C.out _).mono ?_
  rintro e w2 ⟨rfl, hf2⟩
  have F2 : Hid (Fr Nobody w w2) := (F1.out.alloc _).trans hf2
  have B2 : Hid (Box w2 w1.heap.size k (lows k 0)) := by
    have := B1.out.quiet hf2
    have e : lows k 0 = fun _ => 0 := by funext j; simp [lows]
    rw [e]; exact this
  clear hf2
  go_wp2
  go_loopw [22] (fun a wr => ∃ j : Nat, j ≤ c ∧ a = .int .i64 j ∧ Box wr w1.heap.size k (lows k j) ∧ Fr Nobody w wr) (fun a _ => c - (intOf a).toNat)
  case atStart => exact ⟨0, by omega, rfl, B2.out, F2.out⟩
  case round =>
    obtain ⟨j, hj, rfl, hb, hf⟩ := hrel
    have B3 : Hid (Box wr w1.heap.size k (lows k j)) := hb
    have F3 : Hid (Fr Nobody w wr) := hf
    clear hb hf B1 B2 F1 F2
    by_cases hlt : j < c
    · have RJ : Hid (∀ w, _) := fun w => R.out w j hlt
      go_wp2_with fail
      refine (RJ.out _).mono ?_
      rintro e w3 ⟨rfl, hf3⟩
      have B4 : Hid (Box w3 w1.heap.size k (lows k j)) := B3.out.quiet hf3
      have F4 : Hid (Fr Nobody w w3) := F3.out.trans hf3
      have hx := B4.out.at j (by omega)
      have hz := B4.out.froz5 (1 + j)
      have B5 : Hid (Box (w3.setCell ⟨w1.heap.size, 1 + j, none⟩ (.int .i32 (lo k j))) w1.heap.size k (lows k (j + 1))) := by
        have := B4.out.set5 (j := j) (by omega) (lo k j)
        have e : (fun i => if i = j then lo k j else lows k j i) = lows k (j + 1) := by
          funext i
          unfold lows
          by_cases e1 : i = j
          · subst e1; simp
          · rw [if_neg e1]
            by_cases e2 : i < j
            · rw [if_pos e2, if_pos (by omega)]
            · rw [if_neg e2, if_neg (by omega)]
        rw [e] at this
        exact this
      have F5 : Hid (Fr Nobody w (w3.setCell ⟨w1.heap.size, 1 + j, none⟩ (.int .i32 (lo k j)))) := F4.out.setCell (p := ⟨w1.heap.size, 1 + j, none⟩) (.inr hs1) _
      clear hf3 B4 F4
      generalize lows k j j = ov at *
      generalize lo k j = lj at *
      generalize hi k j = hjj at *
      go_wp2
      go_roundw
      case rel => exact ⟨j + 1, by omega, by go_num, B5.out, F5.out⟩
      case measure => simp [intOf]; omega
    · have e : j = c := by omega
      subst e
      have RN : Hid (∀ w, _) := fun w => R.out w 0 hn
      go_wp2_with fail
      refine (C.out _).mono ?_
      rintro e w4 ⟨rfl, hf4⟩
      have B4 : Hid (Box w4 w1.heap.size k (lows k j)) := B3.out.quiet hf4
      have F4 : Hid (Fr Nobody w w4) := F3.out.trans hf4
      clear hf4 B3 F3
      go_wp2_with fail
      refine (RN.out _).mono ?_
      rintro e w5 ⟨rfl, hf5⟩
      have B5 : Hid (Box w5 w1.heap.size k (lows k j)) := B4.out.quiet hf5
      have F5 : Hid (Fr Nobody w w5) := F4.out.trans hf5
      have hs5 : w1.heap.size < w5.heap.size := (Array.getElem?_eq_some_iff.1 B5.out).1
      clear hf5 B4 F4 C R RN
      have EV : Hid (∀ (v e : Int) (F : Nat → Int), ((e = 0 ∧ (v = lo k 0 ∨ v = hi k 0)) ∨ (e = 5 ∧ (v = lo k 0 - 1 ∨ v = hi k 0 + 1))) → (∀ i, i < 3 → F i = if i = 0 then v else lows k j i) → ((chk k F : Nat) : Int) = e) := by
        intro v e F hve hF
        have e1 : chk k F = chk k (oneAt k 0 v) := chk_congr k F _ (fun i hi => by rw [hF i hi, ← HONE.out v])
        rw [e1]
        rcases hve with ⟨rfl, hv⟩ | ⟨rfl, hv⟩
        · rw [EI.out v (by omega)]; rfl
        · rw [EO.out v (by omega)]; rfl
      clear EI EO HONE
      generalize lo k 0 = x at *
      generalize hi k 0 = y at *
      go_wp2
      go_loopw [60] (fun a wr => ∃ (p : Nat) (G : Nat → Int), p ≤ 4 ∧ a = .int .i64 p ∧ (∀ i, i ≠ 0 → G i = lows k j i) ∧ Box wr w1.heap.size k G ∧ Sl wr w5.heap.size x y ∧ Fr Nobody w wr) (fun a _ => 4 - (intOf a).toNat)
      case atStart => exact ⟨0, lows k j, by omega, rfl, fun _ _ => rfl, B5.out.quiet ((Fr.refl _ _).alloc _), Sl.new _ _ _ _, F5.out.alloc _⟩
      case round =>
        obtain ⟨p, G, hp, rfl, hG, hb, hsl, hf⟩ := hrel
        have HG : Hid (∀ i, i ≠ 0 → G i = lows k j i) := hG
        have B6 : Hid (Box wr w1.heap.size k G) := hb
        have S6 : Hid (Sl wr w5.heap.size x y) := hsl
        have F6 : Hid (Fr Nobody w wr) := hf
        clear hG hb hsl hf B5 F5
        by_cases hlt4 : p < 4
        · obtain ⟨v, e, cv, ce, hve⟩ := S6.out.pick p hlt4
          have HVE : Hid (∀ F : Nat → Int, (∀ i, i < 3 → F i = if i = 0 then v else lows k j i) → ((chk k F : Nat) : Int) = e) := fun F hF => EV.out v e F hve hF
          obtain ⟨b0, b1, b2, b3⟩ := B6.out.cells
          have hz := B6.out.froz5 (1 + 0)
          have s6 : w1.heap.size < wr.heap.size := World.block_lt_of_cell? wr _ b0
          have s7 : wr.heap.size ≠ w1.heap.size := by omega
          have s8 : w5.heap.size < wr.heap.size := World.block_lt_of_cell? wr _ cv
          have s9 : wr.heap.size ≠ w5.heap.size := by omega
          have B7 : Hid (Box (wr.setCell ⟨w1.heap.size, 1 + 0, none⟩ (.int .i32 v)) w1.heap.size k (fun i => if i = 0 then v else G i)) := B6.out.set5 (j := 0) (by omega) v
          have F7 : Hid (Fr Nobody w (wr.setCell ⟨w1.heap.size, 1 + 0, none⟩ (.int .i32 v))) := F6.out.setCell (p := ⟨w1.heap.size, 1 + 0, none⟩) (.inr hs1) _
          have S7 : Hid (Sl (wr.setCell ⟨w1.heap.size, 1 + 0, none⟩ (.int .i32 v)) w5.heap.size x y) := S6.out.keep (Fr.setCell (S := fun q => q = w1.heap.size) (Fr.refl _ _) (p := ⟨w1.heap.size, 1 + 0, none⟩) (.inl rfl) _) (by omega)
          have KX : Hid (∀ w, Tab w → Calls Tryd.prog 23 #[.agg #[.int .u8 (k : Int), .int .i32 (if 0 = 0 then v else G 0), .int .i32 (if 1 = 0 then v else G 1), .int .i32 (if 2 = 0 then v else G 2)]] w fun e' w' => e' = .returned (.int .i64 e) ∧ Fr Nobody w w') := fun w h => by
            have := KK.out w (fun i => if i = 0 then v else G i) h
            rw [HVE.out (fun i => if i = 0 then v else G i) (fun i _ => by by_cases e1 : i = 0; rw [if_pos e1, if_pos e1]; rw [if_neg e1, if_neg e1]; exact HG.out i e1)] at this
            exact this
          simp at KX b1 b2 b3 hz
          go_wp2_with fail
          go_region_with (go_at_call 23; refine (KX.out _ (H.out.quiet (F7.out.alloc _).drew)).mono ?_; rintro e' w7 ⟨rfl, hf7⟩; have F8 : Hid (Fr Nobody w w7) := ((F7.out.alloc _).drew).trans hf7; have B8 : Hid (Box w7 w1.heap.size k _) := ((B7.out.quiet ((Fr.refl _ _).alloc _)).quiet ((Fr.refl _ _).drew)).quiet hf7; have S8 : Hid (Sl w7 w5.heap.size x y) := ((S7.out.keep ((Fr.refl Nobody _).alloc _) id).keep ((Fr.refl Nobody _).drew) id).keep hf7 id; have x7 : w7.cell? ⟨wr.heap.size, 1, none⟩ = some (.int .i64 e) := (hf7.cell (p := ⟨wr.heap.size, 1, none⟩) (by simp [World.setCell]) id).trans (by rw [World.cell?_drew]; exact cell_new1 _ _ 1 _ _ (by simp [World.setCell])); clear hf7)
          all_goals
            go_wp2
            go_roundw
            case rel => exact ⟨p + 1, _, by omega, by go_num, fun i hi => by rw [if_neg hi]; exact HG.out i hi, B8.out, S8.out, F8.out⟩
            case measure => simp [intOf]; omega
        · go_wp2
          go_ret
          exact ⟨rfl, F6.out⟩
set_option maxHeartbeats 8000000 in
theorem schemaEnds_m1 (w : World) (ht : Tab w) (kd i k : Nat) (hkd : kd < 256) (hi0 : i < 256) (hk : k < 6) (hkm : (kd : Int) % 6 = (k : Int)) (hn : 1 < cnt k) (hnm : (i : Int) % (cnt k : Int) = 1) :
    Calls Tryd.prog 7 #[.int .u8 (kd : Int), .int .u8 (i : Int)] w fun e w' => e = .returned (.bool true) ∧ Fr Nobody w w' := by
  have H : Hid (Tab w) := ht
  have hc := cnt_le k
  have hc1 := cnt_pos k hk
  have C : Hid (∀ w, _) := fun w => rcount_any w k (by omega)
  have R : Hid (∀ w j, j < cnt k → _) := fun w j hj => rrange_ok w k j hj
  have KK : Hid (∀ w G, Tab w → Calls Tryd.prog 23 #[.agg (cmp k G)] w fun e w' => e = .returned (.int .i64 ((chk k G : Nat) : Int)) ∧ Fr Nobody w w') := fun w G h => check_any w h k (by omega) G
  have EI : Hid (∀ y, lo k 1 ≤ y ∧ y ≤ hi k 1 → chk k (oneAt k 1 y) = 0) := fun y h => chk_in k 1 hk hn y h
  have EO : Hid (∀ y, y < lo k 1 ∨ hi k 1 < y → chk k (oneAt k 1 y) = 5) := fun y h => chk_off k 1 hk hn y h
  obtain ⟨l0, l1, l2, l3⟩ := rng_ok k 1 hn
  obtain ⟨c, ec⟩ : ∃ c, cnt k = c := ⟨_, rfl⟩
  have HONE : Hid (∀ y, (fun j => if j = 1 then y else lows k c j) = oneAt k 1 y) := by intro y; funext j; unfold oneAt; rw [ec]
  rw [ec] at hn hnm hc hc1 C R
  clear ht ec
  have hcz : ((c : Int) == 0) = false := by rw [beq_eq_false_iff_ne]; omega
  go_enter Tryd.func7, Tryd.ntmps7
  go_wp2_with fail
  refine (awake5 _ H.out).mono ?_
  rintro e w1 ⟨rfl, hf1⟩
  have F1 : Hid (Fr Nobody w w1) := hf1
  have B1 : Hid (Box (w1.alloc (.cells #[.int .u8 (k : Int), .int .i32 0, .int .i32 0, .int .i32 0] 38)) w1.heap.size k (f3 0 0 0)) := Box.new w1 k (f3 0 0 0)
  have hs1 : w.heap.size ≤ w1.heap.size := hf1.size
  clear hf1
  go_wp2_with fail
  refine (C.out _).mono ?_
  rintro e w2 ⟨rfl, hf2⟩
  have F2 : Hid (Fr Nobody w w2) := (F1.out.alloc _).trans hf2
  have B2 : Hid (Box w2 w1.heap.size k (lows k 0)) := by
    have := B1.out.quiet hf2
    have e : lows k 0 = fun _ => 0 := by funext j; simp [lows]
    rw [e]; exact this
  clear hf2
  go_wp2
  go_loopw [22] (fun a wr => ∃ j : Nat, j ≤ c ∧ a = .int .i64 j ∧ Box wr w1.heap.size k (lows k j) ∧ Fr Nobody w wr) (fun a _ => c - (intOf a).toNat)
  case atStart => exact ⟨0, by omega, rfl, B2.out, F2.out⟩
  case round =>
    obtain ⟨j, hj, rfl, hb, hf⟩ := hrel
    have B3 : Hid (Box wr w1.heap.size k (lows k j)) := hb
    have F3 : Hid (Fr Nobody w wr) := hf
    clear hb hf B1 B2 F1 F2
    by_cases hlt : j < c
    · have RJ : Hid (∀ w, _) := fun w => R.out w j hlt
      go_wp2_with fail
      refine (RJ.out _).mono ?_
      rintro e w3 ⟨rfl, hf3⟩
      have B4 : Hid (Box w3 w1.heap.size k (lows k j)) := B3.out.quiet hf3
      have F4 : Hid (Fr Nobody w w3) := F3.out.trans hf3
      have hx := B4.out.at j (by omega)
      have hz := B4.out.froz5 (1 + j)
      have B5 : Hid (Box (w3.setCell ⟨w1.heap.size, 1 + j, none⟩ (.int .i32 (lo k j))) w1.heap.size k (lows k (j + 1))) := by
        have := B4.out.set5 (j := j) (by omega) (lo k j)
        have e : (fun i => if i = j then lo k j else lows k j i) = lows k (j + 1) := by
          funext i
          unfold lows
          by_cases e1 : i = j
          · subst e1; simp
          · rw [if_neg e1]
            by_cases e2 : i < j
            · rw [if_pos e2, if_pos (by omega)]
            · rw [if_neg e2, if_neg (by omega)]
        rw [e] at this
        exact this
      have F5 : Hid (Fr Nobody w (w3.setCell ⟨w1.heap.size, 1 + j, none⟩ (.int .i32 (lo k j)))) := F4.out.setCell (p := ⟨w1.heap.size, 1 + j, none⟩) (.inr hs1) _
      clear hf3 B4 F4
      generalize lows k j j = ov at *
      generalize lo k j = lj at *
      generalize hi k j = hjj at *
      go_wp2
      go_roundw
      case rel => exact ⟨j + 1, by omega, by go_num, B5.out, F5.out⟩
      case measure => simp [intOf]; omega
    · have e : j = c := by omega
      subst e
      have RN : Hid (∀ w, _) := fun w => R.out w 1 hn
      go_wp2_with fail
      refine (C.out _).mono ?_
      rintro e w4 ⟨rfl, hf4⟩
      have B4 : Hid (Box w4 w1.heap.size k (lows k j)) := B3.out.quiet hf4
      have F4 : Hid (Fr Nobody w w4) := F3.out.trans hf4
      clear hf4 B3 F3
      go_wp2_with fail
      refine (RN.out _).mono ?_
      rintro e w5 ⟨rfl, hf5⟩
      have B5 : Hid (Box w5 w1.heap.size k (lows k j)) := B4.out.quiet hf5
      have F5 : Hid (Fr Nobody w w5) := F4.out.trans hf5
      have hs5 : w1.heap.size < w5.heap.size := (Array.getElem?_eq_some_iff.1 B5.out).1
      clear hf5 B4 F4 C R RN
      have EV : Hid (∀ (v e : Int) (F : Nat → Int), ((e = 0 ∧ (v = lo k 1 ∨ v = hi k 1)) ∨ (e = 5 ∧ (v = lo k 1 - 1 ∨ v = hi k 1 + 1))) → (∀ i, i < 3 → F i = if i = 1 then v else lows k j i) → ((chk k F : Nat) : Int) = e) := by
        intro v e F hve hF
        have e1 : chk k F = chk k (oneAt k 1 v) := chk_congr k F _ (fun i hi => by rw [hF i hi, ← HONE.out v])
        rw [e1]
        rcases hve with ⟨rfl, hv⟩ | ⟨rfl, hv⟩
        · rw [EI.out v (by omega)]; rfl
        · rw [EO.out v (by omega)]; rfl
      clear EI EO HONE
      generalize lo k 1 = x at *
      generalize hi k 1 = y at *
      go_wp2
      go_loopw [60] (fun a wr => ∃ (p : Nat) (G : Nat → Int), p ≤ 4 ∧ a = .int .i64 p ∧ (∀ i, i ≠ 1 → G i = lows k j i) ∧ Box wr w1.heap.size k G ∧ Sl wr w5.heap.size x y ∧ Fr Nobody w wr) (fun a _ => 4 - (intOf a).toNat)
      case atStart => exact ⟨0, lows k j, by omega, rfl, fun _ _ => rfl, B5.out.quiet ((Fr.refl _ _).alloc _), Sl.new _ _ _ _, F5.out.alloc _⟩
      case round =>
        obtain ⟨p, G, hp, rfl, hG, hb, hsl, hf⟩ := hrel
        have HG : Hid (∀ i, i ≠ 1 → G i = lows k j i) := hG
        have B6 : Hid (Box wr w1.heap.size k G) := hb
        have S6 : Hid (Sl wr w5.heap.size x y) := hsl
        have F6 : Hid (Fr Nobody w wr) := hf
        clear hG hb hsl hf B5 F5
        by_cases hlt4 : p < 4
        · obtain ⟨v, e, cv, ce, hve⟩ := S6.out.pick p hlt4
          have HVE : Hid (∀ F : Nat → Int, (∀ i, i < 3 → F i = if i = 1 then v else lows k j i) → ((chk k F : Nat) : Int) = e) := fun F hF => EV.out v e F hve hF
          obtain ⟨b0, b1, b2, b3⟩ := B6.out.cells
          have hz := B6.out.froz5 (1 + 1)
          have s6 : w1.heap.size < wr.heap.size := World.block_lt_of_cell? wr _ b0
          have s7 : wr.heap.size ≠ w1.heap.size := by omega
          have s8 : w5.heap.size < wr.heap.size := World.block_lt_of_cell? wr _ cv
          have s9 : wr.heap.size ≠ w5.heap.size := by omega
          have B7 : Hid (Box (wr.setCell ⟨w1.heap.size, 1 + 1, none⟩ (.int .i32 v)) w1.heap.size k (fun i => if i = 1 then v else G i)) := B6.out.set5 (j := 1) (by omega) v
          have F7 : Hid (Fr Nobody w (wr.setCell ⟨w1.heap.size, 1 + 1, none⟩ (.int .i32 v))) := F6.out.setCell (p := ⟨w1.heap.size, 1 + 1, none⟩) (.inr hs1) _
          have S7 : Hid (Sl (wr.setCell ⟨w1.heap.size, 1 + 1, none⟩ (.int .i32 v)) w5.heap.size x y) := S6.out.keep (Fr.setCell (S := fun q => q = w1.heap.size) (Fr.refl _ _) (p := ⟨w1.heap.size, 1 + 1, none⟩) (.inl rfl) _) (by omega)
          have KX : Hid (∀ w, Tab w → Calls Tryd.prog 23 #[.agg #[.int .u8 (k : Int), .int .i32 (if 0 = 1 then v else G 0), .int .i32 (if 1 = 1 then v else G 1), .int .i32 (if 2 = 1 then v else G 2)]] w fun e' w' => e' = .returned (.int .i64 e) ∧ Fr Nobody w w') := fun w h => by
            have := KK.out w (fun i => if i = 1 then v else G i) h
            rw [HVE.out (fun i => if i = 1 then v else G i) (fun i _ => by by_cases e1 : i = 1; rw [if_pos e1, if_pos e1]; rw [if_neg e1, if_neg e1]; exact HG.out i e1)] at this
            exact this
          simp at KX b1 b2 b3 hz
          go_wp2_with fail
          go_region_with (go_at_call 23; refine (KX.out _ (H.out.quiet (F7.out.alloc _).drew)).mono ?_; rintro e' w7 ⟨rfl, hf7⟩; have F8 : Hid (Fr Nobody w w7) := ((F7.out.alloc _).drew).trans hf7; have B8 : Hid (Box w7 w1.heap.size k _) := ((B7.out.quiet ((Fr.refl _ _).alloc _)).quiet ((Fr.refl _ _).drew)).quiet hf7; have S8 : Hid (Sl w7 w5.heap.size x y) := ((S7.out.keep ((Fr.refl Nobody _).alloc _) id).keep ((Fr.refl Nobody _).drew) id).keep hf7 id; have x7 : w7.cell? ⟨wr.heap.size, 1, none⟩ = some (.int .i64 e) := (hf7.cell (p := ⟨wr.heap.size, 1, none⟩) (by simp [World.setCell]) id).trans (by rw [World.cell?_drew]; exact cell_new1 _ _ 1 _ _ (by simp [World.setCell])); clear hf7)
          all_goals
            go_wp2
            go_roundw
            case rel => exact ⟨p + 1, _, by omega, by go_num, fun i hi => by rw [if_neg hi]; exact HG.out i hi, B8.out, S8.out, F8.out⟩
            case measure => simp [intOf]; omega
        · go_wp2
          go_ret
          exact ⟨rfl, F6.out⟩
set_option maxHeartbeats 8000000 in
theorem schemaEnds_m2 (w : World) (ht : Tab w) (kd i k : Nat) (hkd : kd < 256) (hi0 : i < 256) (hk : k < 6) (hkm : (kd : Int) % 6 = (k : Int)) (hn : 2 < cnt k) (hnm : (i : Int) % (cnt k : Int) = 2) :
    Calls Tryd.prog 7 #[.int .u8 (kd : Int), .int .u8 (i : Int)] w fun e w' => e = .returned (.bool true) ∧ Fr Nobody w w' := by
  have H : Hid (Tab w) := ht
  have hc := cnt_le k
  have hc1 := cnt_pos k hk
  have C : Hid (∀ w, _) := fun w => rcount_any w k (by omega)
  have R : Hid (∀ w j, j < cnt k → _) := fun w j hj => rrange_ok w k j hj
  have KK : Hid (∀ w G, Tab w → Calls Tryd.prog 23 #[.agg (cmp k G)] w fun e w' => e = .returned (.int .i64 ((chk k G : Nat) : Int)) ∧ Fr Nobody w w') := fun w G h => check_any w h k (by omega) G
  have EI : Hid (∀ y, lo k 2 ≤ y ∧ y ≤ hi k 2 → chk k (oneAt k 2 y) = 0) := fun y h => chk_in k 2 hk hn y h
  have EO : Hid (∀ y, y < lo k 2 ∨ hi k 2 < y → chk k (oneAt k 2 y) = 5) := fun y h => chk_off k 2 hk hn y h
  obtain ⟨l0, l1, l2, l3⟩ := rng_ok k 2 hn
  obtain ⟨c, ec⟩ : ∃ c, cnt k = c := ⟨_, rfl⟩
  have HONE : Hid (∀ y, (fun j => if j = 2 then y else lows k c j) = oneAt k 2 y) := by intro y; funext j; unfold oneAt; rw [ec]
  rw [ec] at hn hnm hc hc1 C R
  clear ht ec
  have hcz : ((c : Int) == 0) = false := by rw [beq_eq_false_iff_ne]; omega
  go_enter Tryd.func7, Tryd.ntmps7
  go_wp2_with fail
  refine (awake5 _ H.out).mono ?_
  rintro e w1 ⟨rfl, hf1⟩
  have F1 : Hid (Fr Nobody w w1) := hf1
  have B1 : Hid (Box (w1.alloc (.cells #[.int .u8 (k : Int), .int .i32 0, .int .i32 0, .int .i32 0] 38)) w1.heap.size k (f3 0 0 0)) := Box.new w1 k (f3 0 0 0)
  have hs1 : w.heap.size ≤ w1.heap.size := hf1.size
  clear hf1
  go_wp2_with fail
  refine (C.out _).mono ?_
  rintro e w2 ⟨rfl, hf2⟩
  have F2 : Hid (Fr Nobody w w2) := (F1.out.alloc _).trans hf2
  have B2 : Hid (Box w2 w1.heap.size k (lows k 0)) := by
    have := B1.out.quiet hf2
    have e : lows k 0 = fun _ => 0 := by funext j; simp [lows]
    rw [e]; exact this
  clear hf2
  go_wp2
  go_loopw [22] (fun a wr => ∃ j : Nat, j ≤ c ∧ a = .int .i64 j ∧ Box wr w1.heap.size k (lows k j) ∧ Fr Nobody w wr) (fun a _ => c - (intOf a).toNat)
  case atStart => exact ⟨0, by omega, rfl, B2.out, F2.out⟩
  case round =>
    obtain ⟨j, hj, rfl, hb, hf⟩ := hrel
    have B3 : Hid (Box wr w1.heap.size k (lows k j)) := hb
    have F3 : Hid (Fr Nobody w wr) := hf
    clear hb hf B1 B2 F1 F2
    by_cases hlt : j < c
    · have RJ : Hid (∀ w, _) := fun w => R.out w j hlt
      go_wp2_with fail
      refine (RJ.out _).mono ?_
      rintro e w3 ⟨rfl, hf3⟩
      have B4 : Hid (Box w3 w1.heap.size k (lows k j)) := B3.out.quiet hf3
      have F4 : Hid (Fr Nobody w w3) := F3.out.trans hf3
      have hx := B4.out.at j (by omega)
      have hz := B4.out.froz5 (1 + j)
      have B5 : Hid (Box (w3.setCell ⟨w1.heap.size, 1 + j, none⟩ (.int .i32 (lo k j))) w1.heap.size k (lows k (j + 1))) := by
        have := B4.out.set5 (j := j) (by omega) (lo k j)
        have e : (fun i => if i = j then lo k j else lows k j i) = lows k (j + 1) := by
          funext i
          unfold lows
          by_cases e1 : i = j
          · subst e1; simp
          · rw [if_neg e1]
            by_cases e2 : i < j
            · rw [if_pos e2, if_pos (by omega)]
            · rw [if_neg e2, if_neg (by omega)]
        rw [e] at this
        exact this
      have F5 : Hid (Fr Nobody w (w3.setCell ⟨w1.heap.size, 1 + j, none⟩ (.int .i32 (lo k j)))) := F4.out.setCell (p := ⟨w1.heap.size, 1 + j, none⟩) (.inr hs1) _
      clear hf3 B4 F4
      generalize lows k j j = ov at *
      generalize lo k j = lj at *
      generalize hi k j = hjj at *
      go_wp2
      go_roundw
      case rel => exact ⟨j + 1, by omega, by go_num, B5.out, F5.out⟩
      case measure => simp [intOf]; omega
    · have e : j = c := by omega
      subst e
      have RN : Hid (∀ w, _) := fun w => R.out w 2 hn
      go_wp2_with fail
      refine (C.out _).mono ?_
      rintro e w4 ⟨rfl, hf4⟩
      have B4 : Hid (Box w4 w1.heap.size k (lows k j)) := B3.out.quiet hf4
      have F4 : Hid (Fr Nobody w w4) := F3.out.trans hf4
      clear hf4 B3 F3
      go_wp2_with fail
      refine (RN.out _).mono ?_
      rintro e w5 ⟨rfl, hf5⟩
      have B5 : Hid (Box w5 w1.heap.size k (lows k j)) := B4.out.quiet hf5
      have F5 : Hid (Fr Nobody w w5) := F4.out.trans hf5
      have hs5 : w1.heap.size < w5.heap.size := (Array.getElem?_eq_some_iff.1 B5.out).1
      clear hf5 B4 F4 C R RN
      have EV : Hid (∀ (v e : Int) (F : Nat → Int), ((e = 0 ∧ (v = lo k 2 ∨ v = hi k 2)) ∨ (e = 5 ∧ (v = lo k 2 - 1 ∨ v = hi k 2 + 1))) → (∀ i, i < 3 → F i = if i = 2 then v else lows k j i) → ((chk k F : Nat) : Int) = e) := by
        intro v e F hve hF
        have e1 : chk k F = chk k (oneAt k 2 v) := chk_congr k F _ (fun i hi => by rw [hF i hi, ← HONE.out v])
        rw [e1]
        rcases hve with ⟨rfl, hv⟩ | ⟨rfl, hv⟩
        · rw [EI.out v (by omega)]; rfl
        · rw [EO.out v (by omega)]; rfl
      clear EI EO HONE
      generalize lo k 2 = x at *
      generalize hi k 2 = y at *
      go_wp2
      go_loopw [60] (fun a wr => ∃ (p : Nat) (G : Nat → Int), p ≤ 4 ∧ a = .int .i64 p ∧ (∀ i, i ≠ 2 → G i = lows k j i) ∧ Box wr w1.heap.size k G ∧ Sl wr w5.heap.size x y ∧ Fr Nobody w wr) (fun a _ => 4 - (intOf a).toNat)
      case atStart => exact ⟨0, lows k j, by omega, rfl, fun _ _ => rfl, B5.out.quiet ((Fr.refl _ _).alloc _), Sl.new _ _ _ _, F5.out.alloc _⟩
      case round =>
        obtain ⟨p, G, hp, rfl, hG, hb, hsl, hf⟩ := hrel
        have HG : Hid (∀ i, i ≠ 2 → G i = lows k j i) := hG
        have B6 : Hid (Box wr w1.heap.size k G) := hb
        have S6 : Hid (Sl wr w5.heap.size x y) := hsl
        have F6 : Hid (Fr Nobody w wr) := hf
        clear hG hb hsl hf B5 F5
        by_cases hlt4 : p < 4
        · obtain ⟨v, e, cv, ce, hve⟩ := S6.out.pick p hlt4
          have HVE : Hid (∀ F : Nat → Int, (∀ i, i < 3 → F i = if i = 2 then v else lows k j i) → ((chk k F : Nat) : Int) = e) := fun F hF => EV.out v e F hve hF
          obtain ⟨b0, b1, b2, b3⟩ := B6.out.cells
          have hz := B6.out.froz5 (1 + 2)
          have s6 : w1.heap.size < wr.heap.size := World.block_lt_of_cell? wr _ b0
          have s7 : wr.heap.size ≠ w1.heap.size := by omega
          have s8 : w5.heap.size < wr.heap.size := World.block_lt_of_cell? wr _ cv
          have s9 : wr.heap.size ≠ w5.heap.size := by omega
          have B7 : Hid (Box (wr.setCell ⟨w1.heap.size, 1 + 2, none⟩ (.int .i32 v)) w1.heap.size k (fun i => if i = 2 then v else G i)) := B6.out.set5 (j := 2) (by omega) v
          have F7 : Hid (Fr Nobody w (wr.setCell ⟨w1.heap.size, 1 + 2, none⟩ (.int .i32 v))) := F6.out.setCell (p := ⟨w1.heap.size, 1 + 2, none⟩) (.inr hs1) _
          have S7 : Hid (Sl (wr.setCell ⟨w1.heap.size, 1 + 2, none⟩ (.int .i32 v)) w5.heap.size x y) := S6.out.keep (Fr.setCell (S := fun q => q = w1.heap.size) (Fr.refl _ _) (p := ⟨w1.heap.size, 1 + 2, none⟩) (.inl rfl) _) (by omega)
          have KX : Hid (∀ w, Tab w → Calls Tryd.prog 23 #[.agg #[.int .u8 (k : Int), .int .i32 (if 0 = 2 then v else G 0), .int .i32 (if 1 = 2 then v else G 1), .int .i32 (if 2 = 2 then v else G 2)]] w fun e' w' => e' = .returned (.int .i64 e) ∧ Fr Nobody w w') := fun w h => by
            have := KK.out w (fun i => if i = 2 then v else G i) h
            rw [HVE.out (fun i => if i = 2 then v else G i) (fun i _ => by by_cases e1 : i = 2; rw [if_pos e1, if_pos e1]; rw [if_neg e1, if_neg e1]; exact HG.out i e1)] at this
            exact this
          simp at KX b1 b2 b3 hz
          go_wp2_with fail
          go_region_with (go_at_call 23; refine (KX.out _ (H.out.quiet (F7.out.alloc _).drew)).mono ?_; rintro e' w7 ⟨rfl, hf7⟩; have F8 : Hid (Fr Nobody w w7) := ((F7.out.alloc _).drew).trans hf7; have B8 : Hid (Box w7 w1.heap.size k _) := ((B7.out.quiet ((Fr.refl _ _).alloc _)).quiet ((Fr.refl _ _).drew)).quiet hf7; have S8 : Hid (Sl w7 w5.heap.size x y) := ((S7.out.keep ((Fr.refl Nobody _).alloc _) id).keep ((Fr.refl Nobody _).drew) id).keep hf7 id; have x7 : w7.cell? ⟨wr.heap.size, 1, none⟩ = some (.int .i64 e) := (hf7.cell (p := ⟨wr.heap.size, 1, none⟩) (by simp [World.setCell]) id).trans (by rw [World.cell?_drew]; exact cell_new1 _ _ 1 _ _ (by simp [World.setCell])); clear hf7)
          all_goals
            go_wp2
            go_roundw
            case rel => exact ⟨p + 1, _, by omega, by go_num, fun i hi => by rw [if_neg hi]; exact HG.out i hi, B8.out, S8.out, F8.out⟩
            case measure => simp [intOf]; omega
        · go_wp2
          go_ret
          exact ⟨rfl, F6.out⟩
theorem schemaEnds_walk (w : World) (ht : Tab w) (a0 : Int) (w0 : (Lit.int .u8 a0).wf = true) (a1 : Int) (w1 : (Lit.int .u8 a1).wf = true) :
    Calls Tryd.prog 7 #[.int .u8 a0, .int .u8 a1] w fun e w' => e = .returned (.bool true) ∧ Below w.heap.size w w' := by
  obtain ⟨kd, rfl, hkd⟩ := ok8_nat w0
  obtain ⟨i, rfl, hi⟩ := ok8_nat w1
  have h1 := cnt_pos (kd % 6) (by omega)
  have h3 := cnt_le (kd % 6)
  have h2 : i % cnt (kd % 6) < cnt (kd % 6) := Nat.mod_lt _ h1
  have hm : (i : Int) % (cnt (kd % 6) : Int) = ((i % cnt (kd % 6) : Nat) : Int) := by rw [Int.natCast_emod]
  have key : Calls Tryd.prog 7 #[.int .u8 (kd : Int), .int .u8 (i : Int)] w fun e w' => e = .returned (.bool true) ∧ Fr Nobody w w' := by
    generalize i % cnt (kd % 6) = n at *
    have hn3 : n = 0 ∨ n = 1 ∨ n = 2 := by omega
    rcases hn3 with rfl | rfl | rfl
    · exact schemaEnds_m0 w ht kd i (kd % 6) hkd hi (by omega) (by omega) h2 hm
    · exact schemaEnds_m1 w ht kd i (kd % 6) hkd hi (by omega) (by omega) h2 hm
    · exact schemaEnds_m2 w ht kd i (kd % 6) hkd hi (by omega) (by omega) h2 hm
  refine key.mono ?_
  rintro e w' ⟨rfl, hf⟩
  exact ⟨rfl, hf.below (Nat.le_refl _) (fun _ _ => id)⟩
theorem schemaEnds_lifted (os : Os) (started : os.Started) (H : Type) (enc : TypeId × Value → H) :
    ReturnsInHanded {} Tryd.checked os 7 .any (fun w args => (Rows.schemaEndsSpec.pre enc Tryd.prog Tryd.f7 [] false w args ∧ laidMetH Tryd.prog laid1 w) ∧ sizedMet enc Tryd.prog Tryd.f7 (OpenSpec.ofChange Rows.schemaEndsSpec) false w args) (Rows.schemaEndsSpec.post enc Tryd.prog Tryd.f7 false true false false) := by
  refine returnsInHanded_of_change_and (C := Tryd.checked) (X := fun w _ => laidMetH Tryd.prog laid1 w) (fun _ _ _ hh h => h.of_heap hh) own started (by kernel_rfl) Tryd.func7
    (ChangeSpec.witness_shaped (enc := enc) (C := Tryd.checked) (os := os) (X := fun w _ => laidMetH Tryd.prog laid1 w) false (World.doorLaid Tryd.prog 400 os) #[.int .u8 0, .int .u8 0] 8 rfl (World.shaped_of_RefB (by kernel_rfl) (by kernel_rfl)) (by kernel_rfl) (by kernel_rfl) (by kernel_rfl) (door_met os _)) ?_
  intro W base args ds gs before hval0 hW _ _ hL _
  have hval : ∀ (j : Nat) t v, Tryd.f7.params[j]? = some t → args[j]? = some v → Value.okWide Tryd.prog W .any base t v := hval0
  have hW' := hW
  obtain ⟨p, q, hA0, hV, rfl, hfz, hnd⟩ := hW
  have hA : DataW.TrodAll enc Tryd.prog W 0 (fun _ => true) true Tryd.f7.params.toList args.toList ds p := hA0
  rw [Tryd.params7] at hA hval
  obtain ⟨v0, vs0, d0, ds0, p0, q0, hargs, rfl, rfl, h0, r0⟩ := trodAll_cons hA
  obtain ⟨v1, vs1, d1, ds1, p1, q1, rfl, rfl, rfl, h1, r1⟩ := trodAll_cons r0
  obtain ⟨rfl, rfl, rfl⟩ := trodAll_nil r1
  obtain rfl : args = #[v0, v1] := by cases args; simp_all
  obtain ⟨rfl, rfl⟩ := trodVars_none hV
  obtain ⟨a0, rfl, rfl, rfl, w0⟩ := open_int Tryd.underlying5 (hval 0 5 v0 rfl rfl) h0
  obtain ⟨a1, rfl, rfl, rfl, w1⟩ := open_int Tryd.underlying5 (hval 1 5 v1 rfl rfl) h1
  clear hA0 hval0
  refine (schemaEnds_walk W (of_laid hL) a0 w0 a1 w1).mono fun e W' ⟨he, bel⟩ => ?_
  subst he
  exact ⟨_, rfl, _, _, _, [], _, [], hW', trodAll_mk1 (shut_bool Tryd.underlying4 _), (trodAll_cons_mk (shut_int Tryd.underlying5 w0) (trodAll_cons_mk (shut_int Tryd.underlying5 w1) trodAll_mk0)), rfl, bel.frame _, fun h => by cases h⟩

theorem schemaEnds_row : Rows.SchemaEndsSaid :=
  OpenClaim.holds_of_wide 7 Tryd.f7 rfl rfl rfl rfl rfl rfl rfl ⟨rfl, rfl, rfl, rfl, rfl⟩ rfl rfl rfl rfl rfl (by kernel_rfl) Tryd.func7 (by kernel_rfl)
    (of_decide_eq_true (by kernel_rfl)) (by unfold Func.isWrapper; first | (rw [if_pos (by decide +kernel)]; kernel_rfl) | (rw [if_neg (by decide +kernel)]; exact ⟨rfl, rfl⟩))
    (fun os started H enc _ => schemaEnds_lifted os started H enc)

theorem schemaEnds_holds : Rows.SchemaEndsCardSaid :=
  Claim7.holds_tied_plain_at .later [] [.data] true (true, "3574140b145b00f67d1e5906b91e76e98c8d6b867cac76379509b227c0f0b3c0") false
    schemaEnds_row (fun _ h => by cases h) (by kernel_rfl) (fun _ h => by cases h) schemaEnds_row_tie rfl ⟨rfl, rfl⟩ (by kernel_rfl) rfl
    (fun f fn hf hfn => by
      obtain rfl : f = 7 := Option.some.inj ((show Tryd.prog.funcNamed "pinnace/pinnacelaw05.SchemaEnds" = some 7 by kernel_rfl).symm.trans hf) |>.symm
      obtain rfl : fn = Tryd.f7 := (Option.some.inj (Tryd.func7.symm.trans hfn)).symm
      exact ⟨by kernel_rfl, fun j t ht => by
        rw [Tryd.params7] at ht
        have hm : t ∈ [5, 5] := by simpa using Array.mem_of_getElem? ht
        have hall : ([5, 5].all fun u => !Tryd.prog.wantsStandIn u) = true := by kernel_rfl
        exact (show Tryd.prog.wantsStandIn t = false by simpa using List.all_eq_true.1 hall t hm)⟩)
    (by kernel_rfl)

end Go.Proofs.YtpmolkomnnpepaaDoor
