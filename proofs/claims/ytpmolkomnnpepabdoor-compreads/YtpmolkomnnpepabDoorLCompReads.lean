/-
  For every bytes, skip and component: from any bit on the bytes are a component's behind that one, or aren't, as the document's list of bits says, and the reader is as far as it says: CompReads returns true, whatever its arguments, where the table of the components lies as the program's text lays it, and changes nothing that was there.
-/
import Derived.Test.YtpmolkomnnpepabDoorKz
import Derived.Deep.RegionWith
namespace Go.Proofs.YtpmolkomnnpepabDoor
open Go.ChangeShapes Go.WideShapes Go.ChangeAt Go.RowKit
set_option linter.unusedVariables false
set_option maxRecDepth 100000

theorem get_duo2 (w0 w : World) (br : Nat) (P : List Nat) (t n : Nat) (x : Value) (M : List Bool) (h : Duo w0 w br P t x M) (hn : n ≤ 64) (hl : t + n ≤ 8 * P.length) :
    Calls Tryd.prog 19 #[.pointer (some ⟨br, 0, none⟩), .int .i64 n] w fun e w' => e = .returned (.tuple #[.int .u64 (numAt P t n : Nat), .int .i64 0]) ∧ Duo w0 w' br P (t + n) x M ∧ Fr (At br none) w w' := by
  obtain ⟨⟨g, hR, hF⟩, hB⟩ := h
  refine (get_ok2 _ w br g P t n hR hn hl).mono ?_
  rintro e w' ⟨rfl, hR', hf'⟩
  refine ⟨rfl, ⟨Or.of_rd hR hF hR' hf', hB.keep hf' (fun k cur hk hA => hR.apart k cur hk ?_)⟩, hf'⟩
  rcases hA with e | e
  · exact .inl e
  · cases e

theorem Or.put4 {w0 w : World} {br : Nat} {P : List Nat} {t b k k0 : Nat} {F F0 : Nat → Int} (h : Or w0 w br P t) (hb : Box w b k0 F0) (hl : w0.heap.size ≤ b) : Or w0 (put4 w b k F) br P t := by
  obtain ⟨g, hR, hf⟩ := h
  exact ⟨g, hR.put4 hb, put4_fr hf (.inr hl)⟩

set_option maxHeartbeats 40000000 in
theorem compReads_fin (w : World) (ht : Tab w) (ao : Option Addr) (len cap m s k kd : Nat) (hkd : kd < 256) (F : Nat → Int) (P : List Nat) (hmin : min (len : Int) 40 = (m : Int)) (hm : m ≤ 40) (hml : m ≤ len) (hlc : len ≤ cap) (hmax : len ≤ maxLen) (hn : ao = none → cap = 0) (hPl : P.length = m) (hPa : BytesAt w ao P) (hPb : ∀ x ∈ P, x < 256) (hs : s ≤ 255) (hk : k = min (s % 32) (8 * m)) :
    Calls Tryd.prog 6 #[.slice ao len cap, .int .u8 (s : Int), .agg (cmp kd F)] w fun e w' => e = .returned (.bool true) ∧ Fr Nobody w w' := by
  unfold maxLen at hmax
  have HT : Hid (Tab w) := ht
  have HP : Hid (P.length = m ∧ BytesAt w ao P ∧ (∀ x ∈ P, x < 256) ∧ (ao = none → cap = 0)) := ⟨hPl, hPa, hPb, hn⟩
  obtain ⟨ll, hll⟩ : ∃ ll, 8 * m = ll := ⟨_, rfl⟩
  have hlb : (bitsB P).length = ll := by rw [length_bitsB, hPl, hll]
  have hll2 : ll ≤ 320 := by omega
  rw [hll] at hk
  have hk1 : k ≤ ll := by omega
  have hk2 : k ≤ 31 := by omega
  have hkm : min ((s : Int) % 32) (ll : Int) = (k : Int) := by omega
  have HLL : Hid (8 * P.length = ll ∧ (bitsB P).length = ll) := ⟨by rw [hPl, hll], hlb⟩
  obtain ⟨ka, Fa, hgo⟩ := sout_cmp kd F P k
  have G1 : Hid (∀ w v, Bs w v ((bitsB P).drop k) → _) := fun w v h => rstepC_any w v P k kd hkd F h (by rw [hlb]; omega) (sout kd F P k) (sout_1 kd F P k) (sout_2 kd F P k)
  have G2 : Hid (∀ w1 br, Or w w1 br P k → _) := fun w1 br h => stepC_or w w1 ht br P k kd hkd F h (sout kd F P k) (sout_1 kd F P k) (sout_2 kd F P k)
  rw [hgo] at G1 G2
  generalize scode kd F P k = rc at *
  generalize scons kd F P k = rn at *
  clear hgo
  obtain ⟨q, hq⟩ : ∃ q, 8 * P.length - (k + rn) = q := ⟨_, rfl⟩
  have HL : Hid (((bitsB P).drop (k + rn)).length = q) := by show _ = _; rw [List.length_drop, length_bitsB]; omega
  have G5 : Hid (∀ w0 w br, Or w0 w br P (k + rn) → Calls Tryd.prog 28 #[.pointer (some ⟨br, 0, none⟩)] w fun e w' => e = .returned (.int .i64 (q : Int)) ∧ Or w0 w' br P (k + rn)) := fun w0 w br h => by rw [← hq]; exact left_or w0 w br P (k + rn) h
  have hq2 : q ≤ 320 := by omega
  have t3 : (rc == rc) = true := by simp
  have t4 : ((q : Int) == (q : Int)) = true := by simp
  have HA : Hid _ := eq_a3 9997 (Fa 0) (Fa 1) (Fa 2) (Fa 0) (Fa 1) (Fa 2)
  have HW0 : Hid (Box (w.alloc (.cells (cmp kd F) 24)) w.heap.size kd F) := Box.new w kd F
  have HF0 : Hid (Fr Nobody w (w.alloc (.cells (cmp kd F) 24))) := (Fr.refl _ _).alloc _
  unfold cmp at G1 G2 HW0 HF0
  unfold cmp
  clear hn hPl hPa hPb hll hlb hk hq ht
  go_enter Tryd.func6, Tryd.ntmps6
  go_wp2_with fail
  refine (awake6 _ (HT.out.quiet HF0.out)).mono ?_
  rintro e w1 ⟨rfl, hf⟩
  have F1 : Hid (Fr Nobody w w1) := Fr.trans HF0.out hf
  have W1 : Hid (Box w1 w.heap.size kd F) := Box.quiet HW0.out hf
  have HS : Hid (Src w1 (.slice ao m cap) P.length (vrow P)) := by
    have := (HP.out.2.1.quiet F1.out).src cap HP.out.2.2.2
    rw [HP.out.1] at this ⊢
    exact this
  clear hf
  go_wp2_with fail
  refine (read_or w w1 (.slice ao m cap) P F1.out HS.out HP.out.2.2.1 (by have := HP.out.1; omega)).mono ?_
  rintro e w2 ⟨br, rfl, _, hO, hfr⟩
  have H2 : Hid (Or w w2 br P 0) := hO
  have W2 : Hid (Box w2 w.heap.size kd F) := W1.out.quiet hfr
  clear hO HS F1 hfr W1
  go_wp2_with fail
  refine (rbits_any w2 ao cap m P (HP.out.2.1.quiet H2.out.fr) HP.out.1 HP.out.2.2.1 (by omega)).mono ?_
  rintro e w3 ⟨v3, rfl, hB, hf⟩
  obtain ⟨a3, c3, hv3⟩ := row_any hB
  rw [HLL.out.2] at hv3
  subst hv3
  have H3 : Hid (Duo w w3 br P 0 (.slice a3 ll c3) (bitsB P)) := ⟨H2.out.quiet hf, hB.bs⟩
  have hc3 : ll ≤ c3 := by
    rcases hB.bs with ⟨hv, h0⟩ | ⟨g, o, cap', cur, hv, hc, _⟩
    · simp only [Value.slice.injEq] at hv; omega
    · simp only [Value.slice.injEq] at hv; omega
  have W3 : Hid (Box w3 w.heap.size kd F) := W2.out.quiet hf
  clear hB hf H2 W2
  go_wp2_with fail
  refine (get_duo2 w w3 br P 0 k _ _ H3.out (by omega) (by have := HLL.out.1; omega)).mono ?_
  generalize numAt P 0 k = nk
  rintro e w4 ⟨rfl, hD, hfg⟩
  have W4 : Hid (Box w4 w.heap.size kd F) := W3.out.fr1 hfg (H3.out.1.ne_box W3.out)
  obtain ⟨p0, p1, p2, p3⟩ := W4.out.cells
  clear hfg W3
  have H4 : Hid (Or w w4 br P k) := by have := hD.1; rw [Nat.zero_add] at this; exact this
  have HB := hD.2
  rw [← HLL.out.2] at HB
  have HD0 := HB.drop k (by rw [HLL.out.2]; exact hk1)
  rw [HLL.out.2] at HD0
  clear HB hD H3
  by_cases e : c3 = k
  · have HD : Hid (Bs w4 (.slice a3 0 0) ((bitsB P).drop k)) := by rw [if_pos e, e, Nat.sub_self, show ll - k = 0 from by omega] at HD0; exact HD0
    have e' := e.symm
    clear e
    subst e'
    clear HD0
    go_wp2_with fail
    have HDd : Hid (Bs ((w4.alloc (.cells #[.int .u8 0, .int .i32 0, .int .i32 0, .int .i32 0] 24)).drew) _ ((bitsB P).drop k)) := Bs.quiet HD.out (((Fr.refl _ w4).alloc _).drew)
    have HZB : Hid (Box ((w4.alloc (.cells #[.int .u8 0, .int .i32 0, .int .i32 0, .int .i32 0] 24)).drew) w4.heap.size 0 (f3 0 0 0)) := (Box.new w4 0 (f3 0 0 0)).quiet ((Fr.refl _ _).drew)
    have qa : w.heap.size < w4.heap.size := World.block_lt_of_cell? w4 _ p0
    have qb : w4.heap.size ≠ w.heap.size := by omega
    have HDe : Hid (Bs w4.drew _ ((bitsB P).drop k)) := Bs.quiet HD.out ((Fr.refl _ w4).drew)
    go_region_with (first
      | (go_at_call 29; refine (G1.out _ _ HDd.out).mono ?_; rintro e w5 ⟨u, rfl, hU, hf⟩; obtain ⟨au, cu, hu⟩ := hU.shape; rw [HL.out] at hu; subst hu; have FF : Hid (Fr Nobody w4 w5) := (((Fr.refl _ w4).alloc _).drew).trans hf; have XB : Hid (Box w5 w4.heap.size 0 (f3 0 0 0)) := HZB.out.quiet hf; obtain ⟨y0, y1, y2, y3⟩ := XB.out.cells; have z0 := XB.out.frozen 0; have z1 := XB.out.frozen 1; have z2 := XB.out.frozen 2; have z3 := XB.out.frozen 3; simp only [f3] at y1 y2 y3; clear hU hf)
      | (go_at_call 29; refine (G1.out _ _ HDe.out).mono ?_; rintro e w5 ⟨u, rfl, hU, hf⟩; obtain ⟨au, cu, hu⟩ := hU.shape; rw [HL.out] at hu; subst hu; have FF : Hid (Fr Nobody w4 w5) := ((Fr.refl _ w4).drew).trans hf; clear hU hf))
    all_goals
      first
      | (
          have HX : Hid (Box (put4 w5 w4.heap.size ka Fa) w4.heap.size ka Fa) := put4_box XB.out
          have HO5 : Hid (Or w (put4 w5 w4.heap.size ka Fa) br P k) := (H4.out.quiet FF.out).put4 XB.out H4.out.fr.size
          have W5 : Hid (Box (put4 w5 w4.heap.size ka Fa) w.heap.size kd F) := (put4_fr (S := fun q => q = w4.heap.size) (Fr.refl _ w5) (.inl rfl)).block w.heap.size (Array.getElem?_eq_some_iff.1 (W4.out.quiet FF.out)).1 (by have := (Array.getElem?_eq_some_iff.1 W4.out).1; omega) |>.trans (W4.out.quiet FF.out)
          clear p0 p1 p2 p3 y0 y1 y2 y3 z0 z1 z2 z3
          obtain ⟨p0, p1, p2, p3⟩ := W5.out.cells
          have hA := HA.out
          unfold put4 at p0 p1 p2 p3
          go_wp2_with fail
          refine (G2.out _ br HO5.out).mono ?_
          rintro e w6 ⟨rfl, hO, hf6⟩
          have H6 : Hid (Or w w6 br P (k + rn)) := hO
          have X6 : Hid (Box w6 w4.heap.size ka Fa) := HX.out.fr1 hf6 (HO5.out.ne_box HX.out)
          clear p0 p1 p2 p3
          obtain ⟨x0, x1, x2, x3⟩ := X6.out.cells
          have q6 : w4.heap.size < w6.heap.size := World.block_lt_of_cell? w6 _ x0
          have q7 : w6.heap.size ≠ w4.heap.size := by omega
          have H7 : Hid (Or w (w6.alloc (.cells #[.int .u8 (ka : Int), .int .i32 (Fa 0), .int .i32 (Fa 1), .int .i32 (Fa 2)] 24)) br P (k + rn)) := H6.out.quiet ((Fr.refl _ _).alloc _)
          clear hO hf6 HX HO5 H6 W5
          go_wp2_with fail
          refine (G5.out w _ br H7.out).mono ?_
          rintro e w8 ⟨rfl, hO⟩
          have H8 : Hid (Fr Nobody w w8) := hO.fr
          clear hO H7
          go_wp2
          go_ret
          exact ⟨rfl, H8.out⟩)
      | (
          have HX : Hid (Box (w5.alloc (.cells #[.int .u8 (ka : Int), .int .i32 (Fa 0), .int .i32 (Fa 1), .int .i32 (Fa 2)] 24)) w5.heap.size ka Fa) := Box.new w5 ka Fa
          have HO5 : Hid (Or w (w5.alloc (.cells #[.int .u8 (ka : Int), .int .i32 (Fa 0), .int .i32 (Fa 1), .int .i32 (Fa 2)] 24)) br P k) := (H4.out.quiet FF.out).quiet ((Fr.refl _ _).alloc _)
          have W5 : Hid (Box w5 w.heap.size kd F) := W4.out.quiet FF.out
          clear p0 p1 p2 p3
          obtain ⟨p0, p1, p2, p3⟩ := W5.out.cells
          have q4 : w.heap.size < w5.heap.size := World.block_lt_of_cell? w5 _ p0
          have q5 : w5.heap.size ≠ w.heap.size := by omega
          have hA := HA.out
          go_wp2_with fail
          refine (G2.out _ br HO5.out).mono ?_
          rintro e w6 ⟨rfl, hO, hf6⟩
          have H6 : Hid (Or w w6 br P (k + rn)) := hO
          have X6 : Hid (Box w6 w5.heap.size ka Fa) := HX.out.fr1 hf6 (HO5.out.ne_box HX.out)
          clear p0 p1 p2 p3 q4 q5
          obtain ⟨x0, x1, x2, x3⟩ := X6.out.cells
          have q6 : w5.heap.size < w6.heap.size := World.block_lt_of_cell? w6 _ x0
          have q7 : w6.heap.size ≠ w5.heap.size := by omega
          have H7 : Hid (Or w (w6.alloc (.cells #[.int .u8 (ka : Int), .int .i32 (Fa 0), .int .i32 (Fa 1), .int .i32 (Fa 2)] 24)) br P (k + rn)) := H6.out.quiet ((Fr.refl _ _).alloc _)
          clear hO hf6 HX HO5 H6 W5
          go_wp2_with fail
          refine (G5.out w _ br H7.out).mono ?_
          rintro e w8 ⟨rfl, hO⟩
          have H8 : Hid (Fr Nobody w w8) := hO.fr
          clear hO H7
          go_wp2
          go_ret
          exact ⟨rfl, H8.out⟩)
  · have HD : Hid (Bs w4 (.slice (a3.map (fun x => x.add k)) (ll - k) (c3 - k)) ((bitsB P).drop k)) := by rw [if_neg e] at HD0; exact HD0
    clear HD0
    go_wp2_with fail
    have HDd : Hid (Bs ((w4.alloc (.cells #[.int .u8 0, .int .i32 0, .int .i32 0, .int .i32 0] 24)).drew) _ ((bitsB P).drop k)) := Bs.quiet HD.out (((Fr.refl _ w4).alloc _).drew)
    have HZB : Hid (Box ((w4.alloc (.cells #[.int .u8 0, .int .i32 0, .int .i32 0, .int .i32 0] 24)).drew) w4.heap.size 0 (f3 0 0 0)) := (Box.new w4 0 (f3 0 0 0)).quiet ((Fr.refl _ _).drew)
    have qa : w.heap.size < w4.heap.size := World.block_lt_of_cell? w4 _ p0
    have qb : w4.heap.size ≠ w.heap.size := by omega
    have HDe : Hid (Bs w4.drew _ ((bitsB P).drop k)) := Bs.quiet HD.out ((Fr.refl _ w4).drew)
    go_region_with (first
      | (go_at_call 29; refine (G1.out _ _ HDd.out).mono ?_; rintro e w5 ⟨u, rfl, hU, hf⟩; obtain ⟨au, cu, hu⟩ := hU.shape; rw [HL.out] at hu; subst hu; have FF : Hid (Fr Nobody w4 w5) := (((Fr.refl _ w4).alloc _).drew).trans hf; have XB : Hid (Box w5 w4.heap.size 0 (f3 0 0 0)) := HZB.out.quiet hf; obtain ⟨y0, y1, y2, y3⟩ := XB.out.cells; have z0 := XB.out.frozen 0; have z1 := XB.out.frozen 1; have z2 := XB.out.frozen 2; have z3 := XB.out.frozen 3; simp only [f3] at y1 y2 y3; clear hU hf)
      | (go_at_call 29; refine (G1.out _ _ HDe.out).mono ?_; rintro e w5 ⟨u, rfl, hU, hf⟩; obtain ⟨au, cu, hu⟩ := hU.shape; rw [HL.out] at hu; subst hu; have FF : Hid (Fr Nobody w4 w5) := ((Fr.refl _ w4).drew).trans hf; clear hU hf))
    all_goals
      first
      | (
          have HX : Hid (Box (put4 w5 w4.heap.size ka Fa) w4.heap.size ka Fa) := put4_box XB.out
          have HO5 : Hid (Or w (put4 w5 w4.heap.size ka Fa) br P k) := (H4.out.quiet FF.out).put4 XB.out H4.out.fr.size
          have W5 : Hid (Box (put4 w5 w4.heap.size ka Fa) w.heap.size kd F) := (put4_fr (S := fun q => q = w4.heap.size) (Fr.refl _ w5) (.inl rfl)).block w.heap.size (Array.getElem?_eq_some_iff.1 (W4.out.quiet FF.out)).1 (by have := (Array.getElem?_eq_some_iff.1 W4.out).1; omega) |>.trans (W4.out.quiet FF.out)
          clear p0 p1 p2 p3 y0 y1 y2 y3 z0 z1 z2 z3
          obtain ⟨p0, p1, p2, p3⟩ := W5.out.cells
          have hA := HA.out
          unfold put4 at p0 p1 p2 p3
          go_wp2_with fail
          refine (G2.out _ br HO5.out).mono ?_
          rintro e w6 ⟨rfl, hO, hf6⟩
          have H6 : Hid (Or w w6 br P (k + rn)) := hO
          have X6 : Hid (Box w6 w4.heap.size ka Fa) := HX.out.fr1 hf6 (HO5.out.ne_box HX.out)
          clear p0 p1 p2 p3
          obtain ⟨x0, x1, x2, x3⟩ := X6.out.cells
          have q6 : w4.heap.size < w6.heap.size := World.block_lt_of_cell? w6 _ x0
          have q7 : w6.heap.size ≠ w4.heap.size := by omega
          have H7 : Hid (Or w (w6.alloc (.cells #[.int .u8 (ka : Int), .int .i32 (Fa 0), .int .i32 (Fa 1), .int .i32 (Fa 2)] 24)) br P (k + rn)) := H6.out.quiet ((Fr.refl _ _).alloc _)
          clear hO hf6 HX HO5 H6 W5
          go_wp2_with fail
          refine (G5.out w _ br H7.out).mono ?_
          rintro e w8 ⟨rfl, hO⟩
          have H8 : Hid (Fr Nobody w w8) := hO.fr
          clear hO H7
          go_wp2
          go_ret
          exact ⟨rfl, H8.out⟩)
      | (
          have HX : Hid (Box (w5.alloc (.cells #[.int .u8 (ka : Int), .int .i32 (Fa 0), .int .i32 (Fa 1), .int .i32 (Fa 2)] 24)) w5.heap.size ka Fa) := Box.new w5 ka Fa
          have HO5 : Hid (Or w (w5.alloc (.cells #[.int .u8 (ka : Int), .int .i32 (Fa 0), .int .i32 (Fa 1), .int .i32 (Fa 2)] 24)) br P k) := (H4.out.quiet FF.out).quiet ((Fr.refl _ _).alloc _)
          have W5 : Hid (Box w5 w.heap.size kd F) := W4.out.quiet FF.out
          clear p0 p1 p2 p3
          obtain ⟨p0, p1, p2, p3⟩ := W5.out.cells
          have q4 : w.heap.size < w5.heap.size := World.block_lt_of_cell? w5 _ p0
          have q5 : w5.heap.size ≠ w.heap.size := by omega
          have hA := HA.out
          go_wp2_with fail
          refine (G2.out _ br HO5.out).mono ?_
          rintro e w6 ⟨rfl, hO, hf6⟩
          have H6 : Hid (Or w w6 br P (k + rn)) := hO
          have X6 : Hid (Box w6 w5.heap.size ka Fa) := HX.out.fr1 hf6 (HO5.out.ne_box HX.out)
          clear p0 p1 p2 p3 q4 q5
          obtain ⟨x0, x1, x2, x3⟩ := X6.out.cells
          have q6 : w5.heap.size < w6.heap.size := World.block_lt_of_cell? w6 _ x0
          have q7 : w6.heap.size ≠ w5.heap.size := by omega
          have H7 : Hid (Or w (w6.alloc (.cells #[.int .u8 (ka : Int), .int .i32 (Fa 0), .int .i32 (Fa 1), .int .i32 (Fa 2)] 24)) br P (k + rn)) := H6.out.quiet ((Fr.refl _ _).alloc _)
          clear hO hf6 HX HO5 H6 W5
          go_wp2_with fail
          refine (G5.out w _ br H7.out).mono ?_
          rintro e w8 ⟨rfl, hO⟩
          have H8 : Hid (Fr Nobody w w8) := hO.fr
          clear hO H7
          go_wp2
          go_ret
          exact ⟨rfl, H8.out⟩)
theorem compReads_walk (w : World) (ht : Tab w) (a0 : Option Addr) (len0 cap0 : Nat) (z0 : List Int) (w0 : IsRow .u8 w a0 len0 cap0 z0) (a1 : Int) (w1 : (Lit.int .u8 a1).wf = true) (kd : Int) (wk : ok8 kd) (a : Int) (wa : ok32 a) (b : Int) (wb : ok32 b) (c : Int) (wc : ok32 c) :
    Calls Tryd.prog 6 #[.slice a0 len0 cap0, .int .u8 a1, .agg #[.int .u8 kd, .int .i32 a, .int .i32 b, .int .i32 c]] w fun e w' => e = .returned (.bool true) ∧ Below w.heap.size w w' := by
  obtain ⟨hl, hm, hI, hw⟩ := w0.ints
  obtain ⟨hc, hn⟩ := w0.more
  have hb : ∀ x ∈ z0.take len0, 0 ≤ x ∧ x ≤ 255 := fun x hx => by
    have := hw x hx
    simpa [Lit.wf, IntKind.min, IntKind.max, IntKind.signed, IntKind.bits] using this
  obtain ⟨s, rfl, hs⟩ := ok8_nat w1
  obtain ⟨kd, rfl, hkd⟩ := ok8_nat wk
  obtain ⟨P, hPl, hPa, hPb⟩ := bytes_of w a0 _ (min len0 40) hI hb (by omega)
  refine (compReads_fin w ht a0 len0 cap0 (min len0 40) s _ kd hkd (f3 a b c) P (by omega) (by omega) (by omega) hc hm hn hPl hPa hPb (by omega) rfl).mono ?_
  rintro e w' ⟨rfl, hf⟩
  exact ⟨rfl, hf.below (Nat.le_refl _) (fun _ _ => id)⟩
theorem laidOut : laidOutB Tryd.prog = true := by kernel_rfl

set_option maxRecDepth 100000 in
theorem compReads_lifted (os : Os) (started : os.Started) (H : Type) (enc : TypeId × Value → H) :
    ReturnsInHanded {} Tryd.checked os 6 .any (fun w args => (Rows.compReadsSpec.pre enc Tryd.prog Tryd.f6 [] false w args ∧ laidMetH Tryd.prog laid1 w) ∧ sizedMet enc Tryd.prog Tryd.f6 (OpenSpec.ofChange Rows.compReadsSpec) false w args) (Rows.compReadsSpec.post enc Tryd.prog Tryd.f6 false true false false) := by
  refine returnsInHanded_of_change_and (C := Tryd.checked) (X := fun w _ => laidMetH Tryd.prog laid1 w) (fun _ _ _ hh h => h.of_heap hh) own started (by kernel_rfl) Tryd.func6
    (ChangeSpec.witness_shaped (enc := enc) (C := Tryd.checked) (os := os) (X := fun w _ => laidMetH Tryd.prog laid1 w) false (World.doorLaid Tryd.prog 400 os) #[.slice none 0 0, .int .u8 0, .agg #[.int .u8 0, .int .i32 0, .int .i32 0, .int .i32 0]] 8 rfl (World.shaped_of_RefB (by kernel_rfl) (by kernel_rfl)) (by kernel_rfl) (by kernel_rfl) (by kernel_rfl) (door_met os _)) ?_
  intro W base args ds gs before hval0 hW _ _ hL _
  have hval : ∀ (j : Nat) t v, Tryd.f6.params[j]? = some t → args[j]? = some v → Value.okWide Tryd.prog W .any base t v := hval0
  have hW' := hW
  obtain ⟨p, q, hA0, hV, rfl, hfz, hnd⟩ := hW
  have hA : DataW.TrodAll enc Tryd.prog W 0 (fun _ => true) true Tryd.f6.params.toList args.toList ds p := hA0
  rw [Tryd.params6] at hA hval
  obtain ⟨v0, vs0, d0, ds0, p0, q0, hargs, rfl, rfl, h0, r0⟩ := trodAll_cons hA
  obtain ⟨v1, vs1, d1, ds1, p1, q1, rfl, rfl, rfl, h1, r1⟩ := trodAll_cons r0
  obtain ⟨v2, vs2, d2, ds2, p2, q2, rfl, rfl, rfl, h2, r2⟩ := trodAll_cons r1
  obtain ⟨rfl, rfl, rfl⟩ := trodAll_nil r2
  obtain rfl : args = #[v0, v1, v2] := by cases args; simp_all
  obtain ⟨rfl, rfl⟩ := trodVars_none hV
  obtain ⟨a0, len0, cap0, rfl⟩ := okWide_slice Tryd.underlying35 (hval 0 35 v0 rfl rfl)
  have k0 := h0
  have lt0 : ∀ x ∈ p0, x.block < W.heap.size := by obtain ⟨m, hm⟩ := k0; exact DataW.trod_lt m _ _ _ hm
  obtain ⟨z0, w0⟩ : ∃ zs, IsRow .u8 W a0 len0 cap0 zs := by
    obtain ⟨fuel, hf⟩ := h0
    rcases open_ints Tryd.underlying35 Tryd.underlying5 (by kernel_rfl) hf with ⟨hcs, _⟩ | ⟨x, l, c, zs, hcs, _, hl, hm, hz, _, hcell, hwz⟩
    · simp [Value.cells] at hcs
      obtain ⟨rfl, rfl, rfl⟩ := hcs
      exact ⟨[], .inl ⟨rfl, rfl, rfl, rfl⟩⟩
    · simp [Value.cells] at hcs
      obtain ⟨rfl, rfl, rfl⟩ := hcs
      exact ⟨zs, .inr ⟨_, rfl, hl, hm, by simpa using hz, hcell, hwz⟩⟩
  obtain ⟨a1, rfl, rfl, rfl, w1⟩ := open_int Tryd.underlying5 (hval 1 5 v1 rfl rfl) h1
  obtain ⟨k2, x2, y2, z2, rfl, rfl, rfl, wk2, wx2, wy2, wz2⟩ := open_comp (hval 2 24 v2 rfl rfl) h2
  clear hA0 hval0
  refine (compReads_walk W (of_laid hL) a0 len0 cap0 z0 w0 a1 w1 k2 wk2 x2 wx2 y2 wy2 z2 wz2).mono fun e W' ⟨he, bel⟩ => ?_
  subst he
  exact ⟨_, rfl, _, _, _, [], _, [], hW', trodAll_mk1 (shut_bool Tryd.underlying4 _), (trodAll_cons_mk (Below.trod laidOut (by kernel_rfl) (of_decide_eq_true (by kernel_rfl)) k0 bel lt0) (trodAll_cons_mk (shut_int Tryd.underlying5 w1) (trodAll_cons_mk (shut_comp wk2 wx2 wy2 wz2) trodAll_mk0))), rfl, bel.frame _, fun h => by cases h⟩

theorem compReads_row : Rows.CompReadsSaid :=
  OpenClaim.holds_of_wide 6 Tryd.f6 rfl rfl rfl rfl rfl rfl rfl ⟨rfl, rfl, rfl, rfl, rfl⟩ rfl rfl rfl rfl rfl (by kernel_rfl) Tryd.func6 (by kernel_rfl)
    (of_decide_eq_true (by kernel_rfl)) (by unfold Func.isWrapper; first | (rw [if_pos (by decide +kernel)]; kernel_rfl) | (rw [if_neg (by decide +kernel)]; exact ⟨rfl, rfl⟩))
    (fun os started H enc _ => compReads_lifted os started H enc)

theorem compReads_holds : Rows.CompReadsCardSaid :=
  Claim7.holds_tied_plain_at .later [] [.data] true (true, "8ca0d6b8ccc34495e322e2d592ec33e163ccb62834ee7392b16817c4c942c2a4") false
    compReads_row (fun _ h => by cases h) (by kernel_rfl) (fun _ h => by cases h) compReads_row_tie rfl ⟨rfl, rfl⟩ (by kernel_rfl) rfl
    (fun f fn hf hfn => by
      obtain rfl : f = 6 := Option.some.inj ((show Tryd.prog.funcNamed "pinnace/pinnacelaw06.CompReads" = some 6 by kernel_rfl).symm.trans hf) |>.symm
      obtain rfl : fn = Tryd.f6 := (Option.some.inj (Tryd.func6.symm.trans hfn)).symm
      exact ⟨by kernel_rfl, fun j t ht => by
        rw [Tryd.params6] at ht
        have hm : t ∈ [35, 5, 24] := by simpa using Array.mem_of_getElem? ht
        have hall : ([35, 5, 24].all fun u => !Tryd.prog.wantsStandIn u) = true := by kernel_rfl
        exact (show Tryd.prog.wantsStandIn t = false by simpa using List.all_eq_true.1 hall t hm)⟩)
    (by kernel_rfl)

end Go.Proofs.YtpmolkomnnpepabDoor
