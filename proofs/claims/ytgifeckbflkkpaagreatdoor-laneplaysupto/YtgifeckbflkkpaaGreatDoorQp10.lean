/- GetIn of package nums: the closure, Try, and the whole. -/
import Derived.Test.YtgifeckbflkkpaaGreatDoorQp09
import Derived.Deep.RegionWith
import Derived.Test.YtgifeckbflkkpaaGreatDoorQp08
import Derived.Laws.ResultCell
import Derived.Laws.StructEq
import Derived.ChangeKeysEq
namespace Go.Proofs.YtgifeckbflkkpaaGreatDoor
open Go.RowKit
set_option linter.unusedVariables false
set_option maxHeartbeats 2000000
set_option maxRecDepth 100000
def gi (lo hi : Int) (L : List Bool) : Int × Int × Nat :=
 if hi < lo then (1,0,0)
 else if L.length < wid lo hi then (2,0,0)
 else if (hi - lo).toNat < num (L.take (wid lo hi)) then (5,0,0)
 else (0,lo + (num (L.take (wid lo hi)) : Nat),wid lo hi)
theorem rgetIn_any (w : World) (v : Value) (L : List Bool) (lo hi : Int) (h : Bs w v L) (hL : L.length ≤ 100000) (h0 : -9223372036854775808 ≤ lo) (h1 : hi ≤ 9223372036854775807) (h2 : lo ≤ 9223372036854775807) (h3 : -9223372036854775808 ≤ hi) :
  Calls Tryz.prog 99 #[v,.int .i64 lo,.int .i64 hi] w fun e w' => ∃ u,e = .returned (.tuple #[.int .i64 (gi lo hi L).2.1,u,.int .i64 (gi lo hi L).1]) ∧ GvRest w w' u (L.drop (gi lo hi L).2.2) := by
 obtain ⟨ao,cap,rfl⟩ := h.shape
 have H : Hid (Bs w (.slice ao L.length cap) L) := h
 clear h
 unfold gi
 by_cases c1 : hi < lo
 ·rw [if_pos c1]
  clear h0 h1 h2 h3
  go_enter Tryz.func99,Tryz.ntmps99
  go_wp2
  go_ret3
  exact ⟨_,rfl,H.out,Fr.refl _ _⟩
 ·rw [if_neg c1]
  have G : Hid _ := fun w => rwidth_any lo hi w h0 h1 h2 h3
  have hn : wid lo hi ≤ 64 := wid_le lo hi h0 h1
  obtain ⟨d,hd⟩ : ∃ d : Nat,d = (hi - lo).toNat := ⟨_,rfl⟩
  have hq : IntKind.u64.wrap (IntKind.u64.wrap hi - IntKind.u64.wrap lo) = (d : Int) := by simp only [wrapU]; omega
  rw [← hd]
  generalize wid lo hi = n at *
  by_cases c2 : L.length < n
  ·rw [if_pos c2]
   have G2 : Hid (True → _) := fun _ => rget_short w _ L n H.out hn c2
   clear h0 h1 h2 h3 hq hd hn
   go_enter Tryz.func99,Tryz.ntmps99
   go_wp2_with fail
   refine (G.out w).mono ?_
   rintro e w1 ⟨rfl,hw⟩
   have hw2 := hw.symm
   clear hw
   subst hw2
   go_wp2_with fail
   refine (G2.out trivial).mono ?_
   rintro e w1 ⟨rfl,hw⟩
   have hw2 := hw.symm
   clear hw
   subst hw2
   go_wp2
   go_ret3
   exact ⟨_,rfl,H.out,Fr.refl _ _⟩
  ·rw [if_neg c2]
   have G2 : Hid (True → _) := fun _ => rget_ok w _ L n H.out hn (by omega) (by omega)
   generalize hx : num (L.take n) = x at *
   by_cases c3 : d < x
   ·rw [if_pos c3]
    have c3' : (d : Int) < (x : Int) := by omega
    clear h0 h1 h2 h3 hd hn hx
    go_enter Tryz.func99,Tryz.ntmps99
    go_wp2_with fail
    refine (G.out w).mono ?_
    rintro e w1 ⟨rfl,hw⟩
    have hw2 := hw.symm
    clear hw
    subst hw2
    go_wp2_with fail
    refine (G2.out trivial).mono ?_
    rintro e w2 ⟨v2,rfl,hB,hf⟩
    have H2 : Hid (Fr Nobody w w2) := hf
    clear hB hf
    go_wp2
    go_ret3
    exact ⟨_,rfl,H.out.quiet H2.out,H2.out⟩
   ·rw [if_neg c3]
    have c3' : ¬ (d : Int) < (x : Int) := by omega
    obtain ⟨y,hy⟩ : ∃ y : Int,y = lo + (x : Int) := ⟨_,rfl⟩
    rw [← hy]
    have hyq : IntKind.i64.wrap (IntKind.u64.wrap (IntKind.u64.wrap lo + (x : Int))) = y := by simp only [wrapU,IntKind.wrap_i64]; omega
    clear h0 h1 h2 h3 hd hn hx hy
    go_enter Tryz.func99,Tryz.ntmps99
    go_wp2_with fail
    refine (G.out w).mono ?_
    rintro e w1 ⟨rfl,hw⟩
    have hw2 := hw.symm
    clear hw
    subst hw2
    go_wp2_with fail
    refine (G2.out trivial).mono ?_
    rintro e w2 ⟨v2,rfl,hB,hf⟩
    have H2 : Hid (Fr Nobody w w2 ∧ Bs w2 v2 (L.drop n)) := ⟨hf,hB⟩
    clear hB hf
    go_wp2
    go_ret3
    exact ⟨_,rfl,H2.out.2,H2.out.1⟩
def I32 (F : Nat → Int) : Prop := ∀ j,j < 3 → -2147483648 ≤ F j ∧ F j ≤ 2147483647
theorem boxes (w : World) (k k' : Nat) (F G : Nat → Int) :
  Box ((w.alloc (.cells (cmp k F) 63)).alloc (.cells (cmp k' G) 63)) w.heap.size k F ∧ Box ((w.alloc (.cells (cmp k F) 63)).alloc (.cells (cmp k' G) 63)) (w.heap.size + 1) k' G ∧ Fr Nobody w ((w.alloc (.cells (cmp k F) 63)).alloc (.cells (cmp k' G) 63)) := by
 refine ⟨(Box.new w k F).quiet ((Fr.refl _ _).alloc _),?_,((Fr.refl _ _).alloc _).alloc _⟩
 have := Box.new (w.alloc (.cells (cmp k F) 63)) k' G
 simpa using this
theorem more_any (w : World) (x y : Int) (hx : -2147483648 ≤ x ∧ x ≤ 2147483647) (hy : -2147483648 ≤ y ∧ y ≤ 2147483647) :
  Calls Tryz.prog 247 #[.int .i32 x,.int .i32 y] w fun e w' => e = .returned (.int .u64 ((zig (y - x) : Nat) : Int)) ∧ w' = w := by
 have HZ : Hid (∀ w,_) := fun w => zig_any (y - x) w (by omega) (by omega)
 generalize zig (y - x) = z at *
 go_enter Tryz.func247,Tryz.ntmps247
 go_wp2_with fail
 refine (HZ.out _).mono ?_
 rintro e w1 ⟨rfl,rfl⟩
 go_wp2
 go_ret
 exact ⟨rfl,rfl⟩
def ckS (k k' : Nat) (F G : Nat → Int) : Nat := if chk k F = 0 then (if chk k' G = 0 then (if k = k' then 0 else 4) else chk k' G) else chk k F
theorem checkStep_any (w : World) (ht : Tab w) (k k' : Nat) (hk : k < 256) (hk' : k' < 256) (F G : Nat → Int) :
  Calls Tryz.prog 229 #[.agg (cmp k F),.agg (cmp k' G)] w fun e w' => e = .returned (.int .i64 ((ckS k k' F G : Nat) : Int)) ∧ Fr Nobody w w' := by
 obtain ⟨b1,b2,hf⟩ := boxes w k k' F G
 have H : Hid (Tab w) := ht
 have HB1 : Hid _ := b1
 have HB2 : Hid _ := b2
 have HF : Hid _ := hf
 have C1 : Hid (∀ w,Tab w → Calls Tryz.prog 147 #[.agg (cmp k F)] w fun e w' => e = .returned (.int .i64 ((chk k F : Nat) : Int)) ∧ Fr Nobody w w') := fun w h => check_any w h k hk F
 have C2 : Hid (∀ w,Tab w → Calls Tryz.prog 147 #[.agg (cmp k' G)] w fun e w' => e = .returned (.int .i64 ((chk k' G : Nat) : Int)) ∧ Fr Nobody w w') := fun w h => check_any w h k' hk' G
 clear b1 b2 hf ht
 unfold ckS
 generalize chk k F = x at *
 generalize chk k' G = y at *
 by_cases hx : x = 0
 ·rw [if_pos hx]
  subst hx
  by_cases hy : y = 0
  ·rw [if_pos hy]
   subst hy
   by_cases e : k = k'
   ·rw [if_pos e]
    subst e
    unfold cmp at *
    go_enter Tryz.func229,Tryz.ntmps229
    go_wp2_with fail
    refine (C1.out _ (H.out.quiet HF.out)).mono ?_
    rintro e w1 ⟨rfl,hf1⟩
    have HF1 : Hid (Fr Nobody w w1) := HF.out.trans hf1
    have B2 : Hid (Box w1 (w.heap.size + 1) k G) := Box.quiet HB2.out hf1
    have B1 : Hid (Box w1 w.heap.size k F) := Box.quiet HB1.out hf1
    obtain ⟨c0,c1,c2,c3⟩ := B2.out.cells
    clear hf1
    go_wp2_with fail
    refine (C2.out _ (H.out.quiet HF1.out)).mono ?_
    rintro e w2 ⟨rfl,hf2⟩
    have HF2 : Hid (Fr Nobody w w2) := HF1.out.trans hf2
    have d0 := (B2.out.quiet hf2).kind
    have e0 := (B1.out.quiet hf2).kind
    clear hf2 c0 c1 c2 c3
    go_wp2
    go_ret
    exact ⟨rfl,HF2.out⟩
   ·rw [if_neg e]
    have hne : ((k : Int) != (k' : Int)) = true := by rw [bne_iff_ne]; omega
    unfold cmp at *
    go_enter Tryz.func229,Tryz.ntmps229
    go_wp2_with fail
    refine (C1.out _ (H.out.quiet HF.out)).mono ?_
    rintro e w1 ⟨rfl,hf1⟩
    have HF1 : Hid (Fr Nobody w w1) := HF.out.trans hf1
    have B2 : Hid (Box w1 (w.heap.size + 1) k' G) := Box.quiet HB2.out hf1
    have B1 : Hid (Box w1 w.heap.size k F) := Box.quiet HB1.out hf1
    obtain ⟨c0,c1,c2,c3⟩ := B2.out.cells
    clear hf1
    go_wp2_with fail
    refine (C2.out _ (H.out.quiet HF1.out)).mono ?_
    rintro e w2 ⟨rfl,hf2⟩
    have HF2 : Hid (Fr Nobody w w2) := HF1.out.trans hf2
    have d0 := (B2.out.quiet hf2).kind
    have e0 := (B1.out.quiet hf2).kind
    clear hf2 c0 c1 c2 c3
    go_wp2
    go_ret
    exact ⟨rfl,HF2.out⟩
  ·rw [if_neg hy]
   have hne : ((y : Int) != 0) = true := by rw [bne_iff_ne]; omega
   unfold cmp at *
   go_enter Tryz.func229,Tryz.ntmps229
   go_wp2_with fail
   refine (C1.out _ (H.out.quiet HF.out)).mono ?_
   rintro e w1 ⟨rfl,hf1⟩
   have HF1 : Hid (Fr Nobody w w1) := HF.out.trans hf1
   have B2 : Hid (Box w1 (w.heap.size + 1) k' G) := Box.quiet HB2.out hf1
   obtain ⟨c0,c1,c2,c3⟩ := B2.out.cells
   clear hf1
   go_wp2_with fail
   refine (C2.out _ (H.out.quiet HF1.out)).mono ?_
   rintro e w2 ⟨rfl,hf2⟩
   have HF2 : Hid (Fr Nobody w w2) := HF1.out.trans hf2
   clear hf2
   go_wp2
   go_ret
   exact ⟨rfl,HF2.out⟩
 ·rw [if_neg hx]
  have hne : ((x : Int) != 0) = true := by rw [bne_iff_ne]; omega
  unfold cmp at *
  go_enter Tryz.func229,Tryz.ntmps229
  go_wp2_with fail
  refine (C1.out _ (H.out.quiet HF.out)).mono ?_
  rintro e w1 ⟨rfl,hf1⟩
  have HF1 : Hid (Fr Nobody w w1) := HF.out.trans hf1
  clear hf1
  go_wp2
  go_ret
  exact ⟨rfl,HF1.out⟩
def mz (F G : Nat → Int) (j : Nat) : Nat := zig (G j - F j)
def fsz (k : Nat) (F G : Nat → Int) (j : Nat) : Nat := if mz F G j = 0 then 1 else if mz F G j ≤ 16 then 6 else 2 + wd k j
def ssum (k : Nat) (F G : Nat → Int) : Nat → Nat
 | 0 => 0
 | n + 1 => ssum k F G n + fsz k F G n
theorem fsz_le (k : Nat) (F G : Nat → Int) (j : Nat) (h : j < cnt k) : 1 ≤ fsz k F G j ∧ fsz k F G j ≤ 22 := by
 have := wd_le k j h
 unfold fsz; split
 ·omega
 ·split <;> omega
theorem ssum_le (k n : Nat) (F G : Nat → Int) (h : n ≤ cnt k) : ssum k F G n ≤ 22 * n := by
 induction n with
 | zero => simp [ssum]
 | succ n ih =>
  have := ih (by omega)
  have := fsz_le k F G n (by omega)
  simp only [ssum]; omega
theorem fieldStepSize_any (w : World) (ht : Tab w) (k k0 j : Nat) (hk : k < 256) (hj : j < cnt k) (F G : Nat → Int) (hF : I32 F) (hG : I32 G) :
  Calls Tryz.prog 246 #[.agg (cmp k0 F),.agg (cmp k G),.int .i64 (j : Int)] w fun e w' => e = .returned (.int .i64 ((fsz k F G j : Nat) : Int)) ∧ Fr Nobody w w' := by
 obtain ⟨b1,b2,hf⟩ := boxes w k0 k F G
 have H : Hid (Tab w) := ht
 have hc := cnt_le k
 have hj3 : j < 3 := by omega
 have x1 := b1.at j hj3
 have x2 := b2.at j hj3
 have x3 := b2.kind
 have HF : Hid _ := hf
 have hm : fsz k F G j = (if mz F G j = 0 then 1 else if mz F G j ≤ 16 then 6 else 2 + wd k j) := rfl
 have M : Hid (∀ w,Calls Tryz.prog 247 #[.int .i32 (F j),.int .i32 (G j)] w fun e w' => e = .returned (.int .u64 ((mz F G j : Nat) : Int)) ∧ w' = w) := fun w => more_any w (F j) (G j) (hF j hj3) (hG j hj3)
 have R : Hid (∀ w,Tab w → _) := fun w h => range_ok w h k hk j hj
 obtain ⟨l0,l1,l2,l3⟩ := rng_ok k j hj
 have WD : Hid (∀ w,Calls Tryz.prog 165 #[.int .i64 (lo k j),.int .i64 (hi k j)] w fun e w' => e = .returned (.int .i64 (wd k j : Nat)) ∧ w' = w) := fun w => width_any (lo k j) (hi k j) w (by omega) (by omega) (by omega) (by omega)
 have hw := wd_le k j hj
 rw [hm]
 clear hm hF hG b1 ht hf hj hc
 have HB2 : Hid _ := b2
 clear b2
 generalize mz F G j = z at *
 generalize wd k j = d at *
 generalize lo k j = a at *
 generalize hi k j = b at *
 by_cases h0 : z = 0
 ·rw [if_pos h0]
  subst h0
  unfold cmp at *
  generalize F j = f at *
  generalize G j = g at *
  go_enter Tryz.func246,Tryz.ntmps246
  go_wp2_with fail
  go_quiet (refine Calls.quiet_of_same (M.out _))
  have HG : Hid _ := HF.out.drewN nq
  go_wp2
  go_ret
  exact ⟨rfl,HG.out⟩
 ·rw [if_neg h0]
  have n0 : ((z : Int) == 0) = false := by rw [beq_eq_false_iff_ne]; omega
  by_cases h1 : z ≤ 16
  ·rw [if_pos h1]
   unfold cmp at *
   generalize F j = f at *
   generalize G j = g at *
   clear h0
   go_enter Tryz.func246,Tryz.ntmps246
   go_wp2_with fail
   go_quiet (refine Calls.quiet_of_same (M.out _))
   have HG : Hid _ := HF.out.drewN nq
   go_wp2
   go_ret
   exact ⟨rfl,HG.out⟩
  ·rw [if_neg h1]
   unfold cmp at *
   generalize F j = f at *
   generalize G j = g at *
   clear h0
   go_enter Tryz.func246,Tryz.ntmps246
   go_wp2_with fail
   go_quiet (refine Calls.quiet_of_same (M.out _))
   have HG : Hid _ := HF.out.drewN nq
   go_wp2_with fail
   refine (R.out _ (H.out.quiet HG.out)).mono ?_
   rintro e w1 ⟨rfl,hf1⟩
   have HG1 : Hid _ := HG.out.trans hf1
   clear hf1
   go_wp2_with fail
   refine (WD.out _).mono ?_
   rintro e w2 ⟨rfl,rfl⟩
   go_wp2
   go_ret
   refine ⟨?_,HG1.out⟩
   simp
theorem stepSize_any (w : World) (ht : Tab w) (k k0 : Nat) (hk : k < 256) (F G : Nat → Int) (hF : I32 F) (hG : I32 G) :
  Calls Tryz.prog 230 #[.agg (cmp k0 F),.agg (cmp k G)] w fun e w' => e = .returned (.int .i64 ((ssum k F G (cnt k) : Nat) : Int)) ∧ Fr Nobody w w' := by
 obtain ⟨b1,b2,hf⟩ := boxes w k0 k F G
 have H : Hid (Tab w) := ht
 have hc := cnt_le k
 have HF : Hid (Fr Nobody w _) := hf
 have HB1 : Hid (Box _ w.heap.size k0 F) := b1
 have HB2 : Hid (Box _ (w.heap.size + 1) k G) := b2
 obtain ⟨c,ec⟩ : ∃ c,cnt k = c := ⟨_,rfl⟩
 have EC : Hid (cnt k = c) := ec
 have S : Hid (∀ w j,Tab w → j < c → Calls Tryz.prog 246 #[.agg (cmp k0 F),.agg (cmp k G),.int .i64 ((j : Nat) : Int)] w fun e w' => e = .returned (.int .i64 ((fsz k F G j : Nat) : Int)) ∧ Fr Nobody w w') := fun w j h hj => fieldStepSize_any w h k k0 j hk (by rw [ec]; exact hj) F G hF hG
 have C : Hid (∀ w,Tab w → Calls Tryz.prog 203 #[.int .u8 (k : Int)] w fun e w' => e = .returned (.int .i64 (c : Int)) ∧ w' = w) := fun w h => by have := count_any w h k hk; rw [ec] at this; exact this
 have L : Hid (∀ n,n ≤ c → ssum k F G n ≤ 22 * n) := fun n hn => ssum_le k n F G (by rw [ec]; exact hn)
 have L2 : Hid (∀ j,j < c → fsz k F G j ≤ 22) := fun j hj => (fsz_le k F G j (by rw [ec]; exact hj)).2
 rw [ec] at hc
 rw [ec]
 clear ht hf b1 b2 ec hF hG
 unfold cmp at *
 go_enter Tryz.func230,Tryz.ntmps230
 go_wp2_with fail
 refine (C.out _ (H.out.quiet HF.out)).mono ?_
 rintro e w1 ⟨rfl,rfl⟩
 go_wp2
 go_loopw [5,10] (fun a b wr => ∃ j : Nat,j ≤ c ∧ b = .int .i64 j ∧ a = .int .i64 (ssum k F G j : Nat) ∧ Box wr w.heap.size k0 F ∧ Box wr (w.heap.size + 1) k G ∧ Fr Nobody w wr) (fun _ b _ => c - (intOf b).toNat)
 case atStart => exact ⟨0,by omega,rfl,rfl,HB1.out,HB2.out,HF.out⟩
 case round =>
  obtain ⟨j,hj,rfl,rfl,hb1,hb2,hf⟩ := hrel
  have HG : Hid (Fr Nobody w wr) := hf
  have B1 : Hid (Box wr w.heap.size k0 F) := hb1
  have B2 : Hid (Box wr (w.heap.size + 1) k G) := hb2
  clear hf hb1 hb2
  by_cases hlt : j < c
  ·obtain ⟨p0,p1,p2,p3⟩ := B1.out.cells
   obtain ⟨q0,q1,q2,q3⟩ := B2.out.cells
   have hb := L.out j (by omega)
   have hw := L2.out j hlt
   have HS : Hid (ssum k F G (j + 1) = ssum k F G j + fsz k F G j) := rfl
   have SJ : Hid (∀ w,Tab w → _) := fun w h => S.out w j h hlt
   generalize fsz k F G j = z at *
   generalize ssum k F G j = s at *
   go_wp2_with fail
   refine (SJ.out _ (H.out.quiet HG.out)).mono ?_
   rintro e w2 ⟨rfl,hf2⟩
   have HG2 : Hid (Fr Nobody w w2) := HG.out.trans hf2
   have B12 : Hid (Box w2 w.heap.size k0 F) := B1.out.quiet hf2
   have B22 : Hid (Box w2 (w.heap.size + 1) k G) := B2.out.quiet hf2
   clear hf2
   go_wp2
   go_roundw
   case rel => exact ⟨j + 1,by omega,by go_num,by rw [HS.out]; go_num,B12.out,B22.out,HG2.out⟩
   case measure => simp [intOf]; omega
  ·have e : j = c := by omega
   subst e
   go_wp2
   go_ret
   exact ⟨rfl,HG.out⟩
theorem eq_a3 (d : Nat) (a b c a' b' c' : Int) (w : World) : (Op.equalIn (d + 1 + 1) 61 (.agg #[.int .i32 a,.int .i32 b,.int .i32 c]) (.agg #[.int .i32 a',.int .i32 b',.int .i32 c'])).run Tryz.prog w = .ok ((a == a') && (b == b') && (c == c')) w := by
 have hi : ∃ i,Tryz.prog.info? 21 = some i := by
  have : (Tryz.prog.info? 21).isSome = true := by kernel_rfl
  exact Option.isSome_iff_exists.1 this
 obtain ⟨i,hi⟩ := hi
 have c1 : Tryz.prog.cellsOf 21 = 1 := by kernel_rfl
 have hz : (Tryz.prog.info? 21).map (·.size) = some 1 := by kernel_rfl
 have hu := Tryz.underlying21
 rw [run_equalIn_array w (d + 1) _ _ Tryz.underlying61 hi]
 simp only [Op.eqItems,show List.range 3 = [0,1,2] from rfl,c1]
 cases ha : (a == a') <;> cases hb : (b == b') <;> cases hc : (c == c') <;> go_simp
def Wt (w : World) (k : Nat) : Prop := ∃ cur f,w.heap[k]? = some (.cells cur 210 f) ∨ w.heap[k]? = some (.cells cur 5 f)
def Wf (w w' : World) : Prop := Fr (Wt w) w w'
theorem Wf.refl (w : World) : Wf w w := Fr.refl _ _
theorem Wf.of_quiet {w w' : World} (h : Fr Nobody w w') : Wf w w' := h.mono (fun _ _ k => k.elim)
theorem Wf.trans {a b c : World} (h : Wf a b) (k : Wf b c) : Wf a c := by
 refine ⟨k.os.trans h.os,k.tape.trans h.tape,k.output.trans h.output,Nat.le_trans h.size k.size,fun i hi hs => ?_⟩
 have e := h.block i hi hs
 refine (k.block i (Nat.lt_of_lt_of_le hi h.size) ?_).trans e
 rintro ⟨cur,f,hc⟩
 rw [e] at hc
 exact hs ⟨cur,f,hc⟩
theorem Wf.quiet {a b c : World} (h : Wf a b) (k : Fr Nobody b c) : Wf a c := h.trans (Wf.of_quiet k)
theorem Box.wf {w w' : World} {b k : Nat} {F : Nat → Int} (h : Box w b k F) (hf : Wf w w') : Box w' b k F := by
 refine (hf.block b (Array.getElem?_eq_some_iff.1 h).1 ?_).trans h
 rintro ⟨cur,f,hc⟩
 unfold Box at h
 rw [h] at hc
 simp at hc
theorem Bo.wf {B : Nat} {w w' : World} {v : Value} {L : List Bool} (h : Bo B w v L) (hf : Wf w w') : Bo B w' v L := by
 refine h.keep hf ?_
 rintro k cur hk ⟨cur',f,hc⟩
 rw [hk] at hc
 simp at hc
theorem Bs.wf {w w' : World} {v : Value} {L : List Bool} (h : Bs w v L) (hf : Wf w w') : Bs w' v L := by
 refine h.keep hf ?_
 rintro k cur hk ⟨cur',f,hc⟩
 rw [hk] at hc
 simp at hc
theorem Wr.wt {B : Nat} {w : World} {b : Nat} {g : Option Nat} {L : List Bool} (h : Wr B w b g L) (k : Nat) (hk : At b g k) : Wt w k := by
 obtain ⟨v,h1,h2,h3⟩ := h.obj
 rcases hk with rfl | hk
 ·exact ⟨_,_,.inl h1⟩
 ·rcases h2.2 with ⟨rfl,_⟩ | ⟨g',cap,cur,rfl,_,hgg,_⟩
  ·simp [Value.ownBlock] at h3
   rw [← h3] at hk; cases hk
  ·simp [Value.ownBlock] at h3
   rw [← h3] at hk
   cases hk
   exact ⟨_,_,.inr hgg⟩
def fb (k : Nat) (F : Nat → Int) (j : Nat) : List Bool := bitsN (wd k j) (F j - lo k j).toNat
theorem length_fb (k : Nat) (F : Nat → Int) (j : Nat) : (fb k F j).length = wd k j := length_bitsN _ _
def cb (k : Nat) (F : Nat → Int) : Nat → List Bool
 | 0 => []
 | n + 1 => cb k F n ++ fb k F n
theorem length_cb (k : Nat) (F : Nat → Int) (n : Nat) : (cb k F n).length = bsum k n := by
 induction n with
 | zero => rfl
 | succ n ih => rw [cb,List.length_append,ih,length_fb]; rfl
theorem chk_ok (k : Nat) (F : Nat → Int) (h : chk k F = 0) : k < 6 ∧ (∀ j,j < cnt k → lo k j ≤ F j ∧ F j ≤ hi k j) ∧ ∀ j,cnt k ≤ j → j < 3 → F j = 0 := by
 unfold chk at h
 by_cases h6 : 6 ≤ k
 ·rw [if_pos h6] at h; cases h
 ·rw [if_neg h6] at h
  cases hs : stray k F with
  | true => rw [hs,if_pos rfl] at h; cases h
  | false =>
   rw [hs,if_neg (by decide)] at h
   cases ho : outside k F with
   | true => rw [ho,if_pos rfl] at h; cases h
   | false => exact ⟨by omega,fun j hj => outside_no k j F ho hj,fun j hj h3 => stray_no k j F hs hj h3⟩
theorem bits_le (k : Nat) : bitsK k ≤ 60 := by
 have := bsum_le k (cnt k) (Nat.le_refl _)
 have := cnt_le k
 unfold bitsK; omega
def sb (k : Nat) (F G : Nat → Int) (j : Nat) : List Bool := if mz F G j = 0 then bitsN 1 0 else if mz F G j ≤ 16 then bitsN 2 3 ++ bitsN 4 (mz F G j - 1) else bitsN 2 1 ++ fb k G j
theorem length_sb (k : Nat) (F G : Nat → Int) (j : Nat) : (sb k F G j).length = fsz k F G j := by
 unfold sb fsz
 split
 ·rfl
 ·split
  ·rw [List.length_append,length_bitsN,length_bitsN]
  ·rw [List.length_append,length_bitsN,length_fb]
def sbs (k : Nat) (F G : Nat → Int) : Nat → List Bool
 | 0 => []
 | n + 1 => sbs k F G n ++ sb k F G n
theorem length_sbs (k : Nat) (F G : Nat → Int) (n : Nat) : (sbs k F G n).length = ssum k F G n := by
 induction n with
 | zero => rfl
 | succ n ih => rw [sbs,List.length_append,ih,length_sb]; rfl
theorem ckS_ok (k k' : Nat) (F G : Nat → Int) (h : ckS k k' F G = 0) : chk k F = 0 ∧ chk k' G = 0 ∧ k = k' := by
 unfold ckS at h
 by_cases h1 : chk k F = 0
 ·rw [if_pos h1] at h
  by_cases h2 : chk k' G = 0
  ·rw [if_pos h2] at h
   by_cases h3 : k = k'
   ·exact ⟨h1,h2,h3⟩
   ·rw [if_neg h3] at h; cases h
  ·rw [if_neg h2] at h; exact absurd h h2
 ·rw [if_neg h1] at h; exact absurd h h1
end Go.Proofs.YtgifeckbflkkpaaGreatDoor
