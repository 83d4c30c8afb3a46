/- The document's Step: a component's bits behind another one, on lists of bits. -/
import Derived.Test.YtgifeckbflkkpaaGreatDoorQp10
import Derived.Test.YtgifeckbflkkpaaGreatDoorQp38
import Derived.Test.YtgifeckbflkkpaaGreatDoorQp08
import Derived.Test.YtgifeckbflkkpaaGreatDoorQp16
namespace Go.Proofs.YtgifeckbflkkpaaGreatDoor
open Go.RowKit
set_option linter.unusedVariables false
set_option maxHeartbeats 4000000
set_option maxRecDepth 100000
theorem bs_new (w : World) (b : Bool) : Bs (w.alloc (.cells #[.bool b] 4)) (.slice (some ⟨w.heap.size,0,none⟩) 1 1) [b] :=
 Bs.of_row (L := [b]) (World.ownsRow_lit (base := 0) w #[.bool b] 1 (Nat.zero_le _) (by decide) rfl)
theorem rstep_ok (w : World) (k : Nat) (hk : k < 256) (F G : Nat → Int) (h1 : chk k F = 0) (h2 : chk k G = 0) :
  Calls Tryz.prog 81 #[.agg (cmp k F),.agg (cmp k G)] w fun e w' => ∃ v,e = .returned (.tuple #[v,.int .i64 0]) ∧ Bo w.heap.size w' v (sbs k F G (cnt k)) ∧ Fr Nobody w w' := by
 obtain ⟨h6,hr,_⟩ := chk_ok k G h2
 obtain ⟨_,hrF,_⟩ := chk_ok k F h1
 have hc := cnt_le k
 obtain ⟨b1,b2,hf⟩ := boxes w k k F G
 have HB1 : Hid (Box _ w.heap.size k F) := b1
 have HB2 : Hid (Box _ (w.heap.size + 1) k G) := b2
 have HF : Hid (Fr Nobody w _) := hf
 have K1 : Hid (∀ w,Calls Tryz.prog 107 #[.agg (cmp k F)] w fun e w' => e = .returned (.int .i64 0) ∧ Fr Nobody w w') := fun w => by have := rcheck_any w k hk F; rw [h1] at this; exact this
 have K2 : Hid (∀ w,Calls Tryz.prog 107 #[.agg (cmp k G)] w fun e w' => e = .returned (.int .i64 0) ∧ Fr Nobody w w') := fun w => by have := rcheck_any w k hk G; rw [h2] at this; exact this
 have C : Hid (∀ w,_) := fun w => rcount_any w k hk
 have R : Hid (∀ w j,j < cnt k → _) := fun w j hj => rrange_ok w k j hj
 have RB : Hid (∀ j,j < cnt k → (-524288 ≤ lo k j ∧ lo k j ≤ 1 ∧ 7 ≤ hi k j ∧ hi k j ≤ 524287) ∧ (lo k j ≤ G j ∧ G j ≤ hi k j) ∧ lo k j ≤ F j ∧ F j ≤ hi k j) := fun j hj => ⟨rng_ok k j hj,hr j hj,hrF j hj⟩
 have I : Hid (∀ w j,j < cnt k → Calls Tryz.prog 123 #[.int .i64 (G j),.int .i64 (lo k j),.int .i64 (hi k j)] w fun e w' => ∃ v,e = .returned (.tuple #[v,.int .i64 0]) ∧ Bo w.heap.size w' v (fb k G j) ∧ Fr Nobody w w') := fun w j hj => by
  obtain ⟨l0,l1,l2,l3⟩ := rng_ok k j hj
  have := hr j hj
  exact rin_ok (G j) (lo k j) (hi k j) (G j - lo k j).toNat w (by omega) (by omega) (by omega) this.1 this.2
 have HL : Hid (∀ j,j ≤ cnt k → (sbs k F G j).length ≤ 100) := fun j hj => by rw [length_sbs]; have := ssum_le k j F G hj; omega
 have HL2 : Hid (∀ j,j < cnt k → (fb k G j).length ≤ 60) := fun j hj => by rw [length_fb]; have := wd_le k j hj; omega
 clear h1 h2 hr hrF b1 b2 hf
 generalize cnt k = c at *
 unfold cmp at *
 obtain ⟨p0,p1,p2,p3⟩ := HB1.out.cells
 go_enter Tryz.func81,Tryz.ntmps81
 go_wp2_with fail
 refine (K1.out _).mono ?_
 rintro e w1 ⟨rfl,hf1⟩
 have F1 : Hid (Fr Nobody w w1) := HF.out.trans hf1
 have A1 : Hid (Box w1 w.heap.size k F) := HB1.out.quiet hf1
 have A2 : Hid (Box w1 (w.heap.size + 1) k G) := HB2.out.quiet hf1
 obtain ⟨q0,q1,q2,q3⟩ := A2.out.cells
 clear hf1 p0 p1 p2 p3 HB1 HB2 HF K1
 go_wp2_with fail
 refine (K2.out _).mono ?_
 rintro e w2 ⟨rfl,hf2⟩
 have F2 : Hid (Fr Nobody w w2) := F1.out.trans hf2
 have D1 : Hid (Box w2 w.heap.size k F) := A1.out.quiet hf2
 have D2 : Hid (Box w2 (w.heap.size + 1) k G) := A2.out.quiet hf2
 have c0 := D1.out.kind
 have d0 := D2.out.kind
 clear hf2 q0 q1 q2 q3 A1 A2 F1 K2
 go_wp2_with fail
 refine (C.out _).mono ?_
 rintro e w3 ⟨rfl,hf3⟩
 have F3 : Hid (Fr Nobody w w3) := F2.out.trans hf3
 have E1 : Hid (Box w3 w.heap.size k F) := D1.out.quiet hf3
 have E2 : Hid (Box w3 (w.heap.size + 1) k G) := D2.out.quiet hf3
 clear hf3 c0 d0 D1 D2 F2 C
 go_wp2
 go_loopw [8,34] (fun u a wr => ∃ j : Nat,j ≤ c ∧ a = .int .i64 j ∧ Bo w.heap.size wr u (sbs k F G j) ∧ Box wr w.heap.size k F ∧ Box wr (w.heap.size + 1) k G ∧ Fr Nobody w wr) (fun _ a _ => c - (intOf a).toNat)
 case atStart => exact ⟨0,by omega,rfl,Bo.nil _ _,E1.out,E2.out,F3.out⟩
 case round =>
  obtain ⟨j,hj,rfl,hu,hb1,hb2,hf⟩ := hrel
  have U : Hid (Bo w.heap.size wr u8 (sbs k F G j)) := hu
  have B1 : Hid (Box wr w.heap.size k F) := hb1
  have B2 : Hid (Box wr (w.heap.size + 1) k G) := hb2
  have FF : Hid (Fr Nobody w wr) := hf
  clear hu hb1 hb2 hf E1 E2 F3
  by_cases hlt : j < c
  ·have RJ : Hid (∀ w,_) := fun w => R.out w j hlt
   have IJ : Hid (∀ w,_) := fun w => I.out w j hlt
   obtain ⟨⟨l0,l1,l2,l3⟩,⟨r0,r1⟩,s0,s1⟩ := RB.out j hlt
   have hl1 := HL.out j (by omega)
   have hl2 := HL2.out j hlt
   obtain ⟨SN,hSN⟩ : ∃ SN,SN = sbs k F G (j + 1) := ⟨_,rfl⟩
   have HSN : Hid (SN = sbs k F G (j + 1)) := hSN
   have HCB : Hid (SN = sbs k F G j ++ sb k F G j) := hSN
   clear hSN
   have ZJ : Hid (∀ w,Calls Tryz.prog 111 #[.int .i64 (G j - F j)] w fun e w' => e = .returned (.int .u64 (mz F G j : Nat)) ∧ w' = w) := fun w => rzig_any (G j - F j) w (by omega) (by omega)
   have hzl : mz F G j ≤ 4000000 := by unfold mz zig; split <;> omega
   have x1 := B1.out.at j (by omega)
   have x2 := B2.out.at j (by omega)
   have HSB : Hid (sb k F G j = if mz F G j = 0 then bitsN 1 0 else if mz F G j ≤ 16 then bitsN 2 3 ++ bitsN 4 (mz F G j - 1) else bitsN 2 1 ++ fb k G j) := rfl
   have HGJ : Hid (∀ w',Box w' (w.heap.size + 1) k G → w'.cell? ⟨w.heap.size + 1,1 + j,none⟩ = some (.int .i32 (G j))) := fun w' h' => h'.at j (by omega)
   have hws : IntKind.i64.wrap (G j - F j) = G j - F j := by rw [IntKind.wrap_i64]; omega
   generalize mz F G j = z at *
   generalize sb k F G j = SB at *
   generalize sbs k F G j = L at *
   generalize fb k G j = M at *
   generalize F j = fj at *
   generalize G j = gj at *
   generalize lo k j = x at *
   generalize hi k j = y at *
   go_wp2
   go_quiet ((go_at_call 111; exact Calls.quiet_of_same (ZJ.out _)))
   have U1 : Hid (Bo w.heap.size (wr.drewN nq) u8 L) := U.out.quiet ((Fr.refl _ _).drewN nq)
   have C1 : Hid (Box (wr.drewN nq) w.heap.size k F) := B1.out.quiet ((Fr.refl _ _).drewN nq)
   have C2 : Hid (Box (wr.drewN nq) (w.heap.size + 1) k G) := B2.out.quiet ((Fr.refl _ _).drewN nq)
   have G1 : Hid (Fr Nobody w (wr.drewN nq)) := FF.out.trans ((Fr.refl _ _).drewN nq)
   clear x1 x2 U B1 B2 FF ZJ hws
   generalize wr.drewN nq = wq at *
   obtain ⟨au,cu,hus⟩ := row_any U1.out
   subst hus
   generalize hLn : L.length = ln at *
   have HLN : Hid (L.length = ln) := hLn
   clear hLn
   by_cases hz0 : z = 0
   ·subst hz0
    have HS1 : Hid (SN = L ++ [false]) := by show _ = _; rw [HCB.out,HSB.out,if_pos rfl]; rfl
    have AB : Hid (Bs (wq.alloc (.cells #[.bool false] 4)) (.slice (some ⟨wq.heap.size,0,none⟩) 1 1) [false]) := bs_new wq false
    have U2 : Hid (Bo w.heap.size (wq.alloc (.cells #[.bool false] 4)) (.slice au ln cu) L) := U1.out.quiet ((Fr.refl _ _).alloc _)
    have G2 : Hid (Fr Nobody w (wq.alloc (.cells #[.bool false] 4))) := G1.out.alloc _
    have B3 : Hid (Box (wq.alloc (.cells #[.bool false] 4)) w.heap.size k F ∧ Box (wq.alloc (.cells #[.bool false] 4)) (w.heap.size + 1) k G) := ⟨C1.out.quiet ((Fr.refl _ _).alloc _),C2.out.quiet ((Fr.refl _ _).alloc _)⟩
    go_wp2_with (at_builtin; refine append_bits rfl _ _ rfl w.heap.size _ _ L [false] U2.out AB.out (by rw [HLN.out]; omega) (by decide) G2.out.size rfl rfl ?_)
    intro v5 w5 hU5 hg5
    have U5 : Hid (Bo w.heap.size w5 v5 SN) := by rw [HS1.out]; exact hU5
    have B5 : Hid (Box w5 w.heap.size k F ∧ Box w5 (w.heap.size + 1) k G) := ⟨B3.out.1.grown U2.out hg5,B3.out.2.grown U2.out hg5⟩
    have F7 : Hid (Fr Nobody w w5) := G2.out.grown hg5 (fun q hq => .inr (World.ownsRow.lt U2.out q hq).1)
    clear hU5 hg5
    go_wp2
    go_roundw
    case rel => exact ⟨j + 1,by omega,by go_num,by rw [← HSN.out]; exact U5.out,B5.out.1,B5.out.2,F7.out⟩
    case measure => simp [intOf]; omega
   ·have hz1 : (0 : Int) < (z : Int) := by omega
    have hz1' : 0 < z := by omega
    have hz2 : ((z : Int) == 0) = false := by rw [beq_eq_false_iff_ne]; omega
    have AB : Hid (Bs (wq.alloc (.cells #[.bool true] 4)) (.slice (some ⟨wq.heap.size,0,none⟩) 1 1) [true]) := bs_new wq true
    have U2 : Hid (Bo w.heap.size (wq.alloc (.cells #[.bool true] 4)) (.slice au ln cu) L) := U1.out.quiet ((Fr.refl _ _).alloc _)
    have G2 : Hid (Fr Nobody w (wq.alloc (.cells #[.bool true] 4))) := G1.out.alloc _
    have B3 : Hid (Box (wq.alloc (.cells #[.bool true] 4)) w.heap.size k F ∧ Box (wq.alloc (.cells #[.bool true] 4)) (w.heap.size + 1) k G) := ⟨C1.out.quiet ((Fr.refl _ _).alloc _),C2.out.quiet ((Fr.refl _ _).alloc _)⟩
    go_wp2_with (at_builtin; refine append_bits rfl _ _ rfl w.heap.size _ _ L [true] U2.out AB.out (by rw [HLN.out]; omega) (by decide) G2.out.size rfl rfl ?_)
    intro v5 w5 hU5 hg5
    obtain ⟨a5,c5,hv5⟩ := row_any hU5
    rw [List.length_append,HLN.out] at hv5
    have hv5' : v5 = .slice a5 (ln + 1) c5 := hv5
    subst hv5'
    obtain ⟨T1,hT1⟩ : ∃ T,T = L ++ [true] := ⟨_,rfl⟩
    have HT1 : Hid (T1 = L ++ [true]) := hT1
    have U5 : Hid (Bo w.heap.size w5 (.slice a5 (ln + 1) c5) T1) := by rw [hT1]; exact hU5
    have B5 : Hid (Box w5 w.heap.size k F ∧ Box w5 (w.heap.size + 1) k G) := ⟨B3.out.1.grown U2.out hg5,B3.out.2.grown U2.out hg5⟩
    have F7 : Hid (Fr Nobody w w5) := G2.out.grown hg5 (fun q hq => .inr (World.ownsRow.lt U2.out q hq).1)
    have HL5 : Hid (T1.length = ln + 1) := by show _ = _; rw [hT1,List.length_append,HLN.out]; rfl
    clear hU5 hg5 hv5 U1 U2 AB B3 G2 G1 C1 C2 hT1
    by_cases hz16 : z ≤ 16
    ·have hz3 : (z : Int) ≤ 16 := by omega
     have HS1 : Hid (SN = T1 ++ [true] ++ bitsN 4 (z - 1)) := by show _ = _; rw [HCB.out,HSB.out,if_neg hz0,if_pos hz16,HT1.out]; simp [bitsN]
     have AB : Hid (Bs (w5.alloc (.cells #[.bool true] 4)) (.slice (some ⟨w5.heap.size,0,none⟩) 1 1) [true]) := bs_new w5 true
     have U6 : Hid (Bo w.heap.size (w5.alloc (.cells #[.bool true] 4)) (.slice a5 (ln + 1) c5) T1) := U5.out.quiet ((Fr.refl _ _).alloc _)
     have G6 : Hid (Fr Nobody w (w5.alloc (.cells #[.bool true] 4))) := F7.out.alloc _
     have B6 : Hid (Box (w5.alloc (.cells #[.bool true] 4)) w.heap.size k F ∧ Box (w5.alloc (.cells #[.bool true] 4)) (w.heap.size + 1) k G) := ⟨B5.out.1.quiet ((Fr.refl _ _).alloc _),B5.out.2.quiet ((Fr.refl _ _).alloc _)⟩
     go_wp2_with (at_builtin; refine append_bits rfl _ _ rfl w.heap.size _ _ T1 [true] U6.out AB.out (by rw [HL5.out]; omega) (by decide) G6.out.size rfl rfl ?_)
     intro v7 w7 hU7 hg7
     obtain ⟨a7,c7,hv7⟩ := row_any hU7
     rw [List.length_append,HL5.out] at hv7
     have hv7' : v7 = .slice a7 (ln + 1 + 1) c7 := hv7
     subst hv7'
     have B7 : Hid (Box w7 w.heap.size k F ∧ Box w7 (w.heap.size + 1) k G) := ⟨B6.out.1.grown U6.out hg7,B6.out.2.grown U6.out hg7⟩
     have F8 : Hid (Fr Nobody w w7) := G6.out.grown hg7 (fun q hq => .inr (World.ownsRow.lt U6.out q hq).1)
     have hll : (T1 ++ [true]).length = ln + 1 + 1 := by rw [List.length_append,HL5.out]; rfl
     have PC := rput_own w.heap.size w7 (.slice a7 (ln + 1 + 1) c7) (T1 ++ [true]) (z - 1) 4 hU7 F8.out.size (by rw [hll]; omega) (by omega) (by decide)
     have hq16 : (z - 1) / 2 ^ 4 = 0 := Nat.div_eq_of_lt (by omega)
     have hpe : rputE (T1 ++ [true]) (z - 1) 4 = 0 := by unfold rputE; rw [if_pos hq16,if_pos (by rw [hll]; omega)]
     have hpl : rputL (T1 ++ [true]) (z - 1) 4 = SN := by unfold rputL; rw [if_pos ⟨hq16,by rw [hll]; omega⟩,HS1.out]
     have hz11 : ((z - 1 : Nat) : Int) = (z : Int) - 1 := by omega
     rw [hpe,hpl,hz11] at PC
     have PC' : Hid (Calls _ _ _ _ _) := PC
     clear PC hU7 hg7 hv7 U5 U6 AB B6 G6 F7 B5 hpe hpl hz11 hll hq16
     go_wp2_with fail
     refine PC'.out.mono ?_
     rintro e w9 ⟨v9,rfl,hU9,hf9⟩
     have U9 : Hid (Bo w.heap.size w9 v9 SN) := hU9
     have B9 : Hid (Box w9 w.heap.size k F ∧ Box w9 (w.heap.size + 1) k G) := ⟨B7.out.1.quiet hf9,B7.out.2.quiet hf9⟩
     have F9 : Hid (Fr Nobody w w9) := F8.out.trans hf9
     clear hU9 hf9 PC' B7 F8
     go_wp2
     go_roundw
     case rel => exact ⟨j + 1,by omega,by go_num,by rw [← HSN.out]; exact U9.out,B9.out.1,B9.out.2,F9.out⟩
     case measure => simp [intOf]; omega
    ·have hz3 : ¬ (z : Int) ≤ 16 := by omega
     have HS1 : Hid (SN = T1 ++ [false] ++ M) := by show _ = _; rw [HCB.out,HSB.out,if_neg hz0,if_neg hz16,HT1.out]; simp [bitsN]
     have AB : Hid (Bs (w5.alloc (.cells #[.bool false] 4)) (.slice (some ⟨w5.heap.size,0,none⟩) 1 1) [false]) := bs_new w5 false
     have U6 : Hid (Bo w.heap.size (w5.alloc (.cells #[.bool false] 4)) (.slice a5 (ln + 1) c5) T1) := U5.out.quiet ((Fr.refl _ _).alloc _)
     have G6 : Hid (Fr Nobody w (w5.alloc (.cells #[.bool false] 4))) := F7.out.alloc _
     have B6 : Hid (Box (w5.alloc (.cells #[.bool false] 4)) w.heap.size k F ∧ Box (w5.alloc (.cells #[.bool false] 4)) (w.heap.size + 1) k G) := ⟨B5.out.1.quiet ((Fr.refl _ _).alloc _),B5.out.2.quiet ((Fr.refl _ _).alloc _)⟩
     go_wp2_with (at_builtin; refine append_bits rfl _ _ rfl w.heap.size _ _ T1 [false] U6.out AB.out (by rw [HL5.out]; omega) (by decide) G6.out.size rfl rfl ?_)
     intro v7 w7 hU7 hg7
     obtain ⟨a7,c7,hv7⟩ := row_any hU7
     rw [List.length_append,HL5.out] at hv7
     have hv7' : v7 = .slice a7 (ln + 1 + 1) c7 := hv7
     subst hv7'
     have U7 : Hid (Bo w.heap.size w7 (.slice a7 (ln + 1 + 1) c7) (T1 ++ [false])) := hU7
     have B7 : Hid (Box w7 w.heap.size k F ∧ Box w7 (w.heap.size + 1) k G) := ⟨B6.out.1.grown U6.out hg7,B6.out.2.grown U6.out hg7⟩
     have F8 : Hid (Fr Nobody w w7) := G6.out.grown hg7 (fun q hq => .inr (World.ownsRow.lt U6.out q hq).1)
     have HL7 : Hid ((T1 ++ [false]).length = ln + 1 + 1) := by show _ = _; rw [List.length_append,HL5.out]; rfl
     have d0 := B7.out.2.kind
     clear hU7 hg7 hv7 U5 U6 AB B6 G6 F7 B5
     go_wp2_with fail
     refine (RJ.out _).mono ?_
     rintro e w8 ⟨rfl,hf8⟩
     have c1 := HGJ.out w8 (B7.out.2.quiet hf8)
     have F4 : Hid (Fr Nobody w7 w8) := hf8
     clear hf8 d0
     go_wp2_with fail
     refine (IJ.out _).mono ?_
     rintro e w9 ⟨v9,rfl,hV9,hf9⟩
     have F5 : Hid (Fr Nobody w7 w9) := F4.out.trans hf9
     have V9 : Hid (Bs w9 v9 M) := hV9.bs
     have U9 : Hid (Bo w.heap.size w9 (.slice a7 (ln + 1 + 1) c7) (T1 ++ [false])) := U7.out.quiet F5.out
     have B9 : Hid (Box w9 w.heap.size k F ∧ Box w9 (w.heap.size + 1) k G) := ⟨B7.out.1.quiet F5.out,B7.out.2.quiet F5.out⟩
     have F9 : Hid (Fr Nobody w w9) := F8.out.trans F5.out
     clear hV9 hf9 c1
     go_wp2_with (at_builtin; refine append_bits rfl _ _ rfl w.heap.size _ _ (T1 ++ [false]) M U9.out V9.out (by rw [HL7.out]; omega) (by omega) F9.out.size rfl rfl ?_)
     intro v10 w10 hU10 hg10
     have U10 : Hid (Bo w.heap.size w10 v10 SN) := by show Bo _ _ _ _; rw [HS1.out]; simpa using hU10
     have B10 : Hid (Box w10 w.heap.size k F ∧ Box w10 (w.heap.size + 1) k G) := ⟨B9.out.1.grown U9.out hg10,B9.out.2.grown U9.out hg10⟩
     have F10 : Hid (Fr Nobody w w10) := F9.out.grown hg10 (fun q hq => .inr (World.ownsRow.lt U9.out q hq).1)
     clear hU10 hg10
     go_wp2
     go_roundw
     case rel => exact ⟨j + 1,by omega,by go_num,by rw [← HSN.out]; exact U10.out,B10.out.1,B10.out.2,F10.out⟩
     case measure => simp [intOf]; omega
  ·have e : j = c := by omega
   subst e
   go_wp2
   go_ret2
   exact ⟨_,rfl,U.out,FF.out⟩
def BT (v : Value) (L : List Bool) : Thing := Row 4 1 v L.length (brow L)
theorem Own.bits {w0 w w' : World} {l : List Thing} {v : Value} {L : List Bool} (h : Own w0 w l) (hb : Bo w.heap.size w' v L) (hf : Fr Nobody w w') : Own w0 w' (BT v L :: l) :=
 h.new (BT v L) (fun j => v.ownBlock = some j) ⟨row_weak hb,fun _ => Iff.rfl⟩ hf (fun j hj => (World.ownsRow.lt hb j hj).1)
theorem Own.bs {w0 w : World} {l : List Thing} {v : Value} {L : List Bool} (h : Own w0 w (BT v L :: l)) : Bs w v L := Bs.of_row (Own.row h)
theorem rvarT (w0 w : World) (l : List Thing) (h : Own w0 w l) (v : Nat) (hv : v < 18446744073709551616) : Calls Tryz.prog 76 #[.int .u64 (v : Int)] w fun e w' => ∃ u,e = .returned u ∧ Own w0 w' (BT u (var v) :: l) := by
 refine (rvar_any w v hv).mono ?_
 rintro e w' ⟨u,rfl,hb,hf⟩
 exact ⟨u,rfl,h.bits hb hf⟩
theorem rinT (w0 w : World) (l : List Thing) (h : Own w0 w l) (n lo hi : Int) (d : Nat) (hd : n = lo + (d : Int)) (h0 : -9223372036854775808 ≤ lo) (h1 : hi ≤ 9223372036854775807) (ha : lo ≤ n) (hb : n ≤ hi) :
  Calls Tryz.prog 123 #[.int .i64 n,.int .i64 lo,.int .i64 hi] w fun e w' => ∃ u,e = .returned (.tuple #[u,.int .i64 0]) ∧ Own w0 w' (BT u (bitsN (wid lo hi) d) :: l) := by
 refine (rin_ok n lo hi d w hd h0 h1 ha hb).mono ?_
 rintro e w' ⟨u,rfl,hb,hf⟩
 exact ⟨u,rfl,h.bits hb hf⟩
theorem rputCT (w0 w : World) (l : List Thing) (h : Own w0 w l) (k : Nat) (hk : k < 256) (F : Nat → Int) (h0 : chk k F = 0) :
  Calls Tryz.prog 124 #[.agg (cmp k F)] w fun e w' => ∃ u,e = .returned (.tuple #[u,.int .i64 0]) ∧ Own w0 w' (BT u (cb k F (cnt k)) :: l) := by
 refine (rputC_ok w k hk F h0).mono ?_
 rintro e w' ⟨u,rfl,hb,hf⟩
 exact ⟨u,rfl,h.bits hb hf⟩
theorem rstepT (w0 w : World) (l : List Thing) (h : Own w0 w l) (k : Nat) (hk : k < 256) (F G : Nat → Int) (h1 : chk k F = 0) (h2 : chk k G = 0) :
  Calls Tryz.prog 81 #[.agg (cmp k F),.agg (cmp k G)] w fun e w' => ∃ u,e = .returned (.tuple #[u,.int .i64 0]) ∧ Own w0 w' (BT u (sbs k F G (cnt k)) :: l) := by
 refine (rstep_ok w k hk F G h1 h2).mono ?_
 rintro e w' ⟨u,rfl,hb,hf⟩
 exact ⟨u,rfl,h.bits hb hf⟩
theorem rputT (w0 w : World) (l : List Thing) (v : Value) (L : List Bool) (x n : Nat) (h : Own w0 w (BT v L :: l)) (hn : n ≤ 64) (hx : x < 2 ^ n) (hx2 : x < 18446744073709551616) (hl : L.length + n ≤ 1048576) :
  Calls Tryz.prog 78 #[v,.int .u64 x,.int .i64 n] w fun e w' => ∃ u,e = .returned (.tuple #[u,.int .i64 0]) ∧ Own w0 w' (BT u (L ++ bitsN n x) :: l) := by
 have hd : x / 2 ^ n = 0 := Nat.div_eq_of_lt hx
 refine (rput_main w v L (L ++ bitsN n x) 0 x n h.bs (by omega) hx2 hn (.inl ⟨hd,hl,rfl,rfl⟩)).mono ?_
 rintro e w' ⟨u,rfl,hR,hf⟩
 rcases hR with ⟨_,hb⟩ | ⟨hc,_⟩
 ·exact ⟨u,rfl,h.tail.bits hb hf⟩
 ·exact absurd rfl hc
theorem app_bits {w0 w : World} {l : List Thing} {ops : Array Oper} {rest : List Oper} {o : Oper} {a : Act} {Q : Exit → Act → World → Prop} (hgd : o.guard = none) (s x : Operand)
  (ho : o.op = .call { callee := .builtin .append,args := #[s,x],argTypes := #[75,75] }) (v u : Value) (L M : List Bool) (h : Own w0 w (BT u M :: BT v L :: l)) (hM0 : 0 < M.length) (hL : L.length + M.length ≤ 100000000)
  (hs : a.eval s = v) (hx : a.eval x = u)
  (hK : ∀ v' w',Own w0 w' (BT v' (L ++ M) :: l) → wpList Tryz.prog ops Q rest (a.put o.dst v') w') :
  wpList Tryz.prog ops Q (o :: rest) a w := by
 obtain ⟨i0,hi,hz0,hz1,hz2⟩ := info_parts Tryz.infoBool
 have hr : w.ownsRow 0 4 1 u M.length (brow M) := Own.row h
 obtain ⟨g,cap,rfl,_⟩ := row_shape hr hM0
 refine wpList_append_ours w hgd s x 75 ho 4 i0 (.bool false) 1 1 Tryz.underlying75 hi hz0 hz1 hz2 rfl (by decide) v L.length (brow L) hs (Own.row h.two) ⟨g,0,none⟩ M.length cap (brow M) hx (by rw [length_brow]; omega) (fun j u hu => hr.cells rfl j u hu) (one_brow M) hM0 (by unfold maxLen; omega) (by omega) ?_
 intro v' w' ho' hg' hn'
 have key : Own w0 w' (BT v' (L ++ M) :: BT (.slice (some ⟨g,0,none⟩) M.length cap) M :: l) := by
  refine Own.grow (show Own w0 w (Row 4 1 v L.length (brow L) :: BT (.slice (some ⟨g,0,none⟩) M.length cap) M :: l) from h.two) ?_ hg' ?_
  ·rw [brow_append,List.length_append]; exact ho'
  ·obtain ⟨g',cap',rfl,hx'⟩ := hn'
   intro k hk
   cases hk
   exact hx'
 exact hK v' w' key.two.tail
end Go.Proofs.YtgifeckbflkkpaaGreatDoor
