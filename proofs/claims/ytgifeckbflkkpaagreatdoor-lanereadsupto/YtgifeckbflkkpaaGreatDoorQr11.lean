/- The document's Step: a component's bits behind another one, on lists of bits. -/
import Derived.Test.YtgifeckbflkkpaaGreatDoorQr10
import Derived.Test.YtgifeckbflkkpaaGreatDoorQr05
namespace Go.Proofs.YtgifeckbflkkpaaGreatDoor
open Go.RowKit
set_option linter.unusedVariables false
set_option maxHeartbeats 4000000
set_option maxRecDepth 100000
theorem bs_new (w : World) (b : Bool) : Bs (w.alloc (.cells #[.bool b] 4)) (.slice (some ⟨w.heap.size,0,none⟩) 1 1) [b] :=
 Bs.of_row (L := [b]) (World.ownsRow_lit (base := 0) w #[.bool b] 1 (Nat.zero_le _) (by decide) rfl)
theorem rstep_ok (w : World) (k : Nat) (hk : k < 256) (F G : Nat → Int) (h1 : chk k F = 0) (h2 : chk k G = 0) :
  Calls Tryz.prog 81 #[.agg (cmp k F),.agg (cmp k G)] w fun e w' => ∃ v,e = .returned (.tuple #[v,.int .i64 0]) ∧ Bo w.heap.size w' v (sbs k F G (cnt k)) ∧ Fr Nobody w w' := by
 obtain ⟨h6,hr,_⟩ := chk_ok k G h2
 obtain ⟨_,hrF,_⟩ := chk_ok k F h1
 have hc := cnt_le k
 obtain ⟨b1,b2,hf⟩ := boxes w k k F G
 have HB1 : Hid (Box _ w.heap.size k F) := b1
 have HB2 : Hid (Box _ (w.heap.size + 1) k G) := b2
 have HF : Hid (Fr Nobody w _) := hf
 have K1 : Hid (∀ w,Calls Tryz.prog 107 #[.agg (cmp k F)] w fun e w' => e = .returned (.int .i64 0) ∧ Fr Nobody w w') := fun w => by have := rcheck_any w k hk F; rw [h1] at this; exact this
 have K2 : Hid (∀ w,Calls Tryz.prog 107 #[.agg (cmp k G)] w fun e w' => e = .returned (.int .i64 0) ∧ Fr Nobody w w') := fun w => by have := rcheck_any w k hk G; rw [h2] at this; exact this
 have C : Hid (∀ w,_) := fun w => rcount_any w k hk
 have R : Hid (∀ w j,j < cnt k → _) := fun w j hj => rrange_ok w k j hj
 have RB : Hid (∀ j,j < cnt k → (-524288 ≤ lo k j ∧ lo k j ≤ 1 ∧ 7 ≤ hi k j ∧ hi k j ≤ 524287) ∧ (lo k j ≤ G j ∧ G j ≤ hi k j) ∧ lo k j ≤ F j ∧ F j ≤ hi k j) := fun j hj => ⟨rng_ok k j hj,hr j hj,hrF j hj⟩
 have I : Hid (∀ w j,j < cnt k → Calls Tryz.prog 123 #[.int .i64 (G j),.int .i64 (lo k j),.int .i64 (hi k j)] w fun e w' => ∃ v,e = .returned (.tuple #[v,.int .i64 0]) ∧ Bo w.heap.size w' v (fb k G j) ∧ Fr Nobody w w') := fun w j hj => by
  obtain ⟨l0,l1,l2,l3⟩ := rng_ok k j hj
  have := hr j hj
  exact rin_ok (G j) (lo k j) (hi k j) (G j - lo k j).toNat w (by omega) (by omega) (by omega) this.1 this.2
 have HL : Hid (∀ j,j ≤ cnt k → (sbs k F G j).length ≤ 100) := fun j hj => by rw [length_sbs]; have := ssum_le k j F G hj; omega
 have HL2 : Hid (∀ j,j < cnt k → (fb k G j).length ≤ 60) := fun j hj => by rw [length_fb]; have := wd_le k j hj; omega
 clear h1 h2 hr hrF b1 b2 hf
 generalize cnt k = c at *
 unfold cmp at *
 obtain ⟨p0,p1,p2,p3⟩ := HB1.out.cells
 go_enter Tryz.func81,Tryz.ntmps81
 go_wp2_with fail
 refine (K1.out _).mono ?_
 rintro e w1 ⟨rfl,hf1⟩
 have F1 : Hid (Fr Nobody w w1) := HF.out.trans hf1
 have A1 : Hid (Box w1 w.heap.size k F) := HB1.out.quiet hf1
 have A2 : Hid (Box w1 (w.heap.size + 1) k G) := HB2.out.quiet hf1
 obtain ⟨q0,q1,q2,q3⟩ := A2.out.cells
 clear hf1 p0 p1 p2 p3 HB1 HB2 HF K1
 go_wp2_with fail
 refine (K2.out _).mono ?_
 rintro e w2 ⟨rfl,hf2⟩
 have F2 : Hid (Fr Nobody w w2) := F1.out.trans hf2
 have D1 : Hid (Box w2 w.heap.size k F) := A1.out.quiet hf2
 have D2 : Hid (Box w2 (w.heap.size + 1) k G) := A2.out.quiet hf2
 have c0 := D1.out.kind
 have d0 := D2.out.kind
 clear hf2 q0 q1 q2 q3 A1 A2 F1 K2
 go_wp2_with fail
 refine (C.out _).mono ?_
 rintro e w3 ⟨rfl,hf3⟩
 have F3 : Hid (Fr Nobody w w3) := F2.out.trans hf3
 have E1 : Hid (Box w3 w.heap.size k F) := D1.out.quiet hf3
 have E2 : Hid (Box w3 (w.heap.size + 1) k G) := D2.out.quiet hf3
 clear hf3 c0 d0 D1 D2 F2 C
 go_wp2
 go_loopw [8,34] (fun u a wr => ∃ j : Nat,j ≤ c ∧ a = .int .i64 j ∧ Bo w.heap.size wr u (sbs k F G j) ∧ Box wr w.heap.size k F ∧ Box wr (w.heap.size + 1) k G ∧ Fr Nobody w wr) (fun _ a _ => c - (intOf a).toNat)
 case atStart => exact ⟨0,by omega,rfl,Bo.nil _ _,E1.out,E2.out,F3.out⟩
 case round =>
  obtain ⟨j,hj,rfl,hu,hb1,hb2,hf⟩ := hrel
  have U : Hid (Bo w.heap.size wr u8 (sbs k F G j)) := hu
  have B1 : Hid (Box wr w.heap.size k F) := hb1
  have B2 : Hid (Box wr (w.heap.size + 1) k G) := hb2
  have FF : Hid (Fr Nobody w wr) := hf
  clear hu hb1 hb2 hf E1 E2 F3
  by_cases hlt : j < c
  ·have RJ : Hid (∀ w,_) := fun w => R.out w j hlt
   have IJ : Hid (∀ w,_) := fun w => I.out w j hlt
   obtain ⟨⟨l0,l1,l2,l3⟩,⟨r0,r1⟩,s0,s1⟩ := RB.out j hlt
   have hl1 := HL.out j (by omega)
   have hl2 := HL2.out j hlt
   obtain ⟨SN,hSN⟩ : ∃ SN,SN = sbs k F G (j + 1) := ⟨_,rfl⟩
   have HSN : Hid (SN = sbs k F G (j + 1)) := hSN
   have HCB : Hid (SN = sbs k F G j ++ sb k F G j) := hSN
   clear hSN
   have ZJ : Hid (∀ w,Calls Tryz.prog 111 #[.int .i64 (G j - F j)] w fun e w' => e = .returned (.int .u64 (mz F G j : Nat)) ∧ w' = w) := fun w => rzig_any (G j - F j) w (by omega) (by omega)
   have hzl : mz F G j ≤ 4000000 := by unfold mz zig; split <;> omega
   have x1 := B1.out.at j (by omega)
   have x2 := B2.out.at j (by omega)
   have HSB : Hid (sb k F G j = if mz F G j = 0 then bitsN 1 0 else if mz F G j ≤ 16 then bitsN 2 3 ++ bitsN 4 (mz F G j - 1) else bitsN 2 1 ++ fb k G j) := rfl
   have HGJ : Hid (∀ w',Box w' (w.heap.size + 1) k G → w'.cell? ⟨w.heap.size + 1,1 + j,none⟩ = some (.int .i32 (G j))) := fun w' h' => h'.at j (by omega)
   have hws : IntKind.i64.wrap (G j - F j) = G j - F j := by rw [IntKind.wrap_i64]; omega
   generalize mz F G j = z at *
   generalize sb k F G j = SB at *
   generalize sbs k F G j = L at *
   generalize fb k G j = M at *
   generalize F j = fj at *
   generalize G j = gj at *
   generalize lo k j = x at *
   generalize hi k j = y at *
   go_wp2
   go_quiet ((go_at_call 111; exact Calls.quiet_of_same (ZJ.out _)))
   have U1 : Hid (Bo w.heap.size (wr.drewN nq) u8 L) := U.out.quiet ((Fr.refl _ _).drewN nq)
   have C1 : Hid (Box (wr.drewN nq) w.heap.size k F) := B1.out.quiet ((Fr.refl _ _).drewN nq)
   have C2 : Hid (Box (wr.drewN nq) (w.heap.size + 1) k G) := B2.out.quiet ((Fr.refl _ _).drewN nq)
   have G1 : Hid (Fr Nobody w (wr.drewN nq)) := FF.out.trans ((Fr.refl _ _).drewN nq)
   clear x1 x2 U B1 B2 FF ZJ hws
   generalize wr.drewN nq = wq at *
   obtain ⟨au,cu,hus⟩ := row_any U1.out
   subst hus
   generalize hLn : L.length = ln at *
   have HLN : Hid (L.length = ln) := hLn
   clear hLn
   by_cases hz0 : z = 0
   ·subst hz0
    have HS1 : Hid (SN = L ++ [false]) := by show _ = _; rw [HCB.out,HSB.out,if_pos rfl]; rfl
    have AB : Hid (Bs (wq.alloc (.cells #[.bool false] 4)) (.slice (some ⟨wq.heap.size,0,none⟩) 1 1) [false]) := bs_new wq false
    have U2 : Hid (Bo w.heap.size (wq.alloc (.cells #[.bool false] 4)) (.slice au ln cu) L) := U1.out.quiet ((Fr.refl _ _).alloc _)
    have G2 : Hid (Fr Nobody w (wq.alloc (.cells #[.bool false] 4))) := G1.out.alloc _
    have B3 : Hid (Box (wq.alloc (.cells #[.bool false] 4)) w.heap.size k F ∧ Box (wq.alloc (.cells #[.bool false] 4)) (w.heap.size + 1) k G) := ⟨C1.out.quiet ((Fr.refl _ _).alloc _),C2.out.quiet ((Fr.refl _ _).alloc _)⟩
    go_wp2_with (at_builtin; refine append_bits rfl _ _ rfl w.heap.size _ _ L [false] U2.out AB.out (by rw [HLN.out]; omega) (by decide) G2.out.size rfl rfl ?_)
    intro v5 w5 hU5 hg5
    have U5 : Hid (Bo w.heap.size w5 v5 SN) := by rw [HS1.out]; exact hU5
    have B5 : Hid (Box w5 w.heap.size k F ∧ Box w5 (w.heap.size + 1) k G) := ⟨B3.out.1.grown U2.out hg5,B3.out.2.grown U2.out hg5⟩
    have F7 : Hid (Fr Nobody w w5) := G2.out.grown hg5 (fun q hq => .inr (World.ownsRow.lt U2.out q hq).1)
    clear hU5 hg5
    go_wp2
    go_roundw
    case rel => exact ⟨j + 1,by omega,by go_num,by rw [← HSN.out]; exact U5.out,B5.out.1,B5.out.2,F7.out⟩
    case measure => simp [intOf]; omega
   ·have hz1 : (0 : Int) < (z : Int) := by omega
    have hz1' : 0 < z := by omega
    have hz2 : ((z : Int) == 0) = false := by rw [beq_eq_false_iff_ne]; omega
    have AB : Hid (Bs (wq.alloc (.cells #[.bool true] 4)) (.slice (some ⟨wq.heap.size,0,none⟩) 1 1) [true]) := bs_new wq true
    have U2 : Hid (Bo w.heap.size (wq.alloc (.cells #[.bool true] 4)) (.slice au ln cu) L) := U1.out.quiet ((Fr.refl _ _).alloc _)
    have G2 : Hid (Fr Nobody w (wq.alloc (.cells #[.bool true] 4))) := G1.out.alloc _
    have B3 : Hid (Box (wq.alloc (.cells #[.bool true] 4)) w.heap.size k F ∧ Box (wq.alloc (.cells #[.bool true] 4)) (w.heap.size + 1) k G) := ⟨C1.out.quiet ((Fr.refl _ _).alloc _),C2.out.quiet ((Fr.refl _ _).alloc _)⟩
    go_wp2_with (at_builtin; refine append_bits rfl _ _ rfl w.heap.size _ _ L [true] U2.out AB.out (by rw [HLN.out]; omega) (by decide) G2.out.size rfl rfl ?_)
    intro v5 w5 hU5 hg5
    obtain ⟨a5,c5,hv5⟩ := row_any hU5
    rw [List.length_append,HLN.out] at hv5
    have hv5' : v5 = .slice a5 (ln + 1) c5 := hv5
    subst hv5'
    obtain ⟨T1,hT1⟩ : ∃ T,T = L ++ [true] := ⟨_,rfl⟩
    have HT1 : Hid (T1 = L ++ [true]) := hT1
    have U5 : Hid (Bo w.heap.size w5 (.slice a5 (ln + 1) c5) T1) := by rw [hT1]; exact hU5
    have B5 : Hid (Box w5 w.heap.size k F ∧ Box w5 (w.heap.size + 1) k G) := ⟨B3.out.1.grown U2.out hg5,B3.out.2.grown U2.out hg5⟩
    have F7 : Hid (Fr Nobody w w5) := G2.out.grown hg5 (fun q hq => .inr (World.ownsRow.lt U2.out q hq).1)
    have HL5 : Hid (T1.length = ln + 1) := by show _ = _; rw [hT1,List.length_append,HLN.out]; rfl
    clear hU5 hg5 hv5 U1 U2 AB B3 G2 G1 C1 C2 hT1
    by_cases hz16 : z ≤ 16
    ·have hz3 : (z : Int) ≤ 16 := by omega
     have HS1 : Hid (SN = T1 ++ [true] ++ bitsN 4 (z - 1)) := by show _ = _; rw [HCB.out,HSB.out,if_neg hz0,if_pos hz16,HT1.out]; simp [bitsN]
     have AB : Hid (Bs (w5.alloc (.cells #[.bool true] 4)) (.slice (some ⟨w5.heap.size,0,none⟩) 1 1) [true]) := bs_new w5 true
     have U6 : Hid (Bo w.heap.size (w5.alloc (.cells #[.bool true] 4)) (.slice a5 (ln + 1) c5) T1) := U5.out.quiet ((Fr.refl _ _).alloc _)
     have G6 : Hid (Fr Nobody w (w5.alloc (.cells #[.bool true] 4))) := F7.out.alloc _
     have B6 : Hid (Box (w5.alloc (.cells #[.bool true] 4)) w.heap.size k F ∧ Box (w5.alloc (.cells #[.bool true] 4)) (w.heap.size + 1) k G) := ⟨B5.out.1.quiet ((Fr.refl _ _).alloc _),B5.out.2.quiet ((Fr.refl _ _).alloc _)⟩
     go_wp2_with (at_builtin; refine append_bits rfl _ _ rfl w.heap.size _ _ T1 [true] U6.out AB.out (by rw [HL5.out]; omega) (by decide) G6.out.size rfl rfl ?_)
     intro v7 w7 hU7 hg7
     obtain ⟨a7,c7,hv7⟩ := row_any hU7
     rw [List.length_append,HL5.out] at hv7
     have hv7' : v7 = .slice a7 (ln + 1 + 1) c7 := hv7
     subst hv7'
     have B7 : Hid (Box w7 w.heap.size k F ∧ Box w7 (w.heap.size + 1) k G) := ⟨B6.out.1.grown U6.out hg7,B6.out.2.grown U6.out hg7⟩
     have F8 : Hid (Fr Nobody w w7) := G6.out.grown hg7 (fun q hq => .inr (World.ownsRow.lt U6.out q hq).1)
     have hll : (T1 ++ [true]).length = ln + 1 + 1 := by rw [List.length_append,HL5.out]; rfl
     have PC := rput_own w.heap.size w7 (.slice a7 (ln + 1 + 1) c7) (T1 ++ [true]) (z - 1) 4 hU7 F8.out.size (by rw [hll]; omega) (by omega) (by decide)
     have hq16 : (z - 1) / 2 ^ 4 = 0 := Nat.div_eq_of_lt (by omega)
     have hpe : rputE (T1 ++ [true]) (z - 1) 4 = 0 := by unfold rputE; rw [if_pos hq16,if_pos (by rw [hll]; omega)]
     have hpl : rputL (T1 ++ [true]) (z - 1) 4 = SN := by unfold rputL; rw [if_pos ⟨hq16,by rw [hll]; omega⟩,HS1.out]
     have hz11 : ((z - 1 : Nat) : Int) = (z : Int) - 1 := by omega
     rw [hpe,hpl,hz11] at PC
     have PC' : Hid (Calls _ _ _ _ _) := PC
     clear PC hU7 hg7 hv7 U5 U6 AB B6 G6 F7 B5 hpe hpl hz11 hll hq16
     go_wp2_with fail
     refine PC'.out.mono ?_
     rintro e w9 ⟨v9,rfl,hU9,hf9⟩
     have U9 : Hid (Bo w.heap.size w9 v9 SN) := hU9
     have B9 : Hid (Box w9 w.heap.size k F ∧ Box w9 (w.heap.size + 1) k G) := ⟨B7.out.1.quiet hf9,B7.out.2.quiet hf9⟩
     have F9 : Hid (Fr Nobody w w9) := F8.out.trans hf9
     clear hU9 hf9 PC' B7 F8
     go_wp2
     go_roundw
     case rel => exact ⟨j + 1,by omega,by go_num,by rw [← HSN.out]; exact U9.out,B9.out.1,B9.out.2,F9.out⟩
     case measure => simp [intOf]; omega
    ·have hz3 : ¬ (z : Int) ≤ 16 := by omega
     have HS1 : Hid (SN = T1 ++ [false] ++ M) := by show _ = _; rw [HCB.out,HSB.out,if_neg hz0,if_neg hz16,HT1.out]; simp [bitsN]
     have AB : Hid (Bs (w5.alloc (.cells #[.bool false] 4)) (.slice (some ⟨w5.heap.size,0,none⟩) 1 1) [false]) := bs_new w5 false
     have U6 : Hid (Bo w.heap.size (w5.alloc (.cells #[.bool false] 4)) (.slice a5 (ln + 1) c5) T1) := U5.out.quiet ((Fr.refl _ _).alloc _)
     have G6 : Hid (Fr Nobody w (w5.alloc (.cells #[.bool false] 4))) := F7.out.alloc _
     have B6 : Hid (Box (w5.alloc (.cells #[.bool false] 4)) w.heap.size k F ∧ Box (w5.alloc (.cells #[.bool false] 4)) (w.heap.size + 1) k G) := ⟨B5.out.1.quiet ((Fr.refl _ _).alloc _),B5.out.2.quiet ((Fr.refl _ _).alloc _)⟩
     go_wp2_with (at_builtin; refine append_bits rfl _ _ rfl w.heap.size _ _ T1 [false] U6.out AB.out (by rw [HL5.out]; omega) (by decide) G6.out.size rfl rfl ?_)
     intro v7 w7 hU7 hg7
     obtain ⟨a7,c7,hv7⟩ := row_any hU7
     rw [List.length_append,HL5.out] at hv7
     have hv7' : v7 = .slice a7 (ln + 1 + 1) c7 := hv7
     subst hv7'
     have U7 : Hid (Bo w.heap.size w7 (.slice a7 (ln + 1 + 1) c7) (T1 ++ [false])) := hU7
     have B7 : Hid (Box w7 w.heap.size k F ∧ Box w7 (w.heap.size + 1) k G) := ⟨B6.out.1.grown U6.out hg7,B6.out.2.grown U6.out hg7⟩
     have F8 : Hid (Fr Nobody w w7) := G6.out.grown hg7 (fun q hq => .inr (World.ownsRow.lt U6.out q hq).1)
     have HL7 : Hid ((T1 ++ [false]).length = ln + 1 + 1) := by show _ = _; rw [List.length_append,HL5.out]; rfl
     have d0 := B7.out.2.kind
     clear hU7 hg7 hv7 U5 U6 AB B6 G6 F7 B5
     go_wp2_with fail
     refine (RJ.out _).mono ?_
     rintro e w8 ⟨rfl,hf8⟩
     have c1 := HGJ.out w8 (B7.out.2.quiet hf8)
     have F4 : Hid (Fr Nobody w7 w8) := hf8
     clear hf8 d0
     go_wp2_with fail
     refine (IJ.out _).mono ?_
     rintro e w9 ⟨v9,rfl,hV9,hf9⟩
     have F5 : Hid (Fr Nobody w7 w9) := F4.out.trans hf9
     have V9 : Hid (Bs w9 v9 M) := hV9.bs
     have U9 : Hid (Bo w.heap.size w9 (.slice a7 (ln + 1 + 1) c7) (T1 ++ [false])) := U7.out.quiet F5.out
     have B9 : Hid (Box w9 w.heap.size k F ∧ Box w9 (w.heap.size + 1) k G) := ⟨B7.out.1.quiet F5.out,B7.out.2.quiet F5.out⟩
     have F9 : Hid (Fr Nobody w w9) := F8.out.trans F5.out
     clear hV9 hf9 c1
     go_wp2_with (at_builtin; refine append_bits rfl _ _ rfl w.heap.size _ _ (T1 ++ [false]) M U9.out V9.out (by rw [HL7.out]; omega) (by omega) F9.out.size rfl rfl ?_)
     intro v10 w10 hU10 hg10
     have U10 : Hid (Bo w.heap.size w10 v10 SN) := by show Bo _ _ _ _; rw [HS1.out]; simpa using hU10
     have B10 : Hid (Box w10 w.heap.size k F ∧ Box w10 (w.heap.size + 1) k G) := ⟨B9.out.1.grown U9.out hg10,B9.out.2.grown U9.out hg10⟩
     have F10 : Hid (Fr Nobody w w10) := F9.out.grown hg10 (fun q hq => .inr (World.ownsRow.lt U9.out q hq).1)
     clear hU10 hg10
     go_wp2
     go_roundw
     case rel => exact ⟨j + 1,by omega,by go_num,by rw [← HSN.out]; exact U10.out,B10.out.1,B10.out.2,F10.out⟩
     case measure => simp [intOf]; omega
  ·have e : j = c := by omega
   subst e
   go_wp2
   go_ret2
   exact ⟨_,rfl,U.out,FF.out⟩
theorem Or.low {w0 w : World} {br : Nat} {P : List Nat} {t : Nat} (h : Or w0 w br P t) (ht : Tab w0) : br ≠ 1 := by
 obtain ⟨g,hR,_⟩ := h
 have := hR.low
 have := ht.size
 omega
theorem gi_back (x y v : Int) (R : List Bool) (h0 : -9223372036854775808 ≤ x) (h1 : y ≤ 9223372036854775807) (ha : x ≤ v) (hb : v ≤ y) : gi x y (bitsN (wid x y) (v - x).toNat ++ R) = (0,v,wid x y) := by
 have hlt := in_lt v x y h0 h1 ha hb
 have ht : (bitsN (wid x y) (v - x).toNat ++ R).take (wid x y) = bitsN (wid x y) (v - x).toNat := by
  rw [List.take_append_of_le_length (by rw [length_bitsN]; exact Nat.le_refl _),List.take_of_length_le (by rw [length_bitsN]; exact Nat.le_refl _)]
 unfold gi
 rw [if_neg (by omega),if_neg (by rw [List.length_append,length_bitsN]; omega),ht,num_bitsN,Nat.mod_eq_of_lt hlt,if_neg (by omega)]
 have : x + (((v - x).toNat : Nat) : Int) = v := by omega
 rw [this]
theorem cb_split (k : Nat) (F : Nat → Int) (c j : Nat) (h : j < c) : ∃ R,cb k F c = cb k F j ++ (fb k F j ++ R) := by
 induction c with
 | zero => omega
 | succ c ih =>
  by_cases e : j = c
  ·subst e; exact ⟨[],by rw [cb,List.append_nil]⟩
  ·obtain ⟨R,hR⟩ := ih (by omega)
   exact ⟨R ++ fb k F c,by rw [cb,hR]; simp [List.append_assoc]⟩
theorem gf_back (k : Nat) (F : Nat → Int) (P : List Nat) (A Z : List Bool) (hP : bitsB P = A ++ (cb k F (cnt k) ++ Z)) (hr : ∀ j,j < cnt k → lo k j ≤ F j ∧ F j ≤ hi k j) (j : Nat) (hj : j < cnt k) :
  gf k P (A.length + bsum k j) j = (0,F j,wd k j) := by
 obtain ⟨l0,l1,l2,l3⟩ := rng_ok k j hj
 obtain ⟨R,hR⟩ := cb_split k F (cnt k) j hj
 have e : (bitsB P).drop (A.length + bsum k j) = fb k F j ++ (R ++ Z) := by
  rw [hP,hR,← List.drop_drop,List.drop_left,List.append_assoc,← length_cb k F j,List.drop_left,List.append_assoc]
 unfold gf
 rw [e]
 exact gi_back (lo k j) (hi k j) (F j) _ (by omega) (by omega) (hr j hj).1 (hr j hj).2
theorem rat_back (k : Nat) (F : Nat → Int) (P : List Nat) (A Z : List Bool) (hP : bitsB P = A ++ (cb k F (cnt k) ++ Z)) (hr : ∀ j,j < cnt k → lo k j ≤ F j ∧ F j ≤ hi k j) :
  ∀ j,j ≤ cnt k → rat (fun t j => (gf k P t j).1) (fun t j => (gf k P t j).2.2) A.length j = (0,A.length + bsum k j) := by
 intro j
 induction j with
 | zero => intro _; rfl
 | succ j ih =>
  intro hj
  have hi' := ih (by omega)
  rw [rat,hi',if_pos rfl]
  have := gf_back k F P A Z hP hr j (by omega)
  rw [this,bsum,Nat.add_assoc]
theorem get_back (k : Nat) (F : Nat → Int) (P : List Nat) (A Z : List Bool) (hP : bitsB P = A ++ (cb k F (cnt k) ++ Z)) (h0 : chk k F = 0) :
  gcode k P A.length = 0 ∧ gcons k P A.length = bitsK k ∧ cmp k (gfld k P A.length) = cmp k F := by
 obtain ⟨h6,hr,hz⟩ := chk_ok k F h0
 have hc := cnt_pos k h6
 have hr1 := rat_back k F P A Z hP hr (cnt k) (Nat.le_refl _)
 have g0 : gcode k P A.length = 0 := by unfold gcode; rw [if_neg (by omega),hr1]
 refine ⟨g0,?_,?_⟩
 ·unfold gcons
  rw [if_pos g0,hr1]
  show A.length + bsum k (cnt k) - A.length = bitsK k
  unfold bitsK; omega
 ·have hf : ∀ j,j < 3 → gfld k P A.length j = F j := by
   intro j hj
   unfold gfld upd
   by_cases hc : j < cnt k
   ·rw [if_pos hc,rat_back k F P A Z hP hr j (by omega)]
    show (gf k P (A.length + bsum k j) j).2.1 = F j
    rw [gf_back k F P A Z hP hr j hc]
   ·rw [if_neg hc,hz j (by omega) hj]
    have : j = 0 ∨ j = 1 ∨ j = 2 := by omega
    rcases this with rfl | rfl | rfl <;> rfl
  unfold cmp
  rw [hf 0 (by decide),hf 1 (by decide),hf 2 (by decide)]
def nr (k : Nat) (F : Nat → Int) (P : List Nat) (t j : Nat) : Int × Int × Nat :=
 if 8 * P.length < t + 4 then (2,0,0)
 else if F j + zag (numAt P t 4 + 1) < lo k j ∨ hi k j < F j + zag (numAt P t 4 + 1) then (5,0,0)
 else (0,F j + zag (numAt P t 4 + 1),4)
def fa (k : Nat) (F : Nat → Int) (P : List Nat) (t j : Nat) : Int × Int × Nat :=
 if (gf k P t j).1 ≠ 0 then ((gf k P t j).1,0,0)
 else if zig ((gf k P t j).2.1 - F j) ≤ 16 then (4,0,0)
 else (0,(gf k P t j).2.1,(gf k P t j).2.2)
def gs (k : Nat) (F : Nat → Int) (P : List Nat) (t j : Nat) : Int × Int × Nat :=
 if 8 * P.length < t + 1 then (2,F j,0)
 else if numAt P t 1 = 0 then (0,F j,1)
 else if 8 * P.length < t + 1 + 1 then (2,0,0)
 else if numAt P (t + 1) 1 = 1 then ((nr k F P (t + 1 + 1) j).1,(nr k F P (t + 1 + 1) j).2.1,2 + (nr k F P (t + 1 + 1) j).2.2)
 else ((fa k F P (t + 1 + 1) j).1,(fa k F P (t + 1 + 1) j).2.1,2 + (fa k F P (t + 1 + 1) j).2.2)
theorem zag_small (v : Nat) (h : v < 16) : -8 ≤ zag (v + 1) ∧ zag (v + 1) ≤ 8 := by unfold zag; split <;> omega
def scode (k : Nat) (F : Nat → Int) (P : List Nat) (t : Nat) : Int := if chk k F = 0 then (rat (fun t j => (gs k F P t j).1) (fun t j => (gs k F P t j).2.2) t (cnt k)).1 else (chk k F : Nat)
def sfld (k : Nat) (F : Nat → Int) (P : List Nat) (t : Nat) : Nat → Int := upd (fun t j => (gs k F P t j).1) (fun t j => (gs k F P t j).2.1) (fun t j => (gs k F P t j).2.2) t F (cnt k)
def scons (k : Nat) (F : Nat → Int) (P : List Nat) (t : Nat) : Nat := if scode k F P t = 0 then (rat (fun t j => (gs k F P t j).1) (fun t j => (gs k F P t j).2.2) t (cnt k)).2 - t else 0
theorem sbs_split (k : Nat) (F G : Nat → Int) (c j : Nat) (h : j < c) : ∃ R,sbs k F G c = sbs k F G j ++ (sb k F G j ++ R) := by
 induction c with
 | zero => omega
 | succ c ih =>
  by_cases e : j = c
  ·subst e; exact ⟨[],by rw [sbs,List.append_nil]⟩
  ·obtain ⟨R,hR⟩ := ih (by omega)
   exact ⟨R ++ sb k F G c,by rw [sbs,hR]; simp [List.append_assoc]⟩
theorem gs_back (k : Nat) (F G : Nat → Int) (P : List Nat) (A Z : List Bool) (hP : bitsB P = A ++ (sbs k F G (cnt k) ++ Z)) (hr : ∀ j,j < cnt k → lo k j ≤ G j ∧ G j ≤ hi k j) (j : Nat) (hj : j < cnt k) :
  gs k F P (A.length + ssum k F G j) j = (0,G j,fsz k F G j) := by
 obtain ⟨l0,l1,l2,l3⟩ := rng_ok k j hj
 obtain ⟨R,hR⟩ := sbs_split k F G (cnt k) j hj
 have e : (bitsB P).drop (A.length + ssum k F G j) = sb k F G j ++ (R ++ Z) := by
  rw [hP,hR,← List.drop_drop,List.drop_left,List.append_assoc,← length_sbs k F G j,List.drop_left,List.append_assoc]
 have hlen : 8 * P.length = A.length + ssum k F G j + (fsz k F G j + (R ++ Z).length) := by
  have h1 := congrArg List.length e
  rw [List.length_drop,length_bitsB,List.length_append,length_sb] at h1
  have h2 := congrArg List.length hP
  have h3 := congrArg List.length hR
  rw [length_bitsB] at h2
  rw [length_sbs,List.length_append,length_sbs] at h3
  rw [List.length_append,List.length_append,length_sbs] at h2
  have : 1 ≤ fsz k F G j := by unfold fsz; split; omega; split <;> omega
  omega
 generalize R ++ Z = Q at *
 generalize A.length + ssum k F G j = t at *
 have d1 : (bitsB P).drop (t + 1) = (sb k F G j ++ Q).drop 1 := by rw [← List.drop_drop,e]
 have d2 : (bitsB P).drop (t + 1 + 1) = (sb k F G j ++ Q).drop 2 := by rw [Nat.add_assoc,← List.drop_drop,e]
 have hG := hr j hj
 unfold gs
 have hm : mz F G j = zig (G j - F j) := rfl
 by_cases h0 : mz F G j = 0
 ·have hs : sb k F G j = [false] := by unfold sb; rw [if_pos h0]; rfl
  have hz : fsz k F G j = 1 := by unfold fsz; rw [if_pos h0]
  rw [hs] at e
  rw [hz] at hlen ⊢
  have hn : numAt P t 1 = 0 := by rw [numAt_take,e]; rfl
  have hGF : G j = F j := by
   have := zag_zig (G j - F j)
   rw [← hm,h0] at this
   have h2 : zag 0 = 0 := by decide
   omega
  rw [if_neg (by omega),if_pos hn,hGF]
 ·by_cases h16 : mz F G j ≤ 16
  ·have hs : sb k F G j = [true,true] ++ bitsN 4 (mz F G j - 1) := by unfold sb; rw [if_neg h0,if_pos h16]; rfl
   have hz : fsz k F G j = 6 := by unfold fsz; rw [if_neg h0,if_pos h16]
   rw [hs] at e d1 d2
   rw [hz] at hlen ⊢
   have hn : numAt P t 1 = 1 := by rw [numAt_take,e]; rfl
   have hn1 : numAt P (t + 1) 1 = 1 := by rw [numAt_take,d1]; rfl
   have hn2 : numAt P (t + 1 + 1) 4 = mz F G j - 1 := by
    rw [numAt_take,d2]
    have : ([true,true] ++ bitsN 4 (mz F G j - 1) ++ Q).drop 2 = bitsN 4 (mz F G j - 1) ++ Q := rfl
    rw [this,List.take_append_of_le_length (by rw [length_bitsN]; exact Nat.le_refl _),List.take_of_length_le (by rw [length_bitsN]; exact Nat.le_refl _),num_bitsN,Nat.mod_eq_of_lt (by omega)]
   have hv : F j + zag (mz F G j - 1 + 1) = G j := by
    rw [Nat.sub_add_cancel (by omega),hm,zag_zig]; omega
   rw [if_neg (by omega),if_neg (by omega),if_neg (by omega),if_pos hn1]
   unfold nr
   rw [if_neg (by omega),hn2,hv,if_neg (by omega)]
   rfl
  ·have hs : sb k F G j = [true,false] ++ fb k G j := by unfold sb; rw [if_neg h0,if_neg h16]; rfl
   have hz : fsz k F G j = 2 + wd k j := by unfold fsz; rw [if_neg h0,if_neg h16]
   rw [hs] at e d1 d2
   rw [hz] at hlen ⊢
   have hn : numAt P t 1 = 1 := by rw [numAt_take,e]; rfl
   have hn1 : numAt P (t + 1) 1 = 0 := by rw [numAt_take,d1]; rfl
   have hg : gf k P (t + 1 + 1) j = (0,G j,wd k j) := by
    unfold gf
    rw [d2]
    exact gi_back (lo k j) (hi k j) (G j) _ (by omega) (by omega) hG.1 hG.2
   rw [if_neg (by omega),if_neg (by omega),if_neg (by omega),if_neg (by omega)]
   unfold fa
   rw [hg]
   simp only
   rw [if_neg (by simp),if_neg (by rw [← hm]; exact h16)]
theorem srat_back (k : Nat) (F G : Nat → Int) (P : List Nat) (A Z : List Bool) (hP : bitsB P = A ++ (sbs k F G (cnt k) ++ Z)) (hr : ∀ j,j < cnt k → lo k j ≤ G j ∧ G j ≤ hi k j) :
  ∀ j,j ≤ cnt k → rat (fun t j => (gs k F P t j).1) (fun t j => (gs k F P t j).2.2) A.length j = (0,A.length + ssum k F G j) := by
 intro j
 induction j with
 | zero => intro _; rfl
 | succ j ih =>
  intro hj
  have hi' := ih (by omega)
  rw [rat,hi',if_pos rfl]
  have := gs_back k F G P A Z hP hr j (by omega)
  rw [this,ssum,Nat.add_assoc]
theorem step_back (k : Nat) (F G : Nat → Int) (P : List Nat) (A Z : List Bool) (hP : bitsB P = A ++ (sbs k F G (cnt k) ++ Z)) (h1 : chk k F = 0) (h2 : chk k G = 0) :
  scode k F P A.length = 0 ∧ scons k F P A.length = ssum k F G (cnt k) ∧ cmp k (sfld k F P A.length) = cmp k G := by
 obtain ⟨h6,hr,hz⟩ := chk_ok k G h2
 obtain ⟨_,_,hzF⟩ := chk_ok k F h1
 have hr1 := srat_back k F G P A Z hP hr (cnt k) (Nat.le_refl _)
 have g0 : scode k F P A.length = 0 := by unfold scode; rw [if_pos h1,hr1]
 refine ⟨g0,?_,?_⟩
 ·unfold scons
  rw [if_pos g0,hr1]
  show A.length + ssum k F G (cnt k) - A.length = ssum k F G (cnt k)
  omega
 ·have hf : ∀ j,j < 3 → sfld k F P A.length j = G j := by
   intro j hj
   unfold sfld upd
   by_cases hc : j < cnt k
   ·rw [if_pos hc,srat_back k F G P A Z hP hr j (by omega)]
    show (gs k F P (A.length + ssum k F G j) j).2.1 = G j
    rw [gs_back k F G P A Z hP hr j hc]
   ·rw [if_neg hc,hz j (by omega) hj,hzF j (by omega) hj]
  unfold cmp
  rw [hf 0 (by decide),hf 1 (by decide),hf 2 (by decide)]
end Go.Proofs.YtgifeckbflkkpaaGreatDoor
