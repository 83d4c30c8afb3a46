/- The document's GetStep of components, on lists of bits. -/
import Derived.Test.YtgifeckbflkkpaaGreatDoorQr11
namespace Go.Proofs.YtgifeckbflkkpaaGreatDoor
open Go.RowKit
set_option linter.unusedVariables false
set_option maxHeartbeats 20000000
set_option maxRecDepth 100000
theorem rgs (P : List Nat) (a n : Nat) (h : 8 * P.length < a + n) (h1 : 1 ≤ n) (hn : n ≤ 64) (w : World) (v : Value) (hb : Bs w v ((bitsB P).drop a)) :
  Calls Tryz.prog 105 #[v,.int .i64 (n : Int)] w fun e w' => e = .returned (.tuple #[.int .u64 0,v,.int .i64 2]) ∧ w' = w :=
 rget_short w v _ n hb hn (by rw [List.length_drop,length_bitsB]; omega)
theorem rgo (P : List Nat) (a n x : Nat) (h : a + n ≤ 8 * P.length) (hx : numAt P a n = x) (hP : (bitsB P).length ≤ 100000) (hn : n ≤ 64) (w : World) (v : Value) (hb : Bs w v ((bitsB P).drop a)) :
  Calls Tryz.prog 105 #[v,.int .i64 (n : Int)] w fun e w' => ∃ v',e = .returned (.tuple #[.int .u64 (x : Nat),v',.int .i64 0]) ∧ Bs w' v' ((bitsB P).drop (a + n)) ∧ Fr Nobody w w' := by
 have := rget_ok w v _ n hb hn (by rw [List.length_drop,length_bitsB]; omega) (by rw [List.length_drop]; omega)
 rw [List.drop_drop] at this
 rw [← hx]
 exact this
theorem zag1 : zag 1 = -1 := by decide
theorem rstepC_any (w : World) (v : Value) (P : List Nat) (t k : Nat) (hk : k < 256) (F : Nat → Int) (h : Bs w v ((bitsB P).drop t)) (hP : (bitsB P).length ≤ 100000) (RV : Array Value) (hv1 : scode k F P t = 0 → RV = cmp k (sfld k F P t)) (hv2 : scode k F P t ≠ 0 → RV = cmp 0 (f3 0 0 0)) :
  Calls Tryz.prog 54 #[v,.agg (cmp k F)] w fun e w' => ∃ u,e = .returned (.tuple #[.agg RV,u,.int .i64 (scode k F P t)]) ∧ GvRest w w' u ((bitsB P).drop (t + scons k F P t)) := by
 have hres : Tryz.f54.results = #[.cell 4 63,.tmp 5,.tmp 6] := by kernel_rfl
 have HV1 : Hid (scode k F P t = 0 → RV = cmp k (sfld k F P t)) := hv1
 have HV2 : Hid (scode k F P t ≠ 0 → RV = cmp 0 (f3 0 0 0)) := hv2
 have H : Hid (Bs w v ((bitsB P).drop t)) := h
 have K : Hid (∀ w,Calls Tryz.prog 107 #[.agg (cmp k F)] w fun e w' => e = .returned (.int .i64 ((chk k F : Nat) : Int)) ∧ Fr Nobody w w') := fun w => rcheck_any w k hk F
 obtain ⟨b1,b2,hf0⟩ := boxes w k 0 F (f3 0 0 0)
 have HF0 : Hid (Fr Nobody w _) := hf0
 have HW0 : Hid (Box _ w.heap.size k F) := b1
 have HX0 : Hid (Box _ (w.heap.size + 1) 0 (f3 0 0 0)) := b2
 have HG0 : Hid (scode k F P t ≠ 0 → scons k F P t = 0) := fun e => by unfold scons; rw [if_neg e]
 clear h hv1 hv2 b1 b2 hf0
 by_cases h0 : chk k F = 0
 ·have EG : Hid (scode k F P t = (rat (fun t j => (gs k F P t j).1) (fun t j => (gs k F P t j).2.2) t (cnt k)).1) := by show _ = _; unfold scode; rw [if_pos h0]
  have EN : Hid (scode k F P t = 0 → scons k F P t = (rat (fun t j => (gs k F P t j).1) (fun t j => (gs k F P t j).2.2) t (cnt k)).2 - t) := fun e => by unfold scons; rw [if_pos e]
  have EF : Hid (sfld k F P t = upd (fun t j => (gs k F P t j).1) (fun t j => (gs k F P t j).2.1) (fun t j => (gs k F P t j).2.2) t F (cnt k)) := rfl
  obtain ⟨code,hcode⟩ : ∃ code : Nat → Nat → Int,code = fun t j => (gs k F P t j).1 := ⟨_,rfl⟩
  obtain ⟨val,hval⟩ : ∃ val : Nat → Nat → Int,val = fun t j => (gs k F P t j).2.1 := ⟨_,rfl⟩
  obtain ⟨cons,hcons⟩ : ∃ cons : Nat → Nat → Nat,cons = fun t j => (gs k F P t j).2.2 := ⟨_,rfl⟩
  rw [← hcode,← hcons] at EG EN
  rw [← hcode,← hcons,← hval] at EF
  have hc := cnt_le k
  have GS : Hid (∀ m j a b c,gs k F P m j = (a,b,c) → code m j = a ∧ val m j = b ∧ cons m j = c) := by
   intro m j a b c e
   rw [hcode,hval,hcons]
   show (gs k F P m j).1 = a ∧ (gs k F P m j).2.1 = b ∧ (gs k F P m j).2.2 = c
   rw [e]; exact ⟨rfl,rfl,rfl⟩
  have G : Hid (∀ w v m j,j < cnt k → Bs w v ((bitsB P).drop m) → Calls Tryz.prog 99 #[v,.int .i64 (lo k j),.int .i64 (hi k j)] w fun e w' => ∃ u,e = .returned (.tuple #[.int .i64 (gf k P m j).2.1,u,.int .i64 (gf k P m j).1]) ∧ GvRest w w' u ((bitsB P).drop (m + (gf k P m j).2.2))) := by
   intro w v m j hj hb
   obtain ⟨l0,l1,l2,l3⟩ := rng_ok k j hj
   have := rgetIn_any w v _ (lo k j) (hi k j) hb (by rw [List.length_drop]; omega) (by omega) (by omega) (by omega) (by omega)
   rw [List.drop_drop] at this
   exact this
  have VR : Hid (∀ m j,j < cnt k → -524288 ≤ (gf k P m j).2.1 ∧ (gf k P m j).2.1 ≤ 524287) := by
   intro m j hj
   obtain ⟨l0,l1,l2,l3⟩ := rng_ok k j hj
   have := gi_rng (lo k j) (hi k j) ((bitsB P).drop m)
   unfold gf
   omega
  have RR : Hid (∀ w j,j < cnt k → _) := fun w j hj => rrange_ok w k j hj
  have RB : Hid (∀ j,j < cnt k → (-524288 ≤ lo k j ∧ lo k j ≤ 1 ∧ 7 ≤ hi k j ∧ hi k j ≤ 524287) ∧ lo k j ≤ F j ∧ F j ≤ hi k j) := fun j hj => ⟨rng_ok k j hj,(chk_ok k F h0).2.1 j hj⟩
  have C : Hid (∀ w,_) := fun w => rcount_any w k hk
  rw [h0] at K
  clear hcode hval hcons h0
  generalize cnt k = c at *
  unfold cmp at K HW0 HX0 HF0
  unfold cmp
  go_enter Tryz.func54,Tryz.ntmps54
  go_wp2_with fail
  refine (K.out _).mono ?_
  rintro e w1 ⟨rfl,hf1⟩
  have W1 : Hid (Box w1 w.heap.size k F) := Box.quiet HW0.out hf1
  have X1 : Hid (Box w1 (w.heap.size + 1) 0 (f3 0 0 0)) := Box.quiet HX0.out hf1
  have HF1 : Hid (Fr Nobody w w1) := Fr.trans HF0.out hf1
  have hs1 : w.heap.size + 1 < w1.heap.size := (Array.getElem?_eq_some_iff.1 X1.out).1
  have hs0 : w.heap.size < w1.heap.size := by omega
  have hs2 : w1.heap.size ≠ w.heap.size := by omega
  obtain ⟨p0,p1,p2,p3⟩ := W1.out.cells
  have Y1 : Hid (Box (w1.alloc (.cells #[.int .u8 (k : Int),.int .i32 (F 0),.int .i32 (F 1),.int .i32 (F 2)] 63)) w1.heap.size k F) := Box.new w1 k F
  clear hf1
  go_wp2_with fail
  refine (C.out _).mono ?_
  rintro e w2 ⟨rfl,hf2⟩
  have W2 : Hid (Box w2 w.heap.size k F) := (W1.out.quiet ((Fr.refl _ _).alloc _)).quiet hf2
  have X2 : Hid (Box w2 (w.heap.size + 1) 0 (f3 0 0 0)) := (X1.out.quiet ((Fr.refl _ _).alloc _)).quiet hf2
  have Y2 : Hid (Box w2 w1.heap.size k F) := Y1.out.quiet hf2
  have HF2 : Hid (Fr Nobody w w2) := (HF1.out.alloc _).trans hf2
  clear hf2 X1 Y1 W1 HX0 HF0 HW0 p0 p1 p2 p3
  go_wp2
  go_loopw [9,36] (fun rv a wr => ∃ j : Nat,j ≤ c ∧ a = .int .i64 j ∧ (rat code cons t j).1 = 0 ∧ Bs wr rv ((bitsB P).drop (rat code cons t j).2) ∧ Box wr w.heap.size k F ∧ Box wr w1.heap.size k (upd code val cons t F j) ∧ Box wr (w.heap.size + 1) 0 (f3 0 0 0) ∧ Fr Nobody w wr) (fun _ a _ => c - (intOf a).toNat)
  case atStart => exact ⟨0,by omega,rfl,rfl,H.out.quiet HF2.out,W2.out,by rw [upd_zero]; exact Y2.out,X2.out,HF2.out⟩
  case round =>
   obtain ⟨j,hj,rfl,hz,hB,hb0,hb1,hb2,hf⟩ := hrel
   have HZ : Hid ((rat code cons t j).1 = 0) := hz
   have HB : Hid (Bs wr u9 ((bitsB P).drop (rat code cons t j).2)) := hB
   have B0 : Hid (Box wr w.heap.size k F) := hb0
   have B1 : Hid (Box wr w1.heap.size k (upd code val cons t F j)) := hb1
   have B2 : Hid (Box wr (w.heap.size + 1) 0 (f3 0 0 0)) := hb2
   have HG : Hid (Fr Nobody w wr) := hf
   clear hz hB hb0 hb1 hb2 hf X2 Y2 W2 HF2 HF1
   by_cases hlt2 : j < c
   ·have RJ : Hid (∀ w,_) := fun w => RR.out w j hlt2
    have HSN : Hid (rat code cons t (j + 1) = (code (rat code cons t j).2 j,(rat code cons t j).2 + cons (rat code cons t j).2 j)) := by
     show _ = _
     rw [rat,if_pos HZ.out]
    have GJ : Hid (∀ w v m,Bs w v ((bitsB P).drop m) → _) := fun w v m hb => G.out w v m j hlt2 hb
    have VJ : Hid (∀ m,-524288 ≤ (gf k P m j).2.1 ∧ (gf k P m j).2.1 ≤ 524287) := fun m => VR.out m j hlt2
    have HEND : Hid (∀ cd : Int,code (rat code cons t j).2 j = cd → cd ≠ 0 → scode k F P t = cd ∧ RV = cmp 0 (f3 0 0 0) ∧ scons k F P t = 0) := by
     intro cd e hcd
     have e1 : scode k F P t = cd := by
      rw [EG.out]
      have : c = (j + 1) + (c - (j + 1)) := by omega
      rw [this,rat_err code cons t (j + 1) _ (by rw [HSN.out,e]; exact hcd),HSN.out,e]
     exact ⟨e1,HV2.out (by rw [e1]; exact hcd),HG0.out (by rw [e1]; exact hcd)⟩
    have HNX : Hid (∀ (w4 : World) (u : Value) (x : Int) (n : Nat),code (rat code cons t j).2 j = 0 → val (rat code cons t j).2 j = x → cons (rat code cons t j).2 j = n → Bs w4 u ((bitsB P).drop ((rat code cons t j).2 + n)) → Box w4 w.heap.size k F → Box w4 w1.heap.size k (upd code val cons t F j) → Box w4 (w.heap.size + 1) 0 (f3 0 0 0) → Fr Nobody w w4 → (rat code cons t (j + 1)).1 = 0 ∧ Bs (w4.setCell ⟨w1.heap.size,1 + j,none⟩ (.int .i32 x)) u ((bitsB P).drop (rat code cons t (j + 1)).2) ∧ Box (w4.setCell ⟨w1.heap.size,1 + j,none⟩ (.int .i32 x)) w.heap.size k F ∧ Box (w4.setCell ⟨w1.heap.size,1 + j,none⟩ (.int .i32 x)) w1.heap.size k (upd code val cons t F (j + 1)) ∧ Box (w4.setCell ⟨w1.heap.size,1 + j,none⟩ (.int .i32 x)) (w.heap.size + 1) 0 (f3 0 0 0) ∧ Fr Nobody w (w4.setCell ⟨w1.heap.size,1 + j,none⟩ (.int .i32 x))) := by
     intro w4 u x n e1 e2 e3 hU hb0 hb1 hb2 hf
     have B13 := hb1.set (j := j) (by omega) x
     have eU : (fun i => if i = j then x else upd code val cons t F j i) = upd code val cons t F (j + 1) := by
      funext i
      unfold upd
      by_cases e4 : i = j
      ·subst e4; simp [e2]
      ·rw [if_neg e4]
       by_cases e5 : i < j
       ·rw [if_pos e5,if_pos (by omega)]
       ·rw [if_neg e5,if_neg (by omega)]
     rw [eU] at B13
     have n0 : w.heap.size ≠ w1.heap.size := by omega
     have n1 : w.heap.size + 1 ≠ w1.heap.size := by omega
     rw [HSN.out,e1,e3]
     exact ⟨rfl,hU.setBox hb1 _,(Below.heap_setCell w4 _ _ w.heap.size (by simpa using n0)).trans hb0,B13,(Below.heap_setCell w4 _ _ (w.heap.size + 1) (by simpa using n1)).trans hb2,hf.setCell (p := ⟨w1.heap.size,1 + j,none⟩) (.inr (by show w.heap.size ≤ w1.heap.size; omega)) _⟩
    have HNS : Hid (∀ (w4 : World) (u : Value),code (rat code cons t j).2 j = 0 → val (rat code cons t j).2 j = F j → cons (rat code cons t j).2 j = 1 → Bs w4 u ((bitsB P).drop ((rat code cons t j).2 + 1)) → Box w4 w1.heap.size k (upd code val cons t F j) → (rat code cons t (j + 1)).1 = 0 ∧ Bs w4 u ((bitsB P).drop (rat code cons t (j + 1)).2) ∧ Box w4 w1.heap.size k (upd code val cons t F (j + 1))) := by
     intro w4 u e1 e2 e3 hU hb1
     have eU : upd code val cons t F j = upd code val cons t F (j + 1) := by
      funext i
      unfold upd
      by_cases e4 : i = j
      ·subst e4; simp [e2]
      ·by_cases e5 : i < j
       ·rw [if_pos e5,if_pos (by omega)]
       ·rw [if_neg e5,if_neg (by omega)]
     rw [HSN.out,e1,e3]
     rw [eU] at hb1
     exact ⟨rfl,hU,hb1⟩
    have GSJ : Hid (∀ a b c,gs k F P (rat code cons t j).2 j = (a,b,c) → code (rat code cons t j).2 j = a ∧ val (rat code cons t j).2 j = b ∧ cons (rat code cons t j).2 j = c) := fun a b c e => GS.out _ j a b c e
    obtain ⟨⟨l0,l1,l2,l3⟩,r0,r1⟩ := RB.out j hlt2
    clear G RR VR RB EG EN EF HV1 GS HSN
    generalize (rat code cons t j).2 = m at *
    generalize code m j = cdj at *
    generalize val m j = vlj at *
    generalize cons m j = cnj at *
    have c0 := B0.out.kind
    have hgs : gs k F P m j = (if 8 * P.length < m + 1 then (2,F j,0) else if numAt P m 1 = 0 then (0,F j,1) else if 8 * P.length < m + 1 + 1 then (2,0,0) else if numAt P (m + 1) 1 = 1 then ((nr k F P (m + 1 + 1) j).1,(nr k F P (m + 1 + 1) j).2.1,2 + (nr k F P (m + 1 + 1) j).2.2) else ((fa k F P (m + 1 + 1) j).1,(fa k F P (m + 1 + 1) j).2.1,2 + (fa k F P (m + 1 + 1) j).2.2)) := rfl
    have HP2 : Hid ((bitsB P).length ≤ 100000) := hP
    clear hP
    by_cases h1 : 8 * P.length < m + 1
    ·rw [if_pos h1] at hgs
     have HSH : Hid (8 * P.length < m + 1) := h1
     have HE : Hid (scode k F P t = 2 ∧ RV = cmp 0 (f3 0 0 0) ∧ scons k F P t = 0) := HEND.out 2 (GSJ.out _ _ _ hgs).1 (by decide)
     clear hgs h1 HEND HNX HNS GJ VJ GSJ
     go_wp2_with fail
     refine (RJ.out _).mono ?_
     rintro e w3 ⟨rfl,hf3⟩
     have F3 : Hid (Fr Nobody wr w3) := hf3
     clear hf3
     go_wp2_with fail
     refine (rgs P m 1 HSH.out (by decide) (by decide) _ _ (HB.out.quiet F3.out)).mono ?_
     rintro e w4 ⟨rfl,rfl⟩
     have B2e : Hid (Box w4 (w.heap.size + 1) 0 (f3 0 0 0)) := B2.out.quiet F3.out
     have HGe : Hid (Fr Nobody w w4) := HG.out.trans F3.out
     obtain ⟨y0,y1,y2,y3⟩ := B2e.out.cells
     have z0 := B2e.out.frozen 0
     have z1 := B2e.out.frozen 1
     have z2 := B2e.out.frozen 2
     have z3 := B2e.out.frozen 3
     have HRX : Hid (Box (put4 w4 (w.heap.size + 1) 0 (f3 0 0 0)) (w.heap.size + 1) 0 (f3 0 0 0)) := put4_box B2e.out
     have HRD : Hid (Fr Nobody w (put4 w4 (w.heap.size + 1) 0 (f3 0 0 0))) := put4_fr HGe.out (.inr (by omega))
     simp only [f3] at y1 y2 y3
     go_wp2
     (try simp only [Exit.inBlock,Exit.then])
     refine bodyPost_ret (v := .tuple #[.agg #[.int .u8 0,.int .i32 0,.int .i32 0,.int .i32 0],v,.int .i64 2]) ?_ rfl ⟨v,by rw [HE.out.2.1,HE.out.1]; rfl,?_,HRD.out⟩
     ·simp only [results,hres]
      obtain ⟨q0,q1,q2,q3⟩ := HRX.out.cells
      simp only [put4,f3] at q0 q1 q2 q3
      go_simp
     ·rw [HE.out.2.2]
      exact H.out.quiet HRD.out
    ·rw [if_neg h1] at hgs
     have hv := numAt_lt P m 1
     by_cases h2 : numAt P m 1 = 0
     ·rw [if_pos h2] at hgs
      obtain ⟨g1,g2,g3⟩ := GSJ.out _ _ _ hgs
      have HNQ : Hid (cdj = 0 ∧ vlj = F j ∧ cnj = 1) := ⟨g1,g2,g3⟩
      have O1 : Hid (∀ w v,Bs w v ((bitsB P).drop m) → _) := fun w v hb => rgo P m 1 0 (by omega) h2 HP2.out (by decide) w v hb
      clear hgs h1 HEND HNX GJ VJ GSJ hv h2 g1 g2 g3
      go_wp2_with fail
      refine (RJ.out _).mono ?_
      rintro e w3 ⟨rfl,hf3⟩
      have F3 : Hid (Fr Nobody wr w3) := hf3
      clear hf3
      go_wp2_with fail
      refine (O1.out _ _ (HB.out.quiet F3.out)).mono ?_
      rintro e w4 ⟨v4,rfl,hV4,hf4⟩
      have F4 : Hid (Fr Nobody wr w4) := F3.out.trans hf4
      have HN : Hid _ := HNS.out w4 v4 HNQ.out.1 HNQ.out.2.1 HNQ.out.2.2 hV4 (B1.out.quiet F4.out)
      clear hV4 hf4
      go_wp2
      go_roundw
      case rel => exact ⟨j + 1,by omega,by go_num,HN.out.1,HN.out.2.1,B0.out.quiet F4.out,HN.out.2.2,B2.out.quiet F4.out,HG.out.trans F4.out⟩
      case measure => simp [intOf]; omega
     ·rw [if_neg h2] at hgs
      have e1 : numAt P m 1 = 1 := by
       have : numAt P m 1 < 2 := by simpa using hv
       omega
      have O1 : Hid (∀ w v,Bs w v ((bitsB P).drop m) → _) := fun w v hb => rgo P m 1 1 (by omega) e1 HP2.out (by decide) w v hb
      clear hv h2 e1
      by_cases h3 : 8 * P.length < m + 1 + 1
      ·rw [if_pos h3] at hgs
       have HSH : Hid (8 * P.length < m + 1 + 1) := h3
       have HE : Hid (scode k F P t = 2 ∧ RV = cmp 0 (f3 0 0 0) ∧ scons k F P t = 0) := HEND.out 2 (GSJ.out _ _ _ hgs).1 (by decide)
       clear hgs h1 h3 HEND HNX HNS GJ VJ GSJ
       go_wp2_with fail
       refine (RJ.out _).mono ?_
       rintro e w3 ⟨rfl,hf3⟩
       have F3 : Hid (Fr Nobody wr w3) := hf3
       clear hf3
       go_wp2_with fail
       refine (O1.out _ _ (HB.out.quiet F3.out)).mono ?_
       rintro e w4 ⟨v4,rfl,hV4,hf4⟩
       have F4 : Hid (Fr Nobody wr w4) := F3.out.trans hf4
       have V4 : Hid (Bs w4 v4 ((bitsB P).drop (m + 1))) := hV4
       clear hV4 hf4
       go_wp2_with fail
       refine (rgs P (m + 1) 1 HSH.out (by decide) (by decide) _ _ V4.out).mono ?_
       rintro e w5 ⟨rfl,rfl⟩
       have B2e : Hid (Box w5 (w.heap.size + 1) 0 (f3 0 0 0)) := B2.out.quiet F4.out
       have HGe : Hid (Fr Nobody w w5) := HG.out.trans F4.out
       obtain ⟨y0,y1,y2,y3⟩ := B2e.out.cells
       have z0 := B2e.out.frozen 0
       have z1 := B2e.out.frozen 1
       have z2 := B2e.out.frozen 2
       have z3 := B2e.out.frozen 3
       have HRX : Hid (Box (put4 w5 (w.heap.size + 1) 0 (f3 0 0 0)) (w.heap.size + 1) 0 (f3 0 0 0)) := put4_box B2e.out
       have HRD : Hid (Fr Nobody w (put4 w5 (w.heap.size + 1) 0 (f3 0 0 0))) := put4_fr HGe.out (.inr (by omega))
       simp only [f3] at y1 y2 y3
       go_wp2
       (try simp only [Exit.inBlock,Exit.then])
       refine bodyPost_ret (v := .tuple #[.agg #[.int .u8 0,.int .i32 0,.int .i32 0,.int .i32 0],v,.int .i64 2]) ?_ rfl ⟨v,by rw [HE.out.2.1,HE.out.1]; rfl,?_,HRD.out⟩
       ·simp only [results,hres]
        obtain ⟨q0,q1,q2,q3⟩ := HRX.out.cells
        simp only [put4,f3] at q0 q1 q2 q3
        go_simp
       ·rw [HE.out.2.2]
        exact H.out.quiet HRD.out
      ·rw [if_neg h3] at hgs
       have hv := numAt_lt P (m + 1) 1
       by_cases h4 : numAt P (m + 1) 1 = 1
       ·rw [if_pos h4] at hgs
        have O2 : Hid (∀ w v,Bs w v ((bitsB P).drop (m + 1)) → _) := fun w v hb => rgo P (m + 1) 1 1 (by omega) h4 HP2.out (by decide) w v hb
        clear hv h4
        have hnr : nr k F P (m + 1 + 1) j = (if 8 * P.length < m + 1 + 1 + 4 then (2,0,0) else if F j + zag (numAt P (m + 1 + 1) 4 + 1) < lo k j ∨ hi k j < F j + zag (numAt P (m + 1 + 1) 4 + 1) then (5,0,0) else (0,F j + zag (numAt P (m + 1 + 1) 4 + 1),4)) := rfl
        rw [hnr] at hgs
        by_cases h5 : 8 * P.length < m + 1 + 1 + 4
        ·rw [if_pos h5] at hgs
         have HSH : Hid (8 * P.length < m + 1 + 1 + 4) := h5
         have Z1 : Hid (∀ w,Calls Tryz.prog 110 #[.int .u64 1] w fun e w' => e = .returned (.int .i64 (-1)) ∧ w' = w) := fun w => by have := rzag_any 1 w (by decide); rw [zag1] at this; exact this
         have HE : Hid (scode k F P t = 2 ∧ RV = cmp 0 (f3 0 0 0) ∧ scons k F P t = 0) := HEND.out 2 (GSJ.out _ _ _ hgs).1 (by decide)
         clear hgs h1 h3 h5 hnr HEND HNX HNS GJ VJ GSJ
         go_wp2_with fail
         refine (RJ.out _).mono ?_
         rintro e w3 ⟨rfl,hf3⟩
         have F3 : Hid (Fr Nobody wr w3) := hf3
         clear hf3
         go_wp2_with fail
         refine (O1.out _ _ (HB.out.quiet F3.out)).mono ?_
         rintro e w4 ⟨v4,rfl,hV4,hf4⟩
         have F4 : Hid (Fr Nobody wr w4) := F3.out.trans hf4
         have V4 : Hid (Bs w4 v4 ((bitsB P).drop (m + 1))) := hV4
         clear hV4 hf4
         go_wp2_with fail
         refine (O2.out _ _ V4.out).mono ?_
         rintro e w5 ⟨v5,rfl,hV5,hf5⟩
         have F5 : Hid (Fr Nobody wr w5) := F4.out.trans hf5
         have V5 : Hid (Bs w5 v5 ((bitsB P).drop (m + 1 + 1))) := hV5
         clear hV5 hf5
         go_wp2_with fail
         refine (rgs P (m + 1 + 1) 4 HSH.out (by decide) (by decide) _ _ V5.out).mono ?_
         rintro e w6 ⟨rfl,rfl⟩
         have x1 := (B0.out.quiet F5.out).at j (by omega)
         generalize F j = f at *
         go_wp2
         go_quiet (refine Calls.quiet_of_same (Z1.out _))
         have F6 : Hid (Fr Nobody wr (w6.drewN nq)) := F5.out.drewN nq
         have B2e : Hid (Box (w6.drewN nq) (w.heap.size + 1) 0 (f3 0 0 0)) := B2.out.quiet F6.out
         have HGe : Hid (Fr Nobody w (w6.drewN nq)) := HG.out.trans F6.out
         obtain ⟨y0,y1,y2,y3⟩ := B2e.out.cells
         have z0 := B2e.out.frozen 0
         have z1 := B2e.out.frozen 1
         have z2 := B2e.out.frozen 2
         have z3 := B2e.out.frozen 3
         have HRX : Hid (Box (put4 (w6.drewN nq) (w.heap.size + 1) 0 (f3 0 0 0)) (w.heap.size + 1) 0 (f3 0 0 0)) := put4_box B2e.out
         have HRD : Hid (Fr Nobody w (put4 (w6.drewN nq) (w.heap.size + 1) 0 (f3 0 0 0))) := put4_fr HGe.out (.inr (by omega))
         simp only [f3] at y1 y2 y3
         go_wp2
         (try simp only [Exit.inBlock,Exit.then])
         refine bodyPost_ret (v := .tuple #[.agg #[.int .u8 0,.int .i32 0,.int .i32 0,.int .i32 0],v,.int .i64 2]) ?_ rfl ⟨v,by rw [HE.out.2.1,HE.out.1]; rfl,?_,HRD.out⟩
         ·simp only [results,hres]
          obtain ⟨q0,q1,q2,q3⟩ := HRX.out.cells
          simp only [put4,f3] at q0 q1 q2 q3
          go_simp
         ·rw [HE.out.2.2]
          exact H.out.quiet HRD.out
        ·rw [if_neg h5] at hgs
         have hv := numAt_lt P (m + 1 + 1) 4
         have hz := zag_small (numAt P (m + 1 + 1) 4) (by simpa using hv)
         have hv16 : numAt P (m + 1 + 1) 4 < 16 := by simpa using hv
         have O3 : Hid (∀ w v,Bs w v ((bitsB P).drop (m + 1 + 1)) → _) := fun w v hb => rgo P (m + 1 + 1) 4 _ (by omega) rfl HP2.out (by decide) w v hb
         have Z : Hid (∀ w,Calls Tryz.prog 110 #[.int .u64 ((numAt P (m + 1 + 1) 4 : Int) + 1)] w fun e w' => e = .returned (.int .i64 (zag (numAt P (m + 1 + 1) 4 + 1))) ∧ w' = w) := fun w => rzag_any (numAt P (m + 1 + 1) 4 + 1) w (by omega)
         clear hv hnr
         generalize numAt P (m + 1 + 1) 4 = nv at *
         generalize zag (nv + 1) = zz at *
         obtain ⟨zz0,zz1⟩ := hz
         by_cases h6 : F j + zz < lo k j ∨ hi k j < F j + zz
         ·rw [if_pos h6] at hgs
          have HE : Hid (scode k F P t = 5 ∧ RV = cmp 0 (f3 0 0 0) ∧ scons k F P t = 0) := HEND.out 5 (GSJ.out _ _ _ hgs).1 (by decide)
          clear hgs h1 h3 h5 HEND HNX HNS GJ VJ GSJ
          generalize lo k j = x at *
          generalize hi k j = y at *
          go_wp2_with fail
          refine (RJ.out _).mono ?_
          rintro e w3 ⟨rfl,hf3⟩
          have F3 : Hid (Fr Nobody wr w3) := hf3
          clear hf3
          go_wp2_with fail
          refine (O1.out _ _ (HB.out.quiet F3.out)).mono ?_
          rintro e w4 ⟨v4,rfl,hV4,hf4⟩
          have F4 : Hid (Fr Nobody wr w4) := F3.out.trans hf4
          have V4 : Hid (Bs w4 v4 ((bitsB P).drop (m + 1))) := hV4
          clear hV4 hf4
          go_wp2_with fail
          refine (O2.out _ _ V4.out).mono ?_
          rintro e w5 ⟨v5,rfl,hV5,hf5⟩
          have F5 : Hid (Fr Nobody wr w5) := F4.out.trans hf5
          have V5 : Hid (Bs w5 v5 ((bitsB P).drop (m + 1 + 1))) := hV5
          clear hV5 hf5
          go_wp2_with fail
          refine (O3.out _ _ V5.out).mono ?_
          rintro e w6 ⟨v6,rfl,hV6,hf6⟩
          have F6 : Hid (Fr Nobody wr w6) := F5.out.trans hf6
          have V6 : Hid (Bs w6 v6 ((bitsB P).drop (m + 1 + 1 + 4))) := hV6
          have x1 := (B0.out.quiet F6.out).at j (by omega)
          clear hV6 hf6
          generalize F j = f at *
          by_cases h7 : f + zz < x
          ·go_wp2
           go_quiet (refine Calls.quiet_of_same (Z.out _))
           have F7 : Hid (Fr Nobody wr (w6.drewN nq)) := F6.out.drewN nq
           have B2e : Hid (Box (w6.drewN nq) (w.heap.size + 1) 0 (f3 0 0 0)) := B2.out.quiet F7.out
           have HGe : Hid (Fr Nobody w (w6.drewN nq)) := HG.out.trans F7.out
           obtain ⟨y0,y1,y2,y3⟩ := B2e.out.cells
           have z0 := B2e.out.frozen 0
           have z1 := B2e.out.frozen 1
           have z2 := B2e.out.frozen 2
           have z3 := B2e.out.frozen 3
           have HRX : Hid (Box (put4 (w6.drewN nq) (w.heap.size + 1) 0 (f3 0 0 0)) (w.heap.size + 1) 0 (f3 0 0 0)) := put4_box B2e.out
           have HRD : Hid (Fr Nobody w (put4 (w6.drewN nq) (w.heap.size + 1) 0 (f3 0 0 0))) := put4_fr HGe.out (.inr (by omega))
           simp only [f3] at y1 y2 y3
           go_wp2
           (try simp only [Exit.inBlock,Exit.then])
           refine bodyPost_ret (v := .tuple #[.agg #[.int .u8 0,.int .i32 0,.int .i32 0,.int .i32 0],v,.int .i64 5]) ?_ rfl ⟨v,by rw [HE.out.2.1,HE.out.1]; rfl,?_,HRD.out⟩
           ·simp only [results,hres]
            obtain ⟨q0,q1,q2,q3⟩ := HRX.out.cells
            simp only [put4,f3] at q0 q1 q2 q3
            go_simp
           ·rw [HE.out.2.2]
            exact H.out.quiet HRD.out
          ·have d0 : decide (f + zz < x) = false := by simpa using h7
           have d1 : decide (y < f + zz) = true := by simp; omega
           go_wp2
           go_quiet (refine Calls.quiet_of_same (Z.out _))
           have F7 : Hid (Fr Nobody wr (w6.drewN nq)) := F6.out.drewN nq
           have B2e : Hid (Box (w6.drewN nq) (w.heap.size + 1) 0 (f3 0 0 0)) := B2.out.quiet F7.out
           have HGe : Hid (Fr Nobody w (w6.drewN nq)) := HG.out.trans F7.out
           obtain ⟨y0,y1,y2,y3⟩ := B2e.out.cells
           have z0 := B2e.out.frozen 0
           have z1 := B2e.out.frozen 1
           have z2 := B2e.out.frozen 2
           have z3 := B2e.out.frozen 3
           have HRX : Hid (Box (put4 (w6.drewN nq) (w.heap.size + 1) 0 (f3 0 0 0)) (w.heap.size + 1) 0 (f3 0 0 0)) := put4_box B2e.out
           have HRD : Hid (Fr Nobody w (put4 (w6.drewN nq) (w.heap.size + 1) 0 (f3 0 0 0))) := put4_fr HGe.out (.inr (by omega))
           simp only [f3] at y1 y2 y3
           go_wp2
           (try simp only [Exit.inBlock,Exit.then])
           refine bodyPost_ret (v := .tuple #[.agg #[.int .u8 0,.int .i32 0,.int .i32 0,.int .i32 0],v,.int .i64 5]) ?_ rfl ⟨v,by rw [HE.out.2.1,HE.out.1]; rfl,?_,HRD.out⟩
           ·simp only [results,hres]
            obtain ⟨q0,q1,q2,q3⟩ := HRX.out.cells
            simp only [put4,f3] at q0 q1 q2 q3
            go_simp
           ·rw [HE.out.2.2]
            exact H.out.quiet HRD.out
         ·rw [if_neg h6] at hgs
          obtain ⟨g1,g2,g3⟩ := GSJ.out _ _ _ hgs
          have HNQ : Hid (cdj = 0 ∧ vlj = F j + zz ∧ cnj = 2 + 4) := ⟨g1,g2,g3⟩
          clear hgs h1 h3 h5 HEND HNS GJ VJ GSJ g1 g2 g3
          generalize lo k j = x at *
          generalize hi k j = y at *
          go_wp2_with fail
          refine (RJ.out _).mono ?_
          rintro e w3 ⟨rfl,hf3⟩
          have F3 : Hid (Fr Nobody wr w3) := hf3
          clear hf3
          go_wp2_with fail
          refine (O1.out _ _ (HB.out.quiet F3.out)).mono ?_
          rintro e w4 ⟨v4,rfl,hV4,hf4⟩
          have F4 : Hid (Fr Nobody wr w4) := F3.out.trans hf4
          have V4 : Hid (Bs w4 v4 ((bitsB P).drop (m + 1))) := hV4
          clear hV4 hf4
          go_wp2_with fail
          refine (O2.out _ _ V4.out).mono ?_
          rintro e w5 ⟨v5,rfl,hV5,hf5⟩
          have F5 : Hid (Fr Nobody wr w5) := F4.out.trans hf5
          have V5 : Hid (Bs w5 v5 ((bitsB P).drop (m + 1 + 1))) := hV5
          clear hV5 hf5
          go_wp2_with fail
          refine (O3.out _ _ V5.out).mono ?_
          rintro e w6 ⟨v6,rfl,hV6,hf6⟩
          have F6 : Hid (Fr Nobody wr w6) := F5.out.trans hf6
          have V6 : Hid (Bs w6 v6 ((bitsB P).drop (m + 1 + 1 + 4))) := hV6
          have x1 := (B0.out.quiet F6.out).at j (by omega)
          clear hV6 hf6
          obtain ⟨f,hfj⟩ : ∃ f,F j = f := ⟨_,rfl⟩
          rw [hfj] at x1 h6 r0 r1 HNQ
          clear hfj
          have d0 : decide (f + zz < x) = false := by simp; omega
          have d1 : decide (y < f + zz) = false := by simp; omega
          go_wp2
          go_quiet (refine Calls.quiet_of_same (Z.out _))
          have F7 : Hid (Fr Nobody wr (w6.drewN nq)) := F6.out.drewN nq
          have B14 : Hid (Box (w6.drewN nq) w1.heap.size k (upd code val cons t F j)) := B1.out.quiet F7.out
          have HN : Hid _ := HNX.out (w6.drewN nq) v6 (f + zz) (2 + 4) HNQ.out.1 HNQ.out.2.1 HNQ.out.2.2 (V6.out.quiet ((Fr.refl _ _).drewN nq)) (B0.out.quiet F7.out) B14.out (B2.out.quiet F7.out) (HG.out.trans F7.out)
          have hx := B14.out.at j (by omega)
          have hfz := B14.out.frozen (1 + j)
          generalize upd code val cons t F j j = ov at *
          go_wp2
          go_roundw
          case rel => exact ⟨j + 1,by omega,by go_num,HN.out.1,HN.out.2.1,HN.out.2.2.1,HN.out.2.2.2.1,HN.out.2.2.2.2.1,HN.out.2.2.2.2.2⟩
          case measure => simp [intOf]; omega
       ·rw [if_neg h4] at hgs
        have e1 : numAt P (m + 1) 1 = 0 := by
         have : numAt P (m + 1) 1 < 2 := by simpa using hv
         omega
        have O2 : Hid (∀ w v,Bs w v ((bitsB P).drop (m + 1)) → _) := fun w v hb => rgo P (m + 1) 1 0 (by omega) e1 HP2.out (by decide) w v hb
        have GK : Hid (∀ w v,Bs w v ((bitsB P).drop (m + 1 + 1)) → _) := fun w v hb => GJ.out w v (m + 1 + 1) hb
        have hVK := VJ.out (m + 1 + 1)
        have hfa : fa k F P (m + 1 + 1) j = (if (gf k P (m + 1 + 1) j).1 ≠ 0 then ((gf k P (m + 1 + 1) j).1,0,0) else if zig ((gf k P (m + 1 + 1) j).2.1 - F j) ≤ 16 then (4,0,0) else (0,(gf k P (m + 1 + 1) j).2.1,(gf k P (m + 1 + 1) j).2.2)) := rfl
        have ZG : Hid (∀ w,Calls Tryz.prog 111 #[.int .i64 ((gf k P (m + 1 + 1) j).2.1 - F j)] w fun e w' => e = .returned (.int .u64 ((zig ((gf k P (m + 1 + 1) j).2.1 - F j) : Nat) : Int)) ∧ w' = w) := fun w => rzig_any _ w (by omega) (by omega)
        rw [hfa] at hgs
        clear hv h4 e1 hfa GJ VJ
        generalize (gf k P (m + 1 + 1) j).1 = cd at *
        generalize (gf k P (m + 1 + 1) j).2.1 = gv at *
        generalize (gf k P (m + 1 + 1) j).2.2 = gn at *
        obtain ⟨vk0,vk1⟩ := hVK
        by_cases h5 : cd = 0
        ·subst h5
         rw [if_neg (by simp)] at hgs
         generalize hzz : zig (gv - F j) = z at *
         clear hzz
         by_cases h6 : z ≤ 16
         ·rw [if_pos h6] at hgs
          have HE : Hid (scode k F P t = 4 ∧ RV = cmp 0 (f3 0 0 0) ∧ scons k F P t = 0) := HEND.out 4 (GSJ.out _ _ _ hgs).1 (by decide)
          clear hgs h1 h3 HEND HNX HNS GSJ
          generalize lo k j = x at *
          generalize hi k j = y at *
          go_wp2_with fail
          refine (RJ.out _).mono ?_
          rintro e w3 ⟨rfl,hf3⟩
          have F3 : Hid (Fr Nobody wr w3) := hf3
          clear hf3
          go_wp2_with fail
          refine (O1.out _ _ (HB.out.quiet F3.out)).mono ?_
          rintro e w4 ⟨v4,rfl,hV4,hf4⟩
          have F4 : Hid (Fr Nobody wr w4) := F3.out.trans hf4
          have V4 : Hid (Bs w4 v4 ((bitsB P).drop (m + 1))) := hV4
          clear hV4 hf4
          go_wp2_with fail
          refine (O2.out _ _ V4.out).mono ?_
          rintro e w5 ⟨v5,rfl,hV5,hf5⟩
          have F5 : Hid (Fr Nobody wr w5) := F4.out.trans hf5
          have V5 : Hid (Bs w5 v5 ((bitsB P).drop (m + 1 + 1))) := hV5
          clear hV5 hf5
          go_wp2_with fail
          refine (GK.out _ _ V5.out).mono ?_
          rintro e w6 ⟨v6,rfl,hV6,hf6⟩
          have F6 : Hid (Fr Nobody wr w6) := F5.out.trans hf6
          have V6 : Hid (Bs w6 v6 ((bitsB P).drop (m + 1 + 1 + gn))) := hV6
          have x1 := (B0.out.quiet F6.out).at j (by omega)
          clear hV6 hf6
          generalize F j = f at *
          go_wp2_with fail
          refine (ZG.out _).mono ?_
          rintro e w7 ⟨rfl,rfl⟩
          have B2e : Hid (Box w7 (w.heap.size + 1) 0 (f3 0 0 0)) := B2.out.quiet F6.out
          have HGe : Hid (Fr Nobody w w7) := HG.out.trans F6.out
          obtain ⟨y0,y1,y2,y3⟩ := B2e.out.cells
          have z0 := B2e.out.frozen 0
          have z1 := B2e.out.frozen 1
          have z2 := B2e.out.frozen 2
          have z3 := B2e.out.frozen 3
          have HRX : Hid (Box (put4 w7 (w.heap.size + 1) 0 (f3 0 0 0)) (w.heap.size + 1) 0 (f3 0 0 0)) := put4_box B2e.out
          have HRD : Hid (Fr Nobody w (put4 w7 (w.heap.size + 1) 0 (f3 0 0 0))) := put4_fr HGe.out (.inr (by omega))
          simp only [f3] at y1 y2 y3
          go_wp2
          (try simp only [Exit.inBlock,Exit.then])
          refine bodyPost_ret (v := .tuple #[.agg #[.int .u8 0,.int .i32 0,.int .i32 0,.int .i32 0],v,.int .i64 4]) ?_ rfl ⟨v,by rw [HE.out.2.1,HE.out.1]; rfl,?_,HRD.out⟩
          ·simp only [results,hres]
           obtain ⟨q0,q1,q2,q3⟩ := HRX.out.cells
           simp only [put4,f3] at q0 q1 q2 q3
           go_simp
          ·rw [HE.out.2.2]
           exact H.out.quiet HRD.out
         ·rw [if_neg h6] at hgs
          obtain ⟨g1,g2,g3⟩ := GSJ.out _ _ _ hgs
          have HNQ : Hid (cdj = 0 ∧ vlj = gv ∧ cnj = 2 + gn) := ⟨g1,g2,g3⟩
          have d0 : decide ((z : Int) ≤ 16) = false := by simp; omega
          clear hgs h1 h3 h6 HEND HNS GSJ g1 g2 g3
          generalize lo k j = x at *
          generalize hi k j = y at *
          go_wp2_with fail
          refine (RJ.out _).mono ?_
          rintro e w3 ⟨rfl,hf3⟩
          have F3 : Hid (Fr Nobody wr w3) := hf3
          clear hf3
          go_wp2_with fail
          refine (O1.out _ _ (HB.out.quiet F3.out)).mono ?_
          rintro e w4 ⟨v4,rfl,hV4,hf4⟩
          have F4 : Hid (Fr Nobody wr w4) := F3.out.trans hf4
          have V4 : Hid (Bs w4 v4 ((bitsB P).drop (m + 1))) := hV4
          clear hV4 hf4
          go_wp2_with fail
          refine (O2.out _ _ V4.out).mono ?_
          rintro e w5 ⟨v5,rfl,hV5,hf5⟩
          have F5 : Hid (Fr Nobody wr w5) := F4.out.trans hf5
          have V5 : Hid (Bs w5 v5 ((bitsB P).drop (m + 1 + 1))) := hV5
          clear hV5 hf5
          go_wp2_with fail
          refine (GK.out _ _ V5.out).mono ?_
          rintro e w6 ⟨v6,rfl,hV6,hf6⟩
          have F6 : Hid (Fr Nobody wr w6) := F5.out.trans hf6
          have V6 : Hid (Bs w6 v6 ((bitsB P).drop (m + 1 + 1 + gn))) := hV6
          have x1 := (B0.out.quiet F6.out).at j (by omega)
          clear hV6 hf6
          generalize F j = f at *
          have B14 : Hid (Box w6 w1.heap.size k (upd code val cons t F j)) := B1.out.quiet F6.out
          have HN : Hid _ := HNX.out w6 v6 gv (2 + gn) HNQ.out.1 HNQ.out.2.1 HNQ.out.2.2 (by have := V6.out; rw [show m + (2 + gn) = m + 1 + 1 + gn from by omega]; exact this) (B0.out.quiet F6.out) B14.out (B2.out.quiet F6.out) (HG.out.trans F6.out)
          have hx := B14.out.at j (by omega)
          have hfz := B14.out.frozen (1 + j)
          generalize upd code val cons t F j j = ov at *
          go_wp2_with fail
          refine (ZG.out _).mono ?_
          rintro e w7 ⟨rfl,rfl⟩
          go_wp2
          go_roundw
          case rel => exact ⟨j + 1,by omega,by go_num,HN.out.1,HN.out.2.1,HN.out.2.2.1,HN.out.2.2.2.1,HN.out.2.2.2.2.1,HN.out.2.2.2.2.2⟩
          case measure => simp [intOf]; omega
        ·rw [if_pos h5] at hgs
         have hne : (cd != 0) = true := by rw [bne_iff_ne]; exact h5
         have hne2 : (cd == 0) = false := by rw [beq_eq_false_iff_ne]; exact h5
         have HE : Hid (scode k F P t = cd ∧ RV = cmp 0 (f3 0 0 0) ∧ scons k F P t = 0) := HEND.out cd (GSJ.out _ _ _ hgs).1 h5
         clear hgs h1 h3 h5 HEND HNX HNS GSJ
         generalize lo k j = x at *
         generalize hi k j = y at *
         go_wp2_with fail
         refine (RJ.out _).mono ?_
         rintro e w3 ⟨rfl,hf3⟩
         have F3 : Hid (Fr Nobody wr w3) := hf3
         clear hf3
         go_wp2_with fail
         refine (O1.out _ _ (HB.out.quiet F3.out)).mono ?_
         rintro e w4 ⟨v4,rfl,hV4,hf4⟩
         have F4 : Hid (Fr Nobody wr w4) := F3.out.trans hf4
         have V4 : Hid (Bs w4 v4 ((bitsB P).drop (m + 1))) := hV4
         clear hV4 hf4
         go_wp2_with fail
         refine (O2.out _ _ V4.out).mono ?_
         rintro e w5 ⟨v5,rfl,hV5,hf5⟩
         have F5 : Hid (Fr Nobody wr w5) := F4.out.trans hf5
         have V5 : Hid (Bs w5 v5 ((bitsB P).drop (m + 1 + 1))) := hV5
         clear hV5 hf5
         go_wp2_with fail
         refine (GK.out _ _ V5.out).mono ?_
         rintro e w6 ⟨v6,rfl,hV6,hf6⟩
         have F6 : Hid (Fr Nobody wr w6) := F5.out.trans hf6
         have V6 : Hid (Bs w6 v6 ((bitsB P).drop (m + 1 + 1 + gn))) := hV6
         have x1 := (B0.out.quiet F6.out).at j (by omega)
         clear hV6 hf6
         have B2e : Hid (Box w6 (w.heap.size + 1) 0 (f3 0 0 0)) := B2.out.quiet F6.out
         have HGe : Hid (Fr Nobody w w6) := HG.out.trans F6.out
         obtain ⟨y0,y1,y2,y3⟩ := B2e.out.cells
         have z0 := B2e.out.frozen 0
         have z1 := B2e.out.frozen 1
         have z2 := B2e.out.frozen 2
         have z3 := B2e.out.frozen 3
         have HRX : Hid (Box (put4 w6 (w.heap.size + 1) 0 (f3 0 0 0)) (w.heap.size + 1) 0 (f3 0 0 0)) := put4_box B2e.out
         have HRD : Hid (Fr Nobody w (put4 w6 (w.heap.size + 1) 0 (f3 0 0 0))) := put4_fr HGe.out (.inr (by omega))
         simp only [f3] at y1 y2 y3
         go_wp2
         (try simp only [Exit.inBlock,Exit.then])
         refine bodyPost_ret (v := .tuple #[.agg #[.int .u8 0,.int .i32 0,.int .i32 0,.int .i32 0],v,.int .i64 cd]) ?_ rfl ⟨v,by rw [HE.out.2.1,HE.out.1]; rfl,?_,HRD.out⟩
         ·simp only [results,hres]
          obtain ⟨q0,q1,q2,q3⟩ := HRX.out.cells
          simp only [put4,f3] at q0 q1 q2 q3
          go_simp
         ·rw [HE.out.2.2]
          exact H.out.quiet HRD.out
   ·have e : j = c := by omega
    subst e
    have HV : Hid (RV = cmp k (upd code val cons t F j)) := by rw [← EF.out]; exact HV1.out (EG.out.trans HZ.out)
    have HE0 : Hid (scode k F P t = 0) := EG.out.trans HZ.out
    have HGC : Hid (t + scons k F P t = (rat code cons t j).2) := by
     show _ = _
     rw [EN.out (EG.out.trans HZ.out)]
     have := rat_ge code cons t j
     omega
    obtain ⟨x0,x1,x2,x3⟩ := B1.out.cells
    obtain ⟨y0,y1,y2,y3⟩ := B2.out.cells
    have z0 := B2.out.frozen 0
    have z1 := B2.out.frozen 1
    have z2 := B2.out.frozen 2
    have z3 := B2.out.frozen 3
    have HRX : Hid (Box (put4 wr (w.heap.size + 1) k (upd code val cons t F j)) (w.heap.size + 1) k (upd code val cons t F j)) := put4_box B2.out
    have HRD : Hid (Bs (put4 wr (w.heap.size + 1) k (upd code val cons t F j)) u9 ((bitsB P).drop (rat code cons t j).2) ∧ Fr Nobody w (put4 wr (w.heap.size + 1) k (upd code val cons t F j))) := ⟨HB.out.put4 B2.out,put4_fr HG.out (.inr (by omega))⟩
    clear B1 B2 HB HG G RR B0
    simp only [f3] at y1 y2 y3
    go_wp2
    (try simp only [Exit.inBlock,Exit.then])
    refine bodyPost_ret (v := .tuple #[.agg #[.int .u8 (k : Int),.int .i32 (upd code val cons t F j 0),.int .i32 (upd code val cons t F j 1),.int .i32 (upd code val cons t F j 2)],u9,.int .i64 0]) ?_ rfl ⟨u9,by rw [HV.out,HE0.out]; rfl,?_,HRD.out.2⟩
    ·simp only [results,hres]
     obtain ⟨q0,q1,q2,q3⟩ := HRX.out.cells
     simp only [put4] at q0 q1 q2 q3
     go_simp
    ·rw [HGC.out]
     exact HRD.out.1
 ·have EG : Hid (scode k F P t = ((chk k F : Nat) : Int)) := by show _ = _; unfold scode; rw [if_neg h0]
  have hne : (((chk k F : Nat) : Int) != 0) = true := by rw [bne_iff_ne]; omega
  have HNE : Hid (scode k F P t ≠ 0) := by show _ ≠ _; rw [EG.out]; omega
  have HE : Hid (scode k F P t = ((chk k F : Nat) : Int) ∧ RV = cmp 0 (f3 0 0 0) ∧ scons k F P t = 0) := ⟨EG.out,HV2.out HNE.out,HG0.out HNE.out⟩
  clear h0 EG HNE
  generalize chk k F = cd at *
  unfold cmp at K HW0 HX0 HF0
  unfold cmp
  go_enter Tryz.func54,Tryz.ntmps54
  go_wp2_with fail
  refine (K.out _).mono ?_
  rintro e w1 ⟨rfl,hf1⟩
  have X1 : Hid (Box w1 (w.heap.size + 1) 0 (f3 0 0 0)) := Box.quiet HX0.out hf1
  have HF1 : Hid (Fr Nobody w w1) := Fr.trans HF0.out hf1
  obtain ⟨y0,y1,y2,y3⟩ := X1.out.cells
  have z0 := X1.out.frozen 0
  have z1 := X1.out.frozen 1
  have z2 := X1.out.frozen 2
  have z3 := X1.out.frozen 3
  have HRX : Hid (Box (put4 w1 (w.heap.size + 1) 0 (f3 0 0 0)) (w.heap.size + 1) 0 (f3 0 0 0)) := put4_box X1.out
  have HRD : Hid (Fr Nobody w (put4 w1 (w.heap.size + 1) 0 (f3 0 0 0))) := put4_fr HF1.out (.inr (by omega))
  clear hf1
  simp only [f3] at y1 y2 y3
  go_wp2
  (try simp only [Exit.inBlock,Exit.then])
  refine bodyPost_ret (v := .tuple #[.agg #[.int .u8 0,.int .i32 0,.int .i32 0,.int .i32 0],v,.int .i64 (cd : Int)]) ?_ rfl ⟨v,by rw [HE.out.2.1,HE.out.1]; rfl,?_,HRD.out⟩
  ·simp only [results,hres]
   obtain ⟨q0,q1,q2,q3⟩ := HRX.out.cells
   simp only [put4,f3] at q0 q1 q2 q3
   go_simp
  ·rw [HE.out.2.2]
   exact H.out.quiet HRD.out
end Go.Proofs.YtgifeckbflkkpaaGreatDoor
