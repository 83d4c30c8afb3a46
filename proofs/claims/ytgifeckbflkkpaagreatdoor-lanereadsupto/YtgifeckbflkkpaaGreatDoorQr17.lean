/- What becomes of one entity. -/
import Derived.Test.YtgifeckbflkkpaaGreatDoorQr16
import Derived.Deep.DeepCutAuto
import Derived.Laws.Rows
namespace Go.Proofs.YtgifeckbflkkpaaGreatDoor
open Go.RowKit
set_option linter.unusedVariables false
set_option maxHeartbeats 16000000
set_option maxRecDepth 100000
theorem val_not : ∀ (a b c d e f a' b' c' d' e' f' : Bool),bits .andNot .u8 ((val a b c d e f : Nat) : Int) ((val a' b' c' d' e' f' : Nat) : Int) = ((val (a && !a') (b && !b') (c && !c') (d && !d') (e && !e') (f && !f') : Nat) : Int) := by decide
theorem msk_not (A B : List Cp) : bits .andNot .u8 ((msk A : Nat) : Int) ((msk B : Nat) : Int) = ((lostm A B : Nat) : Int) := by
 rw [msk_val,msk_val,lost_val]
 exact val_not _ _ _ _ _ _ _ _ _ _ _ _
theorem lost_lt (A B : List Cp) : lostm A B < 64 := by
 rw [lost_val]
 generalize (hasK A 0 && !hasK B 0) = a
 generalize (hasK A 1 && !hasK B 1) = b
 generalize (hasK A 2 && !hasK B 2) = c
 generalize (hasK A 3 && !hasK B 3) = d
 generalize (hasK A 4 && !hasK B 4) = e
 generalize (hasK A 5 && !hasK B 5) = f
 revert a b c d e f
 decide
theorem Own.l4 {w0 w : World} {A B C D P : Thing} {m : List Thing} (h : Own w0 w (A :: B :: C :: D :: P :: m)) : Own w0 w (P :: A :: B :: C :: D :: m) := Own.lift (l := [A,B,C,D]) h
theorem Own.l5 {w0 w : World} {A B C D E P : Thing} {m : List Thing} (h : Own w0 w (A :: B :: C :: D :: E :: P :: m)) : Own w0 w (P :: A :: B :: C :: D :: E :: m) := Own.lift (l := [A,B,C,D,E]) h
theorem Own.l6 {w0 w : World} {A B C D E F P : Thing} {m : List Thing} (h : Own w0 w (A :: B :: C :: D :: E :: F :: P :: m)) : Own w0 w (P :: A :: B :: C :: D :: E :: F :: m) := Own.lift (l := [A,B,C,D,E,F]) h
def newsL (A B : List Cp) (j : Nat) : List Cp := (B.take j).filter (isNew A)
def setsL (A B : List Cp) (j : Nat) : List Cp := (B.take j).filter (isSet A)
theorem fst_has {A : List Cp} {k : Nat} (h : fst A k = none) : hasK A k = false := by
 cases hh : hasK A k with
 | false => rfl
 | true => obtain ⟨x,hx⟩ := hasK_fst hh; rw [h] at hx; cases hx
theorem news_none {A B : List Cp} {j : Nat} {q : Cp} (hq : B[j]? = some q) (h : fst A q.k = none) : newsL A B (j + 1) = newsL A B j ++ [q] ∧ setsL A B (j + 1) = setsL A B j := by
 have e1 : isNew A q = true := by unfold isNew; rw [fst_has h]; rfl
 have e2 : isSet A q = false := by unfold isSet; rw [h]
 unfold newsL setsL
 rw [take_snoc B j q hq,List.filter_append,List.filter_append]
 simp [e1,e2]
theorem news_some {A B : List Cp} {j : Nat} {q y : Cp} (hq : B[j]? = some q) (h : fst A q.k = some y) : newsL A B (j + 1) = newsL A B j ∧ setsL A B (j + 1) = setsL A B j ++ (if decide (y = q) = true then [] else [q]) := by
 have e1 : isNew A q = false := by
  have := mem_hasK (fst_some h).1
  rw [(fst_some h).2] at this
  unfold isNew; rw [this]; rfl
 have e2 : isSet A q = !decide (y = q) := by unfold isSet; rw [h]
 unfold newsL setsL
 rw [take_snoc B j q hq,List.filter_append,List.filter_append]
 cases hd : decide (y = q) <;> simp [e1,e2,hd]
theorem newsL_le (A B : List Cp) (j : Nat) : (newsL A B j).length ≤ j := by
 unfold newsL
 have h1 := List.length_filter_le (isNew A) (B.take j)
 rw [List.length_take] at h1
 omega
theorem setsL_le (A B : List Cp) (j : Nat) : (setsL A B j).length ≤ j := by
 unfold setsL
 have h1 := List.length_filter_le (isSet A) (B.take j)
 rw [List.length_take] at h1
 omega
theorem perm_d (P Q R : Thing) (m : List Thing) : (P :: Q :: R :: m).Perm (R :: Q :: P :: m) := (List.Perm.swap Q P (R :: m)).trans (((List.Perm.swap R P m).cons Q).trans (List.Perm.swap R Q (P :: m)))
theorem Own.dropMid {w0 w : World} {A B C D E : Thing} {m : List Thing} (h : Own w0 w (A :: B :: C :: D :: E :: m)) : Own w0 w (A :: B :: m) := (h.perm (List.perm_append_comm_assoc [A,B] [C,D,E] m)).tail.tail.tail
theorem perm_c (P Q R : Thing) (m : List Thing) : (P :: Q :: R :: m).Perm (Q :: R :: P :: m) := (List.Perm.swap Q P (R :: m)).trans ((List.Perm.swap R P m).cons Q)
theorem change_any (w0 w : World) (l : List Thing) (h : Own w0 w l) (i1 i2 : Nat) (a1 a2 : Option Addr) (n1 n2 c1 c2 : Nat) (A B : List Cp) (hQ : ∀ w',Own w0 w' l → Cs w' a1 A ∧ Cs w' a2 B) (hn1 : A.length = n1) (hn2 : B.length = n2) (hk1 : ∀ q ∈ A,q.k < 256) (hk2 : ∀ q ∈ B,q.k < 256) (hm1 : n1 ≤ 1000000) (hm2 : n2 ≤ 1000000) :
  Calls Tryz.prog 183 #[.agg #[.int .u32 (i1 : Int),.slice a1 n1 c1],.agg #[.int .u32 (i2 : Int),.slice a2 n2 c2]] w fun e w' => ∃ (x : ChE),e = .returned (.agg #[.int .u32 (i2 : Int),.int .u8 (x.lost : Int),.slice x.na x.N.length x.nc,.slice x.sa x.S.length x.sc]) ∧ x.v = chg1 (i1,A) (i2,B) ∧ Own w0 w' (x.nrow :: x.srow :: l) := by
 obtain ⟨ic,hic,hz0,hz1,hz2⟩ := info_parts Tryz.infoComp
 obtain ⟨lo,hlo⟩ : ∃ lo,lo = lostm A B := ⟨_,rfl⟩
 have hlo6 : lo < 64 := by rw [hlo]; exact lost_lt A B
 obtain ⟨ma,hma⟩ : ∃ m,m = msk A := ⟨_,rfl⟩
 obtain ⟨mb,hmb⟩ : ∃ m,m = msk B := ⟨_,rfl⟩
 have hnot : bits .andNot .u8 (ma : Int) (mb : Int) = (lo : Int) := by rw [hma,hmb,hlo]; exact msk_not A B
 have hB4 := ((h.allocC #[.int .u32 (i1 : Int),.slice a1 n1 c1] 60).allocC #[.int .u32 (i2 : Int),.slice a2 n2 c2] 60).allocC #[.int .u32 0,.int .u8 0,.slice none 0 0,.slice none 0 0] 112
 have HQ : Hid (∀ w',Own w0 w' l → Cs w' a1 A ∧ Cs w' a2 B) := hQ
 have HL : Hid (A.length = n1 ∧ B.length = n2 ∧ (∀ q ∈ A,q.k < 256) ∧ ∀ q ∈ B,q.k < 256) := ⟨hn1,hn2,hk1,hk2⟩
 have HMA : Hid (∀ W X,Own w0 W (X ++ l) → Calls Tryz.prog 158 #[.slice a1 n1 c1] W fun e w' => e = .returned (.int .u8 (ma : Int)) ∧ Own w0 w' (X ++ l)) := fun W X hX => by
  refine (mask_any W a1 n1 c1 A hn1 (hQ W hX.dropA).1 hk1 hm1).mono ?_
  rintro e w' ⟨rfl,hf⟩
  exact ⟨by rw [hma],hX.quiet hf⟩
 have HMB : Hid (∀ W X,Own w0 W (X ++ l) → Calls Tryz.prog 158 #[.slice a2 n2 c2] W fun e w' => e = .returned (.int .u8 (mb : Int)) ∧ Own w0 w' (X ++ l)) := fun W X hX => by
  refine (mask_any W a2 n2 c2 B hn2 (hQ W hX.dropA).2 hk2 hm2).mono ?_
  rintro e w' ⟨rfl,hf⟩
  exact ⟨by rw [hmb],hX.quiet hf⟩
 have HLO : Hid (lo = lostm A B) := hlo
 have e3 : (w.alloc (.cells #[.int .u32 (i1 : Int),.slice a1 n1 c1] 60)).heap.size = w.heap.size + 1 := by simp
 have e4 : ((w.alloc (.cells #[.int .u32 (i1 : Int),.slice a1 n1 c1] 60)).alloc (.cells #[.int .u32 (i2 : Int),.slice a2 n2 c2] 60)).heap.size = w.heap.size + 2 := by simp
 rw [e4,e3] at hB4
 have HB4 : Hid (Own w0 _ _) := hB4
 clear h hQ hn1 hn2 hk1 hk2 hlo hma hmb hB4 e3 e4
 go_enter Tryz.func183,Tryz.ntmps183
 go_wp2
 generalize hWg : ((w.alloc (.cells #[.int .u32 (i1 : Int),.slice a1 n1 c1] 60)).alloc (.cells #[.int .u32 (i2 : Int),.slice a2 n2 c2] 60)).alloc (.cells #[.int .u32 0,.int .u8 0,.slice none 0 0,.slice none 0 0] 112) = W1 at *
 clear hWg
 generalize w.heap.size + 2 = b4 at *
 generalize w.heap.size + 1 = b3 at *
 generalize w.heap.size = b2 at *
 have HMA3 : Hid (∀ W,Own w0 W (Cells b4 #[.int .u32 0,.int .u8 0,.slice none 0 0,.slice none 0 0] 112 :: Cells b3 #[.int .u32 (i2 : Int),.slice a2 n2 c2] 60 :: Cells b2 #[.int .u32 (i1 : Int),.slice a1 n1 c1] 60 :: l) → Calls Tryz.prog 158 #[.slice a1 n1 c1] W fun e w' => e = .returned (.int .u8 (ma : Int)) ∧ Own w0 w' (Cells b4 #[.int .u32 0,.int .u8 0,.slice none 0 0,.slice none 0 0] 112 :: Cells b3 #[.int .u32 (i2 : Int),.slice a2 n2 c2] 60 :: Cells b2 #[.int .u32 (i1 : Int),.slice a1 n1 c1] 60 :: l)) := fun W hX => HMA.out W [_,_,_] hX
 have HMA4 : Hid (∀ W X,Own w0 W (X :: Cells b4 #[.int .u32 0,.int .u8 0,.slice none 0 0,.slice none 0 0] 112 :: Cells b3 #[.int .u32 (i2 : Int),.slice a2 n2 c2] 60 :: Cells b2 #[.int .u32 (i1 : Int),.slice a1 n1 c1] 60 :: l) → Calls Tryz.prog 158 #[.slice a1 n1 c1] W fun e w' => e = .returned (.int .u8 (ma : Int)) ∧ Own w0 w' (X :: Cells b4 #[.int .u32 0,.int .u8 0,.slice none 0 0,.slice none 0 0] 112 :: Cells b3 #[.int .u32 (i2 : Int),.slice a2 n2 c2] 60 :: Cells b2 #[.int .u32 (i1 : Int),.slice a1 n1 c1] 60 :: l)) := fun W X hX => HMA.out W [X,_,_,_] hX
 have HMB3 : Hid (∀ W,Own w0 W (Cells b4 #[.int .u32 0,.int .u8 0,.slice none 0 0,.slice none 0 0] 112 :: Cells b3 #[.int .u32 (i2 : Int),.slice a2 n2 c2] 60 :: Cells b2 #[.int .u32 (i1 : Int),.slice a1 n1 c1] 60 :: l) → Calls Tryz.prog 158 #[.slice a2 n2 c2] W fun e w' => e = .returned (.int .u8 (mb : Int)) ∧ Own w0 w' (Cells b4 #[.int .u32 0,.int .u8 0,.slice none 0 0,.slice none 0 0] 112 :: Cells b3 #[.int .u32 (i2 : Int),.slice a2 n2 c2] 60 :: Cells b2 #[.int .u32 (i1 : Int),.slice a1 n1 c1] 60 :: l)) := fun W hX => HMB.out W [_,_,_] hX
 have HMB4 : Hid (∀ W X,Own w0 W (X :: Cells b4 #[.int .u32 0,.int .u8 0,.slice none 0 0,.slice none 0 0] 112 :: Cells b3 #[.int .u32 (i2 : Int),.slice a2 n2 c2] 60 :: Cells b2 #[.int .u32 (i1 : Int),.slice a1 n1 c1] 60 :: l) → Calls Tryz.prog 158 #[.slice a2 n2 c2] W fun e w' => e = .returned (.int .u8 (mb : Int)) ∧ Own w0 w' (X :: Cells b4 #[.int .u32 0,.int .u8 0,.slice none 0 0,.slice none 0 0] 112 :: Cells b3 #[.int .u32 (i2 : Int),.slice a2 n2 c2] 60 :: Cells b2 #[.int .u32 (i1 : Int),.slice a1 n1 c1] 60 :: l)) := fun W X hX => HMB.out W [X,_,_,_] hX
 clear HMA HMB
 go_cut [5] (fun s5 wc => ∃ b5 : Nat,s5 = .pointer (some ⟨b5,0,none⟩) ∧ Own w0 wc (Cells b5 #[.int .u32 (i2 : Int),.int .u8 (lo : Int),.slice none 0 0,.slice none 0 0] 112 :: Cells b4 #[.int .u32 0,.int .u8 0,.slice none 0 0,.slice none 0 0] 112 :: Cells b3 #[.int .u32 (i2 : Int),.slice a2 n2 c2] 60 :: Cells b2 #[.int .u32 (i1 : Int),.slice a1 n1 c1] 60 :: l))
 case first =>
  have p0 := HB4.out.two.cell 0
  have p1 := HB4.out.two.cell 1
  have p2 := HB4.out.three.cell 1
  simp at p0 p1 p2
  have O1 := HB4.out.drew
  have O1b := (HB4.out.allocC #[.int .u32 0,.int .u8 0,.slice none 0 0,.slice none 0 0] 112).drew
  have z3 : W1.heap.size ≠ b3 := by have := (Own.two HB4.out).lt; omega
  have z4 : W1.heap.size ≠ b2 := by have := (Own.three HB4.out).lt; omega
  clear HB4
  go_region_held3 (fun w' => w'.cell? ⟨b3,0,none⟩ = some (.int .u32 (i2 : Int)) ∧ w'.cell? ⟨b3,1,none⟩ = some (.slice a2 n2 c2) ∧ w'.cell? ⟨b2,1,none⟩ = some (.slice a1 n1 c1)) (go_keep)
   (first
     | (go_at_call 158; with_reducible refine (HMA3.out _ O1).mono ?_; rintro e w5 ⟨rfl,O5⟩
        have u0 := (Own.two O5).cell 0
        have u1 := (Own.two O5).cell 1
        have u2 := (Own.three O5).cell 1
        have z1 : w5.heap.size ≠ b3 := by have := (Own.two O5).lt; omega
        have z2 : w5.heap.size ≠ b2 := by have := (Own.three O5).lt; omega
        simp at u0 u1 u2)
     | (go_at_call 158; with_reducible refine (HMB3.out _ O5).mono ?_; rintro e w6 ⟨rfl,O6⟩
        have u0 := (Own.two O6).cell 0
        have u1 := (Own.two O6).cell 1
        have u2 := (Own.three O6).cell 1
        simp at u0 u1 u2)
     | (go_at_call 158; with_reducible refine (HMA4.out _ _ O1b).mono ?_; rintro e w7 ⟨rfl,O7⟩
        have u0 := (Own.three O7).cell 0
        have u1 := (Own.three O7).cell 1
        have u2 := (Own.four O7).cell 1
        have x0 := Own.cell O7 0
        have x1 := Own.cell O7 1
        have x2 := Own.cell O7 2
        have x3 := Own.cell O7 3
        have y0 := Own.froz O7 0
        have y1 := Own.froz O7 1
        have y2 := Own.froz O7 2
        have y3 := Own.froz O7 3
        simp at u0 u1 u2 x0 x1 x2 x3)
     | (go_at_call 158; with_reducible refine (HMB4.out _ _ (O5.allocC _ _)).mono ?_; rintro e w8 ⟨rfl,O8⟩
        have u0 := (Own.three O8).cell 0
        have u1 := (Own.three O8).cell 1
        have u2 := (Own.four O8).cell 1
        have x0 := Own.cell O8 0
        have x1 := Own.cell O8 1
        have x2 := Own.cell O8 2
        have x3 := Own.cell O8 3
        have y0 := Own.froz O8 0
        have y1 := Own.froz O8 1
        have y2 := Own.froz O8 2
        have y3 := Own.froz O8 3
        simp at u0 u1 u2 x0 x1 x2 x3)
     | (go_at_call 158; with_reducible refine (HMB4.out _ _ O7).mono ?_; rintro e w8 ⟨rfl,O8⟩
        have u0 := (Own.three O8).cell 0
        have u1 := (Own.three O8).cell 1
        have u2 := (Own.four O8).cell 1
        have x0 := Own.cell O8 0
        have x1 := Own.cell O8 1
        have x2 := Own.cell O8 2
        have x3 := Own.cell O8 3
        have y0 := Own.froz O8 0
        have y1 := Own.froz O8 1
        have y2 := Own.froz O8 2
        have y3 := Own.froz O8 3
        simp at u0 u1 u2 x0 x1 x2 x3)
     | fail)
  all_goals
   go_wp2
   go_meet
   case rel =>
    first
     | exact ⟨_,rfl,O6.allocC _ _⟩
     | exact ⟨_,rfl,by simpa using (((O8.setC 0 _).setC 1 _).setC 2 _).setC 3 _⟩
 case rest =>
  obtain ⟨b5,rfl,hO0⟩ := hcut
  have HO0 : Hid (Own w0 wc (Row 63 4 (.slice none (newsL A B 0).length 0) (newsL A B 0).length (ccat (newsL A B 0)) :: Row 63 4 (.slice none (setsL A B 0).length 0) (setsL A B 0).length (ccat (setsL A B 0)) :: Cells b5 #[.int .u32 (i2 : Int),.int .u8 (lo : Int),.slice none (newsL A B 0).length 0,.slice none (setsL A B 0).length 0] 112 :: Cells b4 #[.int .u32 0,.int .u8 0,.slice none 0 0,.slice none 0 0] 112 :: Cells b3 #[.int .u32 (i2 : Int),.slice a2 n2 c2] 60 :: Cells b2 #[.int .u32 (i1 : Int),.slice a1 n1 c1] 60 :: l)) := (hO0.nilRow _ _).nilRow _ _
  have p1 := (Own.three hO0).cell 1
  simp at p1
  clear hO0 HB4 HMA3 HMA4 HMB3 HMB4 hnot
  go_wp2
  go_loopw [22] (fun cc wr => ∃ (j : Nat) (na sa : Option Addr) (nc sc : Nat),j ≤ n2 ∧ cc = .int .i64 j ∧ Own w0 wr (Row 63 4 (.slice na (newsL A B j).length nc) (newsL A B j).length (ccat (newsL A B j)) :: Row 63 4 (.slice sa (setsL A B j).length sc) (setsL A B j).length (ccat (setsL A B j)) :: Cells b5 #[.int .u32 (i2 : Int),.int .u8 (lo : Int),.slice na (newsL A B j).length nc,.slice sa (setsL A B j).length sc] 112 :: Cells b4 #[.int .u32 0,.int .u8 0,.slice none 0 0,.slice none 0 0] 112 :: Cells b3 #[.int .u32 (i2 : Int),.slice a2 n2 c2] 60 :: Cells b2 #[.int .u32 (i1 : Int),.slice a1 n1 c1] 60 :: l)) (fun cc _ => n2 - (intOf cc).toNat)
  case atStart => exact ⟨0,none,none,0,0,Nat.zero_le _,rfl,HO0.out⟩
  case round =>
   obtain ⟨j,na,sa,nc,sc,hj,rfl,hO⟩ := hrel
   clear HO0 p1
   have hln := newsL_le A B j
   have hls := setsL_le A B j
   by_cases hlt : j < n2
   ·obtain ⟨q,hq⟩ : ∃ q,B[j]? = some q := ⟨_,List.getElem?_eq_getElem (by rw [HL.out.2.1]; exact hlt)⟩
    obtain ⟨g,o,hao,_,y0,y1,y2,y3⟩ := (HQ.out wr hO.tail.tail.tail.tail.tail.tail).2.at j q hq
    subst hao
    have hq8 := HL.out.2.2.2 q (List.mem_of_getElem? hq)
    have hlt' : (j : Int) < (n2 : Int) := by omega
    have hB := hO.allocC #[.int .u8 (q.k : Int),.int .i32 q.a,.int .i32 q.b,.int .i32 q.c] 63
    have d2 : wr.cell? ⟨b2,1,none⟩ = some (.slice a1 n1 c1) := (Own.l5 hO).cell 1
    have lt2 := (Own.l5 hO).lt
    have ne2 : wr.heap.size ≠ b2 := by omega
    have HPL : Hid (Calls _ _ _ _ _) := place_any _ a1 n1 c1 A HL.out.1 ((HQ.out _ hB.tail.tail.tail.tail.tail.tail.tail).1) (by omega) q.k
    have HB : Hid (Own w0 _ _) := hB
    have HQJ : Hid (B[j]? = some q) := hq
    clear hO hB hq
    obtain ⟨qk,qa,qb,qc⟩ := q
    simp only at y0 y1 y2 y3 hq8 HPL HB
    go_wp2_with fail
    refine HPL.out.mono ?_
    rintro e w2 ⟨r,rfl,hr,hf⟩
    have hB2 := HB.out.quiet hf
    have t0 := hB2.cell 0
    have t1 := hB2.cell 1
    have t2 := hB2.cell 2
    have t3 := hB2.cell 3
    have f2 := (Own.four hB2).cell 2
    have f3 := (Own.four hB2).cell 3
    have d2 := (Own.l6 hB2).cell 1
    simp at t0 t1 t2 t3 f2 f3 d2
    generalize wr.heap.size = b7 at *
    have ne7 : w2.heap.size ≠ b5 := by have := (Own.four hB2).lt; omega
    have HB2 : Hid (Own w0 w2 _) := hB2
    clear HPL HB hf y0 y1 y2 y3 lt2 ne2
    rcases hr with ⟨rfl,hnone⟩ | ⟨i,y,rfl,hy,hsome⟩
    ·obtain ⟨en,es⟩ := news_none HQJ.out hnone
     have HEN : Hid (newsL A B (j + 1) = newsL A B j ++ [⟨qk,qa,qb,qc⟩] ∧ setsL A B (j + 1) = setsL A B j) := ⟨en,es⟩
     have HN : Hid (Own w0 w2 _) := hB2.two
     clear hnone en es hB2
     go_wp2_with (at_builtin; refine append1_own rfl _ _ 58 rfl 63 ic _ 4 16 Tryz.underlying58 hic hz0 hz1 hz2 rfl (by decide) _ _ _ rfl HN.out _ #[.int .u8 (qk : Int),.int .i32 qa,.int .i32 qb,.int .i32 qc] (by simp) rfl rfl (by intro u hu; simp at hu; rcases hu with rfl | rfl | rfl | rfl <;> rfl) (by unfold maxLen; omega) (by omega) ?_)
     intro g6 c6 w6 hO6 hsz6
     have k2 := (Own.four hO6).cell 2
     have k3 := (Own.four hO6).froz 2
     simp at k2
     have H7 := (Own.four hO6).setC 2 (.slice (some ⟨g6,0,none⟩) ((newsL A B j).length + 1) c6)
     have H8 : Hid (Own w0 (w6.setCell ⟨b5,2,none⟩ (.slice (some ⟨g6,0,none⟩) ((newsL A B j).length + 1) c6)) (Row 63 4 (.slice (some ⟨g6,0,none⟩) (newsL A B (j + 1)).length c6) (newsL A B (j + 1)).length (ccat (newsL A B (j + 1))) :: Row 63 4 (.slice sa (setsL A B (j + 1)).length sc) (setsL A B (j + 1)).length (ccat (setsL A B (j + 1))) :: Cells b5 #[.int .u32 (i2 : Int),.int .u8 (lo : Int),.slice (some ⟨g6,0,none⟩) (newsL A B (j + 1)).length c6,.slice sa (setsL A B (j + 1)).length sc] 112 :: Cells b4 #[.int .u32 0,.int .u8 0,.slice none 0 0,.slice none 0 0] 112 :: Cells b3 #[.int .u32 (i2 : Int),.slice (some ⟨g,o,none⟩) n2 c2] 60 :: Cells b2 #[.int .u32 (i1 : Int),.slice a1 n1 c1] 60 :: l)) := by
      show Own _ _ _
      have e1 : (newsL A B (j + 1)).length = (newsL A B j).length + 1 := by rw [HEN.out.1,List.length_append]; rfl
      have e2 : ccat (newsL A B (j + 1)) = ccat (newsL A B j) ++ [.int .u8 (qk : Int),.int .i32 qa,.int .i32 qb,.int .i32 qc] := by rw [HEN.out.1]; simp [ccat,cat,Cp.cs]
      rw [e1,e2,HEN.out.2]
      have h9 := (Own.three H7).tail
      simp at h9
      exact h9.perm (perm_c _ _ _ _)
     have HL6 : Hid ((newsL A B j).length + 1 = (newsL A B (j + 1)).length) := by show _ = _; rw [HEN.out.1,List.length_append]; rfl
     clear hO6 hsz6 H7 HN HB2 f2 f3 t0 t1 t2 t3 d2
     go_wp2
     go_roundw
     case rel => exact ⟨j + 1,some ⟨g6,0,none⟩,sa,c6,sc,by omega,by go_num,H8.out⟩
     case measure => simp [intOf]; omega
    ·obtain ⟨en,es⟩ := news_some HQJ.out hsome
     obtain ⟨ga,oa,hga,_,x0,x1,x2,x3⟩ := (HQ.out w2 hB2.tail.tail.tail.tail.tail.tail.tail).1.at i y hy
     subst hga
     have hin : (i : Int) < (n1 : Int) := by have := (List.getElem?_eq_some_iff.1 hy).1; have := HL.out.1; omega
     obtain ⟨r0,e0⟩ : ∃ r,((y.k : Int) == (qk : Int)) = r := ⟨_,rfl⟩
     obtain ⟨r1,e1⟩ : ∃ r,((y.a == qa) && (y.b == qb) && (y.c == qc)) = r := ⟨_,rfl⟩
     have HD : Hid (decide (y = ⟨qk,qa,qb,qc⟩) = (r0 && r1)) := by show _ = _; rw [← cp_eq,e0,e1]
     have eqa : ∀ d w,(Op.equalIn (d + 1 + 1) 61 (.agg #[.int .i32 y.a,.int .i32 y.b,.int .i32 y.c]) (.agg #[.int .i32 qa,.int .i32 qb,.int .i32 qc])).run Tryz.prog w = .ok r1 w := fun d w => by rw [eq_a3,e1]
     have HEN : Hid (newsL A B (j + 1) = newsL A B j ∧ setsL A B (j + 1) = setsL A B j ++ (if (r0 && r1) = true then [] else [⟨qk,qa,qb,qc⟩])) := ⟨en,by rw [es,HD.out]⟩
     clear hsome en es e1 hy
     obtain ⟨yk,ya,yb,yc⟩ := y
     simp only at x0 x1 x2 x3 e0 eqa
     by_cases hb : (r0 && r1) = true
     ·obtain ⟨rfl,rfl⟩ : r0 = true ∧ r1 = true := by simpa using hb
      have H8 : Hid (∀ w',Fr Nobody w2 w' → Own w0 w' (Row 63 4 (.slice na (newsL A B (j + 1)).length nc) (newsL A B (j + 1)).length (ccat (newsL A B (j + 1))) :: Row 63 4 (.slice sa (setsL A B (j + 1)).length sc) (setsL A B (j + 1)).length (ccat (setsL A B (j + 1))) :: Cells b5 #[.int .u32 (i2 : Int),.int .u8 (lo : Int),.slice na (newsL A B (j + 1)).length nc,.slice sa (setsL A B (j + 1)).length sc] 112 :: Cells b4 #[.int .u32 0,.int .u8 0,.slice none 0 0,.slice none 0 0] 112 :: Cells b3 #[.int .u32 (i2 : Int),.slice (some ⟨g,o,none⟩) n2 c2] 60 :: Cells b2 #[.int .u32 (i1 : Int),.slice (some ⟨ga,oa,none⟩) n1 c1] 60 :: l)) := fun w' hf => by
       have e3 : setsL A B (j + 1) = setsL A B j := by rw [HEN.out.2]; simp
       rw [HEN.out.1,e3]
       exact (hB2.quiet hf).tail
      clear hb hB2 HB2
      go_wp2
      go_quiet (fail)
      go_wp2
      go_roundw
      case rel => exact ⟨j + 1,na,sa,nc,sc,by omega,by go_num,H8.out _ ((Fr.refl _ _).drewN _)⟩
      case measure => simp [intOf]; omega
     ·have hb2 : (r0 && r1) = false := by simpa using hb
      have HEN2 : Hid (newsL A B (j + 1) = newsL A B j ∧ setsL A B (j + 1) = setsL A B j ++ [⟨qk,qa,qb,qc⟩]) := ⟨HEN.out.1,by rw [HEN.out.2,hb2]; simp⟩
      have hc : r0 = false ∨ (r0 = true ∧ r1 = false) := by cases r0 <;> cases r1 <;> simp at hb2 ⊢
      have HN : Hid (∀ k,Own w0 (w2.drewN k) _) := fun k => (hB2.drewN k).three
      clear hb hb2 hB2 HB2 HEN HD
      rcases hc with rfl | ⟨rfl,rfl⟩
      all_goals
       go_wp2
       go_quiet (fail)
       go_wp2_with (at_builtin; refine append1_own rfl _ _ 58 rfl 63 ic _ 4 16 Tryz.underlying58 hic hz0 hz1 hz2 rfl (by decide) _ _ _ rfl (HN.out _) _ #[.int .u8 (qk : Int),.int .i32 qa,.int .i32 qb,.int .i32 qc] (by simp) rfl rfl (by intro u hu; simp at hu; rcases hu with rfl | rfl | rfl | rfl <;> rfl) (by unfold maxLen; omega) (by omega) ?_)
       intro g6 c6 w6 hO6 hsz6
       have k2 := (Own.four hO6).cell 3
       have k3 := (Own.four hO6).froz 3
       simp at k2
       have H7 := (Own.four hO6).setC 3 (.slice (some ⟨g6,0,none⟩) ((setsL A B j).length + 1) c6)
       have H8 : Hid (Own w0 (w6.setCell ⟨b5,3,none⟩ (.slice (some ⟨g6,0,none⟩) ((setsL A B j).length + 1) c6)) (Row 63 4 (.slice na (newsL A B (j + 1)).length nc) (newsL A B (j + 1)).length (ccat (newsL A B (j + 1))) :: Row 63 4 (.slice (some ⟨g6,0,none⟩) (setsL A B (j + 1)).length c6) (setsL A B (j + 1)).length (ccat (setsL A B (j + 1))) :: Cells b5 #[.int .u32 (i2 : Int),.int .u8 (lo : Int),.slice na (newsL A B (j + 1)).length nc,.slice (some ⟨g6,0,none⟩) (setsL A B (j + 1)).length c6] 112 :: Cells b4 #[.int .u32 0,.int .u8 0,.slice none 0 0,.slice none 0 0] 112 :: Cells b3 #[.int .u32 (i2 : Int),.slice (some ⟨g,o,none⟩) n2 c2] 60 :: Cells b2 #[.int .u32 (i1 : Int),.slice (some ⟨ga,oa,none⟩) n1 c1] 60 :: l)) := by
        show Own _ _ _
        have e1 : (setsL A B (j + 1)).length = (setsL A B j).length + 1 := by rw [HEN2.out.2,List.length_append]; rfl
        have e2 : ccat (setsL A B (j + 1)) = ccat (setsL A B j) ++ [.int .u8 (qk : Int),.int .i32 qa,.int .i32 qb,.int .i32 qc] := by rw [HEN2.out.2]; simp [ccat,cat,Cp.cs]
        rw [e1,e2,HEN2.out.1]
        have h9 := (Own.three H7).tail
        simp at h9
        exact h9.perm (perm_d _ _ _ _)
       clear hO6 hsz6 H7 HN f2 f3 t0 t1 t2 t3 d2 x0 x1 x2 x3
       go_wp2
       go_roundw
       case rel => exact ⟨j + 1,na,some ⟨g6,0,none⟩,nc,c6,by omega,by go_num,H8.out⟩
       case measure => simp [intOf]; omega
   ·have hlt' : ¬ (j : Int) < (n2 : Int) := by omega
    have hT : B.take j = B := List.take_of_length_le (by rw [HL.out.2.1]; omega)
    have m0 := (Own.three hO).cell 0
    have m1 := (Own.three hO).cell 1
    have m2 := (Own.three hO).cell 2
    have m3 := (Own.three hO).cell 3
    have r0 := (Own.four hO).cell 0
    have r1 := (Own.four hO).cell 1
    have r2 := (Own.four hO).cell 2
    have r3 := (Own.four hO).cell 3
    have z0 := (Own.four hO).froz 0
    have z1 := (Own.four hO).froz 1
    have z2 := (Own.four hO).froz 2
    have z3 := (Own.four hO).froz 3
    simp at m0 m1 m2 m3 r0 r1 r2 r3
    have HV : Hid (ChE.v ⟨i2,lo,newsL A B j,na,nc,setsL A B j,sa,sc⟩ = chg1 (i1,A) (i2,B)) := by
     show _ = _
     unfold ChE.v chg1 newsL setsL
     rw [hT,HLO.out]
    have H9 := ((((Own.four hO).setC 0 (.int .u32 (i2 : Int))).setC 1 (.int .u8 (lo : Int))).setC 2 (.slice na (newsL A B j).length nc)).setC 3 (.slice sa (setsL A B j).length sc)
    simp at H9
    have H10 : Hid (Own w0 _ _) := H9
    clear hO hT H9
    go_wp2
    (try simp only [Exit.inBlock,Exit.then])
    refine bodyPost_ret (results_cell_row rfl _ _ b4 112 #[.int .u32 (i2 : Int),.int .u8 (lo : Int),.slice na (newsL A B j).length nc,.slice sa (setsL A B j).length sc] _ _ rfl H10.out.obj Tryz.underlying112 rfl (by kernel_rfl)) rfl ?_
    refine ⟨⟨i2,lo,newsL A B j,na,nc,setsL A B j,sa,sc⟩,rfl,HV.out,?_⟩
    exact H10.out.tail.perm (List.Perm.trans (List.Perm.refl _) (List.Perm.refl _)) |>.dropMid
theorem nil_len (x : ChE) : x.v.nil = (decide (x.lost = 0) && decide (x.N.length = 0) && decide (x.S.length = 0)) := by
 unfold Chg.nil ChE.v
 rw [Bool.eq_iff_iff]
 simp [List.isEmpty_iff]
theorem isNone_any (w : World) (x : ChE) (hl : x.lost < 256) (h1 : x.N.length ≤ 2097152) (h2 : x.S.length ≤ 2097152) :
  Calls Tryz.prog 184 #[.agg #[.int .u32 (x.id : Int),.int .u8 (x.lost : Int),.slice x.na x.N.length x.nc,.slice x.sa x.S.length x.sc]] w fun e w' => e = .returned (.bool x.v.nil) ∧ Fr Nobody w w' := by
 rw [nil_len]
 obtain ⟨id,lo,N,na,nc,S,sa,sc⟩ := x
 simp only at hl h1 h2 ⊢
 generalize N.length = n at *
 generalize S.length = s at *
 by_cases c0 : lo = 0
 ·subst c0
  by_cases c1 : n = 0
  ·subst c1
   by_cases c2 : s = 0
   ·subst c2
    go_enter Tryz.func184,Tryz.ntmps184
    go_wp2
    go_ret
    exact ⟨rfl,(Fr.refl _ _).alloc _⟩
   ·have e2 : ((s : Int) == 0) = false := by rw [beq_eq_false_iff_ne]; omega
    rw [decide_eq_false c2]
    clear c2
    go_enter Tryz.func184,Tryz.ntmps184
    go_wp2
    go_ret
    exact ⟨rfl,(Fr.refl _ _).alloc _⟩
  ·have e2 : ((n : Int) == 0) = false := by rw [beq_eq_false_iff_ne]; omega
   rw [decide_eq_false c1]
   clear c1
   go_enter Tryz.func184,Tryz.ntmps184
   go_wp2
   go_ret
   exact ⟨by simp,(Fr.refl _ _).alloc _⟩
 ·have e2 : ((lo : Int) == 0) = false := by rw [beq_eq_false_iff_ne]; omega
  rw [decide_eq_false c0]
  clear c0
  go_enter Tryz.func184,Tryz.ntmps184
  go_wp2
  go_ret
  exact ⟨by simp,(Fr.refl _ _).alloc _⟩
structure DlE where
 G : List Nat
 ga : Option Addr
 gc : Nat
 M : List EnE
 ma : Option Addr
 mc : Nat
 H : List ChE
 ha : Option Addr
 hc : Nat
def DlE.vs (d : DlE) : Array Value := #[.slice d.ga d.G.length d.gc,.slice d.ma d.M.length d.mc,.slice d.ha d.H.length d.hc]
def DlE.v (d : DlE) : Dl := ⟨d.G,evs d.M,d.H.map ChE.v⟩
def hrows (H : List ChE) : List Thing := H.flatMap ChE.rows
def grow1 (G : List Nat) (ga : Option Addr) (gc : Nat) : Thing := Row 57 1 (.slice ga G.length gc) G.length (irow .u32 G)
def hrow1 (H : List ChE) (ha : Option Addr) (hc : Nat) : Thing := Row 112 4 (.slice ha H.length hc) H.length (cat ChE.cs H)
def DlE.things (d : DlE) : List Thing := grow1 d.G d.ga d.gc :: EntsT d.ma d.mc d.M :: hrow1 d.H d.ha d.hc :: hrows d.H
def Dl.app (a b : Dl) : Dl := ⟨a.gone ++ b.gone,a.come ++ b.come,a.chg ++ b.chg⟩
theorem app_nil (b : Dl) : Dl.app ⟨[],[],[]⟩ b = b := by cases b; rfl
theorem app_end (a : Dl) : a.app (btw [] []) = a := by cases a; simp [Dl.app,btw]
theorem EntsAt.tail {w : World} {g o : Nat} {x : EnE} {t : List EnE} (h : EntsAt w (some ⟨g,o,none⟩) (x :: t)) : EntsAt w (some ⟨g,o + 2,none⟩) t := by
 refine ⟨?_,fun y hy => h.2 y (List.mem_cons_of_mem _ hy)⟩
 rcases h.1 with h0 | ⟨g',o',ha,hc⟩
 ·cases h0
 ·cases ha
  refine .inr ⟨g,o + 2,rfl,fun j y hy => ?_⟩
  have := hc (j + 1) y (by simpa using hy)
  have e : o + (j + 1) * 2 = o + 2 + j * 2 := by omega
  rw [e] at this
  exact this
theorem EntsAt.nil (w : World) (ao : Option Addr) : EntsAt w ao [] := ⟨.inl rfl,fun x hx => by cases hx⟩
theorem EntsAt.head {w : World} {ao : Option Addr} {x : EnE} {t : List EnE} (h : EntsAt w ao (x :: t)) : ∃ g o,ao = some ⟨g,o,none⟩ ∧ w.cell? ⟨g,o,none⟩ = some (.int .u32 (x.id : Int)) ∧ w.cell? ⟨g,o + 1,none⟩ = some (.slice x.ao x.C.length x.cap) ∧ Cs w x.ao x.C := by
 obtain ⟨g,o,ha,h0,h1,h2⟩ := h.at (j := 0) (x := x) rfl
 exact ⟨g,o,ha,by simpa using h0,by simpa using h1,h2⟩
theorem btw_g {x : EnE} {t N : List EnE} (h : N = [] ∨ ∃ y s,N = y :: s ∧ x.id < y.id) : btw (evs (x :: t)) (evs N) = addG x.id (btw (evs t) (evs N)) := by
 rcases h with rfl | ⟨y,s,rfl,hlt⟩
 ·simp [evs,btw]
 ·simp [evs,btw,hlt]
theorem btw_e {y : EnE} {W s : List EnE} (h : W = [] ∨ ∃ x t,W = x :: t ∧ y.id < x.id) : btw (evs W) (evs (y :: s)) = addE (y.id,y.C) (btw (evs W) (evs s)) := by
 rcases h with rfl | ⟨x,t,rfl,hlt⟩
 ·simp [evs,btw]
 ·have : ¬ x.id < y.id := by omega
  simp [evs,btw,hlt,this]
theorem btw_c {x y : EnE} {t s : List EnE} (h : x.id = y.id) : btw (evs (x :: t)) (evs (y :: s)) = addC (chg1 (x.id,x.C) (y.id,y.C)) (btw (evs t) (evs s)) := by
 simp [evs,btw,h]
theorem app_g (a b : Dl) (g : Nat) : a.app (addG g b) = (⟨a.gone ++ [g],a.come,a.chg⟩ : Dl).app b := by simp [Dl.app,addG]
theorem app_e (a b : Dl) (e : En) : a.app (addE e b) = (⟨a.gone,a.come ++ [e],a.chg⟩ : Dl).app b := by simp [Dl.app,addE]
theorem app_c0 (a b : Dl) (c : Chg) (h : c.nil = true) : a.app (addC c b) = a.app b := by simp [Dl.app,addC,h]
theorem app_c1 (a b : Dl) (c : Chg) (h : c.nil = false) : a.app (addC c b) = (⟨a.gone,a.come,a.chg ++ [c]⟩ : Dl).app b := by simp [Dl.app,addC,h]
theorem Tryz.infoIDk : (Tryz.prog.info? 57).map (fun i => (i.zero,i.size,i.bytes)) = some (some (.int .u32 0),1,4) := by kernel_rfl
def lenV : Value → Nat
 | .slice _ n _ => n
 | _ => 0
end Go.Proofs.YtgifeckbflkkpaaGreatDoor
