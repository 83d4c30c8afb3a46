/- What an entity was: before, ofKind. -/
import Derived.Test.YtgifeckbflkkpaaGreatDoorQr20
import Derived.Test.YtgifeckbflkkpaaGreatDoorQr21
import Derived.Test.YtgifeckbflkkpaaGreatDoorQr14
import Derived.Test.YtgifeckbflkkpaaGreatDoorQr19
namespace Go.Proofs.YtgifeckbflkkpaaGreatDoor
open Go.RowKit
set_option linter.unusedVariables false
set_option maxHeartbeats 4000000
set_option maxRecDepth 100000
def cmpN (a b : Nat) : Int := if a < b then -1 else if b < a then 1 else 0
theorem isNaN_id (x : Int) (w : World) : Calls Tryz.prog 217 #[.int .u32 x] w fun e w' => e = .returned (.bool false) ∧ w' = w := by
 go_enter Tryz.func217,Tryz.ntmps217
 go_wp2
 go_ret
 exact ⟨by simp,rfl⟩
theorem cmp_id (a b : Nat) (w : World) : Calls Tryz.prog 195 #[.int .u32 (a : Int),.int .u32 (b : Int)] w fun e w' => e = .returned (.int .i64 (cmpN a b)) ∧ w' = w := by
 have HN : Hid (∀ (x : Int) W,Calls Tryz.prog 217 #[.int .u32 x] W fun e w' => e = .returned (.bool false) ∧ w' = W) := fun x W => isNaN_id x W
 go_enter Tryz.func195,Tryz.ntmps195
 go_wp2_with fail
 refine (HN.out _ _).mono ?_
 rintro e w1 ⟨rfl,rfl⟩
 go_wp2_with fail
 refine (HN.out _ _).mono ?_
 rintro e w1 ⟨rfl,rfl⟩
 by_cases h1 : a < b
 ·have h1' : (a : Int) < (b : Int) := by omega
  go_wp2
  go_ret
  exact ⟨by simp [cmpN,h1],rfl⟩
 ·have h1' : ¬ (a : Int) < (b : Int) := by omega
  by_cases h2 : b < a
  ·have h2' : (b : Int) < (a : Int) := by omega
   go_wp2
   go_ret
   exact ⟨by simp [cmpN,h1,h2],rfl⟩
  ·have h2' : ¬ (b : Int) < (a : Int) := by omega
   go_wp2
   go_ret
   exact ⟨by simp [cmpN,h1,h2],rfl⟩
theorem before1_any (w : World) (x : Nat) (a : Option Addr) (n c i : Nat) : Calls Tryz.prog 194 #[.agg #[.int .u32 (x : Int),.slice a n c],.int .u32 (i : Int)] w fun e w' => e = .returned (.int .i64 (cmpN x i)) ∧ Fr Nobody w w' := by
 have HC : Hid (∀ W,Calls Tryz.prog 195 #[.int .u32 (x : Int),.int .u32 (i : Int)] W fun e w' => e = .returned (.int .i64 (cmpN x i)) ∧ w' = W) := fun W => cmp_id x i W
 go_enter Tryz.func194,Tryz.ntmps194
 go_wp2_with fail
 refine (HC.out _).mono ?_
 rintro e w1 ⟨rfl,rfl⟩
 go_wp2
 go_ret
 exact ⟨rfl,(Fr.refl _ _).alloc _⟩
theorem ofKind_ok (w : World) (ao : Option Addr) (n cap : Nat) (C : List Cp) (hn : C.length = n) (hs : Cs w ao C) (k : Nat) (q : Cp) (hf : fst C k = some q) (hm : n ≤ 1000000) :
  Calls Tryz.prog 192 #[.slice ao n cap,.int .u8 (k : Int)] w fun e w' => e = .returned (.agg #[.int .u8 (q.k : Int),.int .i32 q.a,.int .i32 q.b,.int .i32 q.c]) ∧ Fr Nobody w w' := by
 have HL : Hid (C.length = n ∧ Cs w ao C ∧ fst C k = some q) := ⟨hn,hs,hf⟩
 have HS : Hid (Own w _ _) := (Own.start w).allocC #[.int .u8 0,.int .i32 0,.int .i32 0,.int .i32 0] 63
 clear hn hs hf
 go_enter Tryz.func192,Tryz.ntmps192
 go_wp2
 generalize hWg : w.alloc (.cells #[.int .u8 0,.int .i32 0,.int .i32 0,.int .i32 0] 63) = W1 at *
 generalize w.heap.size = b4 at *
 clear hWg
 go_loopw [9] (fun cc wr => ∃ j : Nat,j ≤ n ∧ cc = .int .i64 j ∧ fst (C.take j) k = none ∧ Own w wr [Cells b4 #[.int .u8 0,.int .i32 0,.int .i32 0,.int .i32 0] 63]) (fun cc _ => n - (intOf cc).toNat)
 case atStart => exact ⟨0,Nat.zero_le _,rfl,by simp [fst],HS.out⟩
 case round =>
  obtain ⟨j,hj,rfl,hno,hO⟩ := hrel
  have HN : Hid (fst (C.take j) k = none) := hno
  clear hno HS
  by_cases hlt : j < n
  ·obtain ⟨y,hy⟩ : ∃ y,C[j]? = some y := ⟨_,List.getElem?_eq_getElem (by rw [HL.out.1]; exact hlt)⟩
   obtain ⟨g,o,hao,-,c0,c1,c2,c3⟩ := (HL.out.2.1.quiet hO.fr).at j y hy
   subst hao
   have hlt' : (j : Int) < (n : Int) := by omega
   have hb1 : g < wr.heap.size := World.block_lt_of_cell? wr _ c0
   have hb2 : wr.heap.size ≠ g := by omega
   have hB := hO.allocC #[.int .u8 (y.k : Int),.int .i32 y.a,.int .i32 y.b,.int .i32 y.c] 63
   have hb4 := (Own.two hB).lt
   have hne := hO.lt
   have hne2 : wr.heap.size ≠ b4 := by omega
   by_cases he : y.k = k
   ·have hyq : y = q := by
     have := fst_hit hy HN.out he
     rw [HL.out.2.2] at this
     exact (Option.some.inj this).symm
    subst hyq
    have he' : ((y.k : Int) == (k : Int)) = true := by rw [he]; simp
    have z0 := hO.froz 0
    have z1 := hO.froz 1
    have z2 := hO.froz 2
    have z3 := hO.froz 3
    have v0 := hO.cell 0
    have v1 := hO.cell 1
    have v2 := hO.cell 2
    have v3 := hO.cell 3
    simp at v0 v1 v2 v3
    have h9 := ((((hO.setC 0 (.int .u8 (y.k : Int))).setC 1 (.int .i32 y.a)).setC 2 (.int .i32 y.b)).setC 3 (.int .i32 y.c)).allocC #[.int .u8 (y.k : Int),.int .i32 y.a,.int .i32 y.b,.int .i32 y.c] 63
    simp at h9
    have h9 := h9.two
    have H9 : Hid (Own w _ _) := h9
    clear hy he hO hB h9 HL
    obtain ⟨yk,ya,yb,yc⟩ := y
    simp only at c0 c1 c2 c3 he' H9 z0 z1 z2 z3 v0 v1 v2 v3
    go_wp2
    (try simp only [Exit.inBlock,Exit.then])
    refine bodyPost_ret (results_cell_row rfl _ _ b4 63 #[.int .u8 (yk : Int),.int .i32 ya,.int .i32 yb,.int .i32 yc] _ _ rfl H9.out.obj Tryz.underlying63 rfl (by kernel_rfl)) rfl ?_
    exact ⟨rfl,H9.out.fr⟩
   ·have he' : ((y.k : Int) == (k : Int)) = false := by rw [beq_eq_false_iff_ne]; omega
    have HH : Hid (fst (C.take (j + 1)) k = none) := fst_miss hy HN.out he
    have HB : Hid (Own w _ _) := hB.tail
    clear hy he hO hB
    obtain ⟨yk,ya,yb,yc⟩ := y
    simp only at c0 c1 c2 c3 he' HB
    go_wp2
    go_roundw
    case rel => exact ⟨j + 1,by omega,by go_num,HH.out,HB.out⟩
    case measure => simp [intOf]; omega
  ·exfalso
   have h1 := HN.out
   rw [List.take_of_length_le (by rw [HL.out.1]; omega),HL.out.2.2] at h1
   cases h1
theorem up_at {E : List EnE} (h : (evs E).Pairwise (fun a b => a.1 < b.1)) {i j : Nat} {x y : EnE} (hx : E[i]? = some x) (hy : E[j]? = some y) (hij : i < j) : x.id < y.id := by
 have h1 := List.getElem?_eq_some_iff.1 (evs_at hx)
 have h2 := List.getElem?_eq_some_iff.1 (evs_at hy)
 have := List.pairwise_iff_getElem.1 h i j h1.1 h2.1 hij
 rw [h1.2,h2.2] at this
 exact this
def BsR (E : List EnE) (id : Nat) (w : World) (e : Ending) (w' : World) : Prop := ∃ (i : Nat) (f : Bool),e = .returned (.tuple #[.int .i64 (i : Int),.bool f]) ∧ (∀ m x,E[m]? = some x → x.id = id → i = m ∧ f = true) ∧ Fr Nobody w w'
theorem bsearch_any (w : World) (ao : Option Addr) (n cap : Nat) (E : List EnE) (hE : EntsAt w ao E) (hn : E.length = n) (hm : n ≤ 1000000) (hup : (evs E).Pairwise (fun a b => a.1 < b.1)) (id : Nat) :
  Calls Tryz.prog 193 #[.slice ao n cap,.int .u32 (id : Int),.func (.func 194) #[] #[]] w (BsR E id w) := by
 have HL : Hid (E.length = n ∧ EntsAt w ao E ∧ (evs E).Pairwise (fun a b => a.1 < b.1)) := ⟨hn,hE,hup⟩
 obtain ⟨tid,htid⟩ : ∃ t,t = id := ⟨_,rfl⟩
 rw [← htid]
 clear hn hE hup htid
 go_enter Tryz.func193,Tryz.ntmps193
 go_wp2
 go_loopw [9,10] (fun v9 v10 wr => ∃ i j : Nat,v9 = .int .i64 (i : Int) ∧ v10 = .int .i64 (j : Int) ∧ i ≤ j ∧ j ≤ n ∧ (∀ m x,m < i → E[m]? = some x → x.id < tid) ∧ (∀ m x,j ≤ m → E[m]? = some x → tid ≤ x.id) ∧ Fr Nobody w wr) (fun v9 v10 _ => (intOf v10).toNat - (intOf v9).toNat)
 case atStart => exact ⟨0,n,rfl,rfl,Nat.zero_le _,Nat.le_refl _,(fun m x hm => by omega),(fun m x hm hx => by have := (List.getElem?_eq_some_iff.1 hx).1; have := HL.out.1; omega),Fr.refl _ _⟩
 case round =>
  obtain ⟨i,j,rfl,rfl,hij,hjn,hlow,hhigh,hf⟩ := hrel
  have HLO : Hid (∀ m x,m < i → E[m]? = some x → x.id < tid) := hlow
  have HHI : Hid (∀ m x,j ≤ m → E[m]? = some x → tid ≤ x.id) := hhigh
  have HF : Hid (Fr Nobody w wr) := hf
  clear hlow hhigh hf
  by_cases hlt : i < j
  ·have hlt' : (i : Int) < (j : Int) := by omega
   obtain ⟨h,hh⟩ : ∃ h,h = (i + j) / 2 := ⟨_,rfl⟩
   have eh : ((i : Int) + (j : Int)) / 2 = (h : Int) := by omega
   have hhi : i ≤ h := by omega
   have hhj : h < j := by omega
   clear hh
   obtain ⟨x,hx⟩ : ∃ x,E[h]? = some x := ⟨_,List.getElem?_eq_getElem (by rw [HL.out.1]; omega)⟩
   obtain ⟨g,o,hga,c0,c1,-⟩ := (HL.out.2.1.quiet HF.out).at hx
   subst hga
   have hhn : (h : Int) < (n : Int) := by omega
   have HX : Hid (E[h]? = some x) := hx
   have HC : Hid (Calls _ _ _ _ _) := before1_any wr x.id x.ao x.C.length x.cap tid
   clear hx
   by_cases hc : x.id < tid
   ·have ec : cmpN x.id tid = -1 := by unfold cmpN; rw [if_pos hc]
    rw [ec] at HC
    have HLO2 : Hid (∀ m y,m < h + 1 → E[m]? = some y → y.id < tid) := fun m y hm hy => by
     rcases Nat.lt_or_ge m h with hm2 | hm2
     ·have := up_at HL.out.2.2 hy HX.out hm2; omega
     ·have : m = h := by omega
      subst this
      rw [HX.out] at hy
      cases hy
      exact hc
    clear hc ec HX
    obtain ⟨xi,xa,xc,xC⟩ := x
    simp only at c0 c1 HC
    go_wp2_with fail
    refine HC.out.mono ?_
    rintro e w2 ⟨rfl,hf2⟩
    have HF2 : Hid (Fr Nobody w w2) := HF.out.trans hf2
    clear hf2 HC
    go_wp2
    go_roundw
    case rel => exact ⟨h + 1,j,by go_num,rfl,by omega,by omega,HLO2.out,HHI.out,HF2.out⟩
    case measure => simp [intOf]; omega
   ·have ec : ¬ cmpN x.id tid < 0 := by unfold cmpN; rw [if_neg hc]; split <;> decide
    obtain ⟨r,hr⟩ : ∃ r,r = cmpN x.id tid := ⟨_,rfl⟩
    rw [← hr] at HC ec
    have HHI2 : Hid (∀ m y,h ≤ m → E[m]? = some y → tid ≤ y.id) := fun m y hm hy => by
     rcases Nat.lt_or_ge h m with hm2 | hm2
     ·have := up_at HL.out.2.2 HX.out hy hm2; omega
     ·have : m = h := by omega
      subst this
      rw [HX.out] at hy
      cases hy
      omega
    clear hc hr HX
    obtain ⟨xi,xa,xc,xC⟩ := x
    simp only at c0 c1 HC
    go_wp2_with fail
    refine HC.out.mono ?_
    rintro e w2 ⟨rfl,hf2⟩
    have HF2 : Hid (Fr Nobody w w2) := HF.out.trans hf2
    clear hf2 HC
    go_wp2
    go_roundw
    case rel => exact ⟨i,h,rfl,rfl,hhi,by omega,HLO.out,HHI2.out,HF2.out⟩
    case measure => simp [intOf]; omega
  ·have hlt' : ¬ (i : Int) < (j : Int) := by omega
   have hij2 : i = j := by omega
   subst hij2
   by_cases hin : i < n
   ·have hin' : (i : Int) < (n : Int) := by omega
    obtain ⟨x,hx⟩ : ∃ x,E[i]? = some x := ⟨_,List.getElem?_eq_getElem (by rw [HL.out.1]; omega)⟩
    obtain ⟨g,o,hga,c0,c1,-⟩ := (HL.out.2.1.quiet HF.out).at hx
    subst hga
    have HC : Hid (Calls _ _ _ _ _) := before1_any wr x.id x.ao x.C.length x.cap tid
    obtain ⟨f,hfx⟩ : ∃ f,(cmpN x.id tid == 0) = f := ⟨_,rfl⟩
    have HR : Hid (∀ m y,E[m]? = some y → y.id = tid → i = m ∧ f = true) := fun m y hy hyt => by
     have h1 : ¬ m < i := fun hm => by have := HLO.out m y hm hy; omega
     have h2 : ¬ i < m := fun hm => by
      have h3 := up_at HL.out.2.2 hx hy hm
      have h4 := HHI.out i x (Nat.le_refl _) hx
      omega
     have h3 : i = m := by omega
     subst h3
     rw [hx] at hy
     cases hy
     refine ⟨rfl,?_⟩
     rw [← hfx,hyt]
     simp [cmpN]
    generalize cmpN x.id tid = r at *
    clear hx
    obtain ⟨xi,xa,xc,xC⟩ := x
    simp only at c0 c1 HC
    go_wp2_with fail
    refine HC.out.mono ?_
    rintro e w2 ⟨rfl,hf2⟩
    have HF2 : Hid (Fr Nobody w w2) := HF.out.trans hf2
    clear hf2 HC
    go_wp2
    go_ret2
    unfold BsR
    exact ⟨i,f,by simp,HR.out,HF2.out⟩
   ·have hin' : ¬ (i : Int) < (n : Int) := by omega
    have HR : Hid (∀ m y,E[m]? = some y → y.id = tid → i = m ∧ false = true) := fun m y hy hyt => by
     have h1 := (List.getElem?_eq_some_iff.1 hy).1
     have := HLO.out m y (by have := HL.out.1; omega) hy
     omega
    go_wp2
    go_ret2
    unfold BsR
    exact ⟨i,false,rfl,HR.out,HF.out⟩
theorem before_ok (w : World) (ao : Option Addr) (n cap : Nat) (E : List EnE) (hE : EntsAt w ao E) (hn : E.length = n) (hm : n ≤ 1000000) (hup : (evs E).Pairwise (fun a b => a.1 < b.1)) (m : Nat) (x : EnE) (hx : E[m]? = some x) :
  Calls Tryz.prog 172 #[.slice ao n cap,.int .u32 (x.id : Int)] w fun e w' => e = .returned (.slice x.ao x.C.length x.cap) ∧ Fr Nobody w w' := by
 have HB : Hid (Calls _ _ _ _ _) := bsearch_any w ao n cap E hE hn hm hup x.id
 have HL : Hid (E[m]? = some x ∧ EntsAt w ao E) := ⟨hx,hE⟩
 have hmn : (m : Int) < (n : Int) := by have := (List.getElem?_eq_some_iff.1 hx).1; omega
 clear hE hn hup hx
 go_enter Tryz.func172,Tryz.ntmps172
 go_wp2_with fail
 refine HB.out.mono ?_
 rintro e w2 ⟨i,f,rfl,hif,hf2⟩
 obtain ⟨rfl,rfl⟩ := hif m x HL.out.1 rfl
 obtain ⟨g,o,hga,c0,c1,-⟩ := (HL.out.2.quiet hf2).at HL.out.1
 subst hga
 have HF : Hid (Fr Nobody w w2) := hf2
 clear hf2 hif HB HL
 obtain ⟨xi,xa,xc,xC⟩ := x
 simp only at c0 c1
 go_wp2
 go_ret
 exact ⟨rfl,HF.out⟩
theorem i32_chk {k : Nat} {F : Nat → Int} (h : chk k F = 0) : I32 F := by
 obtain ⟨_,h1,h2⟩ := chk_ok k F h
 intro j hj
 by_cases hc : j < cnt k
 ·have h3 := h1 j hc
  obtain ⟨l0,l1,l2,l3⟩ := rng_ok k j hc
  omega
 ·have h3 := h2 j (by omega) hj
  omega
def stpB (A : List Cp) (q : Cp) : List Bool := match fst A q.k with
 | none => []
 | some y => sbs q.k (f3 y.a y.b y.c) (f3 q.a q.b q.c) (cnt q.k)
def stpsB (A : List Cp) : List Cp → List Bool
 | [] => []
 | q :: t => stpB A q ++ stpsB A t
theorem stpsB_app (A B C : List Cp) : stpsB A (B ++ C) = stpsB A B ++ stpsB A C := by
 induction B with
 | nil => rfl
 | cons q t ih => simp [stpsB,ih]
theorem stpB_le (A : List Cp) (q : Cp) : (stpB A q).length ≤ 66 := by
 unfold stpB
 split
 ·simp
 ·rw [length_sbs]
  have h2 := cnt_le q.k
  exact Nat.le_trans (ssum_le q.k (cnt q.k) _ _ (Nat.le_refl _)) (by omega)
theorem stpsB_le (A C : List Cp) : (stpsB A C).length ≤ 66 * C.length := by
 induction C with
 | nil => simp [stpsB]
 | cons q t ih =>
  have := stpB_le A q
  simp only [stpsB,List.length_append,List.length_cons]
  omega
theorem psteps (w0 w : World) (ht : Tab w0) (l : List Thing) (p b : Nat) (L : List Bool) (aa : Option Addr) (na ca : Nat) (A : List Cp) (ao : Option Addr) (n cap : Nat) (C : List Cp) (h : Own w0 w (penC p b :: WrT b L :: l)) (hC : ∀ w',Own w0 w' l → Cs w' aa A ∧ Cs w' ao C) (hna : A.length = na) (hn : C.length = n) (hma : na ≤ 1000000) (hk : ∀ q ∈ C,q.k < 256) (h0 : ∀ q ∈ C,∃ y,fst A q.k = some y ∧ chk q.k (f3 y.a y.b y.c) = 0 ∧ chk q.k (f3 q.a q.b q.c) = 0) (hl : L.length + 66 * n + 200 ≤ 1048576) :
  Calls Tryz.prog 185 #[.pointer (some ⟨p,0,none⟩),.slice aa na ca,.slice ao n cap] w fun e w' => e = .returned (.tuple #[]) ∧ Own w0 w' (penC p b :: WrT b (L ++ stpsB A C) :: l) := by
 have HC : Hid (C.length = n ∧ (∀ q ∈ C,q.k < 256) ∧ (∀ q ∈ C,∃ y,fst A q.k = some y ∧ chk q.k (f3 y.a y.b y.c) = 0 ∧ chk q.k (f3 q.a q.b q.c) = 0) ∧ (∀ w',Own w0 w' l → Cs w' aa A ∧ Cs w' ao C) ∧ A.length = na ∧ na ≤ 1000000) := ⟨hn,hk,h0,hC,hna,hma⟩
 have HL : Hid (L.length + 66 * n + 200 ≤ 1048576) := hl
 have HT : Hid (Tab w0) := ht
 have H3 : Hid (Own w0 w (penC p b :: WrT b L :: l)) := h
 have hnn : n ≤ 20000 := by omega
 clear h hC hn hk h0 hl ht hna hma
 go_enter Tryz.func185,Tryz.ntmps185
 go_wp2
 go_loopw [10] (fun cc wr => ∃ k : Nat,k ≤ n ∧ cc = .int .i64 (k : Int) ∧ Own w0 wr (penC p b :: WrT b (L ++ stpsB A (C.take k)) :: l)) (fun cc _ => n - (intOf cc).toNat)
 case atStart => exact ⟨0,Nat.zero_le _,rfl,by simpa [stpsB] using H3.out⟩
 case round =>
  obtain ⟨k,hk,rfl,hO⟩ := hrel
  clear H3
  by_cases hlt : k < n
  ·obtain ⟨q,hq⟩ : ∃ q,C[k]? = some q := ⟨_,List.getElem?_eq_getElem (by rw [HC.out.1]; exact hlt)⟩
   obtain ⟨g,o,hga,-,c0,c1,c2,c3⟩ := (HC.out.2.2.2.1 wr hO.tail.tail).2.at k q hq
   subst hga
   have hlt' : (k : Int) < (n : Int) := by omega
   have hq8 := HC.out.2.1 q (List.mem_of_getElem? hq)
   obtain ⟨y,hy,hy0,hq0⟩ := HC.out.2.2.1 q (List.mem_of_getElem? hq)
   have hyk : y.k = q.k := (fst_some hy).2
   have hb1 : g < wr.heap.size := World.block_lt_of_cell? wr _ c0
   have hb2 : wr.heap.size ≠ g := by omega
   have hcl := stpsB_le A (C.take k)
   rw [List.length_take] at hcl
   have hB := (hO.allocC #[.int .u8 (q.k : Int),.int .i32 q.a,.int .i32 q.b,.int .i32 q.c] 63).two.in23
   have HOF : Hid (∀ W,Own w0 W (penC p b :: WrT b (L ++ stpsB A (C.take k)) :: Cells wr.heap.size #[.int .u8 (q.k : Int),.int .i32 q.a,.int .i32 q.b,.int .i32 q.c] 63 :: l) → Calls Tryz.prog 192 #[.slice aa na ca,.int .u8 (q.k : Int)] W fun e w' => e = .returned (.agg #[.int .u8 (q.k : Int),.int .i32 y.a,.int .i32 y.b,.int .i32 y.c]) ∧ Own w0 w' (penC p b :: WrT b (L ++ stpsB A (C.take k)) :: Cells wr.heap.size #[.int .u8 (q.k : Int),.int .i32 q.a,.int .i32 q.b,.int .i32 q.c] 63 :: l)) := fun W hW => by
    have h1 := ofKind_ok W aa na ca A HC.out.2.2.2.2.1 (HC.out.2.2.2.1 W hW.tail.tail.tail).1 q.k y hy HC.out.2.2.2.2.2
    rw [hyk] at h1
    refine h1.mono ?_
    rintro e w' ⟨rfl,hf⟩
    exact ⟨rfl,hW.quiet hf⟩
   have HPU : Hid (∀ W,Own w0 W (penC p b :: WrT b (L ++ stpsB A (C.take k)) :: Cells wr.heap.size #[.int .u8 (q.k : Int),.int .i32 q.a,.int .i32 q.b,.int .i32 q.c] 63 :: l) → Calls Tryz.prog 208 #[.pointer (some ⟨b,0,none⟩),.agg #[.int .u8 (q.k : Int),.int .i32 y.a,.int .i32 y.b,.int .i32 y.c],.agg #[.int .u8 (q.k : Int),.int .i32 q.a,.int .i32 q.b,.int .i32 q.c]] W fun e w' => e = .returned (.int .i64 0) ∧ Own w0 w' (penC p b :: WrT b ((L ++ stpsB A (C.take k)) ++ stpB A q) :: Cells wr.heap.size #[.int .u8 (q.k : Int),.int .i32 q.a,.int .i32 q.b,.int .i32 q.c] 63 :: l)) := fun W hW => by
    have e1 : stpB A q = sbs q.k (f3 y.a y.b y.c) (f3 q.a q.b q.c) (cnt q.k) := by unfold stpB; rw [hy]
    rw [e1]
    refine (putStep_okW w0 W _ HT.out b _ q.k hq8 (f3 y.a y.b y.c) (f3 q.a q.b q.c) (i32_chk hy0) (i32_chk hq0) hW.two (by unfold ckS; rw [if_pos hy0,if_pos hq0,if_pos rfl]) (by have := HL.out; rw [List.length_append]; omega)).mono ?_
    rintro e w' ⟨rfl,h1,_⟩
    exact ⟨rfl,h1.two⟩
   have HTK : Hid (stpsB A (C.take (k + 1)) = stpsB A (C.take k) ++ stpB A q) := by
    show _ = _
    rw [List.take_add_one,hq,stpsB_app]; simp [stpsB]
   have HB : Hid (Own w0 _ _) := hB
   clear hO hB hq hq0 hcl hy hy0 hyk
   obtain ⟨qk,qa,qb,qc⟩ := q
   obtain ⟨yk,ya,yb,yc⟩ := y
   simp only at c0 c1 c2 c3 hq8 HPU HB HTK HOF
   go_wp2
   generalize hWg : wr.alloc (.cells #[.int .u8 (qk : Int),.int .i32 qa,.int .i32 qb,.int .i32 qc] 63) = W1 at *
   generalize wr.heap.size = bx at *
   clear hWg c0 c1 c2 c3 hb1 hb2
   have u0 := (Own.three HB.out).cell 0
   have u1 := (Own.three HB.out).cell 1
   have u2 := (Own.three HB.out).cell 2
   have u3 := (Own.three HB.out).cell 3
   have u4 := Own.cell (show Own w0 W1 (Cells p #[.pointer (some ⟨b,0,none⟩),.int .i64 0] 165 :: _) from HB.out) 0
   simp at u0 u1 u2 u3 u4
   have O1 := HB.out.drew
   clear HB
   go_region_held3 (fun w' => w'.cell? ⟨bx,0,none⟩ = some (.int .u8 (qk : Int)) ∧ w'.cell? ⟨bx,1,none⟩ = some (.int .i32 qa) ∧ w'.cell? ⟨bx,2,none⟩ = some (.int .i32 qb) ∧ w'.cell? ⟨bx,3,none⟩ = some (.int .i32 qc) ∧ w'.cell? ⟨p,0,none⟩ = some (.pointer (some ⟨b,0,none⟩))) (go_keep)
    (first
      | (go_at_call 192; with_reducible refine (HOF.out _ O1).mono ?_; rintro e w4 ⟨rfl,O4⟩
         have t0 := (Own.three O4).cell 0
         have t1 := (Own.three O4).cell 1
         have t2 := (Own.three O4).cell 2
         have t3 := (Own.three O4).cell 3
         have t4 := Own.cell (show Own w0 w4 (Cells p #[.pointer (some ⟨b,0,none⟩),.int .i64 0] 165 :: _) from O4) 0
         simp at t0 t1 t2 t3 t4)
      | (go_at_call 208; with_reducible refine (HPU.out _ O4).mono ?_; rintro e w5 ⟨rfl,O5⟩
         have t0 := (Own.three O5).cell 0
         have t1 := (Own.three O5).cell 1
         have t2 := (Own.three O5).cell 2
         have t3 := (Own.three O5).cell 3
         have t4 := Own.cell (show Own w0 w5 (Cells p #[.pointer (some ⟨b,0,none⟩),.int .i64 0] 165 :: _) from O5) 0
         simp at t0 t1 t2 t3 t4)
      | (go_at_call 151; with_reducible refine (note0 w0 w5 _ p b O5).mono ?_; rintro e w6 ⟨rfl,O6⟩
         have t0 := (Own.three O6).cell 0
         have t1 := (Own.three O6).cell 1
         have t2 := (Own.three O6).cell 2
         have t3 := (Own.three O6).cell 3
         have t4 := Own.cell (show Own w0 w6 (Cells p #[.pointer (some ⟨b,0,none⟩),.int .i64 0] 165 :: _) from O6) 0
         simp at t0 t1 t2 t3 t4))
   have H4 : Hid (Own w0 w6 (penC p b :: WrT b (L ++ stpsB A (C.take (k + 1))) :: l)) := by
    show Own _ _ _
    rw [HTK.out,← List.append_assoc]; exact O6.three.tail
   clear O6 O5 O4 O1 HPU HOF u0 u1 u2 u3 u4 t0 t1 t2 t3 t4
   go_wp2
   go_roundw
   case rel => exact ⟨k + 1,by omega,by go_num,H4.out⟩
   case measure => simp [intOf]; omega
  ·have hk2 : k = n := by omega
   subst hk2
   have hlt' : ¬ (k : Int) < (k : Int) := by omega
   have H4 : Hid (Own w0 wr (penC p b :: WrT b (L ++ stpsB A C) :: l)) := by
    have := hO
    rw [List.take_of_length_le (by rw [HC.out.1]; exact Nat.le_refl _)] at this
    exact this
   clear hO
   go_wp2
   go_end0
   exact ⟨rfl,H4.out⟩
theorem stpsB_at {A C : List Cp} {j : Nat} {q : Cp} (h : C[j]? = some q) : stpsB A C = stpsB A (C.take j) ++ (stpB A q ++ stpsB A (C.drop (j + 1))) := by
 have hj := (List.getElem?_eq_some_iff.1 h)
 have e : C = C.take j ++ (q :: C.drop (j + 1)) := by
  have h1 := List.drop_eq_getElem_cons hj.1
  rw [hj.2] at h1
  rw [← h1,List.take_append_drop]
 have e2 : stpsB A C = stpsB A (C.take j ++ (q :: C.drop (j + 1))) := by rw [← e]
 rw [e2,stpsB_app]
 rfl
def Nums (k : IntKind) (w : World) (v : Value) (X : List Nat) : Prop := ∃ ao cap,v = .slice ao X.length cap ∧ (X = [] ∨ ∃ g o,ao = some ⟨g,o,none⟩ ∧ ∀ (j x : Nat),X[j]? = some x → w.cell? ⟨g,o + j,none⟩ = some (.int k (x : Int)))
theorem Own.nums {w0 w : World} {l : List Thing} {e : TypeId} {k : IntKind} {v : Value} {X : List Nat} (h : Own w0 w (Row e 1 v X.length (irow k X) :: l)) : Nums k w v X := by
 have r := h.row
 obtain ⟨ao,cap,rfl⟩ := row_any r
 refine ⟨ao,cap,rfl,?_⟩
 by_cases h0 : X.length = 0
 ·exact .inl (List.eq_nil_of_length_eq_zero h0)
 ·right
  obtain ⟨g,c,he,_⟩ := row_shape r (by omega)
  cases he
  refine ⟨g,0,rfl,fun j x hx => ?_⟩
  have hj := (List.getElem?_eq_some_iff.1 hx).1
  rw [Nat.zero_add,r.cellAt _ (by omega),getElem?_irow,hx]; rfl
theorem Nums.quiet {k : IntKind} {w w' : World} {v : Value} {X : List Nat} (h : Nums k w v X) (hf : Fr Nobody w w') : Nums k w' v X := by
 obtain ⟨ao,cap,rfl,h⟩ := h
 refine ⟨ao,cap,rfl,?_⟩
 rcases h with h | ⟨g,o,ha,hc⟩
 ·exact .inl h
 ·refine .inr ⟨g,o,ha,fun j x hx => ?_⟩
  have h1 := hc j x hx
  exact (hf.cell (p := ⟨g,o + j,none⟩) (World.block_lt_of_cell? w _ h1) id).trans h1
instance : DecidableEq Chg := fun x y => decidable_of_iff (x.id = y.id ∧ x.lost = y.lost ∧ x.new = y.new ∧ x.set = y.set) (by cases x; cases y; simp)
instance : DecidableEq Dl := fun x y => decidable_of_iff (x.gone = y.gone ∧ x.come = y.come ∧ x.chg = y.chg) (by cases x; cases y; simp)
theorem Nums.at {k : IntKind} {w : World} {ao : Option Addr} {n cap : Nat} {X : List Nat} (h : Nums k w (.slice ao n cap) X) {j x : Nat} (hx : X[j]? = some x) : ∃ g o,ao = some ⟨g,o,none⟩ ∧ w.cell? ⟨g,o + j,none⟩ = some (.int k (x : Int)) := by
 obtain ⟨a,c,e,h⟩ := h
 simp only [Value.slice.injEq] at e
 rcases h with h | ⟨g,o,ha,hc⟩
 ·rw [h] at hx; simp at hx
 ·exact ⟨g,o,by rw [e.1,ha],hc j x hx⟩
theorem Nums.len {k : IntKind} {w : World} {ao : Option Addr} {n cap : Nat} {X : List Nat} (h : Nums k w (.slice ao n cap) X) : X.length = n := by
 obtain ⟨a,c,e,h⟩ := h
 simp only [Value.slice.injEq] at e
 exact e.2.1.symm
theorem eqIds_r (w : World) (a1 a2 : Option Addr) (n1 n2 c1 c2 : Nat) (A B : List Nat) (h1 : Nums .u32 w (.slice a1 n1 c1) A) (h2 : Nums .u32 w (.slice a2 n2 c2) B) (hm1 : n1 ≤ 2097152) (hm2 : n2 ≤ 2097152) :
  Calls Tryz.prog 143 #[.slice a1 n1 c1,.slice a2 n2 c2] w fun e w' => e = .returned (.bool (decide (A = B))) ∧ Fr Nobody w w' := by
 have hn1 := h1.len
 have hn2 := h2.len
 by_cases hne : n1 = n2
 ·have H1 : Hid (Nums .u32 w (.slice a1 n1 c1) A ∧ Nums .u32 w (.slice a2 n2 c2) B ∧ A.length = n1 ∧ B.length = n1) := ⟨h1,h2,hn1,by rw [hn2,hne]⟩
  subst hne
  clear h1 h2 hn1 hn2 hm2
  have hne' : ((n1 : Int) != (n1 : Int)) = false := by simp
  go_enter Tryz.func143,Tryz.ntmps143
  go_wp2
  clear hne'
  go_loopw [13] (fun cc wr => ∃ k : Nat,k ≤ n1 ∧ cc = .int .i64 k ∧ Fr Nobody w wr ∧ A.take k = B.take k) (fun cc _ => n1 - (intOf cc).toNat)
  case atStart => exact ⟨0,Nat.zero_le _,rfl,Fr.refl _ _,by simp⟩
  case round =>
   obtain ⟨k,hk,rfl,hf,heq⟩ := hrel
   have HF : Hid (Fr Nobody w wr) := hf
   have HE : Hid (A.take k = B.take k) := heq
   clear hf heq
   by_cases hlt : k < n1
   ·obtain ⟨x,hx⟩ : ∃ x,A[k]? = some x := ⟨_,List.getElem?_eq_getElem (by rw [H1.out.2.2.1]; exact hlt)⟩
    obtain ⟨y,hy⟩ : ∃ y,B[k]? = some y := ⟨_,List.getElem?_eq_getElem (by rw [H1.out.2.2.2]; exact hlt)⟩
    obtain ⟨g1,o1,hg1,p0⟩ := (H1.out.1.quiet HF.out).at hx
    obtain ⟨g2,o2,hg2,q0⟩ := (H1.out.2.1.quiet HF.out).at hy
    subst hg1 hg2
    have hlt' : (k : Int) < (n1 : Int) := by omega
    have HXY : Hid (A[k]? = some x ∧ B[k]? = some y) := ⟨hx,hy⟩
    clear hx hy
    by_cases hxy : x = y
    ·have HN : Hid (A.take (k + 1) = B.take (k + 1)) := take_eq HXY.out.1 HXY.out.2 (decide_eq_true hxy) HE.out
     have e0 : ((x : Int) != (y : Int)) = false := by simp [hxy]
     clear hxy HXY
     go_wp2
     go_quiet (fail)
     go_wp2
     go_roundw
     case rel => exact ⟨k + 1,by omega,by go_num,HF.out.drewN _,HN.out⟩
     case measure => simp [intOf]; omega
    ·have HN : Hid (decide (A = B) = false) := take_ne HXY.out.1 HXY.out.2 (decide_eq_false hxy)
     have e0 : ((x : Int) != (y : Int)) = true := by rw [bne_iff_ne]; omega
     clear hxy HXY
     go_wp2
     go_quiet (fail)
     go_wp2
     go_ret
     exact ⟨by rw [HN.out]; rfl,HF.out.drewN _⟩
   ·have hlt' : ¬ (k : Int) < (n1 : Int) := by omega
    have HN : Hid (decide (A = B) = true) := take_all (by rw [H1.out.2.2.1]; omega) (by rw [H1.out.2.2.2]; omega) HE.out
    go_wp2
    go_ret
    exact ⟨by rw [HN.out]; rfl,HF.out⟩
 ·have HN : Hid (decide (A = B) = false) := len_ne (by rw [hn1,hn2]; exact hne)
  have hne' : ((n1 : Int) != (n2 : Int)) = true := by rw [bne_iff_ne]; omega
  clear h1 h2 hn1 hn2 hne
  go_enter Tryz.func143,Tryz.ntmps143
  go_wp2
  go_ret
  exact ⟨by rw [HN.out]; rfl,Fr.refl _ _⟩
def ChsAt (w : World) (ao : Option Addr) (L : List ChE) : Prop := (L = [] ∨ ∃ g o,ao = some ⟨g,o,none⟩ ∧ ∀ (j : Nat) x,L[j]? = some x → w.cell? ⟨g,o + j * 4,none⟩ = some (.int .u32 (x.id : Int)) ∧ w.cell? ⟨g,o + j * 4 + 1,none⟩ = some (.int .u8 (x.lost : Int)) ∧ w.cell? ⟨g,o + j * 4 + 2,none⟩ = some (.slice x.na x.N.length x.nc) ∧ w.cell? ⟨g,o + j * 4 + 3,none⟩ = some (.slice x.sa x.S.length x.sc)) ∧ ∀ x ∈ L,Cs w x.na x.N ∧ Cs w x.sa x.S
theorem ChsAt.quiet {w w' : World} {ao : Option Addr} {L : List ChE} (h : ChsAt w ao L) (hf : Fr Nobody w w') : ChsAt w' ao L := by
 refine ⟨?_,fun x hx => ⟨(h.2 x hx).1.quiet hf,(h.2 x hx).2.quiet hf⟩⟩
 rcases h.1 with h | ⟨g,o,ha,hc⟩
 ·exact .inl h
 ·refine .inr ⟨g,o,ha,fun j x hx => ?_⟩
  obtain ⟨h0,h1,h2,h3⟩ := hc j x hx
  have hb := World.block_lt_of_cell? w _ h0
  exact ⟨(hf.cell (p := ⟨g,o + j * 4,none⟩) hb id).trans h0,(hf.cell (p := ⟨g,o + j * 4 + 1,none⟩) hb id).trans h1,(hf.cell (p := ⟨g,o + j * 4 + 2,none⟩) hb id).trans h2,(hf.cell (p := ⟨g,o + j * 4 + 3,none⟩) hb id).trans h3⟩
theorem ChsAt.at {w : World} {ao : Option Addr} {L : List ChE} (h : ChsAt w ao L) {j : Nat} {x : ChE} (hx : L[j]? = some x) : ∃ g o,ao = some ⟨g,o,none⟩ ∧ (w.cell? ⟨g,o + j * 4,none⟩ = some (.int .u32 (x.id : Int)) ∧ w.cell? ⟨g,o + j * 4 + 1,none⟩ = some (.int .u8 (x.lost : Int)) ∧ w.cell? ⟨g,o + j * 4 + 2,none⟩ = some (.slice x.na x.N.length x.nc) ∧ w.cell? ⟨g,o + j * 4 + 3,none⟩ = some (.slice x.sa x.S.length x.sc)) ∧ Cs w x.na x.N ∧ Cs w x.sa x.S := by
 rcases h.1 with h0 | ⟨g,o,ha,hc⟩
 ·subst h0; simp at hx
 ·exact ⟨g,o,ha,hc j x hx,h.2 x (List.mem_of_getElem? hx)⟩
def chv (L : List ChE) : List Chg := L.map ChE.v
theorem chv_len (L : List ChE) : (chv L).length = L.length := by simp [chv]
theorem chv_at {L : List ChE} {j : Nat} {x : ChE} (h : L[j]? = some x) : (chv L)[j]? = some x.v := by simp [chv,h]
def hsz : List ChE → Nat
 | [] => 0
 | x :: t => x.N.length + x.S.length + hsz t
theorem hsz_mem {L : List ChE} {x : ChE} (h : x ∈ L) : x.N.length + x.S.length ≤ hsz L := by
 induction L with
 | nil => cases h
 | cons y t ih =>
  simp only [hsz]
  rcases List.mem_cons.1 h with rfl | h
  ·omega
  ·have := ih h; omega
theorem chg_dec (x y : ChE) : decide (x.v = y.v) = (decide (x.id = y.id) && decide (x.lost = y.lost) && decide (x.N = y.N) && decide (x.S = y.S)) := by
 unfold ChE.v
 rw [Bool.eq_iff_iff]
 simp
 constructor
 ·rintro ⟨a,b,c,d⟩; exact ⟨⟨⟨a,b⟩,c⟩,d⟩
 ·rintro ⟨⟨⟨a,b⟩,c⟩,d⟩; exact ⟨a,b,c,d⟩
structure DlAt (w : World) (d : DlE) : Prop where
 g : Nums .u32 w (.slice d.ga d.G.length d.gc) d.G
 m : EntsAt w d.ma d.M
 h : ChsAt w d.ha d.H
theorem DlAt.quiet {w w' : World} {d : DlE} (h : DlAt w d) (hf : Fr Nobody w w') : DlAt w' d := ⟨h.g.quiet hf,h.m.quiet hf,h.h.quiet hf⟩
structure DlIn (d : DlE) : Prop where
 g : d.G.length ≤ 1000000
 m : esz d.M ≤ 1000000
 h : d.H.length + hsz d.H ≤ 1000000
 l : ∀ x ∈ d.H,x.lost < 256
theorem dl_dec (a b : DlE) : decide (a.v = b.v) = (decide (a.G = b.G) && decide (evs a.M = evs b.M) && decide (chv a.H = chv b.H)) := by
 unfold DlE.v chv
 rw [Bool.eq_iff_iff]
 simp
 constructor
 ·rintro ⟨a,b,c⟩; exact ⟨⟨a,b⟩,c⟩
 ·rintro ⟨⟨a,b⟩,c⟩; exact ⟨a,b,c⟩
theorem hrows_in {H : List ChE} {x : ChE} (hx : x ∈ H) : ∃ A B,hrows H = A ++ (x.nrow :: x.srow :: B) := by
 obtain ⟨L1,L2,rfl⟩ := List.append_of_mem hx
 exact ⟨hrows L1,hrows L2,by simp [hrows,ChE.rows]⟩
theorem Own.dlAt {w0 w : World} {d : DlE} {l : List Thing} (h : Own w0 w (d.things ++ l)) : DlAt w d := by
 have h1 : Own w0 w (grow1 d.G d.ga d.gc :: EntsT d.ma d.mc d.M :: hrow1 d.H d.ha d.hc :: (hrows d.H ++ l)) := h
 refine ⟨Own.nums h1,h1.two.entsAt,?_,fun x hx => ?_⟩
 ·have hr := h1.three.row
  rcases Nat.eq_zero_or_pos d.H.length with h0 | h0
  ·exact .inl (List.eq_nil_of_length_eq_zero h0)
  ·obtain ⟨g,cp,hv,_⟩ := row_shape hr h0
   refine .inr ⟨g,0,(Value.slice.inj hv).1,fun j x hx => ?_⟩
   have hva := (Value.slice.inj hv).1
   rw [hva] at hr
   have hj := (List.getElem?_eq_some_iff.1 hx).1
   rw [Nat.zero_add,hr.cellAt _ (by omega),hr.cellAt _ (by omega),hr.cellAt _ (by omega),hr.cellAt _ (by omega)]
   exact ⟨cat_at ChE.cs 4 (fun _ => rfl) d.H j 0 x hx (by decide),cat_at ChE.cs 4 (fun _ => rfl) d.H j 1 x hx (by decide),cat_at ChE.cs 4 (fun _ => rfl) d.H j 2 x hx (by decide),cat_at ChE.cs 4 (fun _ => rfl) d.H j 3 x hx (by decide)⟩
 ·obtain ⟨A,B,e⟩ := hrows_in hx
  have h2 := h1.tail.tail.tail
  rw [e,List.append_assoc] at h2
  have h3 : Own w0 w (x.nrow :: x.srow :: (B ++ l)) := h2.dropA
  exact ⟨Own.cs (h3.view (by decide)) rfl,Own.cs (h3.two.view (by decide)) rfl⟩
end Go.Proofs.YtgifeckbflkkpaaGreatDoor
