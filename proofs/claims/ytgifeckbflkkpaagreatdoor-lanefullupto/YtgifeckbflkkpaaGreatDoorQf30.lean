/- Entities as bits: the pen writes lists of entities; the content of a Full. -/
import Derived.Test.YtgifeckbflkkpaaGreatDoorQf29
namespace Go.Proofs.YtgifeckbflkkpaaGreatDoor
open Go.RowKit
set_option linter.unusedVariables false
set_option maxHeartbeats 4000000
set_option maxRecDepth 100000
theorem entsB_snoc (a : Nat) (X : List En) (x : En) : entsB a (X ++ [x]) = entsB a X ++ entB (lastI a (X.map (·.1))) x := by
 induction X generalizing a with
 | nil => simp [entsB,lastI]
 | cons y t ih => simp [entsB,lastI,ih y.1]
theorem entsB_le (a : Nat) (X : List En) (h : ∀ x ∈ X,x.1 < 4294967296) : (entsB a X).length ≤ 85 * X.length + 60 * cszV X := by
 induction X generalizing a with
 | nil => simp [entsB]
 | cons x t ih =>
  have h1 := idB_le a x.1 (h x (by simp))
  have h2 := ih x.1 (fun i hi => h i (by simp [hi]))
  have h3 := cpsB_le x.2
  simp only [entsB,entB,List.length_append,List.length_cons,length_bitsN,cszV]
  omega
theorem cszV_take (X : List En) : ∀ {k : Nat} {x : En},X[k]? = some x → cszV (X.take k) + x.2.length ≤ cszV X := by
 induction X with
 | nil => intro k x h; simp at h
 | cons y t ih =>
  intro k x h
  cases k with
  | zero => simp at h; subst h; simp [cszV]
  | succ k =>
   have := ih (k := k) (x := x) (by simpa using h)
   simp only [List.take_succ_cons,cszV]
   omega
theorem val32 : ∀ (a b c d e : Bool),val a b c d e false < 32 := by decide
theorem told5 : ktold 5 = false := by decide +kernel
theorem msk_lt32 {C : List Cp} (h : un C = false) : msk C < 32 := by
 have h5 : hasK C 5 = false := by
  cases hh : hasK C 5 with
  | false => rfl
  | true =>
   obtain ⟨x,hx⟩ := hasK_fst hh
   have h1 := fst_some hx
   unfold un at h
   rw [List.any_eq_false] at h
   have := h x h1.1
   rw [h1.2,told5] at this
   simp at this
 rw [msk_val,h5]
 exact val32 _ _ _ _ _
theorem fm_each {L : List En} : ∀ {p : Nat},fm p L = 0 → ∀ x ∈ L,1024 ≤ x.1 ∧ lst (-1) x.2 = 0 ∧ un x.2 = false := by
 induction L with
 | nil => intro p _ x hx; cases hx
 | cons y t ih =>
  intro p h x hx
  rw [fm] at h
  split at h
  ·rename_i h1; exact absurd h h1
  ·rename_i h1
   have h1 : ent1 p y = 0 := by simpa using h1
   obtain ⟨e1,e2,e3,e4⟩ := ent1_ok h1
   rcases List.mem_cons.1 hx with rfl | hx
   ·exact ⟨by omega,e3,e4⟩
   ·exact ih h x hx
theorem pents (w0 w : World) (ht : Tab w0) (l : List Thing) (p b : Nat) (L : List Bool) (ao : Option Addr) (n cap : Nat) (E : List EnE) (h : Own w0 w (penC p b :: WrT b L :: l)) (hE : ∀ w',Own w0 w' l → EntsAt w' ao E) (hn : E.length = n) (hI : EIn E) (hup : (evs E).Pairwise (fun a b => a.1 < b.1)) (hok : ∀ x ∈ evs E,1024 ≤ x.1 ∧ lst (-1) x.2 = 0 ∧ un x.2 = false) (hl : L.length + 100 * esz E + 400 ≤ 1048576) :
  Calls Tryz.prog 130 #[.pointer (some ⟨p,0,none⟩),.slice ao n cap] w fun e w' => e = .returned (.tuple #[]) ∧ Own w0 w' (penC p b :: WrT b ((L ++ var n) ++ entsB 0 (evs E)) :: l) := by
 have hnn : n ≤ 20000 := by unfold esz at hl; omega
 have hg := (grp_bd n (by omega)).2
 have H1 : Hid (Calls _ _ _ _ _) := pcount w0 w l p b L n h (by omega) (by omega)
 have HG : Hid (E.length = n ∧ (evs E).Pairwise (fun a b => a.1 < b.1) ∧ (∀ x ∈ evs E,1024 ≤ x.1 ∧ lst (-1) x.2 = 0 ∧ un x.2 = false) ∧ (∀ w',Own w0 w' l → EntsAt w' ao E) ∧ EIn E) := ⟨hn,hup,hok,hE,hI⟩
 have HL : Hid (L.length + 100 * (n + csz E) + 400 ≤ 1048576 ∧ (var n).length ≤ 80) := ⟨by unfold esz at hl; rw [hn] at hl; exact hl,by rw [length_var]; omega⟩
 have HT : Hid (Tab w0) := ht
 clear h hE hn hup hok hl hg hI ht
 go_enter Tryz.func130,Tryz.ntmps130
 go_wp2_with fail
 refine H1.out.mono ?_
 rintro e w1 ⟨rfl,h2⟩
 have H3 : Hid (Own w0 w1 _) := h2
 clear h2 H1
 go_wp2
 go_loopw [4,13] (fun v4 cc wr => ∃ k : Nat,k ≤ n ∧ cc = .int .i64 (k : Int) ∧ v4 = .int .u32 ((lastI 0 (((evs E).take k).map (·.1)) : Nat) : Int) ∧ Own w0 wr (penC p b :: WrT b ((L ++ var n) ++ entsB 0 ((evs E).take k)) :: l)) (fun _ cc _ => n - (intOf cc).toNat)
 case atStart => exact ⟨0,Nat.zero_le _,rfl,rfl,by simpa [entsB] using H3.out⟩
 case round =>
  obtain ⟨k,hk,rfl,rfl,hO⟩ := hrel
  clear H3
  by_cases hlt : k < n
  ·obtain ⟨x,hx⟩ : ∃ x,E[k]? = some x := ⟨_,List.getElem?_eq_getElem (by rw [HG.out.1]; exact hlt)⟩
   obtain ⟨g,o,hga,hc0,hc1,-⟩ := (HG.out.2.2.2.1 wr hO.tail.tail).at hx
   subst hga
   have hlt' : (k : Int) < (n : Int) := by omega
   have hxe := evs_at hx
   have hxm := List.mem_of_getElem? hxe
   have htk : (evs E).take (k + 1) = (evs E).take k ++ [(x.id,x.C)] := by rw [List.take_add_one,hxe]; rfl
   have hil : x.id < 4294967296 := (HG.out.2.2.2.2 x (List.mem_of_getElem? hx)).1
   have hok := HG.out.2.2.1 _ hxm
   have hla : lastI 0 (((evs E).take k).map (·.1)) < x.id := by
    have hP : (((evs E).take (k + 1)).map (·.1)).Pairwise (· < ·) := List.pairwise_map.2 (HG.out.2.1.sublist (List.take_sublist _ _))
    rw [htk,List.map_append] at hP
    refine lastI_lt hP (fun y hy => ?_)
    have hy2 : y ∈ ((evs E).take (k + 1)).map (·.1) := by rw [htk,List.map_append]; exact hy
    obtain ⟨z,hz,rfl⟩ := List.mem_map.1 hy2
    have := (HG.out.2.2.1 z (List.mem_of_mem_take hz)).1
    omega
   have hsz := entsB_le 0 ((evs E).take k) (fun z hz => by
    obtain ⟨y,hy,rfl⟩ := List.mem_map.1 (List.mem_of_mem_take hz)
    exact (HG.out.2.2.2.2 y hy).1)
   rw [List.length_take] at hsz
   have hcz := cszV_take (evs E) hxe
   rw [cszV_evs] at hcz
   simp only at hcz hok
   have hcs : (cpsB x.C).length ≤ 60 * x.C.length := cpsB_le x.C
   have hLN := HL.out
   have hib := idB_le (lastI 0 (((evs E).take k).map (·.1))) x.id hil
   have hb1 : g < wr.heap.size := World.block_lt_of_cell? wr _ hc0
   have hb2 : wr.heap.size ≠ g := by omega
   have hB := (hO.allocC #[.int .u32 (x.id : Int),.slice x.ao x.C.length x.cap] 60).two.in23
   have HP : Hid (Calls _ _ _ _ _) := pid w0 _ _ p b _ (lastI 0 (((evs E).take k).map (·.1))) x.id hB hla hil (by rw [List.length_append,List.length_append]; omega)
   have HT2 : Hid (lastI 0 (((evs E).take (k + 1)).map (·.1)) = x.id ∧ entsB 0 ((evs E).take (k + 1)) = entsB 0 ((evs E).take k) ++ entB (lastI 0 (((evs E).take k).map (·.1))) (x.id,x.C)) := by
    rw [htk]
    exact ⟨by rw [List.map_append]; exact lastI_snoc _ _ _,entsB_snoc _ _ _⟩
   have hls := lst_ok hok.2.1
   have HMK : Hid (∀ W X,Own w0 W (X ++ l) → Calls Tryz.prog 158 #[.slice x.ao x.C.length x.cap] W fun e w' => e = .returned (.int .u8 ((msk x.C : Nat) : Int)) ∧ Own w0 w' (X ++ l)) := fun W X hX => by
    refine (mask_any W x.ao x.C.length x.cap x.C rfl ((HG.out.2.2.2.1 W hX.dropA).2 x (List.mem_of_getElem? hx)) (HG.out.2.2.2.2 x (List.mem_of_getElem? hx)).2 (by omega)).mono ?_
    rintro e w' ⟨rfl,hf⟩
    exact ⟨rfl,hX.quiet hf⟩
   have hm32 := msk_lt32 hok.2.2
   have HMP : Hid (∀ W M X,Own w0 W (penC p b :: WrT b M :: X :: l) → M.length + 5 ≤ 1048576 → Calls Tryz.prog 157 #[.pointer (some ⟨p,0,none⟩),.int .u8 ((msk x.C : Nat) : Int)] W fun e w' => e = .returned (.tuple #[]) ∧ Own w0 w' (penC p b :: WrT b (M ++ bitsN 5 (msk x.C)) :: X :: l)) := fun W M X hW hM => pmask w0 W _ p b M (msk x.C) hW hm32 hM
   have HCP : Hid (∀ W M X,Own w0 W (penC p b :: WrT b M :: X :: l) → M.length + 60 * x.C.length + 200 ≤ 1048576 → Calls Tryz.prog 159 #[.pointer (some ⟨p,0,none⟩),.slice x.ao x.C.length x.cap] W fun e w' => e = .returned (.tuple #[]) ∧ Own w0 w' (penC p b :: WrT b (M ++ cpsB x.C) :: X :: l)) := fun W M X hW hM => pcomps w0 W HT.out _ p b M x.ao x.C.length x.cap x.C hW (fun w' hw' => (HG.out.2.2.2.1 w' hw'.tail).2 x (List.mem_of_getElem? hx)) rfl (HG.out.2.2.2.2 x (List.mem_of_getElem? hx)).2 (fun q hq => (hls.2 q hq).2) hM
   have HLL : Hid (((L ++ var n) ++ entsB 0 ((evs E).take k)).length + 100 + 60 * x.C.length + 200 ≤ 1048576 ∧ (idB (lastI 0 (((evs E).take k).map (·.1))) x.id).length ≤ 80) := ⟨by rw [List.length_append,List.length_append]; omega,hib⟩
   obtain ⟨la,hlaE⟩ : ∃ la,la = lastI 0 (((evs E).take k).map (·.1)) := ⟨_,rfl⟩
   rw [← hlaE] at HP HT2 HLL
   rw [← hlaE]
   clear hO hla hlaE htk hok hls hsz hcz hcs hib hLN hxe hxm hm32
   have q0 := hB.three.cell 0
   have q1 := hB.three.cell 1
   simp at q0 q1
   clear hB hx
   obtain ⟨xi,xa,xc,xC⟩ := x
   simp only at hc0 hc1 hil HP HT2 HMK HMP HCP HLL q0 q1
   generalize xC.length = xl at *
   go_wp2_with fail
   refine HP.out.mono ?_
   rintro e w2 ⟨rfl,h2⟩
   generalize wr.heap.size = bx at *
   have r1 := h2.three.cell 1
   simp at r1
   have HM1 : Hid (Calls _ _ _ _ _) := HMK.out w2 [_,_,_] h2
   clear h2 HP q0 q1 hc0 hc1 hb1 hb2
   go_wp2_with fail
   refine HM1.out.mono ?_
   rintro e w3 ⟨rfl,h3⟩
   have HM2 : Hid (Calls _ _ _ _ _) := HMP.out w3 _ _ h3 (by have := HLL.out; rw [List.length_append]; omega)
   clear h3 HM1 r1
   go_wp2_with fail
   refine HM2.out.mono ?_
   rintro e w4 ⟨rfl,h4⟩
   have r2 := h4.three.cell 1
   simp at r2
   have HM3 : Hid (Calls _ _ _ _ _) := HCP.out w4 _ _ h4 (by have := HLL.out; rw [List.length_append,List.length_append,length_bitsN]; omega)
   clear h4 HM2
   go_wp2_with fail
   refine HM3.out.mono ?_
   rintro e w5 ⟨rfl,h5⟩
   have r3 := h5.three.cell 0
   simp at r3
   have H4 : Hid (Own w0 w5 (penC p b :: WrT b ((L ++ var n) ++ entsB 0 ((evs E).take (k + 1))) :: l)) := by
    show Own _ _ _
    rw [HT2.out.2]
    unfold entB
    have h6 := h5.three.tail
    simp only [List.append_assoc] at h6 ⊢
    exact h6
   clear h5 HM3 r2 HMK HMP HCP
   go_wp2
   go_roundw
   case rel => exact ⟨k + 1,by omega,by go_num,by rw [HT2.out.1],H4.out⟩
   case measure => simp [intOf]; omega
  ·have hk2 : k = n := by omega
   subst hk2
   have hlt' : ¬ (k : Int) < (k : Int) := by omega
   have H4 : Hid (Own w0 wr (penC p b :: WrT b ((L ++ var k) ++ entsB 0 (evs E)) :: l)) := by
    have := hO
    rw [List.take_of_length_le (by rw [evs_len,HG.out.1]; exact Nat.le_refl _)] at this
    exact this
   clear hO
   go_wp2
   go_end0
   exact ⟨rfl,by first | exact H4.out | (rw [← List.append_assoc]; exact H4.out)⟩
def cmpN (a b : Nat) : Int := if a < b then -1 else if b < a then 1 else 0
theorem isNaN_id (x : Int) (w : World) : Calls Tryz.prog 217 #[.int .u32 x] w fun e w' => e = .returned (.bool false) ∧ w' = w := by
 go_enter Tryz.func217,Tryz.ntmps217
 go_wp2
 go_ret
 exact ⟨by simp,rfl⟩
theorem cmp_id (a b : Nat) (w : World) : Calls Tryz.prog 195 #[.int .u32 (a : Int),.int .u32 (b : Int)] w fun e w' => e = .returned (.int .i64 (cmpN a b)) ∧ w' = w := by
 have HN : Hid (∀ (x : Int) W,Calls Tryz.prog 217 #[.int .u32 x] W fun e w' => e = .returned (.bool false) ∧ w' = W) := fun x W => isNaN_id x W
 go_enter Tryz.func195,Tryz.ntmps195
 go_wp2_with fail
 refine (HN.out _ _).mono ?_
 rintro e w1 ⟨rfl,rfl⟩
 go_wp2_with fail
 refine (HN.out _ _).mono ?_
 rintro e w1 ⟨rfl,rfl⟩
 by_cases h1 : a < b
 ·have h1' : (a : Int) < (b : Int) := by omega
  go_wp2
  go_ret
  exact ⟨by simp [cmpN,h1],rfl⟩
 ·have h1' : ¬ (a : Int) < (b : Int) := by omega
  by_cases h2 : b < a
  ·have h2' : (b : Int) < (a : Int) := by omega
   go_wp2
   go_ret
   exact ⟨by simp [cmpN,h1,h2],rfl⟩
  ·have h2' : ¬ (b : Int) < (a : Int) := by omega
   go_wp2
   go_ret
   exact ⟨by simp [cmpN,h1,h2],rfl⟩
theorem before1_any (w : World) (x : Nat) (a : Option Addr) (n c i : Nat) : Calls Tryz.prog 194 #[.agg #[.int .u32 (x : Int),.slice a n c],.int .u32 (i : Int)] w fun e w' => e = .returned (.int .i64 (cmpN x i)) ∧ Fr Nobody w w' := by
 have HC : Hid (∀ W,Calls Tryz.prog 195 #[.int .u32 (x : Int),.int .u32 (i : Int)] W fun e w' => e = .returned (.int .i64 (cmpN x i)) ∧ w' = W) := fun W => cmp_id x i W
 go_enter Tryz.func194,Tryz.ntmps194
 go_wp2_with fail
 refine (HC.out _).mono ?_
 rintro e w1 ⟨rfl,rfl⟩
 go_wp2
 go_ret
 exact ⟨rfl,(Fr.refl _ _).alloc _⟩
theorem ofKind_ok (w : World) (ao : Option Addr) (n cap : Nat) (C : List Cp) (hn : C.length = n) (hs : Cs w ao C) (k : Nat) (q : Cp) (hf : fst C k = some q) (hm : n ≤ 1000000) :
  Calls Tryz.prog 192 #[.slice ao n cap,.int .u8 (k : Int)] w fun e w' => e = .returned (.agg #[.int .u8 (q.k : Int),.int .i32 q.a,.int .i32 q.b,.int .i32 q.c]) ∧ Fr Nobody w w' := by
 have HL : Hid (C.length = n ∧ Cs w ao C ∧ fst C k = some q) := ⟨hn,hs,hf⟩
 have HS : Hid (Own w _ _) := (Own.start w).allocC #[.int .u8 0,.int .i32 0,.int .i32 0,.int .i32 0] 63
 clear hn hs hf
 go_enter Tryz.func192,Tryz.ntmps192
 go_wp2
 generalize hWg : w.alloc (.cells #[.int .u8 0,.int .i32 0,.int .i32 0,.int .i32 0] 63) = W1 at *
 generalize w.heap.size = b4 at *
 clear hWg
 go_loopw [9] (fun cc wr => ∃ j : Nat,j ≤ n ∧ cc = .int .i64 j ∧ fst (C.take j) k = none ∧ Own w wr [Cells b4 #[.int .u8 0,.int .i32 0,.int .i32 0,.int .i32 0] 63]) (fun cc _ => n - (intOf cc).toNat)
 case atStart => exact ⟨0,Nat.zero_le _,rfl,by simp [fst],HS.out⟩
 case round =>
  obtain ⟨j,hj,rfl,hno,hO⟩ := hrel
  have HN : Hid (fst (C.take j) k = none) := hno
  clear hno HS
  by_cases hlt : j < n
  ·obtain ⟨y,hy⟩ : ∃ y,C[j]? = some y := ⟨_,List.getElem?_eq_getElem (by rw [HL.out.1]; exact hlt)⟩
   obtain ⟨g,o,hao,-,c0,c1,c2,c3⟩ := (HL.out.2.1.quiet hO.fr).at j y hy
   subst hao
   have hlt' : (j : Int) < (n : Int) := by omega
   have hb1 : g < wr.heap.size := World.block_lt_of_cell? wr _ c0
   have hb2 : wr.heap.size ≠ g := by omega
   have hB := hO.allocC #[.int .u8 (y.k : Int),.int .i32 y.a,.int .i32 y.b,.int .i32 y.c] 63
   have hb4 := (Own.two hB).lt
   have hne := hO.lt
   have hne2 : wr.heap.size ≠ b4 := by omega
   by_cases he : y.k = k
   ·have hyq : y = q := by
     have := fst_hit hy HN.out he
     rw [HL.out.2.2] at this
     exact (Option.some.inj this).symm
    subst hyq
    have he' : ((y.k : Int) == (k : Int)) = true := by rw [he]; simp
    have z0 := hO.froz 0
    have z1 := hO.froz 1
    have z2 := hO.froz 2
    have z3 := hO.froz 3
    have v0 := hO.cell 0
    have v1 := hO.cell 1
    have v2 := hO.cell 2
    have v3 := hO.cell 3
    simp at v0 v1 v2 v3
    have h9 := ((((hO.setC 0 (.int .u8 (y.k : Int))).setC 1 (.int .i32 y.a)).setC 2 (.int .i32 y.b)).setC 3 (.int .i32 y.c)).allocC #[.int .u8 (y.k : Int),.int .i32 y.a,.int .i32 y.b,.int .i32 y.c] 63
    simp at h9
    have h9 := h9.two
    have H9 : Hid (Own w _ _) := h9
    clear hy he hO hB h9 HL
    obtain ⟨yk,ya,yb,yc⟩ := y
    simp only at c0 c1 c2 c3 he' H9 z0 z1 z2 z3 v0 v1 v2 v3
    go_wp2
    (try simp only [Exit.inBlock,Exit.then])
    refine bodyPost_ret (results_cell_row rfl _ _ b4 63 #[.int .u8 (yk : Int),.int .i32 ya,.int .i32 yb,.int .i32 yc] _ _ rfl H9.out.obj Tryz.underlying63 rfl (by kernel_rfl)) rfl ?_
    exact ⟨rfl,H9.out.fr⟩
   ·have he' : ((y.k : Int) == (k : Int)) = false := by rw [beq_eq_false_iff_ne]; omega
    have HH : Hid (fst (C.take (j + 1)) k = none) := fst_miss hy HN.out he
    have HB : Hid (Own w _ _) := hB.tail
    clear hy he hO hB
    obtain ⟨yk,ya,yb,yc⟩ := y
    simp only at c0 c1 c2 c3 he' HB
    go_wp2
    go_roundw
    case rel => exact ⟨j + 1,by omega,by go_num,HH.out,HB.out⟩
    case measure => simp [intOf]; omega
  ·exfalso
   have h1 := HN.out
   rw [List.take_of_length_le (by rw [HL.out.1]; omega),HL.out.2.2] at h1
   cases h1
end Go.Proofs.YtgifeckbflkkpaaGreatDoor
