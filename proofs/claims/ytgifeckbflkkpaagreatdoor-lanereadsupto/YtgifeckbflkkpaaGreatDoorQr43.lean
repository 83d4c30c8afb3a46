/- The document's packets as bits: IDs, components, entities. -/
import Derived.Test.YtgifeckbflkkpaaGreatDoorQr42
import Derived.Test.YtgifeckbflkkpaaGreatDoorQr20
import Derived.Deep.RegionHeld3
namespace Go.Proofs.YtgifeckbflkkpaaGreatDoor
open Go.RowKit
set_option linter.unusedVariables false
set_option maxHeartbeats 8000000
set_option maxRecDepth 100000
theorem var_pos (v : Nat) : 0 < (var v).length := by
 rw [length_var]
 unfold grp
 omega
theorem rid (w0 w : World) (l : List Thing) (v : Value) (L : List Bool) (a i : Nat) (h : Own w0 w (BT v L :: l)) (ha : a < i) (hi : i < 4294967296) (hl : L.length ≤ 1048576) :
  Calls Tryz.prog 77 #[v,.int .u32 (a : Int),.int .u32 (i : Int)] w fun e w' => ∃ u,e = .returned u ∧ Own w0 w' (BT u (L ++ idB a i) :: l) := by
 have hV := rvarT w0 w _ h (i - a - 1) (by omega)
 have hle := idB_le a i hi
 have hps := var_pos (i - a - 1)
 unfold idB at hle ⊢
 have H5 : Hid (∀ x : Int,x = ((i - a - 1 : Nat) : Int) → Calls Tryz.prog 76 #[.int .u64 x] w fun e w' => ∃ u,e = .returned u ∧ Own w0 w' (BT u (var (i - a - 1)) :: BT v L :: l)) := fun x hx => by rw [hx]; exact hV
 have hE : ((i - a - 1 : Nat) : Int) = (((i : Int) - (a : Int) - 1) % 4294967296) := by omega
 clear h hV
 generalize var (i - a - 1) = M at *
 go_enter Tryz.func77,Tryz.ntmps77
 go_wp2_with fail
 refine (H5.out _ (by omega)).mono ?_
 rintro x w1 ⟨u,rfl,h1⟩
 have H1 : Hid (Own w0 w1 _) := h1
 clear h1 H5
 go_wp2_with (at_builtin; refine app_bits rfl _ _ rfl v u L M H1.out hps (by omega) rfl rfl ?_; intro v' w2 h2; have H2 : Hid (Own w0 w2 _) := h2; clear h2)
 go_ret
 exact ⟨v',rfl,H2.out⟩
theorem bpos : ∀ k : Fin 6,0 < bsum k.1 (cnt k.1) := by decide +kernel
theorem cpB_pos {q : Cp} (h : chk q.k (f3 q.a q.b q.c) = 0) : 0 < (cpB q).length := by
 unfold cpB
 rw [length_cb]
 exact bpos ⟨q.k,(chk_ok _ _ h).1⟩
theorem rcomps (w0 w : World) (l : List Thing) (v : Value) (L : List Bool) (ao : Option Addr) (n cap : Nat) (C : List Cp) (h : Own w0 w (BT v L :: l)) (hC : ∀ w',Own w0 w' l → Cs w' ao C) (hn : C.length = n) (hk : ∀ q ∈ C,q.k < 256) (h0 : ∀ q ∈ C,chk q.k (f3 q.a q.b q.c) = 0) (hl : L.length + 60 * n + 200 ≤ 1048576) :
  Calls Tryz.prog 80 #[v,.slice ao n cap] w fun e w' => ∃ u,e = .returned u ∧ Own w0 w' (BT u (L ++ cpsB C) :: l) := by
 have HC : Hid (C.length = n ∧ (∀ q ∈ C,q.k < 256) ∧ (∀ q ∈ C,chk q.k (f3 q.a q.b q.c) = 0) ∧ ∀ w',Own w0 w' l → Cs w' ao C) := ⟨hn,hk,h0,hC⟩
 have HL : Hid (L.length + 60 * n + 200 ≤ 1048576) := hl
 have H3 : Hid (Own w0 w (BT v L :: l)) := h
 have hnn : n ≤ 20000 := by omega
 clear h hC hn hk h0 hl
 go_enter Tryz.func80,Tryz.ntmps80
 go_wp2
 go_loopw [0,11] (fun x0 cc wr => ∃ (k : Nat) (v0 : Value),k ≤ n ∧ cc = .int .i64 (k : Int) ∧ v0 = x0 ∧ Own w0 wr (BT v0 (L ++ cpsB (C.take k)) :: l)) (fun _ cc _ => n - (intOf cc).toNat)
 case atStart => exact ⟨0,_,Nat.zero_le _,rfl,rfl,by simpa [cpsB] using H3.out⟩
 case round =>
  obtain ⟨k,v0,hk,rfl,rfl,hO⟩ := hrel
  clear H3
  by_cases hlt : k < n
  ·obtain ⟨q,hq⟩ : ∃ q,C[k]? = some q := ⟨_,List.getElem?_eq_getElem (by rw [HC.out.1]; exact hlt)⟩
   obtain ⟨g,o,hga,-,c0,c1,c2,c3⟩ := (HC.out.2.2.2 wr hO.tail).at k q hq
   subst hga
   have hlt' : (k : Int) < (n : Int) := by omega
   have hq8 := HC.out.2.1 q (List.mem_of_getElem? hq)
   have hq0 := HC.out.2.2.1 q (List.mem_of_getElem? hq)
   have hb1 : g < wr.heap.size := World.block_lt_of_cell? wr _ c0
   have hb2 : wr.heap.size ≠ g := by omega
   have hcl := cpsB_le (C.take k)
   rw [List.length_take] at hcl
   have hcb := cpB_le q
   have hcp := cpB_pos hq0
   have hB := hO.allocC #[.int .u8 (q.k : Int),.int .i32 q.a,.int .i32 q.b,.int .i32 q.c] 63
   have HPU : Hid (Calls Tryz.prog 124 #[.agg #[.int .u8 (q.k : Int),.int .i32 q.a,.int .i32 q.b,.int .i32 q.c]] _ fun e w' => ∃ u,e = .returned (.tuple #[u,.int .i64 0]) ∧ Own w0 w' (BT u (cpB q) :: _)) := rputCT w0 _ _ hB q.k hq8 (f3 q.a q.b q.c) hq0
   have HTK : Hid (cpsB (C.take (k + 1)) = cpsB (C.take k) ++ cpB q) := by
    show _ = _
    rw [List.take_add_one,hq,cpsB_app]; simp [cpsB]
   have HT2 : Hid (L ++ cpsB (C.take (k + 1)) = (L ++ cpsB (C.take k)) ++ cpB q) := by show _ = _; rw [HTK.out,List.append_assoc]
   clear HTK
   have u0 := hB.cell 0
   have u1 := hB.cell 1
   have u2 := hB.cell 2
   have u3 := hB.cell 3
   simp at u0 u1 u2 u3
   have hll : (L ++ cpsB (C.take k)).length ≤ 1048576 := by have := HL.out; rw [List.length_append]; omega
   clear hO hB hq hq0 hcl
   generalize cpB q = M at *
   generalize L ++ cpsB (C.take k) = L1 at *
   obtain ⟨qk,qa,qb,qc⟩ := q
   simp only at c0 c1 c2 c3 hq8 HPU
   go_wp2_with fail
   refine HPU.out.mono ?_
   rintro e w1 ⟨u,rfl,h1⟩
   have H1 : Hid (Own w0 w1 (BT u M :: BT v0 L1 :: l)) := h1.two.tail
   clear h1 HPU u0 u1 u2 u3 c0 c1 c2 c3 hb1 hb2
   go_wp2_with (at_builtin; refine app_bits rfl _ _ rfl v0 u L1 M H1.out hcp (by omega) rfl rfl ?_; intro v' w2 h2; have H2 : Hid (Own w0 w2 (BT v' (L1 ++ M) :: l)) := h2; clear h2)
   go_roundw
   case rel => exact ⟨k + 1,_,by omega,by go_num,rfl,by rw [HT2.out]; exact H2.out⟩
   case measure => simp [intOf]; omega
  ·have hk2 : k = n := by omega
   subst hk2
   have hlt' : ¬ (k : Int) < (k : Int) := by omega
   have H4 : Hid (Own w0 wr (BT v0 (L ++ cpsB C) :: l)) := by
    have := hO
    rw [List.take_of_length_le (by rw [HC.out.1]; exact Nat.le_refl _)] at this
    exact this
   clear hO
   go_wp2
   go_ret
   exact ⟨v0,rfl,H4.out⟩
theorem rents (w0 w : World) (l : List Thing) (v : Value) (L : List Bool) (ao : Option Addr) (n cap : Nat) (E : List EnE) (h : Own w0 w (BT v L :: l)) (hE : ∀ w',Own w0 w' l → EntsAt w' ao E) (hn : E.length = n) (hI : EIn E) (hup : (evs E).Pairwise (fun a b => a.1 < b.1)) (hok : ∀ x ∈ evs E,1024 ≤ x.1 ∧ lst (-1) x.2 = 0 ∧ un x.2 = false) (hl : L.length + 100 * esz E + 400 ≤ 1048576) :
  Calls Tryz.prog 74 #[v,.slice ao n cap] w fun e w' => ∃ u,e = .returned u ∧ Own w0 w' (BT u ((L ++ var n) ++ entsB 0 (evs E)) :: l) := by
 have hnn : n ≤ 20000 := by unfold esz at hl; omega
 have hg := (grp_bd n (by omega)).2
 have H1 : Hid (Calls _ _ _ _ _) := rvarT w0 w _ h n (by omega)
 have HG : Hid (E.length = n ∧ (evs E).Pairwise (fun a b => a.1 < b.1) ∧ (∀ x ∈ evs E,1024 ≤ x.1 ∧ lst (-1) x.2 = 0 ∧ un x.2 = false) ∧ (∀ w',Own w0 w' l → EntsAt w' ao E) ∧ EIn E) := ⟨hn,hup,hok,hE,hI⟩
 have HL : Hid (L.length + 100 * (n + csz E) + 400 ≤ 1048576 ∧ (var n).length ≤ 80) := ⟨by unfold esz at hl; rw [hn] at hl; exact hl,by rw [length_var]; omega⟩
 have hvp := var_pos n
 have hll : L.length + (var n).length ≤ 1048576 := by have := HL.out; omega
 clear h hE hn hup hok hl hg hI
 generalize hVN : var n = VN at *
 clear hVN
 go_enter Tryz.func74,Tryz.ntmps74
 go_wp2_with fail
 refine H1.out.mono ?_
 rintro e w1 ⟨u,rfl,h2⟩
 have H2 : Hid (Own w0 w1 (BT u VN :: BT v L :: l)) := h2
 clear h2 H1
 go_wp2_with (at_builtin; refine app_bits rfl _ _ rfl v u L VN H2.out hvp (by omega) rfl rfl ?_; intro v3 w3 h3; have H3 : Hid (Own w0 w3 (BT v3 (L ++ VN) :: l)) := h3; clear h3)
 clear H2
 go_loopw [0,5,16] (fun x0 v5 cc wr => ∃ (k : Nat) (v0 : Value),k ≤ n ∧ cc = .int .i64 (k : Int) ∧ v0 = x0 ∧ v5 = .int .u32 ((lastI 0 (((evs E).take k).map (·.1)) : Nat) : Int) ∧ Own w0 wr (BT v0 ((L ++ VN) ++ entsB 0 ((evs E).take k)) :: l)) (fun _ _ cc _ => n - (intOf cc).toNat)
 case atStart => exact ⟨0,_,Nat.zero_le _,rfl,rfl,rfl,by simpa [entsB] using H3.out⟩
 case round =>
  obtain ⟨k,v0,hk,rfl,rfl,rfl,hO⟩ := hrel
  clear H3
  by_cases hlt : k < n
  ·obtain ⟨x,hx⟩ : ∃ x,E[k]? = some x := ⟨_,List.getElem?_eq_getElem (by rw [HG.out.1]; exact hlt)⟩
   obtain ⟨g,o,hga,hc0,hc1,-⟩ := (HG.out.2.2.2.1 wr hO.tail).at hx
   subst hga
   have hlt' : (k : Int) < (n : Int) := by omega
   have hxe := evs_at hx
   have hxm := List.mem_of_getElem? hxe
   have htk : (evs E).take (k + 1) = (evs E).take k ++ [(x.id,x.C)] := by rw [List.take_add_one,hxe]; rfl
   have hil : x.id < 4294967296 := (HG.out.2.2.2.2 x (List.mem_of_getElem? hx)).1
   have hok := HG.out.2.2.1 _ hxm
   have hla : lastI 0 (((evs E).take k).map (·.1)) < x.id := by
    have hP : (((evs E).take (k + 1)).map (·.1)).Pairwise (· < ·) := List.pairwise_map.2 (HG.out.2.1.sublist (List.take_sublist _ _))
    rw [htk,List.map_append] at hP
    refine lastI_lt hP (fun y hy => ?_)
    have hy2 : y ∈ ((evs E).take (k + 1)).map (·.1) := by rw [htk,List.map_append]; exact hy
    obtain ⟨z,hz,rfl⟩ := List.mem_map.1 hy2
    have := (HG.out.2.2.1 z (List.mem_of_mem_take hz)).1
    omega
   have hsz := entsB_le 0 ((evs E).take k) (fun z hz => by
    obtain ⟨y,hy,rfl⟩ := List.mem_map.1 (List.mem_of_mem_take hz)
    exact (HG.out.2.2.2.2 y hy).1)
   rw [List.length_take] at hsz
   have hcz := cszV_take (evs E) hxe
   rw [cszV_evs] at hcz
   simp only at hcz hok
   have hcs : (cpsB x.C).length ≤ 60 * x.C.length := cpsB_le x.C
   have hLN := HL.out
   have hib := idB_le (lastI 0 (((evs E).take k).map (·.1))) x.id hil
   have hb1 : g < wr.heap.size := World.block_lt_of_cell? wr _ hc0
   have hb2 : wr.heap.size ≠ g := by omega
   have hB := hO.allocC #[.int .u32 (x.id : Int),.slice x.ao x.C.length x.cap] 60
   have HP : Hid (Calls _ _ _ _ _) := rid w0 _ _ v0 _ (lastI 0 (((evs E).take k).map (·.1))) x.id hB.two hla hil (by rw [List.length_append,List.length_append]; omega)
   have HT2 : Hid (lastI 0 (((evs E).take (k + 1)).map (·.1)) = x.id ∧ entsB 0 ((evs E).take (k + 1)) = entsB 0 ((evs E).take k) ++ entB (lastI 0 (((evs E).take k).map (·.1))) (x.id,x.C)) := by
    rw [htk]
    exact ⟨by rw [List.map_append]; exact lastI_snoc _ _ _,entsB_snoc _ _ _⟩
   have hls := lst_ok hok.2.1
   have HMK : Hid (∀ W X,Own w0 W (X ++ l) → Calls Tryz.prog 79 #[.slice x.ao x.C.length x.cap] W fun e w' => e = .returned (.int .u8 ((msk x.C : Nat) : Int)) ∧ Own w0 w' (X ++ l)) := fun W X hX => by
    refine (rmask_any W x.ao x.C.length x.cap x.C rfl ((HG.out.2.2.2.1 W hX.dropA).2 x (List.mem_of_getElem? hx)) (HG.out.2.2.2.2 x (List.mem_of_getElem? hx)).2 (by omega)).mono ?_
    rintro e w' ⟨rfl,hf⟩
    exact ⟨rfl,hX.quiet hf⟩
   have hm32 := msk_lt32 hok.2.2
   have HMP : Hid (∀ W u M X,Own w0 W (BT u M :: X :: l) → M.length + 5 ≤ 1048576 → Calls Tryz.prog 78 #[u,.int .u64 ((msk x.C : Nat) : Int),.int .i64 5] W fun e w' => ∃ u',e = .returned (.tuple #[u',.int .i64 0]) ∧ Own w0 w' (BT u' (M ++ bitsN 5 (msk x.C)) :: X :: l)) := fun W u M X hW hM => rputT w0 W _ u M (msk x.C) 5 hW (by decide) (Nat.lt_of_lt_of_le hm32 (by decide)) (by omega) hM
   have HCP : Hid (∀ W u M X,Own w0 W (BT u M :: X :: l) → M.length + 60 * x.C.length + 200 ≤ 1048576 → Calls Tryz.prog 80 #[u,.slice x.ao x.C.length x.cap] W fun e w' => ∃ u',e = .returned u' ∧ Own w0 w' (BT u' (M ++ cpsB x.C) :: X :: l)) := fun W u M X hW hM => rcomps w0 W _ u M x.ao x.C.length x.cap x.C hW (fun w' hw' => (HG.out.2.2.2.1 w' hw'.tail).2 x (List.mem_of_getElem? hx)) rfl (HG.out.2.2.2.2 x (List.mem_of_getElem? hx)).2 (fun q hq => (hls.2 q hq).2) hM
   have HLL : Hid (((L ++ VN) ++ entsB 0 ((evs E).take k)).length + 100 + 60 * x.C.length + 200 ≤ 1048576 ∧ (idB (lastI 0 (((evs E).take k).map (·.1))) x.id).length ≤ 80) := ⟨by rw [List.length_append,List.length_append]; omega,hib⟩
   obtain ⟨la,hlaE⟩ : ∃ la,la = lastI 0 (((evs E).take k).map (·.1)) := ⟨_,rfl⟩
   rw [← hlaE] at HP HT2 HLL
   rw [← hlaE]
   clear hO hla hlaE htk hok hls hsz hcz hcs hib hLN hxe hxm
   have q0 := hB.cell 0
   have q1 := hB.cell 1
   simp at q0 q1
   clear hB hx
   obtain ⟨xi,xa,xc,xC⟩ := x
   simp only at hc0 hc1 hil HP HT2 HMK HMP HCP HLL q0 q1 hm32
   generalize xC.length = xl at *
   go_wp2_with fail
   refine HP.out.mono ?_
   rintro e w2 ⟨u2,rfl,h2⟩
   generalize wr.heap.size = bx at *
   have r0 := h2.two.cell 0
   have r1 := h2.two.cell 1
   simp at r0 r1
   have HM1 : Hid (Calls _ _ _ _ _) := HMK.out w2 [_,_] h2
   clear h2 HP q0 q1 hc0 hc1 hb1 hb2
   go_wp2_with fail
   refine HM1.out.mono ?_
   rintro e w3 ⟨rfl,h3⟩
   have HM2 : Hid (Calls _ _ _ _ _) := HMP.out w3 _ _ _ h3 (by have := HLL.out; rw [List.length_append]; omega)
   clear h3 HM1 r0 r1
   go_wp2_with fail
   refine HM2.out.mono ?_
   rintro e w4 ⟨u4,rfl,h4⟩
   have r2 := h4.two.cell 1
   simp at r2
   have HM3 : Hid (Calls _ _ _ _ _) := HCP.out w4 _ _ _ h4 (by have := HLL.out; rw [List.length_append,List.length_append,length_bitsN]; omega)
   clear h4 HM2
   go_wp2_with fail
   refine HM3.out.mono ?_
   rintro e w5 ⟨u5,rfl,h5⟩
   have H4 : Hid (Own w0 w5 (BT u5 ((L ++ VN) ++ entsB 0 ((evs E).take (k + 1))) :: l)) := by
    show Own _ _ _
    rw [HT2.out.2]
    unfold entB
    have h6 := h5.two.tail
    simp only [List.append_assoc] at h6 ⊢
    exact h6
   clear h5 HM3 r2 HMK HMP HCP
   go_wp2
   go_roundw
   case rel => exact ⟨k + 1,_,by omega,by go_num,rfl,by rw [HT2.out.1],H4.out⟩
   case measure => simp [intOf]; omega
  ·have hk2 : k = n := by omega
   subst hk2
   have hlt' : ¬ (k : Int) < (k : Int) := by omega
   have H4 : Hid (Own w0 wr (BT v0 ((L ++ VN) ++ entsB 0 (evs E)) :: l)) := by
    have := hO
    rw [List.take_of_length_le (by rw [evs_len,HG.out.1]; exact Nat.le_refl _)] at this
    exact this
   clear hO
   go_wp2
   go_ret
   exact ⟨v0,rfl,by first | exact H4.out | (rw [← List.append_assoc]; exact H4.out)⟩
theorem bt_row {v : Value} {n : Nat} {xs : List Value} {L : List Bool} (hn : L.length = n) (hx : brow L = xs) : BT v L = Row 4 1 v n xs := by
 subst hn hx; rfl
theorem hasT_le {k : Nat} (h1 : 1 ≤ k) : hasT k = decide (k ≤ 3) := by
 unfold hasT
 by_cases h : k ≤ 3
 ·have : k = 1 ∨ k = 2 ∨ k = 3 := by omega
  rcases this with rfl | rfl | rfl <;> rfl
 ·rw [decide_eq_false h]
  simp; omega
theorem rhead (w0 w : World) (l : List Thing) (h : Own w0 w l) (k c e t s : Nat) (hR : Right k c e t s) :
  Calls Tryz.prog 73 #[.agg (hvs k c e t s)] w fun x w' => ∃ u,x = .returned u ∧ Own w0 w' (BT u (headB k c e t s) :: l) := by
 obtain ⟨i0,hi,hz0,hz1,hz2⟩ := info_parts Tryz.infoBool
 have k1 := hR.k1
 have k5 := hR.k5
 have c15 := hR.c15
 have e32 := hR.e32
 have t32 := hR.t32
 have s32 := hR.s32
 have hB := h.allocC (hvs k c e t s) 29
 have q0 := hB.cell 0
 simp [hvs] at q0
 have H1 : Hid (Calls _ _ _ _ _) := rinT w0 _ _ hB (k : Int) 1 5 (k - 1) (by omega) (by omega) (by omega) (by omega) (by omega)
 rw [wid15] at H1
 have HR : Hid (Right k c e t s) := hR
 have HTK : Hid (hasT k = decide (k ≤ 3)) := hasT_le k1
 have hvp := var_pos e
 have hvl : (var e).length ≤ 80 := by rw [length_var]; have := grp32 e e32; omega
 have hvl2 : (var (t - s - 1)).length ≤ 80 := by rw [length_var]; have := grp32 (t - s - 1) (by omega); omega
 have hvp2 := var_pos (t - s - 1)
 have HHB : Hid (headB k c e t s = (((bitsN 3 (k - 1) ++ bitsN 4 c) ++ var e) ++ (if hasT k = true then bitsN 32 t else [])) ++ (if k = 2 then var (t - s - 1) else [])) := by show _ = _; unfold headB; rw [wid15,wid015]
 have HI2 : Hid (∀ W l',Own w0 W l' → Calls Tryz.prog 123 #[.int .i64 (c : Int),.int .i64 0,.int .i64 15] W fun e w' => ∃ u,e = .returned (.tuple #[u,.int .i64 0]) ∧ Own w0 w' (BT u (bitsN 4 c) :: l')) := fun W l' hW => by
  have := rinT w0 W l' hW (c : Int) 0 15 c (by omega) (by omega) (by omega) (by omega) (by omega)
  rw [wid015] at this
  exact this
 have HVE : Hid (∀ W l',Own w0 W l' → Calls Tryz.prog 76 #[.int .u64 (e : Int)] W fun x w' => ∃ u,x = .returned u ∧ Own w0 w' (BT u (var e) :: l')) := fun W l' hW => rvarT w0 W l' hW e (by omega)
 have HVB : Hid (∀ W l' (x : Int),x = ((t - s - 1 : Nat) : Int) → Own w0 W l' → Calls Tryz.prog 76 #[.int .u64 x] W fun x w' => ∃ u,x = .returned u ∧ Own w0 w' (BT u (var (t - s - 1)) :: l')) := fun W l' x hx hW => by rw [hx]; exact rvarT w0 W l' hW (t - s - 1) (by omega)
 have HPT : Hid (∀ W l' u M,Own w0 W (BT u M :: l') → M.length ≤ 1000 → Calls Tryz.prog 78 #[u,.int .u64 (t : Int),.int .i64 32] W fun e w' => ∃ u',e = .returned (.tuple #[u',.int .i64 0]) ∧ Own w0 w' (BT u' (M ++ bitsN 32 t) :: l')) := fun W l' u M hW hM => rputT w0 W l' u M t 32 hW (by decide) (by show _ < 4294967296; omega) (by omega) (by omega)
 have hL1 : (bitsN 3 (k - 1)).length = 3 := length_bitsN _ _
 have hL2 : (bitsN 4 c).length = 4 := length_bitsN _ _
 have hLT : (bitsN 32 t).length = 32 := length_bitsN _ _
 have m3 : IntKind.u64.wrap (e : Int) = (e : Int) := by rw [IntKind.wrap_u64]; omega
 clear h hB hR
 obtain ⟨L1,g1⟩ : ∃ L1,L1 = bitsN 3 (k - 1) := ⟨_,rfl⟩
 rw [← g1] at H1 HHB hL1
 obtain ⟨L2,g2⟩ : ∃ L2,L2 = bitsN 4 c := ⟨_,rfl⟩
 rw [← g2] at HI2 HHB hL2
 obtain ⟨L3,g3⟩ : ∃ L3,L3 = var e := ⟨_,rfl⟩
 rw [← g3] at HVE HHB hvp hvl
 clear g1 g2 g3
 unfold hvs
 go_enter Tryz.func73,Tryz.ntmps73
 go_wp2_with fail
 refine H1.out.mono ?_
 rintro x w1 ⟨v1,rfl,h1⟩
 generalize w.heap.size = bh at *
 have q1 := h1.two.cell 1
 simp [hvs] at q1
 have H2 : Hid (Calls _ _ _ _ _) := HI2.out w1 _ h1
 clear h1 H1 q0 HI2
 go_wp2_with fail
 refine H2.out.mono ?_
 rintro x w2 ⟨v2,rfl,h2⟩
 obtain ⟨a1,c1,rfl⟩ := row_any (Own.row h2.two)
 obtain ⟨a2,c2,rfl⟩ := row_any (Own.row h2)
 rw [hL1,hL2]
 rw [hL1,hL2] at h2
 have p2 := h2.three.cell 2
 simp [hvs] at p2
 have O1 : Own w0 w2.drew (Row 4 1 (.slice a1 3 c1) 3 (brow L1) :: BT (.slice a2 4 c2) L2 :: Cells bh (hvs k c e t s) 29 :: l) := by
  have := h2.two.drew
  rw [bt_row hL1 rfl] at this
  exact this
 have R1 : w2.drew.ownsRow 0 4 1 (.slice a2 4 c2) 4 (brow L2) := by
  have := Own.row (h2.drew)
  rw [hL2] at this
  exact this
 have p2' : w2.drew.cell? ⟨bh,2,none⟩ = some (.int .u32 (e : Int)) := by simpa using p2
 clear H2 h2 q1 p2
 go_wp2
 go_region_held3 (fun w' => w'.cell? ⟨bh,2,none⟩ = some (.int .u32 (e : Int))) (first | go_keep | assumption)
  (first
    | (refine step_allW (by rfl) _ _ 75 (by rfl) 4 i0 (.bool false) 1 1 Tryz.underlying75 hi hz0 hz1 hz2 rfl (by decide) _ _ _ (by rfl) _ _ _ _ (by rfl) O1 R1 (one_brow _) (by unfold maxLen; omega) (by omega) ?_
       intro a5 c5 w5 h5
       have u5 := (Own.three h5).cell 2
       simp [hvs] at u5)
    | (go_at_call 76; with_reducible refine (HVE.out _ _ h5).mono ?_; rintro x w6 ⟨v6,rfl,h6⟩
       obtain ⟨a6,c6,rfl⟩ := row_any (Own.row h6)
       have u6 := (Own.four h6).cell 2
       simp [hvs] at u6
       have O6 := Own.two h6
       have R6 : w6.ownsRow 0 4 1 (.slice a6 L3.length c6) L3.length (brow L3) := Own.row h6)
    | (refine step_allW (by rfl) _ _ 75 (by rfl) 4 i0 (.bool false) 1 1 Tryz.underlying75 hi hz0 hz1 hz2 rfl (by decide) _ _ _ (by rfl) _ _ _ _ (by rfl) O6 R6 (one_brow _) (by unfold maxLen; omega) (by omega) ?_
       intro a7 c7 w7 h7
       have u7 := (Own.four h7).cell 2
       simp [hvs] at u7))
 have h8 : Own w0 w7 (BT (.slice a7 (3 + 4 + L3.length) c7) ((L1 ++ L2) ++ L3) :: Cells bh (hvs k c e t s) 29 :: l) := by
  rw [bt_row (n := 3 + 4 + L3.length) (by rw [List.length_append,List.length_append,hL1,hL2]) (by rw [brow_append,brow_append])]
  exact h7.two.tail.two.tail
 have H8 : Hid (Own w0 w7 _) := h8
 have hL8 : ((L1 ++ L2) ++ L3).length ≤ 100 := by rw [List.length_append,List.length_append]; omega
 generalize (Value.slice a7 (3 + 4 + L3.length) c7) = v8 at *
 generalize hL8e : (L1 ++ L2) ++ L3 = L8 at *
 clear h7 h8 O1 R1 h5 h6 O6 R6 u5 u6 p2' HVE hL8e
 have q0 := H8.out.two.cell 0
 simp [hvs] at q0
 by_cases k3 : k ≤ 3
 ·have g3 : (k : Int) ≤ 3 := by omega
  have hT : hasT k = true := by rw [HTK.out]; exact decide_eq_true k3
  rw [if_pos hT] at HHB
  have q3 := H8.out.two.cell 3
  simp [hvs] at q3
  have H9 : Hid (Calls _ _ _ _ _) := HPT.out w7 _ v8 L8 H8.out (by omega)
  have m4 : IntKind.u64.wrap (t : Int) = (t : Int) := by rw [IntKind.wrap_u64]; omega
  clear H8 HPT hT k3
  go_wp2_with fail
  refine H9.out.mono ?_
  rintro x w9 ⟨v9,rfl,h9⟩
  have hL9 : (L8 ++ bitsN 32 t).length ≤ 140 := by rw [List.length_append]; omega
  generalize L8 ++ bitsN 32 t = L9 at *
  have p0 := h9.two.cell 0
  have p3 := h9.two.cell 3
  have p4 := h9.two.cell 4
  simp [hvs] at p0 p3 p4
  clear H9 q0 q3
  by_cases k2 : k = 2
  ·have e2 : ((k : Int) == 2) = true := by rw [beq_iff_eq]; omega
   have hst : s < t := by have := HR.out.bf; unfold bfit at this; rw [if_pos k2] at this; simpa using this
   rw [if_pos k2] at HHB
   have HV : Hid (∀ x : Int,x = ((t - s - 1 : Nat) : Int) → Calls Tryz.prog 76 #[.int .u64 x] w9 fun x w' => ∃ u,x = .returned u ∧ Own w0 w' (BT u (var (t - s - 1)) :: BT v9 L9 :: Cells bh (hvs k c e t s) 29 :: l)) := fun x hx => HVB.out w9 _ x hx h9
   have hE1 : ((t : Int) - (s : Int)) % 4294967296 = ((t - s : Nat) : Int) := by omega
   have hE2 : (((t - s : Nat) : Int) - 1) % 4294967296 = ((t - s - 1 : Nat) : Int) := by omega
   clear h9 HVB k2
   go_wp2_with fail
   refine (HV.out _ (by omega)).mono ?_
   rintro x w10 ⟨v10,rfl,h10⟩
   have H10 : Hid (Own w0 w10 _) := h10
   generalize var (t - s - 1) = L10 at *
   clear h10 HV p0 p3 p4
   go_wp2_with (at_builtin; refine app_bits rfl _ _ rfl v9 v10 L9 L10 H10.out hvp2 (by omega) rfl rfl ?_; intro v11 w11 h11; have H11 : Hid (Own w0 w11 _) := h11; clear h11)
   go_ret
   exact ⟨v11,rfl,by rw [HHB.out]; exact H11.out.two.tail⟩
  ·have e2 : ((k : Int) == 2) = false := by rw [beq_eq_false_iff_ne]; omega
   rw [if_neg k2,List.append_nil] at HHB
   have H10 : Hid (Own w0 w9 (BT v9 L9 :: l)) := h9.two.tail
   clear h9 HVB k2 p3 p4
   go_wp2
   go_ret
   exact ⟨v9,rfl,by rw [HHB.out]; exact H10.out⟩
 ·have g3 : ¬ (k : Int) ≤ 3 := by omega
  have k2 : k ≠ 2 := by omega
  have e2 : ((k : Int) == 2) = false := by rw [beq_eq_false_iff_ne]; omega
  have hT : ¬ hasT k = true := by rw [HTK.out,decide_eq_false k3]; decide
  rw [if_neg hT,if_neg k2,List.append_nil,List.append_nil] at HHB
  have H10 : Hid (Own w0 w7 (BT v8 L8 :: l)) := H8.out.two.tail
  clear H8 HVB HPT k2 k3 hT
  go_wp2
  go_ret
  exact ⟨v8,rfl,by rw [HHB.out]; exact H10.out⟩
end Go.Proofs.YtgifeckbflkkpaaGreatDoor
