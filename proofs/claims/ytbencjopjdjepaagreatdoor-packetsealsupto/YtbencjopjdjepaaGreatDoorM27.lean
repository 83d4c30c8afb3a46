/-
  The document's packets as bits: IDs, components, entities.
-/
import Derived.Test.YtbencjopjdjepaaGreatDoorM16
import Derived.Test.YtbencjopjdjepaaGreatDoorM26
import Derived.Deep.RegionHeld3
namespace Go.Proofs.YtbencjopjdjepaaGreatDoor
open Go.RowKit
set_option linter.unusedVariables false
set_option maxRecDepth 100000

theorem var_pos (v : Nat) : 0 < (var v).length := by
  rw [length_var]
  unfold grp
  omega
set_option maxHeartbeats 1000000 in
theorem rid (w0 w : World) (l : List Thing) (v : Value) (L : List Bool) (a i : Nat) (h : Own w0 w (BT v L :: l)) (ha : a < i) (hi : i < 4294967296) (hl : L.length ≤ 1048576) :
    Calls Tryz.prog 50 #[v, .int .u32 (a : Int), .int .u32 (i : Int)] w fun e w' => ∃ u, e = .returned u ∧ Own w0 w' (BT u (L ++ idB a i) :: l) := by
  have hV := rvarT w0 w _ h (i - a - 1) (by omega)
  have hle := idB_le a i hi
  have hps := var_pos (i - a - 1)
  unfold idB at hle ⊢
  have H5 : Hid (∀ x : Int, x = ((i - a - 1 : Nat) : Int) → Calls Tryz.prog 49 #[.int .u64 x] w fun e w' => ∃ u, e = .returned u ∧ Own w0 w' (BT u (var (i - a - 1)) :: BT v L :: l)) := fun x hx => by rw [hx]; exact hV
  have hE : ((i - a - 1 : Nat) : Int) = (((i : Int) - (a : Int) - 1) % 4294967296) := by omega
  clear h hV
  generalize var (i - a - 1) = M at *
  go_enter Tryz.func50, Tryz.ntmps50
  go_wp2_with fail
  refine (H5.out _ (by omega)).mono ?_
  rintro x w1 ⟨u, rfl, h1⟩
  have H1 : Hid (Own w0 w1 _) := h1
  clear h1 H5
  go_wp2_with (at_builtin; refine app_bits rfl _ _ rfl v u L M H1.out hps (by omega) rfl rfl ?_; intro v' w2 h2; have H2 : Hid (Own w0 w2 _) := h2; clear h2)
  go_ret
  exact ⟨v', rfl, H2.out⟩
theorem bpos : ∀ k : Fin 6, 0 < bsum k.1 (cnt k.1) := by decide +kernel
theorem cpB_pos {q : Cp} (h : chk q.k (f3 q.a q.b q.c) = 0) : 0 < (cpB q).length := by
  unfold cpB
  rw [length_cb]
  exact bpos ⟨q.k, (chk_ok _ _ h).1⟩
set_option maxHeartbeats 4000000 in
theorem rcomps (w0 w : World) (l : List Thing) (v : Value) (L : List Bool) (ao : Option Addr) (n cap : Nat) (C : List Cp) (h : Own w0 w (BT v L :: l)) (hC : ∀ w', Own w0 w' l → Cs w' ao C) (hn : C.length = n) (hk : ∀ q ∈ C, q.k < 256) (h0 : ∀ q ∈ C, chk q.k (f3 q.a q.b q.c) = 0) (hl : L.length + 60 * n + 200 ≤ 1048576) :
    Calls Tryz.prog 53 #[v, .slice ao n cap] w fun e w' => ∃ u, e = .returned u ∧ Own w0 w' (BT u (L ++ cpsB C) :: l) := by
  have HC : Hid (C.length = n ∧ (∀ q ∈ C, q.k < 256) ∧ (∀ q ∈ C, chk q.k (f3 q.a q.b q.c) = 0) ∧ ∀ w', Own w0 w' l → Cs w' ao C) := ⟨hn, hk, h0, hC⟩
  have HL : Hid (L.length + 60 * n + 200 ≤ 1048576) := hl
  have H3 : Hid (Own w0 w (BT v L :: l)) := h
  have hnn : n ≤ 20000 := by omega
  clear h hC hn hk h0 hl
  go_enter Tryz.func53, Tryz.ntmps53
  go_wp2
  go_loopw [0, 11] (fun x0 cc wr => ∃ (k : Nat) (v0 : Value), k ≤ n ∧ cc = .int .i64 (k : Int) ∧ v0 = x0 ∧ Own w0 wr (BT v0 (L ++ cpsB (C.take k)) :: l)) (fun _ cc _ => n - (intOf cc).toNat)
  case atStart => exact ⟨0, _, Nat.zero_le _, rfl, rfl, by simpa [cpsB] using H3.out⟩
  case round =>
    obtain ⟨k, v0, hk, rfl, rfl, hO⟩ := hrel
    clear H3
    by_cases hlt : k < n
    · obtain ⟨q, hq⟩ : ∃ q, C[k]? = some q := ⟨_, List.getElem?_eq_getElem (by rw [HC.out.1]; exact hlt)⟩
      obtain ⟨g, o, hga, -, c0, c1, c2, c3⟩ := (HC.out.2.2.2 wr hO.tail).at k q hq
      subst hga
      have hlt' : (k : Int) < (n : Int) := by omega
      have hq8 := HC.out.2.1 q (List.mem_of_getElem? hq)
      have hq0 := HC.out.2.2.1 q (List.mem_of_getElem? hq)
      have hb1 : g < wr.heap.size := World.block_lt_of_cell? wr _ c0
      have hb2 : wr.heap.size ≠ g := by omega
      have hcl := cpsB_le (C.take k)
      rw [List.length_take] at hcl
      have hcb := cpB_le q
      have hcp := cpB_pos hq0
      have hB := hO.allocC #[.int .u8 (q.k : Int), .int .i32 q.a, .int .i32 q.b, .int .i32 q.c] 68
      have HPU : Hid (Calls Tryz.prog 103 #[.agg #[.int .u8 (q.k : Int), .int .i32 q.a, .int .i32 q.b, .int .i32 q.c]] _ fun e w' => ∃ u, e = .returned (.tuple #[u, .int .i64 0]) ∧ Own w0 w' (BT u (cpB q) :: _)) := rputCT w0 _ _ hB q.k hq8 (f3 q.a q.b q.c) hq0
      have HTK : Hid (cpsB (C.take (k + 1)) = cpsB (C.take k) ++ cpB q) := by
        show _ = _
        rw [List.take_add_one, hq, cpsB_app]; simp [cpsB]
      have HT2 : Hid (L ++ cpsB (C.take (k + 1)) = (L ++ cpsB (C.take k)) ++ cpB q) := by show _ = _; rw [HTK.out, List.append_assoc]
      clear HTK
      have u0 := hB.cell 0
      have u1 := hB.cell 1
      have u2 := hB.cell 2
      have u3 := hB.cell 3
      simp at u0 u1 u2 u3
      have hll : (L ++ cpsB (C.take k)).length ≤ 1048576 := by have := HL.out; rw [List.length_append]; omega
      clear hO hB hq hq0 hcl
      generalize cpB q = M at *
      generalize L ++ cpsB (C.take k) = L1 at *
      obtain ⟨qk, qa, qb, qc⟩ := q
      simp only at c0 c1 c2 c3 hq8 HPU
      go_wp2_with fail
      refine HPU.out.mono ?_
      rintro e w1 ⟨u, rfl, h1⟩
      have H1 : Hid (Own w0 w1 (BT u M :: BT v0 L1 :: l)) := h1.two.tail
      clear h1 HPU u0 u1 u2 u3 c0 c1 c2 c3 hb1 hb2
      go_wp2_with (at_builtin; refine app_bits rfl _ _ rfl v0 u L1 M H1.out hcp (by omega) rfl rfl ?_; intro v' w2 h2; have H2 : Hid (Own w0 w2 (BT v' (L1 ++ M) :: l)) := h2; clear h2)
      go_roundw
      case rel => exact ⟨k + 1, _, by omega, by go_num, rfl, by rw [HT2.out]; exact H2.out⟩
      case measure => simp [intOf]; omega
    · have hk2 : k = n := by omega
      subst hk2
      have hlt' : ¬ (k : Int) < (k : Int) := by omega
      have H4 : Hid (Own w0 wr (BT v0 (L ++ cpsB C) :: l)) := by
        have := hO
        rw [List.take_of_length_le (by rw [HC.out.1]; exact Nat.le_refl _)] at this
        exact this
      clear hO
      go_wp2
      go_ret
      exact ⟨v0, rfl, H4.out⟩
set_option maxHeartbeats 4000000 in
theorem rents (w0 w : World) (l : List Thing) (v : Value) (L : List Bool) (ao : Option Addr) (n cap : Nat) (E : List EnE) (h : Own w0 w (BT v L :: l)) (hE : ∀ w', Own w0 w' l → EntsAt w' ao E) (hn : E.length = n) (hI : EIn E) (hup : (evs E).Pairwise (fun a b => a.1 < b.1)) (hok : ∀ x ∈ evs E, 1024 ≤ x.1 ∧ lst (-1) x.2 = 0 ∧ un x.2 = false) (hl : L.length + 100 * esz E + 400 ≤ 1048576) :
    Calls Tryz.prog 47 #[v, .slice ao n cap] w fun e w' => ∃ u, e = .returned u ∧ Own w0 w' (BT u ((L ++ var n) ++ entsB 0 (evs E)) :: l) := by
  have hnn : n ≤ 20000 := by unfold esz at hl; omega
  have hg := (grp_bd n (by omega)).2
  have H1 : Hid (Calls _ _ _ _ _) := rvarT w0 w _ h n (by omega)
  have HG : Hid (E.length = n ∧ (evs E).Pairwise (fun a b => a.1 < b.1) ∧ (∀ x ∈ evs E, 1024 ≤ x.1 ∧ lst (-1) x.2 = 0 ∧ un x.2 = false) ∧ (∀ w', Own w0 w' l → EntsAt w' ao E) ∧ EIn E) := ⟨hn, hup, hok, hE, hI⟩
  have HL : Hid (L.length + 100 * (n + csz E) + 400 ≤ 1048576 ∧ (var n).length ≤ 80) := ⟨by unfold esz at hl; rw [hn] at hl; exact hl, by rw [length_var]; omega⟩
  have hvp := var_pos n
  have hll : L.length + (var n).length ≤ 1048576 := by have := HL.out; omega
  clear h hE hn hup hok hl hg hI
  generalize hVN : var n = VN at *
  clear hVN
  go_enter Tryz.func47, Tryz.ntmps47
  go_wp2_with fail
  refine H1.out.mono ?_
  rintro e w1 ⟨u, rfl, h2⟩
  have H2 : Hid (Own w0 w1 (BT u VN :: BT v L :: l)) := h2
  clear h2 H1
  go_wp2_with (at_builtin; refine app_bits rfl _ _ rfl v u L VN H2.out hvp (by omega) rfl rfl ?_; intro v3 w3 h3; have H3 : Hid (Own w0 w3 (BT v3 (L ++ VN) :: l)) := h3; clear h3)
  clear H2
  go_loopw [0, 5, 16] (fun x0 v5 cc wr => ∃ (k : Nat) (v0 : Value), k ≤ n ∧ cc = .int .i64 (k : Int) ∧ v0 = x0 ∧ v5 = .int .u32 ((lastI 0 (((evs E).take k).map (·.1)) : Nat) : Int) ∧ Own w0 wr (BT v0 ((L ++ VN) ++ entsB 0 ((evs E).take k)) :: l)) (fun _ _ cc _ => n - (intOf cc).toNat)
  case atStart => exact ⟨0, _, Nat.zero_le _, rfl, rfl, rfl, by simpa [entsB] using H3.out⟩
  case round =>
    obtain ⟨k, v0, hk, rfl, rfl, rfl, hO⟩ := hrel
    clear H3
    by_cases hlt : k < n
    · obtain ⟨x, hx⟩ : ∃ x, E[k]? = some x := ⟨_, List.getElem?_eq_getElem (by rw [HG.out.1]; exact hlt)⟩
      obtain ⟨g, o, hga, hc0, hc1, -⟩ := (HG.out.2.2.2.1 wr hO.tail).at hx
      subst hga
      have hlt' : (k : Int) < (n : Int) := by omega
      have hxe := evs_at hx
      have hxm := List.mem_of_getElem? hxe
      have htk : (evs E).take (k + 1) = (evs E).take k ++ [(x.id, x.C)] := by rw [List.take_add_one, hxe]; rfl
      have hil : x.id < 4294967296 := (HG.out.2.2.2.2 x (List.mem_of_getElem? hx)).1
      have hok := HG.out.2.2.1 _ hxm
      have hla : lastI 0 (((evs E).take k).map (·.1)) < x.id := by
        have hP : (((evs E).take (k + 1)).map (·.1)).Pairwise (· < ·) := List.pairwise_map.2 (HG.out.2.1.sublist (List.take_sublist _ _))
        rw [htk, List.map_append] at hP
        refine lastI_lt hP (fun y hy => ?_)
        have hy2 : y ∈ ((evs E).take (k + 1)).map (·.1) := by rw [htk, List.map_append]; exact hy
        obtain ⟨z, hz, rfl⟩ := List.mem_map.1 hy2
        have := (HG.out.2.2.1 z (List.mem_of_mem_take hz)).1
        omega
      have hsz := entsB_le 0 ((evs E).take k) (fun z hz => by
        obtain ⟨y, hy, rfl⟩ := List.mem_map.1 (List.mem_of_mem_take hz)
        exact (HG.out.2.2.2.2 y hy).1)
      rw [List.length_take] at hsz
      have hcz := cszV_take (evs E) hxe
      rw [cszV_evs] at hcz
      simp only at hcz hok
      have hcs : (cpsB x.C).length ≤ 60 * x.C.length := cpsB_le x.C
      have hLN := HL.out
      have hib := idB_le (lastI 0 (((evs E).take k).map (·.1))) x.id hil
      have hb1 : g < wr.heap.size := World.block_lt_of_cell? wr _ hc0
      have hb2 : wr.heap.size ≠ g := by omega
      have hB := hO.allocC #[.int .u32 (x.id : Int), .slice x.ao x.C.length x.cap] 65
      have HP : Hid (Calls _ _ _ _ _) := rid w0 _ _ v0 _ (lastI 0 (((evs E).take k).map (·.1))) x.id hB.two hla hil (by rw [List.length_append, List.length_append]; omega)
      have HT2 : Hid (lastI 0 (((evs E).take (k + 1)).map (·.1)) = x.id ∧ entsB 0 ((evs E).take (k + 1)) = entsB 0 ((evs E).take k) ++ entB (lastI 0 (((evs E).take k).map (·.1))) (x.id, x.C)) := by
        rw [htk]
        exact ⟨by rw [List.map_append]; exact lastI_snoc _ _ _, entsB_snoc _ _ _⟩
      have hls := lst_ok hok.2.1
      have HMK : Hid (∀ W X, Own w0 W (X ++ l) → Calls Tryz.prog 52 #[.slice x.ao x.C.length x.cap] W fun e w' => e = .returned (.int .u8 ((msk x.C : Nat) : Int)) ∧ Own w0 w' (X ++ l)) := fun W X hX => by
        refine (rmask_any W x.ao x.C.length x.cap x.C rfl ((HG.out.2.2.2.1 W hX.dropA).2 x (List.mem_of_getElem? hx)) (HG.out.2.2.2.2 x (List.mem_of_getElem? hx)).2 (by omega)).mono ?_
        rintro e w' ⟨rfl, hf⟩
        exact ⟨rfl, hX.quiet hf⟩
      have hm32 := msk_lt32 hok.2.2
      have HMP : Hid (∀ W u M X, Own w0 W (BT u M :: X :: l) → M.length + 5 ≤ 1048576 → Calls Tryz.prog 51 #[u, .int .u64 ((msk x.C : Nat) : Int), .int .i64 5] W fun e w' => ∃ u', e = .returned (.tuple #[u', .int .i64 0]) ∧ Own w0 w' (BT u' (M ++ bitsN 5 (msk x.C)) :: X :: l)) := fun W u M X hW hM => rputT w0 W _ u M (msk x.C) 5 hW (by decide) (Nat.lt_of_lt_of_le hm32 (by decide)) (by omega) hM
      have HCP : Hid (∀ W u M X, Own w0 W (BT u M :: X :: l) → M.length + 60 * x.C.length + 200 ≤ 1048576 → Calls Tryz.prog 53 #[u, .slice x.ao x.C.length x.cap] W fun e w' => ∃ u', e = .returned u' ∧ Own w0 w' (BT u' (M ++ cpsB x.C) :: X :: l)) := fun W u M X hW hM => rcomps w0 W _ u M x.ao x.C.length x.cap x.C hW (fun w' hw' => (HG.out.2.2.2.1 w' hw'.tail).2 x (List.mem_of_getElem? hx)) rfl (HG.out.2.2.2.2 x (List.mem_of_getElem? hx)).2 (fun q hq => (hls.2 q hq).2) hM
      have HLL : Hid (((L ++ VN) ++ entsB 0 ((evs E).take k)).length + 100 + 60 * x.C.length + 200 ≤ 1048576 ∧ (idB (lastI 0 (((evs E).take k).map (·.1))) x.id).length ≤ 80) := ⟨by rw [List.length_append, List.length_append]; omega, hib⟩
      obtain ⟨la, hlaE⟩ : ∃ la, la = lastI 0 (((evs E).take k).map (·.1)) := ⟨_, rfl⟩
      rw [← hlaE] at HP HT2 HLL
      rw [← hlaE]
      clear hO hla hlaE htk hok hls hsz hcz hcs hib hLN hxe hxm
      have q0 := hB.cell 0
      have q1 := hB.cell 1
      simp at q0 q1
      clear hB hx
      obtain ⟨xi, xa, xc, xC⟩ := x
      simp only at hc0 hc1 hil HP HT2 HMK HMP HCP HLL q0 q1 hm32
      generalize xC.length = xl at *
      go_wp2_with fail
      refine HP.out.mono ?_
      rintro e w2 ⟨u2, rfl, h2⟩
      generalize wr.heap.size = bx at *
      have r0 := h2.two.cell 0
      have r1 := h2.two.cell 1
      simp at r0 r1
      have HM1 : Hid (Calls _ _ _ _ _) := HMK.out w2 [_, _] h2
      clear h2 HP q0 q1 hc0 hc1 hb1 hb2
      go_wp2_with fail
      refine HM1.out.mono ?_
      rintro e w3 ⟨rfl, h3⟩
      have HM2 : Hid (Calls _ _ _ _ _) := HMP.out w3 _ _ _ h3 (by have := HLL.out; rw [List.length_append]; omega)
      clear h3 HM1 r0 r1
      go_wp2_with fail
      refine HM2.out.mono ?_
      rintro e w4 ⟨u4, rfl, h4⟩
      have r2 := h4.two.cell 1
      simp at r2
      have HM3 : Hid (Calls _ _ _ _ _) := HCP.out w4 _ _ _ h4 (by have := HLL.out; rw [List.length_append, List.length_append, length_bitsN]; omega)
      clear h4 HM2
      go_wp2_with fail
      refine HM3.out.mono ?_
      rintro e w5 ⟨u5, rfl, h5⟩
      have H4 : Hid (Own w0 w5 (BT u5 ((L ++ VN) ++ entsB 0 ((evs E).take (k + 1))) :: l)) := by
        show Own _ _ _
        rw [HT2.out.2]
        unfold entB
        have h6 := h5.two.tail
        simp only [List.append_assoc] at h6 ⊢
        exact h6
      clear h5 HM3 r2 HMK HMP HCP
      go_wp2
      go_roundw
      case rel => exact ⟨k + 1, _, by omega, by go_num, rfl, by rw [HT2.out.1], H4.out⟩
      case measure => simp [intOf]; omega
    · have hk2 : k = n := by omega
      subst hk2
      have hlt' : ¬ (k : Int) < (k : Int) := by omega
      have H4 : Hid (Own w0 wr (BT v0 ((L ++ VN) ++ entsB 0 (evs E)) :: l)) := by
        have := hO
        rw [List.take_of_length_le (by rw [evs_len, HG.out.1]; exact Nat.le_refl _)] at this
        exact this
      clear hO
      go_wp2
      go_ret
      exact ⟨v0, rfl, by first | exact H4.out | (rw [← List.append_assoc]; exact H4.out)⟩
end Go.Proofs.YtbencjopjdjepaaGreatDoor

/-
  The document's packets as bits: the head.
-/
namespace Go.Proofs.YtbencjopjdjepaaGreatDoor
open Go.RowKit
set_option linter.unusedVariables false
set_option maxRecDepth 100000

theorem bt_row {v : Value} {n : Nat} {xs : List Value} {L : List Bool} (hn : L.length = n) (hx : brow L = xs) : BT v L = Row 4 1 v n xs := by
  subst hn hx; rfl
theorem hasT_le {k : Nat} (h1 : 1 ≤ k) : hasT k = decide (k ≤ 3) := by
  unfold hasT
  by_cases h : k ≤ 3
  · have : k = 1 ∨ k = 2 ∨ k = 3 := by omega
    rcases this with rfl | rfl | rfl <;> rfl
  · rw [decide_eq_false h]
    simp; omega
set_option maxHeartbeats 8000000 in
theorem rhead (w0 w : World) (l : List Thing) (h : Own w0 w l) (k c e t s : Nat) (hR : Right k c e t s) :
    Calls Tryz.prog 46 #[.agg (hvs k c e t s)] w fun x w' => ∃ u, x = .returned u ∧ Own w0 w' (BT u (headB k c e t s) :: l) := by
  obtain ⟨i0, hi, hz0, hz1, hz2⟩ := info_parts Tryz.infoBool
  have k1 := hR.k1
  have k5 := hR.k5
  have c15 := hR.c15
  have e32 := hR.e32
  have t32 := hR.t32
  have s32 := hR.s32
  have hB := h.allocC (hvs k c e t s) 24
  have q0 := hB.cell 0
  simp [hvs] at q0
  have H1 : Hid (Calls _ _ _ _ _) := rinT w0 _ _ hB (k : Int) 1 5 (k - 1) (by omega) (by omega) (by omega) (by omega) (by omega)
  rw [wid15] at H1
  have HR : Hid (Right k c e t s) := hR
  have HTK : Hid (hasT k = decide (k ≤ 3)) := hasT_le k1
  have hvp := var_pos e
  have hvl : (var e).length ≤ 80 := by rw [length_var]; have := grp32 e e32; omega
  have hvl2 : (var (t - s - 1)).length ≤ 80 := by rw [length_var]; have := grp32 (t - s - 1) (by omega); omega
  have hvp2 := var_pos (t - s - 1)
  have HHB : Hid (headB k c e t s = (((bitsN 3 (k - 1) ++ bitsN 4 c) ++ var e) ++ (if hasT k = true then bitsN 32 t else [])) ++ (if k = 2 then var (t - s - 1) else [])) := by show _ = _; unfold headB; rw [wid15, wid015]
  have HI2 : Hid (∀ W l', Own w0 W l' → Calls Tryz.prog 102 #[.int .i64 (c : Int), .int .i64 0, .int .i64 15] W fun e w' => ∃ u, e = .returned (.tuple #[u, .int .i64 0]) ∧ Own w0 w' (BT u (bitsN 4 c) :: l')) := fun W l' hW => by
    have := rinT w0 W l' hW (c : Int) 0 15 c (by omega) (by omega) (by omega) (by omega) (by omega)
    rw [wid015] at this
    exact this
  have HVE : Hid (∀ W l', Own w0 W l' → Calls Tryz.prog 49 #[.int .u64 (e : Int)] W fun x w' => ∃ u, x = .returned u ∧ Own w0 w' (BT u (var e) :: l')) := fun W l' hW => rvarT w0 W l' hW e (by omega)
  have HVB : Hid (∀ W l' (x : Int), x = ((t - s - 1 : Nat) : Int) → Own w0 W l' → Calls Tryz.prog 49 #[.int .u64 x] W fun x w' => ∃ u, x = .returned u ∧ Own w0 w' (BT u (var (t - s - 1)) :: l')) := fun W l' x hx hW => by rw [hx]; exact rvarT w0 W l' hW (t - s - 1) (by omega)
  have HPT : Hid (∀ W l' u M, Own w0 W (BT u M :: l') → M.length ≤ 1000 → Calls Tryz.prog 51 #[u, .int .u64 (t : Int), .int .i64 32] W fun e w' => ∃ u', e = .returned (.tuple #[u', .int .i64 0]) ∧ Own w0 w' (BT u' (M ++ bitsN 32 t) :: l')) := fun W l' u M hW hM => rputT w0 W l' u M t 32 hW (by decide) (by show _ < 4294967296; omega) (by omega) (by omega)
  have hL1 : (bitsN 3 (k - 1)).length = 3 := length_bitsN _ _
  have hL2 : (bitsN 4 c).length = 4 := length_bitsN _ _
  have hLT : (bitsN 32 t).length = 32 := length_bitsN _ _
  have m3 : IntKind.u64.wrap (e : Int) = (e : Int) := by rw [IntKind.wrap_u64]; omega
  clear h hB hR
  obtain ⟨L1, g1⟩ : ∃ L1, L1 = bitsN 3 (k - 1) := ⟨_, rfl⟩
  rw [← g1] at H1 HHB hL1
  obtain ⟨L2, g2⟩ : ∃ L2, L2 = bitsN 4 c := ⟨_, rfl⟩
  rw [← g2] at HI2 HHB hL2
  obtain ⟨L3, g3⟩ : ∃ L3, L3 = var e := ⟨_, rfl⟩
  rw [← g3] at HVE HHB hvp hvl
  clear g1 g2 g3
  unfold hvs
  go_enter Tryz.func46, Tryz.ntmps46
  go_wp2_with fail
  refine H1.out.mono ?_
  rintro x w1 ⟨v1, rfl, h1⟩
  generalize w.heap.size = bh at *
  have q1 := h1.two.cell 1
  simp [hvs] at q1
  have H2 : Hid (Calls _ _ _ _ _) := HI2.out w1 _ h1
  clear h1 H1 q0 HI2
  go_wp2_with fail
  refine H2.out.mono ?_
  rintro x w2 ⟨v2, rfl, h2⟩
  obtain ⟨a1, c1, rfl⟩ := row_any (Own.row h2.two)
  obtain ⟨a2, c2, rfl⟩ := row_any (Own.row h2)
  rw [hL1, hL2]
  rw [hL1, hL2] at h2
  have p2 := h2.three.cell 2
  simp [hvs] at p2
  have O1 : Own w0 w2.drew (Row 4 1 (.slice a1 3 c1) 3 (brow L1) :: BT (.slice a2 4 c2) L2 :: Cells bh (hvs k c e t s) 24 :: l) := by
    have := h2.two.drew
    rw [bt_row hL1 rfl] at this
    exact this
  have R1 : w2.drew.ownsRow 0 4 1 (.slice a2 4 c2) 4 (brow L2) := by
    have := Own.row (h2.drew)
    rw [hL2] at this
    exact this
  have p2' : w2.drew.cell? ⟨bh, 2, none⟩ = some (.int .u32 (e : Int)) := by simpa using p2
  clear H2 h2 q1 p2
  go_wp2
  go_region_held3 (fun w' => w'.cell? ⟨bh, 2, none⟩ = some (.int .u32 (e : Int))) (first | go_keep | assumption)
    (first
      | (refine step_allW (by rfl) _ _ 80 (by rfl) 4 i0 (.bool false) 1 1 Tryz.underlying80 hi hz0 hz1 hz2 rfl (by decide) _ _ _ (by rfl) _ _ _ _ (by rfl) O1 R1 (one_brow _) (by unfold maxLen; omega) (by omega) ?_
         intro a5 c5 w5 h5
         have u5 := (Own.three h5).cell 2
         simp [hvs] at u5)
      | (go_at_call 49; with_reducible refine (HVE.out _ _ h5).mono ?_; rintro x w6 ⟨v6, rfl, h6⟩
         obtain ⟨a6, c6, rfl⟩ := row_any (Own.row h6)
         have u6 := (Own.four h6).cell 2
         simp [hvs] at u6
         have O6 := Own.two h6
         have R6 : w6.ownsRow 0 4 1 (.slice a6 L3.length c6) L3.length (brow L3) := Own.row h6)
      | (refine step_allW (by rfl) _ _ 80 (by rfl) 4 i0 (.bool false) 1 1 Tryz.underlying80 hi hz0 hz1 hz2 rfl (by decide) _ _ _ (by rfl) _ _ _ _ (by rfl) O6 R6 (one_brow _) (by unfold maxLen; omega) (by omega) ?_
         intro a7 c7 w7 h7
         have u7 := (Own.four h7).cell 2
         simp [hvs] at u7))
  have h8 : Own w0 w7 (BT (.slice a7 (3 + 4 + L3.length) c7) ((L1 ++ L2) ++ L3) :: Cells bh (hvs k c e t s) 24 :: l) := by
    rw [bt_row (n := 3 + 4 + L3.length) (by rw [List.length_append, List.length_append, hL1, hL2]) (by rw [brow_append, brow_append])]
    exact h7.two.tail.two.tail
  have H8 : Hid (Own w0 w7 _) := h8
  have hL8 : ((L1 ++ L2) ++ L3).length ≤ 100 := by rw [List.length_append, List.length_append]; omega
  generalize (Value.slice a7 (3 + 4 + L3.length) c7) = v8 at *
  generalize hL8e : (L1 ++ L2) ++ L3 = L8 at *
  clear h7 h8 O1 R1 h5 h6 O6 R6 u5 u6 p2' HVE hL8e
  have q0 := H8.out.two.cell 0
  simp [hvs] at q0
  by_cases k3 : k ≤ 3
  · have g3 : (k : Int) ≤ 3 := by omega
    have hT : hasT k = true := by rw [HTK.out]; exact decide_eq_true k3
    rw [if_pos hT] at HHB
    have q3 := H8.out.two.cell 3
    simp [hvs] at q3
    have H9 : Hid (Calls _ _ _ _ _) := HPT.out w7 _ v8 L8 H8.out (by omega)
    have m4 : IntKind.u64.wrap (t : Int) = (t : Int) := by rw [IntKind.wrap_u64]; omega
    clear H8 HPT hT k3
    go_wp2_with fail
    refine H9.out.mono ?_
    rintro x w9 ⟨v9, rfl, h9⟩
    have hL9 : (L8 ++ bitsN 32 t).length ≤ 140 := by rw [List.length_append]; omega
    generalize L8 ++ bitsN 32 t = L9 at *
    have p0 := h9.two.cell 0
    have p3 := h9.two.cell 3
    have p4 := h9.two.cell 4
    simp [hvs] at p0 p3 p4
    clear H9 q0 q3
    by_cases k2 : k = 2
    · have e2 : ((k : Int) == 2) = true := by rw [beq_iff_eq]; omega
      have hst : s < t := by have := HR.out.bf; unfold bfit at this; rw [if_pos k2] at this; simpa using this
      rw [if_pos k2] at HHB
      have HV : Hid (∀ x : Int, x = ((t - s - 1 : Nat) : Int) → Calls Tryz.prog 49 #[.int .u64 x] w9 fun x w' => ∃ u, x = .returned u ∧ Own w0 w' (BT u (var (t - s - 1)) :: BT v9 L9 :: Cells bh (hvs k c e t s) 24 :: l)) := fun x hx => HVB.out w9 _ x hx h9
      have hE1 : ((t : Int) - (s : Int)) % 4294967296 = ((t - s : Nat) : Int) := by omega
      have hE2 : (((t - s : Nat) : Int) - 1) % 4294967296 = ((t - s - 1 : Nat) : Int) := by omega
      clear h9 HVB k2
      go_wp2_with fail
      refine (HV.out _ (by omega)).mono ?_
      rintro x w10 ⟨v10, rfl, h10⟩
      have H10 : Hid (Own w0 w10 _) := h10
      generalize var (t - s - 1) = L10 at *
      clear h10 HV p0 p3 p4
      go_wp2_with (at_builtin; refine app_bits rfl _ _ rfl v9 v10 L9 L10 H10.out hvp2 (by omega) rfl rfl ?_; intro v11 w11 h11; have H11 : Hid (Own w0 w11 _) := h11; clear h11)
      go_ret
      exact ⟨v11, rfl, by rw [HHB.out]; exact H11.out.two.tail⟩
    · have e2 : ((k : Int) == 2) = false := by rw [beq_eq_false_iff_ne]; omega
      rw [if_neg k2, List.append_nil] at HHB
      have H10 : Hid (Own w0 w9 (BT v9 L9 :: l)) := h9.two.tail
      clear h9 HVB k2 p3 p4
      go_wp2
      go_ret
      exact ⟨v9, rfl, by rw [HHB.out]; exact H10.out⟩
  · have g3 : ¬ (k : Int) ≤ 3 := by omega
    have k2 : k ≠ 2 := by omega
    have e2 : ((k : Int) == 2) = false := by rw [beq_eq_false_iff_ne]; omega
    have hT : ¬ hasT k = true := by rw [HTK.out, decide_eq_false k3]; decide
    rw [if_neg hT, if_neg k2, List.append_nil, List.append_nil] at HHB
    have H10 : Hid (Own w0 w7 (BT v8 L8 :: l)) := H8.out.two.tail
    clear H8 HVB HPT k2 k3 hT
    go_wp2
    go_ret
    exact ⟨v8, rfl, by rw [HHB.out]; exact H10.out⟩
end Go.Proofs.YtbencjopjdjepaaGreatDoor

/-
  What an entity was: before, ofKind.
-/
namespace Go.Proofs.YtbencjopjdjepaaGreatDoor
open Go.RowKit
set_option linter.unusedVariables false
set_option maxRecDepth 100000

def cmpN (a b : Nat) : Int := if a < b then -1 else if b < a then 1 else 0
set_option maxHeartbeats 1000000 in
theorem isNaN_id (x : Int) (w : World) : Calls Tryz.prog 216 #[.int .u32 x] w fun e w' => e = .returned (.bool false) ∧ w' = w := by
  go_enter Tryz.func216, Tryz.ntmps216
  go_wp2
  go_ret
  exact ⟨by simp, rfl⟩
set_option maxHeartbeats 1000000 in
theorem cmp_id (a b : Nat) (w : World) : Calls Tryz.prog 198 #[.int .u32 (a : Int), .int .u32 (b : Int)] w fun e w' => e = .returned (.int .i64 (cmpN a b)) ∧ w' = w := by
  have HN : Hid (∀ (x : Int) W, Calls Tryz.prog 216 #[.int .u32 x] W fun e w' => e = .returned (.bool false) ∧ w' = W) := fun x W => isNaN_id x W
  go_enter Tryz.func198, Tryz.ntmps198
  go_wp2_with fail
  refine (HN.out _ _).mono ?_
  rintro e w1 ⟨rfl, rfl⟩
  go_wp2_with fail
  refine (HN.out _ _).mono ?_
  rintro e w1 ⟨rfl, rfl⟩
  by_cases h1 : a < b
  · have h1' : (a : Int) < (b : Int) := by omega
    go_wp2
    go_ret
    exact ⟨by simp [cmpN, h1], rfl⟩
  · have h1' : ¬ (a : Int) < (b : Int) := by omega
    by_cases h2 : b < a
    · have h2' : (b : Int) < (a : Int) := by omega
      go_wp2
      go_ret
      exact ⟨by simp [cmpN, h1, h2], rfl⟩
    · have h2' : ¬ (b : Int) < (a : Int) := by omega
      go_wp2
      go_ret
      exact ⟨by simp [cmpN, h1, h2], rfl⟩
set_option maxHeartbeats 400000 in
theorem before1_any (w : World) (x : Nat) (a : Option Addr) (n c i : Nat) : Calls Tryz.prog 197 #[.agg #[.int .u32 (x : Int), .slice a n c], .int .u32 (i : Int)] w fun e w' => e = .returned (.int .i64 (cmpN x i)) ∧ Fr Nobody w w' := by
  have HC : Hid (∀ W, Calls Tryz.prog 198 #[.int .u32 (x : Int), .int .u32 (i : Int)] W fun e w' => e = .returned (.int .i64 (cmpN x i)) ∧ w' = W) := fun W => cmp_id x i W
  go_enter Tryz.func197, Tryz.ntmps197
  go_wp2_with fail
  refine (HC.out _).mono ?_
  rintro e w1 ⟨rfl, rfl⟩
  go_wp2
  go_ret
  exact ⟨rfl, (Fr.refl _ _).alloc _⟩
set_option maxHeartbeats 2000000 in
theorem ofKind_ok (w : World) (ao : Option Addr) (n cap : Nat) (C : List Cp) (hn : C.length = n) (hs : Cs w ao C) (k : Nat) (q : Cp) (hf : fst C k = some q) (hm : n ≤ 1000000) :
    Calls Tryz.prog 195 #[.slice ao n cap, .int .u8 (k : Int)] w fun e w' => e = .returned (.agg #[.int .u8 (q.k : Int), .int .i32 q.a, .int .i32 q.b, .int .i32 q.c]) ∧ Fr Nobody w w' := by
  have HL : Hid (C.length = n ∧ Cs w ao C ∧ fst C k = some q) := ⟨hn, hs, hf⟩
  have HS : Hid (Own w _ _) := (Own.start w).allocC #[.int .u8 0, .int .i32 0, .int .i32 0, .int .i32 0] 68
  clear hn hs hf
  go_enter Tryz.func195, Tryz.ntmps195
  go_wp2
  generalize hWg : w.alloc (.cells #[.int .u8 0, .int .i32 0, .int .i32 0, .int .i32 0] 68) = W1 at *
  generalize w.heap.size = b4 at *
  clear hWg
  go_loopw [9] (fun cc wr => ∃ j : Nat, j ≤ n ∧ cc = .int .i64 j ∧ fst (C.take j) k = none ∧ Own w wr [Cells b4 #[.int .u8 0, .int .i32 0, .int .i32 0, .int .i32 0] 68]) (fun cc _ => n - (intOf cc).toNat)
  case atStart => exact ⟨0, Nat.zero_le _, rfl, by simp [fst], HS.out⟩
  case round =>
    obtain ⟨j, hj, rfl, hno, hO⟩ := hrel
    have HN : Hid (fst (C.take j) k = none) := hno
    clear hno HS
    by_cases hlt : j < n
    · obtain ⟨y, hy⟩ : ∃ y, C[j]? = some y := ⟨_, List.getElem?_eq_getElem (by rw [HL.out.1]; exact hlt)⟩
      obtain ⟨g, o, hao, -, c0, c1, c2, c3⟩ := (HL.out.2.1.quiet hO.fr).at j y hy
      subst hao
      have hlt' : (j : Int) < (n : Int) := by omega
      have hb1 : g < wr.heap.size := World.block_lt_of_cell? wr _ c0
      have hb2 : wr.heap.size ≠ g := by omega
      have hB := hO.allocC #[.int .u8 (y.k : Int), .int .i32 y.a, .int .i32 y.b, .int .i32 y.c] 68
      have hb4 := (Own.two hB).lt
      have hne := hO.lt
      have hne2 : wr.heap.size ≠ b4 := by omega
      by_cases he : y.k = k
      · have hyq : y = q := by
          have := fst_hit hy HN.out he
          rw [HL.out.2.2] at this
          exact (Option.some.inj this).symm
        subst hyq
        have he' : ((y.k : Int) == (k : Int)) = true := by rw [he]; simp
        have z0 := hO.froz 0
        have z1 := hO.froz 1
        have z2 := hO.froz 2
        have z3 := hO.froz 3
        have v0 := hO.cell 0
        have v1 := hO.cell 1
        have v2 := hO.cell 2
        have v3 := hO.cell 3
        simp at v0 v1 v2 v3
        have h9 := ((((hO.setC 0 (.int .u8 (y.k : Int))).setC 1 (.int .i32 y.a)).setC 2 (.int .i32 y.b)).setC 3 (.int .i32 y.c)).allocC #[.int .u8 (y.k : Int), .int .i32 y.a, .int .i32 y.b, .int .i32 y.c] 68
        simp at h9
        have h9 := h9.two
        have H9 : Hid (Own w _ _) := h9
        clear hy he hO hB h9 HL
        obtain ⟨yk, ya, yb, yc⟩ := y
        simp only at c0 c1 c2 c3 he' H9 z0 z1 z2 z3 v0 v1 v2 v3
        go_wp2
        (try simp only [Exit.inBlock, Exit.then])
        refine bodyPost_ret (results_cell_row rfl _ _ b4 68 #[.int .u8 (yk : Int), .int .i32 ya, .int .i32 yb, .int .i32 yc] _ _ rfl H9.out.obj Tryz.underlying68 rfl (by kernel_rfl)) rfl ?_
        exact ⟨rfl, H9.out.fr⟩
      · have he' : ((y.k : Int) == (k : Int)) = false := by rw [beq_eq_false_iff_ne]; omega
        have HH : Hid (fst (C.take (j + 1)) k = none) := fst_miss hy HN.out he
        have HB : Hid (Own w _ _) := hB.tail
        clear hy he hO hB
        obtain ⟨yk, ya, yb, yc⟩ := y
        simp only at c0 c1 c2 c3 he' HB
        go_wp2
        go_roundw
        case rel => exact ⟨j + 1, by omega, by go_num, HH.out, HB.out⟩
        case measure => simp [intOf]; omega
    · exfalso
      have h1 := HN.out
      rw [List.take_of_length_le (by rw [HL.out.1]; omega), HL.out.2.2] at h1
      cases h1
end Go.Proofs.YtbencjopjdjepaaGreatDoor

/-
  What an entity was: the library's search, and before.
-/
namespace Go.Proofs.YtbencjopjdjepaaGreatDoor
open Go.RowKit
set_option linter.unusedVariables false
set_option maxRecDepth 100000

theorem up_at {E : List EnE} (h : (evs E).Pairwise (fun a b => a.1 < b.1)) {i j : Nat} {x y : EnE} (hx : E[i]? = some x) (hy : E[j]? = some y) (hij : i < j) : x.id < y.id := by
  have h1 := List.getElem?_eq_some_iff.1 (evs_at hx)
  have h2 := List.getElem?_eq_some_iff.1 (evs_at hy)
  have := List.pairwise_iff_getElem.1 h i j h1.1 h2.1 hij
  rw [h1.2, h2.2] at this
  exact this
/-- what the search answers -/
def BsR (E : List EnE) (id : Nat) (w : World) (e : Ending) (w' : World) : Prop := ∃ (i : Nat) (f : Bool), e = .returned (.tuple #[.int .i64 (i : Int), .bool f]) ∧ (∀ m x, E[m]? = some x → x.id = id → i = m ∧ f = true) ∧ Fr Nobody w w'
set_option maxHeartbeats 4000000 in
theorem bsearch_any (w : World) (ao : Option Addr) (n cap : Nat) (E : List EnE) (hE : EntsAt w ao E) (hn : E.length = n) (hm : n ≤ 1000000) (hup : (evs E).Pairwise (fun a b => a.1 < b.1)) (id : Nat) :
    Calls Tryz.prog 196 #[.slice ao n cap, .int .u32 (id : Int), .func (.func 197) #[] #[]] w (BsR E id w) := by
  have HL : Hid (E.length = n ∧ EntsAt w ao E ∧ (evs E).Pairwise (fun a b => a.1 < b.1)) := ⟨hn, hE, hup⟩
  obtain ⟨tid, htid⟩ : ∃ t, t = id := ⟨_, rfl⟩
  rw [← htid]
  clear hn hE hup htid
  go_enter Tryz.func196, Tryz.ntmps196
  go_wp2
  go_loopw [9, 10] (fun v9 v10 wr => ∃ i j : Nat, v9 = .int .i64 (i : Int) ∧ v10 = .int .i64 (j : Int) ∧ i ≤ j ∧ j ≤ n ∧ (∀ m x, m < i → E[m]? = some x → x.id < tid) ∧ (∀ m x, j ≤ m → E[m]? = some x → tid ≤ x.id) ∧ Fr Nobody w wr) (fun v9 v10 _ => (intOf v10).toNat - (intOf v9).toNat)
  case atStart => exact ⟨0, n, rfl, rfl, Nat.zero_le _, Nat.le_refl _, (fun m x hm => by omega), (fun m x hm hx => by have := (List.getElem?_eq_some_iff.1 hx).1; have := HL.out.1; omega), Fr.refl _ _⟩
  case round =>
    obtain ⟨i, j, rfl, rfl, hij, hjn, hlow, hhigh, hf⟩ := hrel
    have HLO : Hid (∀ m x, m < i → E[m]? = some x → x.id < tid) := hlow
    have HHI : Hid (∀ m x, j ≤ m → E[m]? = some x → tid ≤ x.id) := hhigh
    have HF : Hid (Fr Nobody w wr) := hf
    clear hlow hhigh hf
    by_cases hlt : i < j
    · have hlt' : (i : Int) < (j : Int) := by omega
      obtain ⟨h, hh⟩ : ∃ h, h = (i + j) / 2 := ⟨_, rfl⟩
      have eh : ((i : Int) + (j : Int)) / 2 = (h : Int) := by omega
      have hhi : i ≤ h := by omega
      have hhj : h < j := by omega
      clear hh
      obtain ⟨x, hx⟩ : ∃ x, E[h]? = some x := ⟨_, List.getElem?_eq_getElem (by rw [HL.out.1]; omega)⟩
      obtain ⟨g, o, hga, c0, c1, -⟩ := (HL.out.2.1.quiet HF.out).at hx
      subst hga
      have hhn : (h : Int) < (n : Int) := by omega
      have HX : Hid (E[h]? = some x) := hx
      have HC : Hid (Calls _ _ _ _ _) := before1_any wr x.id x.ao x.C.length x.cap tid
      clear hx
      by_cases hc : x.id < tid
      · have ec : cmpN x.id tid = -1 := by unfold cmpN; rw [if_pos hc]
        rw [ec] at HC
        have HLO2 : Hid (∀ m y, m < h + 1 → E[m]? = some y → y.id < tid) := fun m y hm hy => by
          rcases Nat.lt_or_ge m h with hm2 | hm2
          · have := up_at HL.out.2.2 hy HX.out hm2; omega
          · have : m = h := by omega
            subst this
            rw [HX.out] at hy
            cases hy
            exact hc
        clear hc ec HX
        obtain ⟨xi, xa, xc, xC⟩ := x
        simp only at c0 c1 HC
        go_wp2_with fail
        refine HC.out.mono ?_
        rintro e w2 ⟨rfl, hf2⟩
        have HF2 : Hid (Fr Nobody w w2) := HF.out.trans hf2
        clear hf2 HC
        go_wp2
        go_roundw
        case rel => exact ⟨h + 1, j, by go_num, rfl, by omega, by omega, HLO2.out, HHI.out, HF2.out⟩
        case measure => simp [intOf]; omega
      · have ec : ¬ cmpN x.id tid < 0 := by unfold cmpN; rw [if_neg hc]; split <;> decide
        obtain ⟨r, hr⟩ : ∃ r, r = cmpN x.id tid := ⟨_, rfl⟩
        rw [← hr] at HC ec
        have HHI2 : Hid (∀ m y, h ≤ m → E[m]? = some y → tid ≤ y.id) := fun m y hm hy => by
          rcases Nat.lt_or_ge h m with hm2 | hm2
          · have := up_at HL.out.2.2 HX.out hy hm2; omega
          · have : m = h := by omega
            subst this
            rw [HX.out] at hy
            cases hy
            omega
        clear hc hr HX
        obtain ⟨xi, xa, xc, xC⟩ := x
        simp only at c0 c1 HC
        go_wp2_with fail
        refine HC.out.mono ?_
        rintro e w2 ⟨rfl, hf2⟩
        have HF2 : Hid (Fr Nobody w w2) := HF.out.trans hf2
        clear hf2 HC
        go_wp2
        go_roundw
        case rel => exact ⟨i, h, rfl, rfl, hhi, by omega, HLO.out, HHI2.out, HF2.out⟩
        case measure => simp [intOf]; omega
    · have hlt' : ¬ (i : Int) < (j : Int) := by omega
      have hij2 : i = j := by omega
      subst hij2
      by_cases hin : i < n
      · have hin' : (i : Int) < (n : Int) := by omega
        obtain ⟨x, hx⟩ : ∃ x, E[i]? = some x := ⟨_, List.getElem?_eq_getElem (by rw [HL.out.1]; omega)⟩
        obtain ⟨g, o, hga, c0, c1, -⟩ := (HL.out.2.1.quiet HF.out).at hx
        subst hga
        have HC : Hid (Calls _ _ _ _ _) := before1_any wr x.id x.ao x.C.length x.cap tid
        obtain ⟨f, hfx⟩ : ∃ f, (cmpN x.id tid == 0) = f := ⟨_, rfl⟩
        have HR : Hid (∀ m y, E[m]? = some y → y.id = tid → i = m ∧ f = true) := fun m y hy hyt => by
          have h1 : ¬ m < i := fun hm => by have := HLO.out m y hm hy; omega
          have h2 : ¬ i < m := fun hm => by
            have h3 := up_at HL.out.2.2 hx hy hm
            have h4 := HHI.out i x (Nat.le_refl _) hx
            omega
          have h3 : i = m := by omega
          subst h3
          rw [hx] at hy
          cases hy
          refine ⟨rfl, ?_⟩
          rw [← hfx, hyt]
          simp [cmpN]
        generalize cmpN x.id tid = r at *
        clear hx
        obtain ⟨xi, xa, xc, xC⟩ := x
        simp only at c0 c1 HC
        go_wp2_with fail
        refine HC.out.mono ?_
        rintro e w2 ⟨rfl, hf2⟩
        have HF2 : Hid (Fr Nobody w w2) := HF.out.trans hf2
        clear hf2 HC
        go_wp2
        go_ret2
        unfold BsR
        exact ⟨i, f, by simp, HR.out, HF2.out⟩
      · have hin' : ¬ (i : Int) < (n : Int) := by omega
        have HR : Hid (∀ m y, E[m]? = some y → y.id = tid → i = m ∧ false = true) := fun m y hy hyt => by
          have h1 := (List.getElem?_eq_some_iff.1 hy).1
          have := HLO.out m y (by have := HL.out.1; omega) hy
          omega
        go_wp2
        go_ret2
        unfold BsR
        exact ⟨i, false, rfl, HR.out, HF.out⟩
set_option maxHeartbeats 1000000 in
theorem before_ok (w : World) (ao : Option Addr) (n cap : Nat) (E : List EnE) (hE : EntsAt w ao E) (hn : E.length = n) (hm : n ≤ 1000000) (hup : (evs E).Pairwise (fun a b => a.1 < b.1)) (m : Nat) (x : EnE) (hx : E[m]? = some x) :
    Calls Tryz.prog 174 #[.slice ao n cap, .int .u32 (x.id : Int)] w fun e w' => e = .returned (.slice x.ao x.C.length x.cap) ∧ Fr Nobody w w' := by
  have HB : Hid (Calls _ _ _ _ _) := bsearch_any w ao n cap E hE hn hm hup x.id
  have HL : Hid (E[m]? = some x ∧ EntsAt w ao E) := ⟨hx, hE⟩
  have hmn : (m : Int) < (n : Int) := by have := (List.getElem?_eq_some_iff.1 hx).1; omega
  clear hE hn hup hx
  go_enter Tryz.func174, Tryz.ntmps174
  go_wp2_with fail
  refine HB.out.mono ?_
  rintro e w2 ⟨i, f, rfl, hif, hf2⟩
  obtain ⟨rfl, rfl⟩ := hif m x HL.out.1 rfl
  obtain ⟨g, o, hga, c0, c1, -⟩ := (HL.out.2.quiet hf2).at HL.out.1
  subst hga
  have HF : Hid (Fr Nobody w w2) := hf2
  clear hf2 hif HB HL
  obtain ⟨xi, xa, xc, xC⟩ := x
  simp only at c0 c1
  go_wp2
  go_ret
  exact ⟨rfl, HF.out⟩
end Go.Proofs.YtbencjopjdjepaaGreatDoor

