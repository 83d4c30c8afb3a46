/-
  The content of a Full and of a Step between snapshots.
-/
import Derived.Test.YtheafmecpnjdjaaDoorPkpg
import Derived.Test.YtheafmecpnjdjaaDoorEnog
import Derived.Test.YtheafmecpnjdjaaDoorPkcg
import Derived.Test.YtheafmecpnjdjaaDoorEnag
import Derived.Test.YtheafmecpnjdjaaDoorZo
import Derived.OpenShut
import Derived.Test.YtheafmecpnjdjaaDoorSjg
import Derived.Test.YtheafmecpnjdjaaDoorEnfg
import Derived.Test.YtheafmecpnjdjaaDoorGkg
import Derived.Test.YtheafmecpnjdjaaDoorSc
import Derived.Test.YtheafmecpnjdjaaDoorTie
import Derived.Test.YtheafmecpnjdjaaDoorCards
import Derived.ProofKit
import Derived.LaidMore
import Derived.SevenTiedAt
import Derived.Stop.Joined
namespace Go.Proofs.YtheafmecpnjdjaaDoor
open Go.RowKit
set_option linter.unusedVariables false
set_option maxRecDepth 100000

theorem chz_of (W N : List En) : chz (N.filterMap (chgO W)) ≤ 2 * cszV N := by
  induction N with
  | nil => simp [chz]
  | cons e t ih =>
    rw [List.filterMap_cons]
    rcases hx : chgO W e with _ | c
    · simp only [cszV]; omega
    · obtain ⟨x, _, rfl⟩ := chgO_of hx
      have h1 := List.length_filter_le (isNew x.2) e.2
      have h2 := List.length_filter_le (isSet x.2) e.2
      have e1 : (chg1 x e).new.length = (e.2.filter (isNew x.2)).length := rfl
      have e2 : (chg1 x e).set.length = (e.2.filter (isSet x.2)).length := rfl
      simp only [chz, cszV]
      omega
theorem dsz_of {W N : List EnE} {d : DlE} (hW : fm 0 (evs W) = 0) (hN : fm 0 (evs N) = 0) (hd : d.v = btw (evs W) (evs N)) : dsz d ≤ esz W + 4 * esz N := by
  have sW := Snap.of hW
  have sN := Snap.of hN
  have hcs := come_sz (evs W) (evs N)
  rw [← hd] at hcs
  have hc2 : cszV (evs d.M) ≤ cszV (evs N) := hcs
  rw [cszV_evs, cszV_evs] at hc2
  rw [btw_dlt _ _ sW.up sN.up] at hd
  have hg : d.G.length = (((evs W).filter (fun e => (fstE (evs N) e.1).isNone)).map (·.1)).length := congrArg (fun x => x.gone.length) hd
  have hm : (evs d.M).length = ((evs N).filter (fun e => (fstE (evs W) e.1).isNone)).length := congrArg (fun x => x.come.length) hd
  have hh : d.H.map ChE.v = (evs N).filterMap (chgO (evs W)) := congrArg Dl.chg hd
  have h1 := List.length_filter_le (fun e => (fstE (evs N) e.1).isNone) (evs W)
  have h2 := List.length_filter_le (fun e => (fstE (evs W) e.1).isNone) (evs N)
  have h3 := List.length_filterMap_le (chgO (evs W)) (evs N)
  have h4 := chz_of (evs W) (evs N)
  rw [← hh] at h3 h4
  rw [List.length_map] at hg h3
  rw [evs_len] at hm h1 h2 h3
  rw [cszV_evs] at h4
  unfold dsz esz
  omega
set_option maxHeartbeats 1000000 in
theorem content_full (w0 w : World) (ht : Tab w0) (l : List Thing) (p b : Nat) (L : List Bool) (wv : Value) (h : Own w0 w (penC p b :: WrT b L :: l)) (an : Option Addr) (nn cn : Nat) (N : List EnE) (hQ : ∀ w', Own w0 w' l → EntsAt w' an N) (hN : N.length = nn) (hIN : EIn N) (hzN : esz N ≤ 400) (hf : fm 0 (evs N) = 0) (hl : L.length ≤ 1000) :
    Calls Tryd.prog 20 #[.pointer (some ⟨p, 0, none⟩), .int .u8 1, wv, .slice an nn cn] w fun e w' => e = .returned (.int .i64 0) ∧ Own w0 w' (penC p b :: WrT b (L ++ (var nn ++ entsB 0 (evs N))) :: l) := by
  have hF := form_any w (ht.quiet h.fr) an nn cn N (hQ w h.tail.tail) hN hIN (by omega)
  rw [hf] at hF
  have HF : Hid (Calls Tryd.prog 33 #[.slice an nn cn] w fun e w' => e = .returned (.int .i64 0) ∧ Fr Nobody w w') := hF
  have HP : Hid (∀ Z, Own w0 Z (penC p b :: WrT b L :: l) → Calls Tryd.prog 34 #[.pointer (some ⟨p, 0, none⟩), .slice an nn cn] Z fun e w' => e = .returned (.tuple #[]) ∧ Own w0 w' (penC p b :: WrT b ((L ++ var nn) ++ entsB 0 (evs N)) :: l)) := fun Z hZ => pents w0 Z ht l p b L an nn cn N hZ hQ hN hIN (Snap.of hf).up (fm_each hf) (by omega)
  have H : Hid (Own w0 w (penC p b :: WrT b L :: l)) := h
  have z0 : ((0 : Int) != 0) = false := rfl
  rw [← List.append_assoc]
  clear h hQ hN hIN hzN hf hl hF ht
  go_enter Tryd.func20, Tryd.ntmps20
  go_wp2_with fail
  refine HF.out.mono ?_
  rintro e w1 ⟨rfl, hf1⟩
  have HP1 : Hid (Calls _ _ _ _ _) := HP.out w1 (H.out.quiet hf1)
  clear hf1 HF HP H
  go_wp2_with fail
  refine HP1.out.mono ?_
  rintro e w2 ⟨rfl, h2⟩
  have H2 : Hid (Own w0 w2 _) := h2
  clear h2 HP1
  go_wp2
  go_ret
  exact ⟨rfl, by first | exact H2.out | (rw [← List.append_assoc]; exact H2.out)⟩
set_option maxHeartbeats 2000000 in
theorem content_step (w0 w : World) (ht : Tab w0) (l : List Thing) (p b : Nat) (L : List Bool) (h : Own w0 w (penC p b :: WrT b L :: l)) (aw an : Option Addr) (nw nn cw cn : Nat) (W N : List EnE) (hQ : ∀ w', Own w0 w' l → EntsAt w' aw W ∧ EntsAt w' an N) (hW : W.length = nw) (hN : N.length = nn) (hcw : nw ≤ cw) (hcn : nn ≤ cn) (hmw : cw ≤ 9223372036854775807) (hmn : cn ≤ 9223372036854775807) (hIW : EIn W) (hIN : EIn N) (hzW : esz W ≤ 400) (hzN : esz N ≤ 400) (hf : fm 0 (evs W) = 0) (hg : fm 0 (evs N) = 0) (hl : L.length ≤ 1000) :
    Calls Tryd.prog 20 #[.pointer (some ⟨p, 0, none⟩), .int .u8 2, .slice aw nw cw, .slice an nn cn] w fun e w' => e = .returned (.int .i64 0) ∧ Own w0 w' (penC p b :: WrT b (L ++ dltB (evs W) (btw (evs W) (evs N))) :: l) := by
  have HD : Hid (Calls _ _ _ _ _) := diff_any w0 w ht _ h aw an nw nn cw cn W N (fun w' hw => hQ w' hw.tail.tail) hW hN hcw hcn hmw hmn hIW hIN (by omega) (by omega)
  have hdc : dcode (evs W) (evs N) = 0 := by unfold dcode; simp [hf, hg]
  have hdv : dlv (evs W) (evs N) = btw (evs W) (evs N) := by unfold dlv; rw [if_pos hdc]
  rw [hdc, hdv] at HD
  have HPD : Hid (∀ Z (d : DlE) (X : Thing), d.v = btw (evs W) (evs N) → Own w0 Z (penC p b :: WrT b L :: X :: (d.things ++ l)) → Calls Tryd.prog 36 #[.pointer (some ⟨p, 0, none⟩), .slice aw nw cw, .agg #[.slice d.ga d.G.length d.gc, .slice d.ma d.M.length d.mc, .slice d.ha d.H.length d.hc]] Z fun e w' => e = .returned (.tuple #[]) ∧ Own w0 w' (penC p b :: WrT b (L ++ dltB (evs W) (btw (evs W) (evs N))) :: X :: (d.things ++ l))) := fun Z d X hd hZ => by
    have hds := dsz_of hf hg hd
    have h1 := pdelta w0 Z ht (X :: (d.things ++ l)) p b L aw nw cw W d hZ (fun w' hw => (hQ w' hw.tail.dropA).1) (fun w' hw j i hi => by
      obtain ⟨g, o, hga, hc⟩ := hw.tail.dlAt.g.at hi
      exact ⟨g, o, hga, hc⟩) (fun w' hw => hw.tail.dlAt.m) (fun w' hw j x hx => by
      obtain ⟨g, o, hga, hc, hn, hs⟩ := hw.tail.dlAt.h.at hx
      exact ⟨g, o, hga, hc, hn, hs⟩) hW (by omega) (Snap.of hf).up (dtOk_of hf hg hIW hIN hd) (by omega)
    rw [hd] at h1
    exact h1
  clear h hQ hW hN hcw hcn hmw hmn hIW hIN hzW hzN hf hg hdc hdv hl ht
  go_enter Tryd.func20, Tryd.ntmps20
  go_wp2_with fail
  refine HD.out.mono ?_
  rintro e w1 ⟨d, rfl, hd, h1⟩
  unfold DlE.vs
  have h2 := (h1.perm (List.perm_append_comm_assoc d.things [penC p b, WrT b L] l)).allocC #[.slice d.ga d.G.length d.gc, .slice d.ma d.M.length d.mc, .slice d.ha d.H.length d.hc] 75
  have q0 := h2.cell 0
  have q1 := h2.cell 1
  have q2 := h2.cell 2
  simp at q0 q1 q2
  have HP : Hid (Calls _ _ _ _ _) := HPD.out _ d _ hd h2.two.in23
  have z0 : ((0 : Int) != 0) = false := rfl
  clear h1 h2 hd HD HPD
  go_wp2_with fail
  refine HP.out.mono ?_
  rintro e w2 ⟨rfl, h3⟩
  have h4 := h3.three.tail
  have H3 : Hid (Own w0 w2 (penC p b :: WrT b (L ++ dltB (evs W) (btw (evs W) (evs N))) :: l)) := by
    have h5 := h4.perm ((List.perm_append_comm_assoc [penC p b, WrT b (L ++ dltB (evs W) (btw (evs W) (evs N)))] d.things l))
    exact h5.dropA
  clear h3 h4 HP q0 q1 q2
  go_wp2
  go_ret
  exact ⟨rfl, H3.out⟩
end Go.Proofs.YtheafmecpnjdjaaDoor

/-
  Bits that can be parted: numbers of a width, and Var.
-/
namespace Go.Proofs.YtheafmecpnjdjaaDoor
open Go.RowKit
set_option linter.unusedVariables false
set_option maxRecDepth 100000

theorem bits_cut {n v w : Nat} {r s : List Bool} (hv : v < 2 ^ n) (hw : w < 2 ^ n) (h : bitsN n v ++ r = bitsN n w ++ s) : v = w ∧ r = s := by
  have h1 := List.append_inj h (by rw [length_bitsN, length_bitsN])
  refine ⟨?_, h1.2⟩
  have h2 := congrArg num h1.1
  rw [num_bitsN, num_bitsN, Nat.mod_eq_of_lt hv, Nat.mod_eq_of_lt hw] at h2
  exact h2
theorem varTo_groups (v w n m : Nat) : ∀ k, varTo v n k = varTo w m k → ∀ i, i < k → grpAt v n i = grpAt w m i := by
  intro k
  induction k with
  | zero => intro _ i hi; omega
  | succ k ih =>
    intro h i hi
    rw [varTo, varTo] at h
    have h1 := List.append_inj h (by rw [length_varTo, length_varTo])
    rcases Nat.lt_or_ge i k with hk | hk
    · exact ih h1.1 i hk
    · have : i = k := by omega
      subst this
      have h2 : bitsN 5 (grpAt v n i) ++ [] = bitsN 5 (grpAt w m i) ++ [] := by rw [h1.2]
      exact (bits_cut (Nat.lt_of_lt_of_le (grpAt_lt v n i) (by decide)) (Nat.lt_of_lt_of_le (grpAt_lt w m i) (by decide)) h2).1
theorem varTo_split (w m n j : Nat) : ∃ t, varTo w m (n + j) = varTo w m n ++ t ∧ (j = 0 → t = []) := by
  induction j with
  | zero => exact ⟨[], by simp, fun _ => rfl⟩
  | succ j ih =>
    obtain ⟨t, ht, _⟩ := ih
    exact ⟨t ++ bitsN 5 (grpAt w m (n + j)), by rw [← Nat.add_assoc, varTo, ht, List.append_assoc], fun h => by omega⟩
theorem dig_eq : ∀ (n v w : Nat), v < 2 ^ (4 * n) → w < 2 ^ (4 * n) → (∀ i, i < n → v / 2 ^ (4 * i) % 16 = w / 2 ^ (4 * i) % 16) → v = w := by
  intro n
  induction n with
  | zero => intro v w hv hw _; simp at hv hw; omega
  | succ n ih =>
    intro v w hv hw h
    have h0 := h 0 (by omega)
    simp at h0
    have e : 2 ^ (4 * (n + 1)) = 16 * 2 ^ (4 * n) := by rw [Nat.mul_add, Nat.pow_add]; omega
    rw [e] at hv hw
    have h1 := ih (v / 16) (w / 16) (Nat.div_lt_of_lt_mul hv) (Nat.div_lt_of_lt_mul hw) (fun i hi => by
      have h2 := h (i + 1) (by omega)
      have e2 : 2 ^ (4 * (i + 1)) = 16 * 2 ^ (4 * i) := by rw [Nat.mul_add, Nat.pow_add]; omega
      rw [e2] at h2
      rw [Nat.div_div_eq_div_mul, Nat.div_div_eq_div_mul]
      exact h2)
    omega
theorem lt_grp (v : Nat) (h : v < 18446744073709551616) : v < 2 ^ (4 * grp v) := by
  refine Nat.lt_of_lt_of_le (lt_bitLen v h) (Nat.pow_le_pow_right (by decide) ?_)
  unfold grp
  omega
theorem var_cut_le {v w : Nat} {r s : List Bool} (hv : v < 18446744073709551616) (hw : w < 18446744073709551616) (hle : grp v ≤ grp w) (h : var v ++ r = var w ++ s) : v = w ∧ r = s := by
  obtain ⟨j, hj⟩ : ∃ j, grp w = grp v + j := ⟨grp w - grp v, by omega⟩
  obtain ⟨t, ht, ht0⟩ := varTo_split w (grp w) (grp v) j
  have hb := grp_bd v hv
  unfold var at h
  have e : varTo w (grp w) (grp w) = varTo w (grp w) (grp v) ++ t := by rw [← ht, ← hj]
  rw [e, List.append_assoc] at h
  have h1 := List.append_inj h (by rw [length_varTo, length_varTo])
  have h2 := varTo_groups v w (grp v) (grp w) (grp v) h1.1
  have h3 := h2 (grp v - 1) (by omega)
  unfold grpAt at h3
  rw [if_neg (by omega)] at h3
  have hj0 : j = 0 := by
    rcases Nat.eq_zero_or_pos j with h0 | h0
    · exact h0
    · rw [if_pos (by omega)] at h3; omega
  have hg : grp w = grp v := by omega
  have hr : r = s := by rw [h1.2, ht0 hj0]; rfl
  refine ⟨?_, hr⟩
  refine dig_eq (grp v) v w (lt_grp v hv) (by rw [← hg]; exact lt_grp w hw) (fun i hi => ?_)
  have h4 := h2 i hi
  unfold grpAt at h4
  rw [hg] at h4
  omega
/-- Var can be parted from what follows -/
theorem var_cut {v w : Nat} {r s : List Bool} (hv : v < 18446744073709551616) (hw : w < 18446744073709551616) (h : var v ++ r = var w ++ s) : v = w ∧ r = s := by
  rcases Nat.le_total (grp v) (grp w) with hle | hle
  · exact var_cut_le hv hw hle h
  · obtain ⟨h1, h2⟩ := var_cut_le hw hv hle h.symm
    exact ⟨h1.symm, h2.symm⟩
theorem idB_cut {a i j : Nat} {r s : List Bool} (hi : a < i ∧ i < 4294967296) (hj : a < j ∧ j < 4294967296) (h : idB a i ++ r = idB a j ++ s) : i = j ∧ r = s := by
  unfold idB at h
  obtain ⟨h1, h2⟩ := var_cut (by omega) (by omega) h
  exact ⟨by omega, h2⟩
end Go.Proofs.YtheafmecpnjdjaaDoor

/-
  Bits that can be parted: components behind their mask.
-/
namespace Go.Proofs.YtheafmecpnjdjaaDoor
open Go.RowKit
set_option linter.unusedVariables false
set_option maxRecDepth 100000

theorem val_inj : ∀ (a b c d e f a' b' c' d' e' f' : Bool), val a b c d e f = val a' b' c' d' e' f' → a = a' ∧ b = b' ∧ c = c' ∧ d = d' ∧ e = e' ∧ f = f' := by
  intro a b c d e f a' b' c' d' e' f' h
  unfold val at h
  cases a <;> cases a' <;> cases b <;> cases b' <;> simp at h ⊢ <;> first | omega | (cases c <;> cases c' <;> cases d <;> cases d' <;> simp at h ⊢ <;> first | omega | (cases e <;> cases e' <;> cases f <;> cases f' <;> simp at h ⊢))
theorem msk_has {C D : List Cp} (h : msk C = msk D) : ∀ k, k < 6 → hasK C k = hasK D k := by
  rw [msk_val, msk_val] at h
  obtain ⟨h0, h1, h2, h3, h4, h5⟩ := val_inj _ _ _ _ _ _ _ _ _ _ _ _ h
  intro k hk
  match k, hk with
  | 0, _ => exact h0
  | 1, _ => exact h1
  | 2, _ => exact h2
  | 3, _ => exact h3
  | 4, _ => exact h4
  | 5, _ => exact h5
theorem kinds_eq {C D : List Cp} (hC : Good C) (hD : Good D) (h : msk C = msk D) : C.map (·.k) = D.map (·.k) := by
  have hm := msk_has h
  have key : ∀ {A B : List Cp}, Good A → (∀ k, k < 6 → hasK A k = hasK B k) → ∀ x, x ∈ A.map (·.k) → x ∈ B.map (·.k) := fun hA hk x hx => by
    obtain ⟨q, hq, rfl⟩ := List.mem_map.1 hx
    have h1 := mem_hasK hq
    rw [hk q.k (hA.2 q hq)] at h1
    obtain ⟨y, hy⟩ := hasK_fst h1
    have h2 := fst_some hy
    exact List.mem_map.2 ⟨y, h2.1, h2.2⟩
  exact up_mem (fun x : Nat => x) (List.pairwise_map.2 hC.1) (List.pairwise_map.2 hD.1) (fun x => ⟨key hC hm x, key hD (fun k hk => (hm k hk).symm) x⟩)
theorem cb_fields (k : Nat) (F G : Nat → Int) : ∀ n, cb k F n = cb k G n → ∀ j, j < n → fb k F j = fb k G j := by
  intro n
  induction n with
  | zero => intro _ j hj; omega
  | succ n ih =>
    intro h j hj
    rw [cb, cb] at h
    have h1 := List.append_inj h (by rw [length_cb, length_cb])
    rcases Nat.lt_or_ge j n with hk | hk
    · exact ih h1.1 j hk
    · have : j = n := by omega
      subst this
      exact h1.2
theorem fb_eq {k j : Nat} {F G : Nat → Int} (hF : lo k j ≤ F j ∧ F j ≤ hi k j) (hG : lo k j ≤ G j ∧ G j ≤ hi k j) (hj : j < cnt k) (h : fb k F j = fb k G j) : F j = G j := by
  obtain ⟨l0, l1, l2, l3⟩ := rng_ok k j hj
  have a := in_lt (F j) (lo k j) (hi k j) (by omega) (by omega) hF.1 hF.2
  have b := in_lt (G j) (lo k j) (hi k j) (by omega) (by omega) hG.1 hG.2
  unfold fb at h
  have h2 : bitsN (wd k j) (F j - lo k j).toNat ++ [] = bitsN (wd k j) (G j - lo k j).toNat ++ [] := by rw [h]
  have := (bits_cut a b h2).1
  omega
theorem cpB_cut {q q' : Cp} {r s : List Bool} (hk : q.k = q'.k) (hq : chk q.k (f3 q.a q.b q.c) = 0) (hq' : chk q'.k (f3 q'.a q'.b q'.c) = 0) (h : cpB q ++ r = cpB q' ++ s) : q = q' ∧ r = s := by
  obtain ⟨k, a, b, c⟩ := q
  obtain ⟨k', a', b', c'⟩ := q'
  simp only at hk
  subst hk
  unfold cpB at h
  simp only at h hq hq'
  have h1 := List.append_inj h (by rw [length_cb, length_cb])
  obtain ⟨_, f1, f2⟩ := chk_ok _ _ hq
  obtain ⟨_, g1, g2⟩ := chk_ok _ _ hq'
  have key : ∀ j, j < 3 → f3 a b c j = f3 a' b' c' j := fun j hj => by
    by_cases hc : j < cnt k
    · exact fb_eq (f1 j hc) (g1 j hc) hc (cb_fields k _ _ _ h1.1 j hc)
    · rw [f2 j (by omega) hj, g2 j (by omega) hj]
  have e0 : a = a' := key 0 (by decide)
  have e1 : b = b' := key 1 (by decide)
  have e2 : c = c' := key 2 (by decide)
  exact ⟨by rw [e0, e1, e2], h1.2⟩
theorem cpsB_cut : ∀ {C D : List Cp} {r s : List Bool}, C.map (·.k) = D.map (·.k) → (∀ q ∈ C, chk q.k (f3 q.a q.b q.c) = 0) → (∀ q ∈ D, chk q.k (f3 q.a q.b q.c) = 0) → cpsB C ++ r = cpsB D ++ s → C = D ∧ r = s := by
  intro C
  induction C with
  | nil =>
    intro D r s hk _ _ h
    cases D with
    | nil => exact ⟨rfl, h⟩
    | cons q t => simp at hk
  | cons x t ih =>
    intro D r s hk hC hD h
    cases D with
    | nil => simp at hk
    | cons y u =>
      simp only [List.map_cons, List.cons.injEq] at hk
      simp only [cpsB, List.append_assoc] at h
      obtain ⟨h1, h2⟩ := cpB_cut hk.1 (hC x (by simp)) (hD y (by simp)) h
      obtain ⟨h3, h4⟩ := ih hk.2 (fun q hq => hC q (by simp [hq])) (fun q hq => hD q (by simp [hq])) h2
      exact ⟨by rw [h1, h3], h4⟩
/-- an entity that may be told -/
def EnOk (x : En) : Prop := 1024 ≤ x.1 ∧ x.1 < 4294967296 ∧ lst (-1) x.2 = 0 ∧ un x.2 = false
theorem entB_cut {a : Nat} {x y : En} {r s : List Bool} (hx : EnOk x) (hy : EnOk y) (hax : a < x.1) (hay : a < y.1) (h : entB a x ++ r = entB a y ++ s) : x = y ∧ r = s := by
  unfold entB at h
  simp only [List.append_assoc] at h
  obtain ⟨h1, h2⟩ := idB_cut ⟨hax, hx.2.1⟩ ⟨hay, hy.2.1⟩ h
  obtain ⟨h3, h4⟩ := bits_cut (Nat.lt_of_lt_of_le (msk_lt32 hx.2.2.2) (by decide)) (Nat.lt_of_lt_of_le (msk_lt32 hy.2.2.2) (by decide)) h2
  have lx := lst_ok hx.2.2.1
  have ly := lst_ok hy.2.2.1
  obtain ⟨h5, h6⟩ := cpsB_cut (kinds_eq (good_of hx.2.2.1) (good_of hy.2.2.1) h3) (fun q hq => (lx.2 q hq).2) (fun q hq => (ly.2 q hq).2) h4
  exact ⟨Prod.ext h1 h5, h6⟩
theorem entsB_cut : ∀ {X Y : List En} {a : Nat} {r s : List Bool}, X.length = Y.length → X.Pairwise (fun a b => a.1 < b.1) → Y.Pairwise (fun a b => a.1 < b.1) → (∀ x ∈ X, EnOk x ∧ a < x.1) → (∀ x ∈ Y, EnOk x ∧ a < x.1) → entsB a X ++ r = entsB a Y ++ s → X = Y ∧ r = s := by
  intro X
  induction X with
  | nil =>
    intro Y a r s hl _ _ _ _ h
    cases Y with
    | nil => exact ⟨rfl, h⟩
    | cons y t => simp at hl
  | cons x t ih =>
    intro Y a r s hl hX hY oX oY h
    cases Y with
    | nil => simp at hl
    | cons y u =>
      simp only [entsB, List.append_assoc] at h
      have x1 := oX x (by simp)
      have y1 := oY y (by simp)
      obtain ⟨h1, h2⟩ := entB_cut x1.1 y1.1 x1.2 y1.2 h
      subst h1
      have pX := List.pairwise_cons.1 hX
      have pY := List.pairwise_cons.1 hY
      obtain ⟨h3, h4⟩ := ih (by simpa using hl) pX.2 pY.2 (fun z hz => ⟨(oX z (by simp [hz])).1, pX.1 z hz⟩) (fun z hz => ⟨(oY z (by simp [hz])).1, pY.1 z hz⟩) h2
      exact ⟨by rw [h3], h4⟩
end Go.Proofs.YtheafmecpnjdjaaDoor

/-
  Bits that can be parted: components behind what they were, changes, heads.
-/
namespace Go.Proofs.YtheafmecpnjdjaaDoor
open Go.RowKit
set_option linter.unusedVariables false
set_option maxRecDepth 100000

theorem mz_inj {F G G' : Nat → Int} {j : Nat} (h : mz F G j = mz F G' j) : G j = G' j := by
  unfold mz zig at h
  split at h <;> split at h <;> omega
theorem sb_cut {k j : Nat} {F G G' : Nat → Int} {r s : List Bool} (hj : j < cnt k) (hG : lo k j ≤ G j ∧ G j ≤ hi k j) (hG' : lo k j ≤ G' j ∧ G' j ≤ hi k j) (h : sb k F G j ++ r = sb k F G' j ++ s) : G j = G' j ∧ r = s := by
  have b1 : bitsN 1 0 = [false] := rfl
  have b2 : bitsN 2 3 = [true, true] := rfl
  have b3 : bitsN 2 1 = [true, false] := rfl
  unfold sb at h
  by_cases z1 : mz F G j = 0
  · rw [if_pos z1] at h
    by_cases z2 : mz F G' j = 0
    · rw [if_pos z2, b1] at h
      exact ⟨mz_inj (by rw [z1, z2]), by simpa using h⟩
    · rw [if_neg z2] at h
      split at h
      · rw [b1, b2] at h; simp at h
      · rw [b1, b3] at h; simp at h
  · rw [if_neg z1] at h
    by_cases n1 : mz F G j ≤ 16
    · rw [if_pos n1] at h
      by_cases z2 : mz F G' j = 0
      · rw [if_pos z2, b1, b2] at h; simp at h
      · rw [if_neg z2] at h
        by_cases n2 : mz F G' j ≤ 16
        · rw [if_pos n2, b2] at h
          simp only [List.cons_append, List.nil_append, List.cons.injEq, true_and] at h
          obtain ⟨h1, h2⟩ := bits_cut (n := 4) (by show _ < 16; omega) (by show _ < 16; omega) h
          exact ⟨mz_inj (F := F) (by omega), h2⟩
        · rw [if_neg n2, b2, b3] at h; simp at h
    · rw [if_neg n1] at h
      by_cases z2 : mz F G' j = 0
      · rw [if_pos z2, b1, b3] at h; simp at h
      · rw [if_neg z2] at h
        by_cases n2 : mz F G' j ≤ 16
        · rw [if_pos n2, b2, b3] at h; simp at h
        · rw [if_neg n2, b3] at h
          simp only [List.cons_append, List.nil_append, List.cons.injEq, true_and] at h
          have h1 := List.append_inj h (by rw [length_fb, length_fb])
          exact ⟨fb_eq hG hG' hj h1.1, h1.2⟩
theorem sbs_cut {k : Nat} {F G G' : Nat → Int} (hG : ∀ j, j < cnt k → lo k j ≤ G j ∧ G j ≤ hi k j) (hG' : ∀ j, j < cnt k → lo k j ≤ G' j ∧ G' j ≤ hi k j) : ∀ (n : Nat) {r s : List Bool}, n ≤ cnt k → sbs k F G n ++ r = sbs k F G' n ++ s → (∀ j, j < n → G j = G' j) ∧ r = s := by
  intro n
  induction n with
  | zero => intro r s _ h; exact ⟨fun j hj => by omega, by simpa [sbs] using h⟩
  | succ n ih =>
    intro r s hn h
    rw [sbs, sbs, List.append_assoc, List.append_assoc] at h
    obtain ⟨h1, h2⟩ := ih (by omega) h
    obtain ⟨h3, h4⟩ := sb_cut (by omega) (hG n (by omega)) (hG' n (by omega)) h2
    refine ⟨fun j hj => ?_, h4⟩
    rcases Nat.lt_or_ge j n with hk | hk
    · exact h1 j hk
    · have : j = n := by omega
      subst this
      exact h3
def StOk (A : List Cp) (q : Cp) : Prop := (∃ y, fst A q.k = some y) ∧ chk q.k (f3 q.a q.b q.c) = 0
theorem stpB_cut {A : List Cp} {q q' : Cp} {r s : List Bool} (hk : q.k = q'.k) (hq : StOk A q) (hq' : StOk A q') (h : stpB A q ++ r = stpB A q' ++ s) : q = q' ∧ r = s := by
  obtain ⟨k, a, b, c⟩ := q
  obtain ⟨k', a', b', c'⟩ := q'
  simp only at hk
  subst hk
  obtain ⟨⟨y, hy⟩, hc⟩ := hq
  obtain ⟨_, hc'⟩ := hq'
  unfold stpB at h
  simp only at h hy hc hc'
  rw [hy] at h
  simp only at h
  obtain ⟨_, f1, f2⟩ := chk_ok _ _ hc
  obtain ⟨_, g1, g2⟩ := chk_ok _ _ hc'
  obtain ⟨h1, h2⟩ := sbs_cut f1 g1 _ (Nat.le_refl _) h
  have key : ∀ j, j < 3 → f3 a b c j = f3 a' b' c' j := fun j hj => by
    by_cases hcn : j < cnt k
    · exact h1 j hcn
    · rw [f2 j (by omega) hj, g2 j (by omega) hj]
  have e0 : a = a' := key 0 (by decide)
  have e1 : b = b' := key 1 (by decide)
  have e2 : c = c' := key 2 (by decide)
  exact ⟨by rw [e0, e1, e2], h2⟩
theorem stpsB_cut {A : List Cp} : ∀ {C D : List Cp} {r s : List Bool}, C.map (·.k) = D.map (·.k) → (∀ q ∈ C, StOk A q) → (∀ q ∈ D, StOk A q) → stpsB A C ++ r = stpsB A D ++ s → C = D ∧ r = s := by
  intro C
  induction C with
  | nil =>
    intro D r s hk _ _ h
    cases D with
    | nil => exact ⟨rfl, h⟩
    | cons q t => simp at hk
  | cons x t ih =>
    intro D r s hk hC hD h
    cases D with
    | nil => simp at hk
    | cons y u =>
      simp only [List.map_cons, List.cons.injEq] at hk
      simp only [stpsB, List.append_assoc] at h
      obtain ⟨h1, h2⟩ := stpB_cut hk.1 (hC x (by simp)) (hD y (by simp)) h
      obtain ⟨h3, h4⟩ := ih hk.2 (fun q hq => hC q (by simp [hq])) (fun q hq => hD q (by simp [hq])) h2
      exact ⟨by rw [h1, h3], h4⟩
/-- a change whose parts are in order -/
structure ChGo (W : List En) (c : Chg) : Prop where
  ok : ChOk W c
  gn : Good c.new
  gs : Good c.set
theorem chgB_cut {W : List En} {a : Nat} {c c' : Chg} {r s : List Bool} (hc : ChGo W c) (hc' : ChGo W c') (ha : a < c.id) (ha' : a < c'.id) (h : chgB W a c ++ r = chgB W a c' ++ s) : c = c' ∧ r = s := by
  unfold chgB at h
  simp only [List.append_assoc] at h
  obtain ⟨h1, h2⟩ := idB_cut ⟨ha, hc.ok.id32⟩ ⟨ha', hc'.ok.id32⟩ h
  obtain ⟨h3, h4⟩ := bits_cut (Nat.lt_of_lt_of_le hc.ok.lost (by decide)) (Nat.lt_of_lt_of_le hc'.ok.lost (by decide)) h2
  obtain ⟨h5, h6⟩ := bits_cut (Nat.lt_of_lt_of_le hc.ok.mn (by decide)) (Nat.lt_of_lt_of_le hc'.ok.mn (by decide)) h4
  obtain ⟨h7, h8⟩ := bits_cut (Nat.lt_of_lt_of_le hc.ok.ms (by decide)) (Nat.lt_of_lt_of_le hc'.ok.ms (by decide)) h6
  obtain ⟨h9, h10⟩ := cpsB_cut (kinds_eq hc.gn hc'.gn h5) (fun q hq => (hc.ok.kn q hq).2) (fun q hq => (hc'.ok.kn q hq).2) h8
  rw [h1] at h10
  obtain ⟨h11, h12⟩ := stpsB_cut (kinds_eq hc.gs hc'.gs h7) (fun q hq => by
    obtain ⟨y, hy, _, hq2⟩ := hc.ok.st q hq
    rw [h1] at hy
    exact ⟨⟨y, hy⟩, hq2⟩) (fun q hq => by
    obtain ⟨y, hy, _, hq2⟩ := hc'.ok.st q hq
    exact ⟨⟨y, hy⟩, hq2⟩) h10
  obtain ⟨i, lo', nw, st⟩ := c
  obtain ⟨i', lo'', nw', st'⟩ := c'
  simp only at h1 h3 h9 h11
  exact ⟨by rw [h1, h3, h9, h11], h12⟩
/-- a head's bits can be parted from what follows -/
theorem headB_cut {k c e t s k' c' e' t' s' : Nat} {r q : List Bool} (h : Right k c e t s) (h' : Right k' c' e' t' s') (hb : headB k c e t s ++ r = headB k' c' e' t' s' ++ q) : (k = k' ∧ c = c' ∧ e = e' ∧ t = t' ∧ s = s') ∧ r = q := by
  unfold headB at hb
  rw [wid15, wid015] at hb
  simp only [List.append_assoc] at hb
  have a1 := h.k1
  have a2 := h.k5
  have a3 := h'.k1
  have a4 := h'.k5
  have a5 := h.c15
  have a6 := h'.c15
  obtain ⟨h1, h2⟩ := bits_cut (n := 3) (by show _ < 8; omega) (by show _ < 8; omega) hb
  have hk : k = k' := by omega
  subst hk
  obtain ⟨h3, h4⟩ := bits_cut (n := 4) (by show _ < 16; omega) (by show _ < 16; omega) h2
  obtain ⟨h5, h6⟩ := var_cut (by have := h.e32; omega) (by have := h'.e32; omega) h4
  by_cases hT : hasT k = true
  · rw [if_pos hT, if_pos hT] at h6
    obtain ⟨h7, h8⟩ := bits_cut (n := 32) (by have := h.t32; show _ < 4294967296; omega) (by have := h'.t32; show _ < 4294967296; omega) h6
    by_cases h22 : k = 2
    · rw [if_pos h22, if_pos h22] at h8
      have b1 := h.bf
      have b2 := h'.bf
      unfold bfit at b1 b2
      rw [if_pos h22] at b1 b2
      simp at b1 b2
      obtain ⟨h9, h10⟩ := var_cut (by have := h.t32; omega) (by have := h'.t32; omega) h8
      exact ⟨⟨rfl, h3, h5, h7, by omega⟩, h10⟩
    · rw [if_neg h22, if_neg h22] at h8
      have b1 := h.bf
      have b2 := h'.bf
      unfold bfit at b1 b2
      rw [if_neg h22] at b1 b2
      simp at b1 b2
      exact ⟨⟨rfl, h3, h5, h7, by omega⟩, by simpa using h8⟩
  · have h22 : k ≠ 2 := by rintro rfl; exact hT rfl
    rw [if_neg hT, if_neg hT, if_neg h22, if_neg h22] at h6
    have t1 := h.tf
    have t2 := h'.tf
    unfold tfit at t1 t2
    simp [hT] at t1 t2
    have b1 := h.bf
    have b2 := h'.bf
    unfold bfit at b1 b2
    rw [if_neg h22] at b1 b2
    simp at b1 b2
    exact ⟨⟨rfl, h3, h5, by omega, by omega⟩, by simpa using h6⟩
end Go.Proofs.YtheafmecpnjdjaaDoor

/-
  Bits that can be parted: lists of IDs and of changes, whole deltas; frames tell their bits.
-/
namespace Go.Proofs.YtheafmecpnjdjaaDoor
open Go.RowKit
set_option linter.unusedVariables false
set_option maxRecDepth 100000

theorem idsB_cut : ∀ {X Y : List Nat} {a : Nat} {r s : List Bool}, X.length = Y.length → X.Pairwise (· < ·) → Y.Pairwise (· < ·) → (∀ x ∈ X, a < x ∧ x < 4294967296) → (∀ x ∈ Y, a < x ∧ x < 4294967296) → idsB a X ++ r = idsB a Y ++ s → X = Y ∧ r = s := by
  intro X
  induction X with
  | nil =>
    intro Y a r s hl _ _ _ _ h
    cases Y with
    | nil => exact ⟨rfl, h⟩
    | cons y t => simp at hl
  | cons x t ih =>
    intro Y a r s hl hX hY oX oY h
    cases Y with
    | nil => simp at hl
    | cons y u =>
      simp only [idsB, List.append_assoc] at h
      obtain ⟨h1, h2⟩ := idB_cut (oX x (by simp)) (oY y (by simp)) h
      subst h1
      have pX := List.pairwise_cons.1 hX
      have pY := List.pairwise_cons.1 hY
      obtain ⟨h3, h4⟩ := ih (by simpa using hl) pX.2 pY.2 (fun z hz => ⟨pX.1 z hz, (oX z (by simp [hz])).2⟩) (fun z hz => ⟨pY.1 z hz, (oY z (by simp [hz])).2⟩) h2
      exact ⟨by rw [h3], h4⟩
theorem chgsB_cut {W : List En} : ∀ {X Y : List Chg} {a : Nat} {r s : List Bool}, X.length = Y.length → (X.map Chg.id).Pairwise (· < ·) → (Y.map Chg.id).Pairwise (· < ·) → (∀ x ∈ X, ChGo W x ∧ a < x.id) → (∀ x ∈ Y, ChGo W x ∧ a < x.id) → chgsB W a X ++ r = chgsB W a Y ++ s → X = Y ∧ r = s := by
  intro X
  induction X with
  | nil =>
    intro Y a r s hl _ _ _ _ h
    cases Y with
    | nil => exact ⟨rfl, h⟩
    | cons y t => simp at hl
  | cons x t ih =>
    intro Y a r s hl hX hY oX oY h
    cases Y with
    | nil => simp at hl
    | cons y u =>
      simp only [chgsB, List.append_assoc] at h
      have x1 := oX x (by simp)
      have y1 := oY y (by simp)
      obtain ⟨h1, h2⟩ := chgB_cut x1.1 y1.1 x1.2 y1.2 h
      subst h1
      rw [List.map_cons] at hX hY
      have pX := List.pairwise_cons.1 hX
      have pY := List.pairwise_cons.1 hY
      obtain ⟨h3, h4⟩ := ih (by simpa using hl) pX.2 pY.2 (fun z hz => ⟨(oX z (by simp [hz])).1, pX.1 z.id (List.mem_map.2 ⟨z, hz, rfl⟩)⟩) (fun z hz => ⟨(oY z (by simp [hz])).1, pY.1 z.id (List.mem_map.2 ⟨z, hz, rfl⟩)⟩) h2
      exact ⟨by rw [h3], h4⟩
/-- a delta whose parts are in order -/
structure DlGo (W : List En) (d : Dl) : Prop where
  gu : d.gone.Pairwise (· < ·)
  g1 : ∀ i ∈ d.gone, 0 < i ∧ i < 4294967296
  mu : d.come.Pairwise (fun a b => a.1 < b.1)
  mo : ∀ x ∈ d.come, EnOk x ∧ 0 < x.1
  hu : (d.chg.map Chg.id).Pairwise (· < ·)
  ho : ∀ x ∈ d.chg, ChGo W x ∧ 0 < x.id
  sz : d.gone.length < 18446744073709551616 ∧ d.come.length < 18446744073709551616 ∧ d.chg.length < 18446744073709551616
theorem dltB_cut {W : List En} {d d' : Dl} {r s : List Bool} (h : DlGo W d) (h' : DlGo W d') (hb : dltB W d ++ r = dltB W d' ++ s) : d = d' ∧ r = s := by
  unfold dltB at hb
  simp only [List.append_assoc] at hb
  obtain ⟨h1, h2⟩ := var_cut h.sz.1 h'.sz.1 hb
  obtain ⟨h3, h4⟩ := idsB_cut h1 h.gu h'.gu h.g1 h'.g1 h2
  obtain ⟨h5, h6⟩ := var_cut h.sz.2.1 h'.sz.2.1 h4
  obtain ⟨h7, h8⟩ := entsB_cut h5 h.mu h'.mu h.mo h'.mo h6
  obtain ⟨h9, h10⟩ := var_cut h.sz.2.2 h'.sz.2.2 h8
  obtain ⟨h11, h12⟩ := chgsB_cut h9 h.hu h'.hu h.ho h'.ho h10
  obtain ⟨a, b, c⟩ := d
  obtain ⟨a', b', c'⟩ := d'
  simp only at h3 h7 h11
  exact ⟨by rw [h3, h7, h11], h12⟩
/-- one frame, the same bits, but for noughts behind them -/
theorem frm_pack {L M : List Bool} (h : frm (pack L) = frm (pack M)) : ∃ r s, L ++ r = M ++ s := by
  have hl := congrArg List.length h
  rw [length_frm, length_frm] at hl
  have h1 : pack L = pack M := by
    unfold frm at h
    exact (List.append_inj h (by omega)).1
  have h2 : bitsB (pack L) = bitsB (pack M) := by rw [h1]
  rw [bitsB_pack, bitsB_pack] at h2
  exact ⟨_, _, h2⟩
end Go.Proofs.YtheafmecpnjdjaaDoor

/-
  Two packets with one frame are one packet, behind the same snapshot: the plain reason.
-/
namespace Go.Proofs.YtheafmecpnjdjaaDoor
open Go.RowKit
set_option linter.unusedVariables false
set_option maxRecDepth 100000

theorem aft_g {x : En} {t : List En} {g : List Nat} {c : List Chg} {L : List En} (h : AftR t g c L) : AftR (x :: t) (x.1 :: g) c L := by
  unfold AftR
  simp only [List.head?_cons, if_true, List.tail_cons]
  exact h
theorem aft_c {x : En} {t : List En} {g : List Nat} {y : Chg} {c : List Chg} {M : List Cp} {L : List En} (hg : g.head? ≠ some x.1) (hy : y.id = x.1) (hM : ChgR x.2 y M) (h : AftR t g c L) : AftR (x :: t) g (y :: c) ((x.1, M) :: L) := by
  unfold AftR
  rw [if_neg hg]
  simp only
  rw [if_pos hy]
  exact ⟨M, L, rfl, hM, h⟩
theorem aft_s {x : En} {t : List En} {g : List Nat} {c : List Chg} {L : List En} (hg : g.head? ≠ some x.1) (hc : c.head?.map Chg.id ≠ some x.1) (h : AftR t g c L) : AftR (x :: t) g c (x :: L) := by
  unfold AftR
  rw [if_neg hg]
  cases c with
  | nil => exact ⟨L, rfl, h⟩
  | cons y c =>
    simp only
    rw [if_neg (by simpa using hc)]
    exact ⟨L, rfl, h⟩
theorem chgR_ex (C : List Cp) (c : Chg) : ∃ M, ChgR C c M := by
  refine ⟨(mid C c).mergeSort (fun a b => decide (a.k ≤ b.k)), List.mergeSort_perm _ _, ?_⟩
  have h := List.pairwise_mergeSort (le := fun a b : Cp => decide (a.k ≤ b.k)) (fun a b c h1 h2 => by simp at h1 h2 ⊢; omega) (fun a b => by simp; omega) (mid C c)
  exact h.imp (fun h => by simpa using h)
theorem aft_ex (W : List En) : ∀ (g : List Nat) (c : List Chg), ∃ L, AftR W g c L := by
  induction W with
  | nil => exact fun g c => ⟨[], by simp [AftR]⟩
  | cons x t ih =>
    intro g c
    by_cases hg : g.head? = some x.1
    · match g, hg with
      | y :: g', hg =>
        have e : y = x.1 := by simpa using hg
        subst e
        obtain ⟨L, hL⟩ := ih g' c
        exact ⟨L, aft_g hL⟩
    · by_cases hc : c.head?.map Chg.id = some x.1
      · match c, hc with
        | y :: c', hc =>
          have e : y.id = x.1 := by simpa using hc
          obtain ⟨L, hL⟩ := ih g c'
          obtain ⟨M, hM⟩ := chgR_ex x.2 y
          exact ⟨_, aft_c hg e hM hL⟩
      · obtain ⟨L, hL⟩ := ih g c
        exact ⟨_, aft_s hg hc hL⟩
theorem btw_inj {W N R : List En} (hW : Snap W) (hN : Snap N) (hR : Snap R) (h : btw W R = btw W N) : R = N := by
  obtain ⟨L, hL⟩ := aft_ex W (btw W N).gone (btw W N).chg
  have h1 := aft_to W N hW hN L hL
  have h2 := aft_to W R hW hR L (by rw [h]; exact hL)
  rw [h] at h2
  exact sorted_one (fun e : En => e.1) N R hN.up (hR.up.imp (fun h => Nat.le_of_lt h)) (h2.symm.trans h1)
theorem enOk_of {N : List En} (h : fm 0 N = 0) (hI : ∀ e ∈ N, e.1 < 4294967296) : ∀ x ∈ N, EnOk x ∧ 0 < x.1 := fun x hx => by
  have h1 := fm_each h x hx
  exact ⟨⟨h1.1, hI x hx, h1.2.1, h1.2.2⟩, by omega⟩
theorem good_filter {C : List Cp} (h : Good C) (p : Cp → Bool) : Good (C.filter p) := ⟨h.1.filter p, fun q hq => h.2 q (List.mem_filter.1 hq).1⟩
theorem dlGo_of {W N : List En} (hW : fm 0 W = 0) (hN : fm 0 N = 0) (hIW : ∀ e ∈ W, e.1 < 4294967296) (hIN : ∀ e ∈ N, e.1 < 4294967296) (zW : W.length ≤ 1000000) (zN : N.length ≤ 1000000) : DlGo W (btw W N) := by
  have sW := Snap.of hW
  have sN := Snap.of hN
  rw [btw_dlt _ _ sW.up sN.up]
  have l1 := List.length_filter_le (fun e => (fstE N e.1).isNone) W
  have l2 := List.length_filter_le (fun e => (fstE W e.1).isNone) N
  have l3 := List.length_filterMap_le (chgO W) N
  refine ⟨?_, ?_, ?_, ?_, ?_, ?_, ?_⟩
  · exact List.pairwise_map.2 (sW.up.filter _)
  · intro i hi
    obtain ⟨e, he, rfl⟩ := List.mem_map.1 hi
    have he2 := (List.mem_filter.1 he).1
    have h1 := (fm_each hW e he2).1
    exact ⟨by omega, hIW e he2⟩
  · exact sN.up.filter _
  · intro x hx
    exact enOk_of hN hIN x (List.mem_filter.1 hx).1
  · exact chg_up _ sN.up
  · intro x hx
    obtain ⟨e, he, hec⟩ := List.mem_filterMap.1 hx
    have h1 := chOk_of hW hN he (hIN e he) hec
    obtain ⟨y, hy, rfl⟩ := chgO_of hec
    have g := good_of (fm_each hN e he).2.1
    exact ⟨⟨h1, good_filter g _, good_filter g _⟩, h1.id0⟩
  · refine ⟨?_, ?_, ?_⟩
    · show (((W.filter (fun e => (fstE N e.1).isNone)).map (·.1)).length) < _
      rw [List.length_map]; omega
    · show ((N.filter (fun e => (fstE W e.1).isNone)).length) < _
      omega
    · show ((N.filterMap (chgO W)).length) < _
      omega
/-- the content's code -/
def ccode (k : Nat) (W N : List En) : Nat := if k = 1 then fm 0 N else if k = 2 then dcode W N else if N.length = 0 then 0 else 4
/-- the content's bits -/
def contB (k : Nat) (W N : List En) : List Bool := if k = 1 then var N.length ++ entsB 0 N else if k = 2 then dltB W (btw W N) else []
theorem dcode_0 {W N : List En} (h : dcode W N = 0) : fm 0 W = 0 ∧ fm 0 N = 0 := by
  unfold dcode at h
  split at h
  · rename_i h1; exact absurd h h1
  · rename_i h1; exact ⟨by simpa using h1, h⟩
theorem apart {k c e t s k' c' e' t' s' : Nat} {W X Y : List En} (h : Right k c e t s) (h' : Right k' c' e' t' s') (hIW : ∀ e ∈ W, e.1 < 4294967296) (hIX : ∀ e ∈ X, e.1 < 4294967296) (hIY : ∀ e ∈ Y, e.1 < 4294967296) (zW : W.length ≤ 1000000) (zX : X.length ≤ 1000000) (zY : Y.length ≤ 1000000) (cX : ccode k W X = 0) (cY : ccode k' W Y = 0) (hb : frm (pack (headB k c e t s ++ contB k W X)) = frm (pack (headB k' c' e' t' s' ++ contB k' W Y))) : (k = k' ∧ c = c' ∧ e = e' ∧ t = t' ∧ s = s') ∧ X = Y := by
  obtain ⟨r, q, h1⟩ := frm_pack hb
  rw [List.append_assoc, List.append_assoc] at h1
  obtain ⟨h2, h3⟩ := headB_cut h h' h1
  refine ⟨h2, ?_⟩
  obtain ⟨rfl, -, -, -, -⟩ := h2
  unfold ccode at cX cY
  unfold contB at h3
  by_cases k1 : k = 1
  · rw [if_pos k1] at cX cY
    rw [if_pos k1, if_pos k1, List.append_assoc, List.append_assoc] at h3
    obtain ⟨h4, h5⟩ := var_cut (by omega) (by omega) h3
    exact (entsB_cut h4 (Snap.of cX).up (Snap.of cY).up (enOk_of cX hIX) (enOk_of cY hIY) h5).1
  · rw [if_neg k1] at cX cY
    rw [if_neg k1, if_neg k1] at h3
    by_cases k2 : k = 2
    · rw [if_pos k2] at cX cY
      rw [if_pos k2, if_pos k2] at h3
      obtain ⟨a1, a2⟩ := dcode_0 cX
      obtain ⟨-, b2⟩ := dcode_0 cY
      obtain ⟨h4, -⟩ := dltB_cut (dlGo_of a1 a2 hIW hIX zW zX) (dlGo_of a1 b2 hIW hIY zW zY) h3
      exact btw_inj (Snap.of a1) (Snap.of b2) (Snap.of a2) h4
    · rw [if_neg k2] at cX cY
      have x0 : X.length = 0 := by
        by_cases hx : X.length = 0
        · exact hx
        · rw [if_neg hx] at cX; cases cX
      have y0 : Y.length = 0 := by
        by_cases hx : Y.length = 0
        · exact hx
        · rw [if_neg hx] at cY; cases cY
      rw [List.eq_nil_of_length_eq_zero x0, List.eq_nil_of_length_eq_zero y0]
/-- how long the content is -/
theorem cszV_filter (p : En → Bool) (N : List En) : cszV (N.filter p) ≤ cszV N := by
  induction N with
  | nil => simp
  | cons x t ih =>
    rw [List.filter_cons]
    split <;> simp only [cszV] <;> omega
theorem contB_le {k : Nat} {W N : List En} (hIW : ∀ e ∈ W, e.1 < 4294967296) (hIN : ∀ e ∈ N, e.1 < 4294967296) (zW : W.length + cszV W ≤ 400) (zN : N.length + cszV N ≤ 400) (hc : ccode k W N = 0) : (contB k W N).length ≤ 400000 := by
  have v80 : ∀ n, n ≤ 1000 → (var n).length ≤ 80 := fun n hn => by
    rw [length_var]
    have := (grp_bd n (by omega)).2
    omega
  unfold contB
  unfold ccode at hc
  by_cases k1 : k = 1
  · rw [if_pos k1]
    have h1 := entsB_le 0 N hIN
    have h2 := v80 N.length (by omega)
    rw [List.length_append]
    omega
  · rw [if_neg k1] at hc ⊢
    by_cases k2 : k = 2
    · rw [if_pos k2] at hc ⊢
      obtain ⟨a1, a2⟩ := dcode_0 hc
      have hD := dlGo_of a1 a2 hIW hIN (by omega) (by omega)
      have i1 := idsB_le 0 (btw W N).gone (fun i hi => (hD.g1 i hi).2)
      have i2 := entsB_le 0 (btw W N).come (fun x hx => (hD.mo x hx).1.2.1)
      have i3 := chgsB_le W 0 (btw W N).chg (fun x hx => (hD.ho x hx).1.ok.id32)
      have e := btw_dlt _ _ (Snap.of a1).up (Snap.of a2).up
      have g1 : (btw W N).gone.length ≤ W.length := by rw [e]; show (List.map _ _).length ≤ _; rw [List.length_map]; exact List.length_filter_le _ _
      have g2 : (btw W N).come.length ≤ N.length := by rw [e]; exact List.length_filter_le _ _
      have g3 : (btw W N).chg.length ≤ N.length := by rw [e]; exact List.length_filterMap_le _ _
      have g4 : cszV (btw W N).come ≤ cszV N := by rw [e]; exact cszV_filter _ _
      have g5 : chz (btw W N).chg ≤ 2 * cszV N := by rw [e]; exact chz_of _ _
      have v1 := v80 (btw W N).gone.length (by omega)
      have v2 := v80 (btw W N).come.length (by omega)
      have v3 := v80 (btw W N).chg.length (by omega)
      unfold dltB
      simp only [List.length_append]
      omega
    · rw [if_neg k2]
      simp
end Go.Proofs.YtheafmecpnjdjaaDoor

/-
  Is a head right? Whatever it is.
-/
namespace Go.Proofs.YtheafmecpnjdjaaDoor
open Go.RowKit
set_option linter.unusedVariables false
set_option maxRecDepth 100000

set_option maxHeartbeats 4000000 in
theorem hcheck_any (w : World) (k c e t s : Nat) (hI : HIn k c e t s) : Calls Tryd.prog 17 #[.agg (hvs k c e t s)] w fun x w' => x = .returned (.int .i64 ((hchk k c e t s : Nat) : Int)) ∧ Fr Nobody w w' := by
  have HT : Hid (∀ W, Calls Tryd.prog 27 #[.agg (hvs k c e t s)] W fun x w' => x = .returned (.bool (tfit k t)) ∧ Fr Nobody W w') := fun W => tickFits_any W k c e t s hI
  have HB : Hid (∀ W, Calls Tryd.prog 28 #[.agg (hvs k c e t s)] W fun x w' => x = .returned (.bool (bfit k t s)) ∧ Fr Nobody W w') := fun W => baseFits_any W k c e t s hI
  have HA : Hid (Own w _ _) := (Own.start w).allocC (hvs k c e t s) 28
  by_cases h1 : k < 1
  · have hc : hchk k c e t s = 1 := by unfold hchk; rw [if_pos (.inl h1)]
    rw [hc]
    have g1 : (k : Int) < 1 := by omega
    have HF : Hid (Fr Nobody w _) := HA.out.fr
    clear h1 hc HT HB HA hI
    unfold hvs at *
    go_enter Tryd.func17, Tryd.ntmps17
    go_wp2
    go_ret
    exact ⟨rfl, HF.out⟩
  · have g1 : ¬ (k : Int) < 1 := by omega
    by_cases h2 : 5 < k
    · have hc : hchk k c e t s = 1 := by unfold hchk; rw [if_pos (.inr (.inl h2))]
      rw [hc]
      have g2 : (5 : Int) < (k : Int) := by omega
      have HF : Hid (Fr Nobody w _) := HA.out.fr
      clear h1 h2 hc HT HB HA hI
      unfold hvs at *
      go_enter Tryd.func17, Tryd.ntmps17
      go_wp2
      go_ret
      exact ⟨rfl, HF.out⟩
    · have g2 : ¬ (5 : Int) < (k : Int) := by omega
      by_cases h3 : 16 ≤ c
      · have hc : hchk k c e t s = 1 := by unfold hchk; rw [if_pos (.inr (.inr h3))]
        rw [hc]
        have g3 : (16 : Int) ≤ (c : Int) := by omega
        have HF : Hid (Fr Nobody w _) := HA.out.fr
        clear h1 h2 h3 hc HT HB HA hI
        unfold hvs at *
        go_enter Tryd.func17, Tryd.ntmps17
        go_wp2
        go_ret
        exact ⟨rfl, HF.out⟩
      · have g3 : ¬ (16 : Int) ≤ (c : Int) := by omega
        have hn : ¬ (k < 1 ∨ 5 < k ∨ 16 ≤ c) := by omega
        by_cases h4 : e = 0
        · have hc : hchk k c e t s = 4 := by unfold hchk; rw [if_neg hn, if_pos (.inl h4)]
          rw [hc]
          subst h4
          have HF : Hid (Fr Nobody w _) := HA.out.fr
          clear h1 h2 h3 hn hc HT HB HA hI
          unfold hvs at *
          go_enter Tryd.func17, Tryd.ntmps17
          go_wp2
          go_ret
          exact ⟨rfl, HF.out⟩
        · have g4 : ((e : Int) == 0) = false := by rw [beq_eq_false_iff_ne]; omega
          have hc : hchk k c e t s = if tfit k t = false ∨ bfit k t s = false then 4 else 0 := by
            unfold hchk
            rw [if_neg hn]
            simp [h4]
          rw [hc]
          clear h1 h2 h3 h4 hn hc hI
          generalize tfit k t = tf at *
          generalize bfit k t s = bf at *
          unfold hvs at *
          cases tf
          · rw [if_pos (.inl rfl)]
            go_enter Tryd.func17, Tryd.ntmps17
            go_wp2_with fail
            refine (HT.out _).mono ?_
            rintro x w1 ⟨rfl, hf1⟩
            have HF : Hid (Fr Nobody w w1) := HA.out.fr.trans hf1
            clear hf1 HA HT HB
            go_wp2
            go_ret
            exact ⟨rfl, HF.out⟩
          · cases bf
            · rw [if_pos (.inr rfl)]
              go_enter Tryd.func17, Tryd.ntmps17
              go_wp2_with fail
              refine (HT.out _).mono ?_
              rintro x w1 ⟨rfl, hf1⟩
              have hA1 := HA.out.quiet hf1
              have r0 := hA1.cell 0
              have r1 := hA1.cell 1
              have r2 := hA1.cell 2
              have r3 := hA1.cell 3
              have r4 := hA1.cell 4
              simp at r0 r1 r2 r3 r4
              have HA1 : Hid (Own w w1 _) := hA1
              clear hf1 hA1 HA HT
              go_wp2_with fail
              refine (HB.out _).mono ?_
              rintro x w2 ⟨rfl, hf2⟩
              have HF : Hid (Fr Nobody w w2) := HA1.out.fr.trans hf2
              clear hf2 HA1 HB r0 r1 r2 r3 r4
              go_wp2
              go_ret
              exact ⟨rfl, HF.out⟩
            · rw [if_neg (by simp)]
              go_enter Tryd.func17, Tryd.ntmps17
              go_wp2_with fail
              refine (HT.out _).mono ?_
              rintro x w1 ⟨rfl, hf1⟩
              have hA1 := HA.out.quiet hf1
              have r0 := hA1.cell 0
              have r1 := hA1.cell 1
              have r2 := hA1.cell 2
              have r3 := hA1.cell 3
              have r4 := hA1.cell 4
              simp at r0 r1 r2 r3 r4
              have HA1 : Hid (Own w w1 _) := hA1
              clear hf1 hA1 HA HT
              go_wp2_with fail
              refine (HB.out _).mono ?_
              rintro x w2 ⟨rfl, hf2⟩
              have HF : Hid (Fr Nobody w w2) := HA1.out.fr.trans hf2
              clear hf2 HA1 HB r0 r1 r2 r3 r4
              go_wp2
              go_ret
              exact ⟨rfl, HF.out⟩
theorem right_of {k c e t s : Nat} (hI : HIn k c e t s) (h : hchk k c e t s = 0) : Right k c e t s := by
  unfold hchk at h
  split at h
  · cases h
  · split at h
    · cases h
    · rename_i h1 h2
      simp only [not_or] at h1 h2
      refine ⟨by omega, by omega, by omega, by omega, hI.e, hI.t, hI.s, ?_, ?_⟩
      · cases hh : tfit k t with
        | true => rfl
        | false => exact absurd hh h2.2.1
      · cases hh : bfit k t s with
        | true => rfl
        | false => exact absurd hh h2.2.2
end Go.Proofs.YtheafmecpnjdjaaDoor

/-
  The content of any packet, and the frame of any packet: or what Seal refuses.
-/
namespace Go.Proofs.YtheafmecpnjdjaaDoor
open Go.RowKit
set_option linter.unusedVariables false
set_option maxRecDepth 100000

set_option maxHeartbeats 1000000 in
theorem content_bad1 (w0 w : World) (ht : Tab w0) (l : List Thing) (p b : Nat) (L : List Bool) (wv : Value) (h : Own w0 w (penC p b :: WrT b L :: l)) (an : Option Addr) (nn cn : Nat) (N : List EnE) (hQ : ∀ w', Own w0 w' l → EntsAt w' an N) (hN : N.length = nn) (hIN : EIn N) (hzN : esz N ≤ 400) (hf : fm 0 (evs N) ≠ 0) :
    Calls Tryd.prog 20 #[.pointer (some ⟨p, 0, none⟩), .int .u8 1, wv, .slice an nn cn] w fun e w' => e = .returned (.int .i64 ((fm 0 (evs N) : Nat) : Int)) ∧ Own w0 w' (penC p b :: WrT b L :: l) := by
  have HF : Hid (Calls Tryd.prog 33 #[.slice an nn cn] w fun e w' => e = .returned (.int .i64 ((fm 0 (evs N) : Nat) : Int)) ∧ Fr Nobody w w') := form_any w (ht.quiet h.fr) an nn cn N (hQ w h.tail.tail) hN hIN (by omega)
  have hlt := fm_lt 0 (evs N)
  have H : Hid (Own w0 w (penC p b :: WrT b L :: l)) := h
  generalize fm 0 (evs N) = x at *
  have z0 : ((x : Int) != 0) = true := by simpa using hf
  clear h hQ hN hIN hzN hf ht
  go_enter Tryd.func20, Tryd.ntmps20
  go_wp2_with fail
  refine HF.out.mono ?_
  rintro e w1 ⟨rfl, hf1⟩
  have H2 : Hid (Own w0 w1 _) := H.out.quiet hf1
  clear hf1 HF H
  go_wp2
  go_ret
  exact ⟨rfl, H2.out⟩
set_option maxHeartbeats 1000000 in
theorem content_bad2 (w0 w : World) (ht : Tab w0) (l : List Thing) (p b : Nat) (L : List Bool) (h : Own w0 w (penC p b :: WrT b L :: l)) (aw an : Option Addr) (nw nn cw cn : Nat) (W N : List EnE) (hQ : ∀ w', Own w0 w' l → EntsAt w' aw W ∧ EntsAt w' an N) (hW : W.length = nw) (hN : N.length = nn) (hcw : nw ≤ cw) (hcn : nn ≤ cn) (hmw : cw ≤ 9223372036854775807) (hmn : cn ≤ 9223372036854775807) (hIW : EIn W) (hIN : EIn N) (hzW : esz W ≤ 400) (hzN : esz N ≤ 400) (hd : dcode (evs W) (evs N) ≠ 0) :
    Calls Tryd.prog 20 #[.pointer (some ⟨p, 0, none⟩), .int .u8 2, .slice aw nw cw, .slice an nn cn] w fun e w' => e = .returned (.int .i64 ((dcode (evs W) (evs N) : Nat) : Int)) ∧ Own w0 w' (penC p b :: WrT b L :: l) := by
  have HD : Hid (Calls _ _ _ _ _) := diff_any w0 w ht _ h aw an nw nn cw cn W N (fun w' hw => hQ w' hw.tail.tail) hW hN hcw hcn hmw hmn hIW hIN (by omega) (by omega)
  have hlt : dcode (evs W) (evs N) < 4294967296 := by
    unfold dcode
    split
    · exact fm_lt _ _
    · exact fm_lt _ _
  generalize dcode (evs W) (evs N) = x at *
  have z0 : ((x : Int) != 0) = true := by simpa using hd
  clear h hQ hW hN hcw hcn hmw hmn hIW hIN hzW hzN hd ht
  go_enter Tryd.func20, Tryd.ntmps20
  go_wp2_with fail
  refine HD.out.mono ?_
  rintro e w1 ⟨d, rfl, -, h1⟩
  unfold DlE.vs
  have H2 : Hid (Own w0 _ _) := ((Own.dropA h1).allocC #[.slice d.ga d.G.length d.gc, .slice d.ma d.M.length d.mc, .slice d.ha d.H.length d.hc] 75).tail
  clear h1 HD
  go_wp2
  go_ret
  exact ⟨rfl, H2.out⟩
set_option maxHeartbeats 400000 in
theorem content_bad3 (w0 w : World) (l : List Thing) (p k : Nat) (wv : Value) (a : Option Addr) (n c : Nat) (h : Own w0 w l) (h1 : k ≠ 1) (h2 : k ≠ 2) (hn : 0 < n) :
    Calls Tryd.prog 20 #[.pointer (some ⟨p, 0, none⟩), .int .u8 (k : Int), wv, .slice a n c] w fun e w' => e = .returned (.int .i64 4) ∧ Own w0 w' l := by
  have e1 : ((k : Int) == 1) = false := by rw [beq_eq_false_iff_ne]; omega
  have e2 : ((k : Int) == 2) = false := by rw [beq_eq_false_iff_ne]; omega
  have e3 : (0 : Int) < (n : Int) := by omega
  have H : Hid (Own w0 w l) := h
  clear h h1 h2 hn
  go_enter Tryd.func20, Tryd.ntmps20
  go_wp2
  go_ret
  exact ⟨rfl, H.out⟩
theorem content_any (w0 w : World) (ht : Tab w0) (l : List Thing) (p b k : Nat) (L : List Bool) (h : Own w0 w (penC p b :: WrT b L :: l)) (aw an : Option Addr) (nw nn cw cn : Nat) (W N : List EnE) (hQ : ∀ w', Own w0 w' l → EntsAt w' aw W ∧ EntsAt w' an N) (hW : W.length = nw) (hN : N.length = nn) (hcw : nw ≤ cw) (hcn : nn ≤ cn) (hmw : cw ≤ 9223372036854775807) (hmn : cn ≤ 9223372036854775807) (hIW : EIn W) (hIN : EIn N) (hzW : esz W ≤ 400) (hzN : esz N ≤ 400) (hl : L.length ≤ 1000) :
    Calls Tryd.prog 20 #[.pointer (some ⟨p, 0, none⟩), .int .u8 (k : Int), .slice aw nw cw, .slice an nn cn] w fun e w' => e = .returned (.int .i64 ((ccode k (evs W) (evs N) : Nat) : Int)) ∧ ∃ M, Own w0 w' (penC p b :: WrT b M :: l) ∧ (ccode k (evs W) (evs N) = 0 → M = L ++ contB k (evs W) (evs N)) := by
  unfold ccode contB
  by_cases k1 : k = 1
  · subst k1
    rw [if_pos rfl, if_pos rfl]
    by_cases hf : fm 0 (evs N) = 0
    · refine (content_full w0 w ht l p b L _ h an nn cn N (fun w' hw => (hQ w' hw).2) hN hIN hzN hf hl).mono ?_
      rintro e w' ⟨rfl, h1⟩
      rw [hf, evs_len, hN]
      exact ⟨rfl, _, h1, fun _ => rfl⟩
    · refine (content_bad1 w0 w ht l p b L _ h an nn cn N (fun w' hw => (hQ w' hw).2) hN hIN hzN hf).mono ?_
      rintro e w' ⟨rfl, h1⟩
      exact ⟨rfl, _, h1, fun h0 => absurd h0 hf⟩
  · rw [if_neg k1, if_neg k1]
    by_cases k2 : k = 2
    · subst k2
      rw [if_pos rfl, if_pos rfl]
      by_cases hd : dcode (evs W) (evs N) = 0
      · obtain ⟨a1, a2⟩ := dcode_0 hd
        refine (content_step w0 w ht l p b L h aw an nw nn cw cn W N hQ hW hN hcw hcn hmw hmn hIW hIN hzW hzN a1 a2 hl).mono ?_
        rintro e w' ⟨rfl, h1⟩
        rw [hd]
        exact ⟨rfl, _, h1, fun _ => rfl⟩
      · refine (content_bad2 w0 w ht l p b L h aw an nw nn cw cn W N hQ hW hN hcw hcn hmw hmn hIW hIN hzW hzN hd).mono ?_
        rintro e w' ⟨rfl, h1⟩
        exact ⟨rfl, _, h1, fun h0 => absurd h0 hd⟩
    · rw [if_neg k2, if_neg k2, evs_len, hN]
      by_cases hn : nn = 0
      · subst hn
        rw [if_pos rfl]
        refine (content_no w0 w _ p k _ an cn h k1 k2).mono ?_
        rintro e w' ⟨rfl, h1⟩
        exact ⟨rfl, _, h1, fun _ => by simp⟩
      · rw [if_neg hn]
        refine (content_bad3 w0 w _ p k _ an nn cn h k1 k2 (by omega)).mono ?_
        rintro e w' ⟨rfl, h1⟩
        exact ⟨rfl, _, h1, fun h0 => by cases h0⟩
theorem ccode_lt (k : Nat) (W N : List En) : ccode k W N < 4294967296 := by
  unfold ccode dcode
  have h1 := fm_lt 0 W
  have h2 := fm_lt 0 N
  split
  · exact h2
  · split
    · split
      · exact h1
      · exact h2
    · split <;> decide
/-- what Seal answers -/
def SealR (k c e t s : Nat) (W N : List En) (code : Nat) (P : List Nat) : Prop := code < 4294967296 ∧ (∀ x ∈ P, x < 256) ∧ (code = 0 → Right k c e t s ∧ ccode k W N = 0 ∧ P = frm (pack (headB k c e t s ++ contB k W N)))
theorem sealR_no {k c e t s : Nat} {W N : List En} {code : Nat} (h : code < 4294967296) (h0 : code ≠ 0) : SealR k c e t s W N code [] := ⟨h, (fun x hx => by cases hx), fun h1 => absurd h1 h0⟩
theorem hchk_lt (k c e t s : Nat) : hchk k c e t s < 4294967296 := by
  unfold hchk
  split
  · decide
  · split <;> decide
set_option maxHeartbeats 4000000 in
theorem pseal_any (w0 w : World) (htb : Tab w0) (htf : Tabf w0) (l : List Thing) (h : Own w0 w l) (k c e t s : Nat) (hI : HIn k c e t s) (aw an : Option Addr) (nw nn cw cn : Nat) (W N : List EnE) (hQ : ∀ w', Own w0 w' l → EntsAt w' aw W ∧ EntsAt w' an N) (hW : W.length = nw) (hN : N.length = nn) (hcw : nw ≤ cw) (hcn : nn ≤ cn) (hmw : cw ≤ 9223372036854775807) (hmn : cn ≤ 9223372036854775807) (hIW : EIn W) (hIN : EIn N) (hzW : esz W ≤ 400) (hzN : esz N ≤ 400) :
    Calls Tryd.prog 8 #[.agg (hvs k c e t s), .slice aw nw cw, .slice an nn cn] w fun x w' => ∃ v code P, x = .returned (.tuple #[v, .int .i64 ((code : Nat) : Int)]) ∧ SealR k c e t s (evs W) (evs N) code P ∧ Own w0 w' (Row 5 1 v P.length (vrow P) :: l) := by
  have hB := h.allocC (hvs k c e t s) 28
  have HCH : Hid (Calls _ _ _ _ _) := hcheck_any (w.alloc (.cells (hvs k c e t s) 28)) k c e t s hI
  have HB : Hid (Own w0 _ _) := hB
  have hcl := hchk_lt k c e t s
  have HRT : Hid (hchk k c e t s = 0 → Right k c e t s) := right_of hI
  have HTF : Hid (Tabf w0) := htf
  have zz : ∀ X : List EnE, (evs X).length + cszV (evs X) = esz X := fun X => by rw [evs_len, cszV_evs]; rfl
  have HCL : Hid (ccode k (evs W) (evs N) = 0 → (contB k (evs W) (evs N)).length ≤ 400000) := fun hc => contB_le (fun x hx => by
      obtain ⟨y, hy, rfl⟩ := List.mem_map.1 hx
      exact (hIW y hy).1) (fun x hx => by
      obtain ⟨y, hy, rfl⟩ := List.mem_map.1 hx
      exact (hIN y hy).1) (by rw [zz]; exact hzW) (by rw [zz]; exact hzN) hc
  have HCO : Hid (∀ (w' : World) (p b : Nat) (X : Thing), Own w0 w' (penC p b :: WrT b (headB k c e t s) :: X :: l) → Calls Tryd.prog 20 #[.pointer (some ⟨p, 0, none⟩), .int .u8 (k : Int), .slice aw nw cw, .slice an nn cn] w' fun e' w' => e' = .returned (.int .i64 ((ccode k (evs W) (evs N) : Nat) : Int)) ∧ ∃ M, Own w0 w' (penC p b :: WrT b M :: X :: l) ∧ (ccode k (evs W) (evs N) = 0 → M = headB k c e t s ++ contB k (evs W) (evs N))) := fun w' p b X hw => content_any w0 w' htb _ p b k _ hw aw an nw nn cw cn W N (fun w2 hw2 => hQ w2 hw2.tail) hW hN hcw hcn hmw hmn hIW hIN hzW hzN (by have := headB_le k c e t s hI.e hI.t; omega)
  have hkl := ccode_lt k (evs W) (evs N)
  have HE : Hid (∀ M, M = headB k c e t s ++ contB k (evs W) (evs N) → ccode k (evs W) (evs N) = 0 → M.length ≤ 401000) := fun M hM hc => by
    have h1 := HCL.out hc
    have h2 := headB_le k c e t s hI.e hI.t
    rw [hM, List.length_append]
    omega
  have HL0 : Hid (∀ M, M = headB k c e t s ++ contB k (evs W) (evs N) → 0 < M.length) := fun M hM => by
    rw [hM]; unfold headB
    simp only [List.length_append, length_bitsN, wid15]
    omega
  have q0 := hB.cell 0
  have q1 := hB.cell 1
  have q2 := hB.cell 2
  have q3 := hB.cell 3
  have q4 := hB.cell 4
  simp [hvs] at q0 q1 q2 q3 q4
  have HSR : Hid (∀ code, code < 4294967296 → code ≠ 0 → SealR k c e t s (evs W) (evs N) code []) := fun code => sealR_no
  have HSY : Hid (∀ P, (∀ x ∈ P, x < 256) → hchk k c e t s = 0 → ccode k (evs W) (evs N) = 0 → P = frm (pack (headB k c e t s ++ contB k (evs W) (evs N))) → SealR k c e t s (evs W) (evs N) 0 P) := fun P h1 h2 h3 h4 => ⟨by decide, h1, fun _ => ⟨HRT.out h2, h3, h4⟩⟩
  generalize hhc : hchk k c e t s = hc at *
  generalize hcc : ccode k (evs W) (evs N) = cc at *
  clear h hB hQ hW hN hcw hcn hmw hmn hIW hIN hzW hzN zz htb htf HCL hcc hhc
  by_cases h0 : hc = 0
  · subst h0
    have HR : Hid (Right k c e t s) := HRT.out rfl
    unfold hvs at HCH ⊢
    clear HRT hI
    go_enter Tryd.func8, Tryd.ntmps8
    go_wp2_with fail
    refine HCH.out.mono ?_
    rintro x w1 ⟨rfl, hf1⟩
    have h1 := HB.out.quiet hf1
    have HNW : Hid (Calls _ _ _ _ _) := new_own w0 w1 _ h1
    clear hf1 h1 HCH HB q0 q1 q2 q3 q4
    generalize w.heap.size = bh at *
    go_wp2_with fail
    refine HNW.out.mono ?_
    rintro x w2 ⟨b, rfl, h2⟩
    have h3 := h2.allocC #[.pointer (some ⟨b, 0, none⟩), .int .i64 0] 55
    have q0 := h3.three.cell 0
    have q1 := h3.three.cell 1
    have q2 := h3.three.cell 2
    have q3 := h3.three.cell 3
    have q4 := h3.three.cell 4
    simp [hvs] at q0 q1 q2 q3 q4
    have HHD : Hid (Calls _ _ _ _ _) := phead w0 _ _ w2.heap.size b h3 k c e t s HR.out
    unfold hvs at HHD
    clear h2 h3 HNW
    go_wp2_with fail
    refine HHD.out.mono ?_
    rintro x w3 ⟨rfl, h4⟩
    generalize w2.heap.size = p at *
    have r0 := h4.three.cell 0
    simp at r0
    have HCN : Hid (Calls _ _ _ _ _) := HCO.out w3 p b _ h4
    clear h4 HHD q0 q1 q2 q3 q4
    by_cases hc0 : cc = 0
    · subst hc0
      go_wp2_with fail
      refine HCN.out.mono ?_
      rintro x w4 ⟨rfl, L, h5, hLE⟩
      have z0 := Own.cell (show Own w0 w4 (Cells p #[.pointer (some ⟨b, 0, none⟩), .int .i64 0] 55 :: _) from h5) 0
      have z1 := Own.cell (show Own w0 w4 (Cells p #[.pointer (some ⟨b, 0, none⟩), .int .i64 0] 55 :: _) from h5) 1
      simp at z0 z1
      have hle := hLE (by first | rfl | trivial)
      have hll := HE.out L hle (by first | rfl | trivial)
      have hl0 := HL0.out L hle
      have HLE : Hid (L = headB k c e t s ++ contB k (evs W) (evs N)) := hle
      have HBY : Hid (Calls _ _ _ _ _) := bytesW w0 w4 _ b L h5.two (by omega)
      clear h5 HCN r0 hLE hle HE HL0 HCO
      go_wp2_with fail
      refine HBY.out.mono ?_
      rintro x w5 ⟨v, rfl, h6⟩
      have hnb : 0 < nb L.length := by unfold nb; omega
      have hnb2 : nb L.length ≤ 60000 := by unfold nb; omega
      obtain ⟨g, cap, hv, _⟩ := row_shape h6.row hnb
      subst hv
      by_cases hlg : nb L.length ≤ 4096
      · have hin := In.of_row h6.row (by rw [pack_len]) (pack_byte L)
        have HSE : Hid (Calls _ _ _ _ _) := seal_ok w5 (some ⟨g, 0, none⟩) cap (nb L.length) (pack L) hin hlg (HTF.out.quiet h6.fr)
        have H6 : Hid (Own w0 w5 _) := h6
        clear h6 HBY hin z0 z1
        go_wp2_with fail
        refine HSE.out.mono ?_
        rintro x w6 ⟨g6, cp6, rfl, hr6, hf6⟩
        have H7 : Hid (Own w0 w6 (Row 5 1 (.slice (some ⟨g6, 0, none⟩) (nb L.length + 4) cp6) (nb L.length + 4) (vrow (frm (pack L))) :: l)) := by
          have h7 := (H6.out.tail.tail.tail.tail)
          exact h7.new (Row 5 1 (.slice (some ⟨g6, 0, none⟩) (nb L.length + 4) cp6) (nb L.length + 4) (vrow (frm (pack L)))) (fun j => (Value.slice (some ⟨g6, 0, none⟩) (nb L.length + 4) cp6).ownBlock = some j) ⟨row_weak hr6, fun _ => Iff.rfl⟩ hf6 (fun j hj => (hr6.lt j hj).1)
        clear hr6 hf6 HSE H6
        go_wp2
        go_ret2
        refine ⟨_, 0, frm (pack L), rfl, HSY.out _ (frm_byte _ (pack_byte L)) (by first | rfl | trivial) (by first | rfl | trivial) (by rw [HLE.out]), ?_⟩
        have e1 : (frm (pack L)).length = nb L.length + 4 := by rw [length_frm, pack_len]
        rw [e1]
        exact H7.out
      · have HSE : Hid (Calls _ _ _ _ _) := seal_long w5 (some ⟨g, 0, none⟩) cap (nb L.length) (by omega) (by unfold maxLen; omega)
        have H6 : Hid (Own w0 w5 l) := h6.tail.tail.tail.tail
        clear h6 HBY z0 z1
        go_wp2_with fail
        refine HSE.out.mono ?_
        rintro x w6 ⟨rfl, rfl⟩
        clear HSE
        go_wp2
        go_ret2
        exact ⟨_, 3, [], rfl, HSR.out 3 (by decide) (by decide), H6.out.nilRow _ _⟩
    · have z0 : ((cc : Int) != 0) = true := by simpa using hc0
      have HC0 : Hid (cc ≠ 0) := hc0
      clear hc0
      go_wp2_with fail
      refine HCN.out.mono ?_
      rintro x w4 ⟨rfl, L, h5, -⟩
      have H5 : Hid (Own w0 w4 l) := h5.tail.tail.tail
      clear h5 HCN r0
      go_wp2
      go_ret2
      exact ⟨_, cc, [], rfl, HSR.out cc hkl HC0.out, H5.out.nilRow _ _⟩
  · have z0 : ((hc : Int) != 0) = true := by simpa using h0
    have HC0 : Hid (hc ≠ 0) := h0
    unfold hvs at HCH ⊢
    clear h0 HRT hI
    go_enter Tryd.func8, Tryd.ntmps8
    go_wp2_with fail
    refine HCH.out.mono ?_
    rintro x w1 ⟨rfl, hf1⟩
    have H5 : Hid (Own w0 w1 l) := (HB.out.quiet hf1).tail
    clear hf1 HCH HB q0 q1 q2 q3 q4
    go_wp2
    go_ret2
    exact ⟨_, hc, [], rfl, HSR.out hc hcl HC0.out, H5.out.nilRow _ _⟩
end Go.Proofs.YtheafmecpnjdjaaDoor

/-
  Lists of entities that come in, and how many values they hold.
-/
namespace Go.Proofs.YtheafmecpnjdjaaDoor
open Go.ChangeShapes Go.WideShapes Go.ChangeAt Go.RowKit Go.Deep
set_option linter.unusedVariables false
set_option maxRecDepth 100000

theorem bulk_pos {H : Type} (d : DataW H) : 1 ≤ Rows.uptoBulk d := by
  cases d with
  | lit v => cases v <;> simp [Rows.uptoBulk]
  | _ => simp [Rows.uptoBulk]
theorem bulk_count {H : Type} (m : List (DataW H)) : m.length ≤ Rows.uptoBulkAll m := by
  induction m with
  | nil => exact Nat.zero_le _
  | cons d m ih => have := bulk_pos d; simp only [Rows.uptoBulkAll, List.length_cons]; omega
theorem bulk_in {H : Type} {d : DataW H} {m : List (DataW H)} (h : d ∈ m) : Rows.uptoBulk d ≤ Rows.uptoBulkAll m := by
  induction m with
  | nil => cases h
  | cons y m ih =>
    simp only [Rows.uptoBulkAll]
    rcases List.mem_cons.1 h with rfl | h
    · omega
    · have := ih h; omega
theorem bulk_sum {H : Type} {D : Nat → DataW H} {s : Nat → Nat} : ∀ (R : List Nat), (∀ i ∈ R, s i ≤ Rows.uptoBulk (D i)) → (R.map s).sum ≤ Rows.uptoBulkAll (R.map D) := by
  intro R
  induction R with
  | nil => intro _; exact Nat.zero_le _
  | cons i R ih =>
    intro h
    have h1 := h i (by simp)
    have h2 := ih (fun j hj => h j (List.mem_cons_of_mem _ hj))
    simp only [List.map_cons, List.sum_cons, Rows.uptoBulkAll]
    omega
theorem bulk_slice {H : Type} (a b : List (DataW H)) : Rows.uptoBulk (.slice a b) = Rows.uptoBulkAll a + Rows.uptoBulkAll b + 1 := by simp only [Rows.uptoBulk]
theorem bulk_agg {H : Type} (a : List (DataW H)) : Rows.uptoBulk (.agg a) = Rows.uptoBulkAll a + 1 := by simp only [Rows.uptoBulk]
/-- elements of a slice that comes in, and how many values they hold -/
theorem open_rowsB {H : Type} {enc : TypeId × Value → H} {P : Program} {W : World} {ao : Option Addr} {len cap : Nat} {d : DataW H} {p : List MemPlace} {α : Type} [Inhabited α] {t e : TypeId} (s : Nat) (ht : P.underlying t = some (.slice e)) (hs : P.cellsOf e = s) (h0s : 0 < s) (G : List Value → α → Prop) (sz : α → Nat)
    (hG : ∀ fuel cs x, DataW.trod enc P W 0 (fun _ => true) true fuel e cs = some x → ∃ q, G cs q ∧ sz q ≤ Rows.uptoBulk x.1)
    (h : DataW.Trod enc P W 0 (fun _ => true) true t (.slice ao len cap) d p) :
    ∃ Q : List α, Q.length = len ∧ len ≤ cap ∧ cap ≤ maxLen ∧ RowsAt G s W ao Q ∧ (Q.map sz).sum ≤ Rows.uptoBulk d := by
  obtain ⟨fuel, hf⟩ := h
  rcases open_slice ht hf with ⟨hc, hd⟩ | ⟨a, l, c, m, n, D, Pl, hc, _, hl, hm, hmm, hd, hx⟩
  · simp [Value.cells] at hc
    obtain ⟨rfl, rfl, rfl⟩ := hc
    exact ⟨[], rfl, Nat.le_refl _, Nat.zero_le _, .inl rfl, Nat.zero_le _⟩
  · simp [Value.cells] at hc
    obtain ⟨rfl, rfl, rfl⟩ := hc
    simp only [Prod.mk.injEq] at hd
    obtain ⟨rfl, _⟩ := hd
    have hml : len ≤ m := by rw [hmm]; simp; omega
    have each : ∀ i, i < len → ∃ q : α, sz q ≤ Rows.uptoBulk (D i) ∧ ∃ cs, G cs q ∧ cs.length = s ∧ ∀ r, r < s → W.cell? ((a.add (i * s)).add r) = cs[r]? := by
      intro i hi
      obtain ⟨cs', h1, h2⟩ := hx i (by omega)
      rw [hs] at h1
      obtain ⟨_, hlen, hcell⟩ := World.cells?_some h1
      obtain ⟨q, hq, hb⟩ := hG _ _ _ h2
      exact ⟨q, hb, cs', hq, hlen, fun r hr => by rw [hcell r hr, List.getElem?_eq_getElem (by omega)]⟩
    obtain ⟨f, hfn⟩ := choose_lt each
    refine ⟨(List.range len).map f, by simp, hl, hm, ?_, ?_⟩
    · by_cases h0 : len = 0
      · subst h0; left; rfl
      · right
        obtain ⟨g, o, spot⟩ := a
        obtain ⟨_, cs, _, hcl, hcc⟩ := hfn 0 (by omega)
        have h1 := hcc 0 h0s
        rw [List.getElem?_eq_getElem (by omega)] at h1
        have hsp : spot = none := by simpa [Addr.add] using World.cell?_spot h1
        subst hsp
        refine ⟨g, o, rfl, fun j q hj => ?_⟩
        have hjl : j < len := by
          have := (List.getElem?_eq_some_iff.1 hj).1
          simpa using this
        rw [List.getElem?_map, List.getElem?_range hjl] at hj
        simp only [Option.map_some, Option.some.injEq] at hj
        obtain ⟨_, cs, h1, h2, h3⟩ := hfn j hjl
        rw [hj] at h1
        refine ⟨cs, h1, h2, fun r hr => ?_⟩
        have := h3 r hr
        rw [addr_add, addr_add] at this
        exact this
    · have h1 := bulk_sum (D := D) (s := fun i => sz (f i)) (List.range len) (fun i hi => (hfn i (by simpa using hi)).1)
      rw [bulk_slice, List.map_map]
      have e : sz ∘ f = fun i => sz (f i) := rfl
      rw [e]
      omega
theorem cellsEnt : Tryd.prog.cellsOf 43 = 2 := by kernel_rfl
theorem cellsEntC : Tryd.prog.cellsOf 41 = 1 := by kernel_rfl
theorem cellsEntI : Tryd.prog.cellsOf 40 = 1 := by kernel_rfl
theorem duo {β : Type} {l : List β} (h : l.length = 2) : ∃ a b, l = [a, b] := by
  match l, h with
  | [a, b], _ => exact ⟨a, b, rfl⟩
def EntI (W : World) (cs : List Value) (x : EnE) : Prop := cs = x.cs ∧ x.id < 4294967296 ∧ IsComps W x.ao x.C.length x.cap x.C
theorem ones_sum {α : Type} (Q : List α) : (Q.map (fun _ => 1)).sum = Q.length := by
  induction Q with
  | nil => rfl
  | cons a t ih => rw [List.map_cons, List.sum_cons, ih, List.length_cons]; omega
/-- components that come in, and how many there are -/
theorem open_csB {H : Type} {enc : TypeId × Value → H} {W : World} {fuel : Nat} {cs : List Value} {x : DataW H × List MemPlace} (h : DataW.trod enc Tryd.prog W 0 (fun _ => true) true fuel 41 cs = some x) : ∃ ao cap C, cs = [.slice ao (List.length C) cap] ∧ IsComps W ao (List.length C) cap C ∧ C.length ≤ Rows.uptoBulk x.1 := by
  obtain ⟨ao, len, cap, hv⟩ : ∃ ao len cap, cs = [.slice ao len cap] := by
    rcases open_slice Tryd.underlying41 h with ⟨hc, _⟩ | ⟨a, l, c, m, n, D, Pl, hc, _⟩
    · exact ⟨_, _, _, hc⟩
    · exact ⟨_, _, _, hc⟩
  subst hv
  obtain ⟨d, p⟩ := x
  obtain ⟨Q, h1, h2, h3, h4, h5⟩ := open_rowsB 4 Tryd.underlying41 cellsComp (by decide) CompIs (fun _ => 1) (fun fuel cs x hx => by
    obtain ⟨k, a, b, c, g1, g2, g3, g4, hcs, _⟩ := comp_cells hx
    obtain ⟨n, rfl, hn⟩ := ok8_nat g1
    exact ⟨⟨n, a, b, c⟩, ⟨hcs, hn⟩, bulk_pos _⟩) (d := d) (p := p) ⟨fuel, h⟩
  subst h1
  refine ⟨ao, cap, Q, rfl, ⟨rfl, h2, h3, h4⟩, ?_⟩
  rw [ones_sum] at h5
  exact h5
theorem ent_is {H : Type} {enc : TypeId × Value → H} {W : World} (fuel : Nat) (cs : List Value) (x : DataW H × List MemPlace)
    (h : DataW.trod enc Tryd.prog W 0 (fun _ => true) true fuel 43 cs = some x) : ∃ e, EntI W cs e ∧ e.C.length + 1 ≤ Rows.uptoBulk x.1 := by
  obtain ⟨xs, n, _, hx, hl, hlen, hf⟩ := DataW.trod_struct Tryd.underlying43 h
  rw [cellsEnt] at hl
  obtain ⟨c0, c1, rfl⟩ := duo hl
  obtain ⟨y0, y1, rfl⟩ := duo hlen
  have h0 := hf 0 _ rfl
  have h1 := hf 1 _ rfl
  simp [cellsEntC, cellsEntI] at h0 h1
  obtain ⟨b, b0, _, wb⟩ := DataW.trod_int Tryd.underlying40 h0
  simp at b0
  subst b0
  have hb : 0 ≤ b ∧ b ≤ 4294967295 := by simpa [Lit.wf, IntKind.min, IntKind.max, IntKind.signed, IntKind.bits] using wb
  obtain ⟨bn, rfl⟩ := Int.eq_ofNat_of_zero_le hb.1
  obtain ⟨ao, cap, C, hv, hC, hs⟩ := open_csB h1
  simp at hv
  subst hv
  refine ⟨⟨bn, ao, cap, C⟩, ⟨rfl, by show bn < _; omega, hC⟩, ?_⟩
  subst hx
  show _ ≤ Rows.uptoBulk (.agg [y0.1, y1.1])
  rw [bulk_agg]
  have := bulk_in (d := y1.1) (m := [y0.1, y1.1]) (by simp)
  show C.length + 1 ≤ _
  omega
def IsEnts (w : World) (ao : Option Addr) (len cap : Nat) (Q : List EnE) : Prop := Q.length = len ∧ len ≤ cap ∧ cap ≤ maxLen ∧ RowsAt (EntI w) 2 w ao Q
theorem esz_sum (Q : List EnE) : (Q.map (fun x => x.C.length + 1)).sum = esz Q := by
  unfold esz
  induction Q with
  | nil => rfl
  | cons x t ih => simp only [List.map_cons, List.sum_cons, List.length_cons, csz, ih]; omega
theorem open_ents {H : Type} {enc : TypeId × Value → H} {W : World} {ao : Option Addr} {len cap : Nat} {d : DataW H} {p : List MemPlace}
    (h : DataW.Trod enc Tryd.prog W 0 (fun _ => true) true 22 (.slice ao len cap) d p) : ∃ Q, IsEnts W ao len cap Q ∧ esz Q ≤ Rows.uptoBulk d := by
  haveI : Inhabited EnE := ⟨⟨0, none, 0, []⟩⟩
  obtain ⟨Q, h1, h2, h3, h4, h5⟩ := open_rowsB 2 Tryd.underlying22 cellsEnt (by decide) (EntI W) (fun x => x.C.length + 1) (fun fuel cs x hx => ent_is fuel cs x hx) h
  rw [esz_sum] at h5
  exact ⟨Q, ⟨h1, h2, h3, h4⟩, h5⟩
theorem IsEnts.ents {w : World} {ao : Option Addr} {len cap : Nat} {Q : List EnE} (h : IsEnts w ao len cap Q) : EntsAt w ao Q ∧ EIn Q := by
  obtain ⟨hl, _, _, hR⟩ := h
  have key : ∀ x ∈ Q, x.id < 4294967296 ∧ IsComps w x.ao x.C.length x.cap x.C := by
    intro x hx
    obtain ⟨j, hj⟩ := List.getElem?_of_mem hx
    rcases hR with h | ⟨g, of, ha, hc⟩
    · subst h; simp at hj
    · obtain ⟨cs, ⟨_, h3, h4⟩, _⟩ := hc j x hj
      exact ⟨h3, h4⟩
  refine ⟨⟨?_, fun x hx => (key x hx).2.cs.1⟩, fun x hx => ⟨(key x hx).1, (key x hx).2.cs.2⟩⟩
  rcases hR with h | ⟨g, of, ha, hc⟩
  · exact .inl h
  · refine .inr ⟨g, of, ha, fun j x hj => ?_⟩
    obtain ⟨cs, ⟨rfl, _⟩, _, h3⟩ := hc j x hj
    exact ⟨h3 0 (by decide), h3 1 (by decide)⟩
end Go.Proofs.YtheafmecpnjdjaaDoor


/-
  Heads that come in; whether two lists are few.
-/
namespace Go.Proofs.YtheafmecpnjdjaaDoor
open Go.ChangeShapes Go.WideShapes Go.ChangeAt Go.WideMaps Go.WideElems Go.RowKit
set_option linter.unusedVariables false
set_option maxRecDepth 100000

theorem cellsHead : Tryd.prog.cellsOf 28 = 5 := by kernel_rfl
theorem cellsU32h : Tryd.prog.cellsOf 23 = 1 := by kernel_rfl
def oku (a : Int) : Prop := (Lit.int .u32 a).wf = true
/-- a head's datum -/
def hdat {H : Type} (k c e t s : Int) : DataW H := .agg [.lit (.int .u8 k), .lit (.int .u8 c), .lit (.int .u32 e), .lit (.int .u32 t), .lit (.int .u32 s)]
def hdv (k c e t s : Int) : Array Value := #[.int .u8 k, .int .u8 c, .int .u32 e, .int .u32 t, .int .u32 s]
theorem head_cells {H : Type} {enc : TypeId × Value → H} {W : World} {base : Nat} {sp : Nat → Bool} {held : Bool} {fuel : Nat} {cs : List Value} {x : DataW H × List MemPlace}
    (h : DataW.trod enc Tryd.prog W base sp held fuel 28 cs = some x) : ∃ k c e t s, ok8 k ∧ ok8 c ∧ oku e ∧ oku t ∧ oku s ∧ cs = [.int .u8 k, .int .u8 c, .int .u32 e, .int .u32 t, .int .u32 s] ∧ x = (hdat k c e t s, []) := by
  obtain ⟨xs, n, _, hx, hl, hlen, hf⟩ := DataW.trod_struct Tryd.underlying28 h
  rw [cellsHead] at hl
  match cs, hl with
  | [c0, c1, c2, c3, c4], _ =>
  match xs, hlen with
  | [y0, y1, y2, y3, y4], _ =>
    have h0 := hf 0 _ rfl
    have h1 := hf 1 _ rfl
    have h2 := hf 2 _ rfl
    have h3 := hf 3 _ rfl
    have h4 := hf 4 _ rfl
    simp [cellsByte, cellsU32h] at h0 h1 h2 h3 h4
    obtain ⟨k, a0, a1, w0⟩ := DataW.trod_int Tryd.underlying5 h0
    obtain ⟨c, b0, b1, w1⟩ := DataW.trod_int Tryd.underlying5 h1
    obtain ⟨e, d0, d1, w2⟩ := DataW.trod_int Tryd.underlying23 h2
    obtain ⟨t, e0, e1, w3⟩ := DataW.trod_int Tryd.underlying23 h3
    obtain ⟨s, f0, f1, w4⟩ := DataW.trod_int Tryd.underlying23 h4
    simp at a0 b0 d0 e0 f0
    subst a0 b0 d0 e0 f0 a1 b1 d1 e1 f1 hx
    exact ⟨k, c, e, t, s, w0, w1, w2, w3, w4, rfl, by simp [hdat]⟩
def HdOk (k c e t s : Int) : Prop := ok8 k ∧ ok8 c ∧ oku e ∧ oku t ∧ oku s
theorem open_head {H : Type} {enc : TypeId × Value → H} {W : World} {base : Nat} {v : Value} {d : DataW H} {p : List MemPlace}
    (hv : Value.okWide Tryd.prog W .any base 28 v) (h : DataW.Trod enc Tryd.prog W 0 (fun _ => true) true 28 v d p) :
    ∃ k c e t s, v = .agg (hdv k c e t s) ∧ d = hdat k c e t s ∧ p = [] ∧ HdOk k c e t s := by
  obtain ⟨cs, rfl, hsz, _⟩ : ∃ cs, v = .agg cs ∧ cs.size = Tryd.prog.cellsOf 28 ∧ Row.okWide Tryd.prog W .any base 28 cs := by
    simpa [Value.okWide, Tryd.underlying28] using hv
  obtain ⟨fuel, hf⟩ := h
  obtain ⟨k, c, e, t, s, h1, h2, h3, h4, h5, hc, hx⟩ := head_cells hf
  simp only [Prod.mk.injEq] at hx
  obtain ⟨ls⟩ := cs
  simp [Value.cells] at hc
  subst hc
  exact ⟨k, c, e, t, s, rfl, hx.1, hx.2, h1, h2, h3, h4, h5⟩
theorem shut_head {H : Type} {enc : TypeId × Value → H} {W : World} {base : Nat} {sp : Nat → Bool} {held : Bool} {k c e t s : Int} (h : HdOk k c e t s) :
    DataW.Trod enc Tryd.prog W base sp held 28 (.agg (hdv k c e t s)) (hdat k c e t s) [] :=
  ⟨3, by
    obtain ⟨h1, h2, h3, h4, h5⟩ := h
    unfold ok8 oku at *
    simp [DataW.trod, Value.cells, hdv, Tryd.underlying28, Tryd.underlying5, Tryd.underlying23, cellsHead, cellsByte, cellsU32h, h1, h2, h3, h4, h5, hdat]⟩
theorem oku_nat {a : Int} (h : oku a) : ∃ n : Nat, a = n ∧ n < 4294967296 := by
  have : 0 ≤ a ∧ a ≤ 4294967295 := by simpa [oku, Lit.wf, IntKind.min, IntKind.max, IntKind.signed, IntKind.bits] using h
  exact ⟨a.toNat, by omega, by omega⟩
theorem HdOk.nats {k c e t s : Int} (h : HdOk k c e t s) : ∃ k' c' e' t' s' : Nat, hdv k c e t s = hvs k' c' e' t' s' ∧ HIn k' c' e' t' s' := by
  obtain ⟨h1, h2, h3, h4, h5⟩ := h
  obtain ⟨k', rfl, a1⟩ := ok8_nat h1
  obtain ⟨c', rfl, a2⟩ := ok8_nat h2
  obtain ⟨e', rfl, a3⟩ := oku_nat h3
  obtain ⟨t', rfl, a4⟩ := oku_nat h4
  obtain ⟨s', rfl, a5⟩ := oku_nat h5
  exact ⟨k', c', e', t', s', rfl, a1, a2, a3, a4, a5⟩
set_option maxHeartbeats 400000 in
theorem few20_any (w : World) (a1 a2 : Option Addr) (n1 n2 c1 c2 : Nat) (L M : List EnE) (h1 : L.length = n1) (h2 : M.length = n2) (e1 : EntsAt w a1 L) (e2 : EntsAt w a2 M) (z1 : esz L ≤ 1048576) (z2 : esz M ≤ 1048576) :
    Calls Tryd.prog 11 #[.slice a1 n1 c1, .slice a2 n2 c2] w fun e w' => e = .returned (.bool (decide (esz L ≤ 400) && decide (esz M ≤ 400))) ∧ Fr Nobody w w' := by
  have HF : Hid (Calls _ _ _ _ _) := few_any w a1 n1 c1 L h1 e1 z1
  have HG : Hid (∀ W, Fr Nobody w W → Calls Tryd.prog 6 #[.slice a2 n2 c2] W fun e w' => e = .returned (.bool (decide (esz M ≤ 400))) ∧ Fr Nobody W w') := fun W hf => few_any W a2 n2 c2 M h2 (e2.quiet hf) z2
  clear h1 h2 e1 e2 z1 z2
  generalize decide (esz L ≤ 400) = r1 at *
  generalize decide (esz M ≤ 400) = r2 at *
  cases r1
  · go_enter Tryd.func11, Tryd.ntmps11
    go_wp2_with fail
    refine HF.out.mono ?_
    rintro e w1 ⟨rfl, hf1⟩
    have H1 : Hid (Fr Nobody w w1) := hf1
    clear hf1 HF HG
    go_wp2
    go_ret
    exact ⟨rfl, H1.out⟩
  · go_enter Tryd.func11, Tryd.ntmps11
    go_wp2_with fail
    refine HF.out.mono ?_
    rintro e w1 ⟨rfl, hf1⟩
    have H1 : Hid (Fr Nobody w w1) := hf1
    have HG1 : Hid (Calls _ _ _ _ _) := HG.out w1 hf1
    clear hf1 HF HG
    go_wp2_with fail
    refine HG1.out.mono ?_
    rintro e w2 ⟨rfl, hf2⟩
    have H2 : Hid (Fr Nobody w w2) := H1.out.trans hf2
    clear hf2 HG1 H1
    go_wp2
    go_ret
    exact ⟨rfl, H2.out⟩
end Go.Proofs.YtheafmecpnjdjaaDoor

/-
  The document's example of a packet; steps from a snapshot to itself, sealed.
-/
namespace Go.Proofs.YtheafmecpnjdjaaDoor
open Go.RowKit
set_option linter.unusedVariables false
set_option maxRecDepth 100000

theorem right3 : Right 3 2 1 5 0 := ⟨by decide, by decide, by decide, by decide, by decide, by decide, by decide, by decide, by decide⟩
theorem ack_len : nb (headB 3 2 1 5 0 ++ []).length = 6 := by decide +kernel
theorem ack_pack : pack (headB 3 2 1 5 0 ++ []) = [146, 80, 0, 0, 0, 0] := by decide +kernel
set_option maxHeartbeats 1000000 in
theorem awake20 (w : World) (htf : Tabf w) : Calls Tryd.prog 5 #[] w fun e w' => e = .returned (.bool true) ∧ Fr Nobody w w' := by
  have hS := pseal_ok w w htf [] (Own.start w) 3 2 1 5 0 right3 (.slice none 0 0) (.slice none 0 0) [] (by decide +kernel) (by decide) (fun w' p b X hw => by
    rw [List.append_nil]
    exact content_no w w' _ p 3 _ none 0 hw (by decide) (by decide))
  rw [ack_len, ack_pack] at hS
  have HS : Hid (Calls Tryd.prog 8 #[.agg #[.int .u8 3, .int .u8 2, .int .u32 1, .int .u32 5, .int .u32 0], .slice none 0 0, .slice none 0 0] w _) := hS
  clear hS htf
  go_enter Tryd.func5, Tryd.ntmps5
  go_wp2_with fail
  refine HS.out.mono ?_
  rintro x w1 ⟨g, cp, rfl, h1⟩
  have hin : In w1 (some ⟨g, 0, none⟩) (6 + 4) cp (frm [146, 80, 0, 0, 0, 0]) := In.of_row h1.row (by rw [length_frm]; rfl) (frm_byte _ (by decide))
  have hfo := frm_opens [146, 80, 0, 0, 0, 0] 6 rfl
  have hO := ropen_ok w1 (some ⟨g, 0, none⟩) cp 6 (frm [146, 80, 0, 0, 0, 0]) hin (by decide) hfo.1
  rw [hfo.2] at hO
  have HO : Hid (Calls Tryd.prog 13 #[.slice (some ⟨g, 0, none⟩) 10 cp] w1 _) := hO
  have H1 : Hid (Own w w1 _) := h1
  clear hO hin hfo h1 HS
  go_wp2_with fail
  refine HO.out.mono ?_
  rintro x w2 ⟨v, rfl, hr, hf⟩
  have h2 := H1.out.quiet hf
  have h3 := h2.litRow #[.int .u8 146, .int .u8 80, .int .u8 0, .int .u8 0, .int .u8 0, .int .u8 0] 5 1 6 (by decide) rfl
  have HSM : Hid (Calls _ _ _ _ _) := same_any (w2.alloc (.cells #[.int .u8 146, .int .u8 80, .int .u8 0, .int .u8 0, .int .u8 0, .int .u8 0] 5)) v (.slice (some ⟨w2.heap.size, 0, none⟩) 6 6) [146, 80, 0, 0, 0, 0] (Src.of_row ((row_weak hr).alloc _)) (Src.of_row h3.row)
  have HF : Hid (Fr Nobody w (w2.alloc (.cells #[.int .u8 146, .int .u8 80, .int .u8 0, .int .u8 0, .int .u8 0, .int .u8 0] 5))) := h3.fr
  clear h2 h3 hf HO H1 hr
  go_wp2_with fail
  refine HSM.out.mono ?_
  rintro x w3 ⟨rfl, rfl⟩
  clear HSM
  go_wp2
  go_ret
  exact ⟨rfl, HF.out⟩
/-- the bits of a step that changes nothing -/
def stepB (t s : Nat) : List Bool := headB 2 0 1 t s ++ ((var 0 ++ var 0) ++ var 0)
theorem var1_len : (var 1).length = 5 := by decide +kernel
theorem stepB_len (t s : Nat) (h : t = s + 1) : nb (stepB t s).length = 8 := by
  have e : t - s - 1 = 0 := by omega
  unfold stepB headB
  rw [if_pos (by rfl), if_pos rfl, e]
  simp only [List.length_append, length_bitsN, length_var0, var1_len, wid15, wid015]
  decide
set_option maxHeartbeats 1000000 in
theorem pseal_same (w0 w : World) (htb : Tab w0) (htf : Tabf w0) (l : List Thing) (h : Own w0 w l) (t s : Nat) (hts : t = s + 1) (ht : t < 4294967296) (aw an : Option Addr) (nw nn cw cn : Nat) (W N : List EnE) (hQ : ∀ w', Own w0 w' l → EntsAt w' aw W ∧ EntsAt w' an N) (hW : W.length = nw) (hN : N.length = nn) (hcw : nw ≤ cw) (hcn : nn ≤ cn) (hmw : cw ≤ 9223372036854775807) (hmn : cn ≤ 9223372036854775807) (hIW : EIn W) (hIN : EIn N) (hzW : esz W ≤ 1000000) (hzN : esz N ≤ 1000000) (hf : fm 0 (evs W) = 0) (he : evs W = evs N) :
    Calls Tryd.prog 8 #[.agg #[.int .u8 2, .int .u8 0, .int .u32 1, .int .u32 (t : Int), .int .u32 (s : Int)], .slice aw nw cw, .slice an nn cn] w fun x w' => ∃ g cp, x = .returned (.tuple #[.slice (some ⟨g, 0, none⟩) 12 cp, .int .i64 0]) ∧ Own w0 w' (Row 5 1 (.slice (some ⟨g, 0, none⟩) 12 cp) 12 (vrow (frm (pack (stepB t s)))) :: l) := by
  have hR : Right 2 0 1 t s := ⟨by decide, by decide, by decide, by decide, by decide, ht, by omega, rfl, by unfold bfit; simp; omega⟩
  have hhl := headB_le 2 0 1 t s (by decide) ht
  have h := pseal_ok w0 w htf l h 2 0 1 t s hR (.slice aw nw cw) (.slice an nn cn) ((var 0 ++ var 0) ++ var 0) (by simp only [List.length_append, length_var0]; omega) (by simp only [List.length_append, length_var0]; omega) (fun w' p b X hw => by
    have hc := content_same w0 w' htb (X :: l) p b _ hw aw an nw nn cw cn W N (fun w2 hw2 => hQ w2 hw2.tail) hW hN hcw hcn hmw hmn hIW hIN hzW hzN hf he (by omega)
    rw [List.append_assoc, List.append_assoc, ← List.append_assoc (var 0)] at hc
    exact hc)
  have e : nb (headB 2 0 1 t s ++ ((var 0 ++ var 0) ++ var 0)).length = 8 := stepB_len t s hts
  rw [e] at h
  exact h
end Go.Proofs.YtheafmecpnjdjaaDoor

/-
  Lists of entities that are alike; where they lie.
-/
namespace Go.Proofs.YtheafmecpnjdjaaDoor
open Go.RowKit
set_option linter.unusedVariables false
set_option maxRecDepth 100000

theorem evs_get {L M : List EnE} (h : evs L = evs M) {j : Nat} {x : EnE} (hx : L[j]? = some x) : ∃ y, M[j]? = some y ∧ y.id = x.id ∧ y.C = x.C := by
  have h1 : (evs M)[j]? = some (x.id, x.C) := by rw [← h]; exact evs_at hx
  unfold evs at h1
  rw [List.getElem?_map] at h1
  obtain ⟨y, hy, e⟩ := Option.map_eq_some_iff.1 h1
  simp only [Prod.mk.injEq] at e
  exact ⟨y, hy, e.1, e.2⟩
theorem evs_mem {L M : List EnE} (h : evs L = evs M) {x : EnE} (hx : x ∈ L) : ∃ y ∈ M, y.id = x.id ∧ y.C = x.C := by
  obtain ⟨j, hj⟩ := List.getElem?_of_mem hx
  obtain ⟨y, hy, e⟩ := evs_get h hj
  exact ⟨y, List.mem_of_getElem? hy, e⟩
theorem EIn.of_evs {L M : List EnE} (h : evs L = evs M) (hM : EIn M) : EIn L := fun x hx => by
  obtain ⟨y, hy, e1, e2⟩ := evs_mem h hx
  rw [← e1, ← e2]
  exact hM y hy
theorem csz_evs {L M : List EnE} (h : evs L = evs M) : csz L = csz M := by
  induction L generalizing M with
  | nil => cases M with
    | nil => rfl
    | cons y s => simp [evs] at h
  | cons x t ih =>
    cases M with
    | nil => simp [evs] at h
    | cons y s =>
      simp only [evs, List.map_cons, List.cons.injEq, Prod.mk.injEq] at h
      simp only [csz]
      rw [ih h.2, h.1.2]
theorem esz_evs {L M : List EnE} (h : evs L = evs M) : esz L = esz M := by
  have h1 := congrArg List.length h
  rw [evs_len, evs_len] at h1
  unfold esz
  rw [h1, csz_evs h]
theorem Own.entsCap {w0 w : World} {l : List Thing} {ao : Option Addr} {cap : Nat} {L : List EnE} (h : Own w0 w (EntsT ao cap L :: l)) : L.length ≤ cap ∧ cap ≤ 9223372036854775807 := by
  obtain ⟨_, h1⟩ := Own.ex_iff.1 h
  rcases h1.row.2 with ⟨hv, h0⟩ | ⟨g, cp, cur, hv, _, _, h3, h4, _⟩
  · simp only [Value.slice.injEq] at hv
    omega
  · simp only [Value.slice.injEq] at hv
    unfold maxLen at h4
    omega
end Go.Proofs.YtheafmecpnjdjaaDoor

/-
  The document's Form.
-/
namespace Go.Proofs.YtheafmecpnjdjaaDoor
open Go.RowKit
set_option linter.unusedVariables false
set_option maxRecDepth 100000

set_option maxHeartbeats 8000000 in
theorem rform_any (w : World) (ao : Option Addr) (n cap : Nat) (L : List EnE) (h : EntsAt w ao L) (hn : L.length = n) (hI : EIn L) (hz : esz L ≤ 1000000) :
    Calls Tryd.prog 7 #[.slice ao n cap] w fun e w' => e = .returned (.int .i64 ((fm 0 (evs L) : Nat) : Int)) ∧ Fr Nobody w w' := by
  have hm : n ≤ 1000000 := by unfold esz at hz; omega
  have HL : Hid (L.length = n ∧ EntsAt w ao L ∧ EIn L ∧ ∀ x ∈ L, x.C.length ≤ 1000000) := ⟨hn, h, hI, fun x hx => by have := csz_mem hx; unfold esz at hz; omega⟩
  clear hn h hI hz
  go_enter Tryd.func7, Tryd.ntmps7
  go_wp2
  go_loopw [11] (fun c wr => ∃ j : Nat, j ≤ n ∧ c = .int .i64 j ∧ fm (prvE (evs L) j) ((evs L).drop j) = fm 0 (evs L) ∧ Fr Nobody w wr) (fun c _ => n - (intOf c).toNat)
  case atStart => exact ⟨0, Nat.zero_le _, rfl, rfl, Fr.refl _ _⟩
  case round =>
    obtain ⟨j, hj, rfl, hI, hf⟩ := hrel
    have HI : Hid (fm (prvE (evs L) j) ((evs L).drop j) = fm 0 (evs L)) := hI
    have HF : Hid (Fr Nobody w wr) := hf
    clear hI hf
    by_cases hlt : j < n
    · obtain ⟨x, hx⟩ : ∃ x, L[j]? = some x := ⟨_, List.getElem?_eq_getElem (by rw [HL.out.1]; exact hlt)⟩
      obtain ⟨g, o, hao, c0, c1, _⟩ := (HL.out.2.1.quiet HF.out).at hx
      have hmx := List.mem_of_getElem? hx
      obtain ⟨hid, hkk⟩ := HL.out.2.2.1 x hmx
      have hlt' : (j : Int) < (n : Int) := by omega
      have hX := evs_at hx
      have HFW : Hid (Fr Nobody w (wr.alloc (.cells #[.int .u32 (x.id : Int), .slice x.ao x.C.length x.cap] 43))) := HF.out.alloc _
      obtain ⟨p, hp⟩ : ∃ p, prvE (evs L) j = p := ⟨_, rfl⟩
      obtain ⟨ls, hls⟩ : ∃ l, lst (-1) x.C = l := ⟨_, rfl⟩
      obtain ⟨uu, huu⟩ : ∃ u, un x.C = u := ⟨_, rfl⟩
      have HCL : Hid (x.C.length = x.C.length ∧ Cs w x.ao x.C ∧ ∀ q ∈ x.C, q.k < 256) := ⟨rfl, HL.out.2.1.2 x hmx, hkk⟩
      have HUU : Hid (uu = un x.C) := huu.symm
      have hcb := HL.out.2.2.2 x hmx
      have HTL : Hid True := trivial
      have HLS : Hid (∀ W, Fr Nobody w W → Calls Tryd.prog 15 #[.slice x.ao x.C.length x.cap] W fun e w' => e = .returned (.int .i64 (ls : Int)) ∧ Fr Nobody W w') := fun W hW => by
        rw [← hls]; exact rlist_any W x.ao x.C.length x.cap x.C rfl ((HL.out.2.1.2 x hmx).quiet hW) hkk (HL.out.2.2.2 x hmx)
      have HB4 : Hid ((x.id / 1024 < 1 ∨ x.id ≤ p) → fm 0 (evs L) = 4) := fun hc => by
        have e := ent1_a (p := p) (x := (x.id, x.C)) hc
        rw [← hp] at e
        rw [fm_bad hX HI.out (by rw [e]; decide), e]
      have HBL : Hid (¬ (x.id / 1024 < 1 ∨ x.id ≤ p) → ls ≠ 0 → fm 0 (evs L) = ls) := fun hc h2 => by
        have e := ent1_b (p := p) (x := (x.id, x.C)) hc (by rw [hls]; exact h2)
        rw [← hp, hls] at e
        rw [fm_bad hX HI.out (by rw [e]; exact h2), e]
      have HBU : Hid (¬ (x.id / 1024 < 1 ∨ x.id ≤ p) → ls = 0 → uu = true → fm 0 (evs L) = 4) := fun hc h2 h3 => by
        have e := ent1_c (p := p) (x := (x.id, x.C)) hc (by rw [hls]; exact h2) (by rw [huu]; exact h3)
        rw [← hp] at e
        rw [fm_bad hX HI.out (by rw [e]; decide), e]
      have HON : Hid (¬ (x.id / 1024 < 1 ∨ x.id ≤ p) → ls = 0 → uu = false → fm (prvE (evs L) (j + 1)) ((evs L).drop (j + 1)) = fm 0 (evs L)) := fun hc h2 h3 => by
        have e := ent1_d (p := p) (x := (x.id, x.C)) hc (by rw [hls]; exact h2) (by rw [huu]; exact h3)
        rw [← hp] at e
        exact fm_on hX HI.out e
      have hl5 : ls < 4294967296 := by rw [← hls]; exact lst_small x.C
      obtain ⟨ge, hge⟩ : ∃ ge, x.id / 1024 = ge := ⟨_, rfl⟩
      have hge2 : (ge : Int) ≤ 4194303 := by omega
      have HG : Hid (∀ W, Calls Tryd.prog 14 #[.int .u32 (x.id : Int)] W fun e w' => e = .returned (.int .i64 (ge : Int)) ∧ w' = W) := fun W => by rw [← hge]; exact rgen_e x.id W hid
      have b0 : ∀ f : FrOf (wr.alloc (.cells #[.int .u32 (x.id : Int), .slice x.ao x.C.length x.cap] 43)), f.val.cell? ⟨wr.heap.size, 0, none⟩ = some (.int .u32 (x.id : Int)) := fun f => (((Own.start wr).allocC _ _).quiet f.fr).cell 0
      have b1 : ∀ f : FrOf (wr.alloc (.cells #[.int .u32 (x.id : Int), .slice x.ao x.C.length x.cap] 43)), f.val.cell? ⟨wr.heap.size, 1, none⟩ = some (.slice x.ao x.C.length x.cap) := fun f => (((Own.start wr).allocC _ _).quiet f.fr).cell 1
      by_cases hid1 : 1 ≤ ge
      · have hg1 : ¬ (ge : Int) < 1 := by omega
        have hg3 : ¬ (4194303 : Int) < (ge : Int) := by omega
        rcases j with _ | i
        · have hp0 : p = 0 := by rw [← hp]; rfl
          have HC : Hid (¬ (x.id / 1024 < 1 ∨ x.id ≤ p)) := by show ¬ _; omega
          simp only [Nat.zero_mul, Nat.add_zero] at c0 c1
          have hlt0 : (0 : Int) < (n : Int) := by omega
          subst hao
          clear hx hmx hkk hls huu hp hX hid1 hp0 hid HI hge
          obtain ⟨xi, xa, xc, C⟩ := x
          simp only at c0 c1 HLS HB4 HBL HBU HON HC HFW HG HCL HUU hcb b0 b1
          generalize hclE : C.length = cl at *
          have HCE : Hid (C.length = cl) := hclE
          clear hclE
          have q0 := b0 ⟨_, Fr.refl _ _⟩
          simp only at q0
          go_wp2_with fail
          refine (HG.out _).mono ?_
          rintro e w5 ⟨rfl, hw5⟩
          subst hw5
          clear q0 c0 c1
          go_wp2
          generalize hWg : wr.alloc (.cells #[.int .u32 (xi : Int), .slice xa cl xc] 43) = W1 at *
          generalize wr.heap.size = b at *
          clear hWg
          refine wp_region_fr (by kernel_rfl) (by kernel_rfl) ?_
          repeat (with_reducible refine wpQuiet_step (fun K hK => ?_)
                  go_simp
                  (refine hK _ ?_; clear hK K))
          refine wpQuiet_nil ?_
          rintro w' ⟨f, rfl⟩
          have HF2 : Hid (Fr Nobody w f.val) := HFW.out.trans f.fr
          have HB2 : Hid (∀ w', Fr Nobody f.val w' → w'.cell? ⟨b, 1, none⟩ = some (.slice xa cl xc)) := fun w' hf => b1 ⟨w', f.fr.trans hf⟩
          have e1 := b1 f
          generalize f.val = W2 at *
          clear b0 b1
          go_wp2_with fail
          refine (HLS.out _ HF2.out).mono ?_
          rintro e W3 ⟨rfl, hf3⟩
          have HF3 : Hid (Fr Nobody w W3) := HF2.out.trans hf3
          have e3 := HB2.out W3 hf3
          clear hf3 e1 HB2 HF2 HLS
          by_cases hl0 : ls = 0
          · subst hl0
            go_wp2
            go_loopw [49] (fun c2 wr2 => ∃ i2 : Nat, i2 ≤ cl ∧ c2 = .int .i64 i2 ∧ un (C.take i2) = false ∧ Fr Nobody w wr2) (fun c2 _ => cl - (intOf c2).toNat)
            case atStart => exact ⟨0, Nat.zero_le _, rfl, by simp [un], HF3.out⟩
            case round =>
              obtain ⟨i2, hi2, rfl, hu2, hf4⟩ := hrel
              have HU2 : Hid (un (C.take i2) = false) := hu2
              have HF4 : Hid (Fr Nobody w _) := hf4
              clear hu2 hf4
              by_cases hlt2 : i2 < cl
              · obtain ⟨q, hq⟩ : ∃ q, C[i2]? = some q := ⟨_, List.getElem?_eq_getElem (by rw [HCE.out]; exact hlt2)⟩
                obtain ⟨gg, oo, hga, _, y0, y1, y2, y3⟩ := ((HCL.out.2.1).quiet HF4.out).at i2 q hq
                subst hga
                have hq8 := HCL.out.2.2 q (List.mem_of_getElem? hq)
                have hlt2' : (i2 : Int) < (cl : Int) := by omega
                have HT : Hid (∀ W, Calls Tryd.prog 16 #[.int .u8 (q.k : Int)] W fun e w' => e = .returned (.bool (ktold q.k)) ∧ Fr Nobody W w') := fun W => rtold_any W q.k hq8
                have HU3 : Hid (ktold q.k = false → un C = true) := fun e => un_mem (List.mem_of_getElem? hq) e
                have HU4 : Hid (ktold q.k = true → un (C.take (i2 + 1)) = false) := fun e => by rw [take_snoc C i2 q hq, un_snoc, HU2.out, e]; rfl
                have HF5 : Hid (Fr Nobody w (_)) := HF4.out.alloc (.cells #[.int .u8 (q.k : Int), .int .i32 q.a, .int .i32 q.b, .int .i32 q.c] 48)
                clear hq
                generalize ktold q.k = r at *
                obtain ⟨qk, qa, qb, qc⟩ := q
                simp only at y0 y1 y2 y3 HT HF5
                go_wp2_with fail
                refine (HT.out _).mono ?_
                rintro e W6 ⟨rfl, hf6⟩
                have HF6 : Hid (Fr Nobody w W6) := HF5.out.trans hf6
                clear hf6 HT y0 y1 y2 y3
                cases r
                · have HN : Hid (fm 0 (evs L) = 4) := HBU.out HC.out (by trivial) (by rw [HUU.out]; exact HU3.out rfl)
                  clear HON HBL HBU HB4
                  go_wp2
                  go_ret
                  exact ⟨by rw [HN.out]; rfl, HF6.out⟩
                · have HU : Hid (un (C.take (i2 + 1)) = false) := HU4.out rfl
                  go_wp2
                  go_roundw
                  case rel => exact ⟨i2 + 1, by omega, by go_num, HU.out, HF6.out⟩
                  case measure => simp [intOf]; omega
              · have hlt2' : ¬ (i2 : Int) < (cl : Int) := by omega
                have HU : Hid (uu = false) := by have := HU2.out; rw [List.take_of_length_le (by rw [HCE.out]; omega)] at this; rw [HUU.out]; exact this
                have HN : Hid (fm (prvE (evs L) (0 + 1)) ((evs L).drop (0 + 1)) = fm 0 (evs L)) := HON.out HC.out (by trivial) HU.out
                clear HON HBL HBU HB4
                go_wp2
                go_roundw
                case rel => exact ⟨0 + 1, by omega, by go_num, HN.out, HF4.out⟩
                case measure => simp [intOf]; omega
          · have HN : Hid (fm 0 (evs L) = ls) := HBL.out HC.out hl0
            have hl1 : ((ls : Int) != 0) = true := by simpa using hl0
            clear HON HBL HBU HB4
            go_wp2
            go_ret
            exact ⟨by rw [HN.out]; rfl, HF3.out⟩
        · obtain ⟨y, hy⟩ : ∃ y, L[i]? = some y := ⟨_, List.getElem?_eq_getElem (by rw [HL.out.1]; omega)⟩
          have hpy : p = y.id := by rw [← hp]; simp [prvE, evs_at hy]
          have d0 : ∀ f : FrOf (wr.alloc (.cells #[.int .u32 (x.id : Int), .slice x.ao x.C.length x.cap] 43)), f.val.cell? ⟨g, o + i * 2, none⟩ = some (.int .u32 (p : Int)) := fun f => by
            obtain ⟨g', o', hg', h0, _, _⟩ := (HL.out.2.1.quiet (HFW.out.trans f.fr)).at hy
            rw [hao] at hg'
            cases hg'
            rw [hpy]; exact h0
          have hyid := (HL.out.2.2.1 y (List.mem_of_getElem? hy)).1
          rw [← hpy] at hyid
          have hwi : IntKind.i64.wrap (i : Int) = (i : Int) := by rw [IntKind.wrap_i64]; omega
          have hin : (i : Int) < (n : Int) := by omega
          subst hao
          by_cases hle : x.id ≤ p
          · have HC : Hid (x.id / 1024 < 1 ∨ x.id ≤ p) := .inr hle
            have hle' : (x.id : Int) ≤ (p : Int) := by omega
            clear hx hmx hkk hls huu hp hX hid1 hid HI hy hpy hle hge
            obtain ⟨xi, xa, xc, C⟩ := x
            simp only at c0 c1 HLS HB4 HBL HBU HON HC HFW HG HCL HUU hcb b0 b1 hle' d0
            generalize hclE : C.length = cl at *
            have HCE : Hid (C.length = cl) := hclE
            clear hclE
            have q0 := b0 ⟨_, Fr.refl _ _⟩
            simp only at q0
            go_wp2_with fail
            refine (HG.out _).mono ?_
            rintro e w5 ⟨rfl, hw5⟩
            subst hw5
            clear q0 c0 c1
            go_wp2
            generalize hWg : wr.alloc (.cells #[.int .u32 (xi : Int), .slice xa cl xc] 43) = W1 at *
            generalize wr.heap.size = b at *
            clear hWg
            refine wp_region_fr (by kernel_rfl) (by kernel_rfl) ?_
            repeat (with_reducible refine wpQuiet_step (fun K hK => ?_)
                    go_simp
                    (refine hK _ ?_; clear hK K))
            refine wpQuiet_nil ?_
            rintro w' ⟨f, rfl⟩
            have HF2 : Hid (Fr Nobody w f.val) := HFW.out.trans f.fr
            have HB2 : Hid (∀ w', Fr Nobody f.val w' → w'.cell? ⟨b, 1, none⟩ = some (.slice xa cl xc)) := fun w' hf => b1 ⟨w', f.fr.trans hf⟩
            have e1 := b1 f
            generalize f.val = W2 at *
            clear b0 b1
            have HN : Hid (fm 0 (evs L) = 4) := HB4.out HC.out
            clear HON HBL HBU HB4 HLS HTL
            go_wp2
            go_ret
            exact ⟨by rw [HN.out]; rfl, HF2.out⟩
          · have HC : Hid (¬ (x.id / 1024 < 1 ∨ x.id ≤ p)) := by show ¬ _; omega
            have hle' : ¬ (x.id : Int) ≤ (p : Int) := by omega
            clear hx hmx hkk hls huu hp hX hid1 hid HI hy hpy hle hge
            obtain ⟨xi, xa, xc, C⟩ := x
            simp only at c0 c1 HLS HB4 HBL HBU HON HC HFW HG HCL HUU hcb b0 b1 hle' d0
            generalize hclE : C.length = cl at *
            have HCE : Hid (C.length = cl) := hclE
            clear hclE
            have q0 := b0 ⟨_, Fr.refl _ _⟩
            simp only at q0
            go_wp2_with fail
            refine (HG.out _).mono ?_
            rintro e w5 ⟨rfl, hw5⟩
            subst hw5
            clear q0 c0 c1
            go_wp2
            generalize hWg : wr.alloc (.cells #[.int .u32 (xi : Int), .slice xa cl xc] 43) = W1 at *
            generalize wr.heap.size = b at *
            clear hWg
            refine wp_region_fr (by kernel_rfl) (by kernel_rfl) ?_
            repeat (with_reducible refine wpQuiet_step (fun K hK => ?_)
                    go_simp
                    (refine hK _ ?_; clear hK K))
            refine wpQuiet_nil ?_
            rintro w' ⟨f, rfl⟩
            have HF2 : Hid (Fr Nobody w f.val) := HFW.out.trans f.fr
            have HB2 : Hid (∀ w', Fr Nobody f.val w' → w'.cell? ⟨b, 1, none⟩ = some (.slice xa cl xc)) := fun w' hf => b1 ⟨w', f.fr.trans hf⟩
            have e1 := b1 f
            generalize f.val = W2 at *
            clear b0 b1
            go_wp2_with fail
            refine (HLS.out _ HF2.out).mono ?_
            rintro e W3 ⟨rfl, hf3⟩
            have HF3 : Hid (Fr Nobody w W3) := HF2.out.trans hf3
            have e3 := HB2.out W3 hf3
            clear hf3 e1 HB2 HF2 HLS
            by_cases hl0 : ls = 0
            · subst hl0
              go_wp2
              go_loopw [49] (fun c2 wr2 => ∃ i2 : Nat, i2 ≤ cl ∧ c2 = .int .i64 i2 ∧ un (C.take i2) = false ∧ Fr Nobody w wr2) (fun c2 _ => cl - (intOf c2).toNat)
              case atStart => exact ⟨0, Nat.zero_le _, rfl, by simp [un], HF3.out⟩
              case round =>
                obtain ⟨i2, hi2, rfl, hu2, hf4⟩ := hrel
                have HU2 : Hid (un (C.take i2) = false) := hu2
                have HF4 : Hid (Fr Nobody w _) := hf4
                clear hu2 hf4
                by_cases hlt2 : i2 < cl
                · obtain ⟨q, hq⟩ : ∃ q, C[i2]? = some q := ⟨_, List.getElem?_eq_getElem (by rw [HCE.out]; exact hlt2)⟩
                  obtain ⟨gg, oo, hga, _, y0, y1, y2, y3⟩ := ((HCL.out.2.1).quiet HF4.out).at i2 q hq
                  subst hga
                  have hq8 := HCL.out.2.2 q (List.mem_of_getElem? hq)
                  have hlt2' : (i2 : Int) < (cl : Int) := by omega
                  have HT : Hid (∀ W, Calls Tryd.prog 16 #[.int .u8 (q.k : Int)] W fun e w' => e = .returned (.bool (ktold q.k)) ∧ Fr Nobody W w') := fun W => rtold_any W q.k hq8
                  have HU3 : Hid (ktold q.k = false → un C = true) := fun e => un_mem (List.mem_of_getElem? hq) e
                  have HU4 : Hid (ktold q.k = true → un (C.take (i2 + 1)) = false) := fun e => by rw [take_snoc C i2 q hq, un_snoc, HU2.out, e]; rfl
                  have HF5 : Hid (Fr Nobody w (_)) := HF4.out.alloc (.cells #[.int .u8 (q.k : Int), .int .i32 q.a, .int .i32 q.b, .int .i32 q.c] 48)
                  clear hq
                  generalize ktold q.k = r at *
                  obtain ⟨qk, qa, qb, qc⟩ := q
                  simp only at y0 y1 y2 y3 HT HF5
                  go_wp2_with fail
                  refine (HT.out _).mono ?_
                  rintro e W6 ⟨rfl, hf6⟩
                  have HF6 : Hid (Fr Nobody w W6) := HF5.out.trans hf6
                  clear hf6 HT y0 y1 y2 y3
                  cases r
                  · have HN : Hid (fm 0 (evs L) = 4) := HBU.out HC.out (by trivial) (by rw [HUU.out]; exact HU3.out rfl)
                    clear HON HBL HBU HB4
                    go_wp2
                    go_ret
                    exact ⟨by rw [HN.out]; rfl, HF6.out⟩
                  · have HU : Hid (un (C.take (i2 + 1)) = false) := HU4.out rfl
                    go_wp2
                    go_roundw
                    case rel => exact ⟨i2 + 1, by omega, by go_num, HU.out, HF6.out⟩
                    case measure => simp [intOf]; omega
                · have hlt2' : ¬ (i2 : Int) < (cl : Int) := by omega
                  have HU : Hid (uu = false) := by have := HU2.out; rw [List.take_of_length_le (by rw [HCE.out]; omega)] at this; rw [HUU.out]; exact this
                  have HN : Hid (fm (prvE (evs L) ((i + 1) + 1)) ((evs L).drop ((i + 1) + 1)) = fm 0 (evs L)) := HON.out HC.out (by trivial) HU.out
                  clear HON HBL HBU HB4
                  go_wp2
                  go_roundw
                  case rel => exact ⟨(i + 1) + 1, by omega, by go_num, HN.out, HF4.out⟩
                  case measure => simp [intOf]; omega
            · have HN : Hid (fm 0 (evs L) = ls) := HBL.out HC.out hl0
              have hl1 : ((ls : Int) != 0) = true := by simpa using hl0
              clear HON HBL HBU HB4
              go_wp2
              go_ret
              exact ⟨by rw [HN.out]; rfl, HF3.out⟩
      · have HC : Hid (x.id / 1024 < 1 ∨ x.id ≤ p) := .inl (by omega)
        have hg1 : (ge : Int) < 1 := by omega
        subst hao
        clear hx hmx hkk hls huu hp hX hid1 hid HI hge
        obtain ⟨xi, xa, xc, C⟩ := x
        simp only at c0 c1 HLS HB4 HBL HBU HON HC HFW HG HCL HUU hcb b0 b1
        generalize hclE : C.length = cl at *
        have HCE : Hid (C.length = cl) := hclE
        clear hclE
        have q0 := b0 ⟨_, Fr.refl _ _⟩
        simp only at q0
        go_wp2_with fail
        refine (HG.out _).mono ?_
        rintro e w5 ⟨rfl, hw5⟩
        subst hw5
        clear q0 c0 c1
        go_wp2
        generalize hWg : wr.alloc (.cells #[.int .u32 (xi : Int), .slice xa cl xc] 43) = W1 at *
        generalize wr.heap.size = b at *
        clear hWg
        refine wp_region_fr (by kernel_rfl) (by kernel_rfl) ?_
        repeat (with_reducible refine wpQuiet_step (fun K hK => ?_)
                go_simp
                (refine hK _ ?_; clear hK K))
        refine wpQuiet_nil ?_
        rintro w' ⟨f, rfl⟩
        have HF2 : Hid (Fr Nobody w f.val) := HFW.out.trans f.fr
        have HB2 : Hid (∀ w', Fr Nobody f.val w' → w'.cell? ⟨b, 1, none⟩ = some (.slice xa cl xc)) := fun w' hf => b1 ⟨w', f.fr.trans hf⟩
        have e1 := b1 f
        generalize f.val = W2 at *
        clear b0 b1
        have HN : Hid (fm 0 (evs L) = 4) := HB4.out HC.out
        clear HON HBL HBU HB4 HLS HTL
        go_wp2
        go_ret
        exact ⟨by rw [HN.out]; rfl, HF2.out⟩
    · have hlt' : ¬ (j : Int) < (n : Int) := by omega
      have HN : Hid (fm 0 (evs L) = 0) := fm_end HI.out (by rw [evs_len, HL.out.1]; omega)
      go_wp2
      go_ret
      exact ⟨by rw [HN.out]; rfl, HF.out⟩
end Go.Proofs.YtheafmecpnjdjaaDoor


/-
  The table that the program's text lays: what its reading gives.
-/
namespace Go.Proofs.YtheafmecpnjdjaaDoor
open Go.ChangeShapes Go.WideShapes Go.ChangeAt Go.WideMaps Go.WideElems Go.RowKit
set_option linter.unusedVariables false
set_option maxRecDepth 100000

theorem gSteps : Tryd.prog.globalNamed "pinnace/frame.steps" = some 0 := by kernel_rfl
theorem tSteps : (Tryd.prog.globals[0]?).map (·.type) = some 102 := by kernel_rfl

theorem tbl_vals : (List.range 16).map tbl = [0, 498536548, 997073096, 651767980, 1994146192, 1802195444, 1303535960, 1342533948, 3988292384, 4027552580, 3604390888, 3412177804, 2607071920, 2262029012, 2685067896, 3183342108] := by decide +kernel
theorem steps_at (i : Nat) (hi : i < 16) : ([DataW.lit (Lit.int IntKind.u32 0), DataW.lit (Lit.int IntKind.u32 498536548), DataW.lit (Lit.int IntKind.u32 997073096), DataW.lit (Lit.int IntKind.u32 651767980), DataW.lit (Lit.int IntKind.u32 1994146192), DataW.lit (Lit.int IntKind.u32 1802195444), DataW.lit (Lit.int IntKind.u32 1303535960), DataW.lit (Lit.int IntKind.u32 1342533948), DataW.lit (Lit.int IntKind.u32 3988292384), DataW.lit (Lit.int IntKind.u32 4027552580), DataW.lit (Lit.int IntKind.u32 3604390888), DataW.lit (Lit.int IntKind.u32 3412177804), DataW.lit (Lit.int IntKind.u32 2607071920), DataW.lit (Lit.int IntKind.u32 2262029012), DataW.lit (Lit.int IntKind.u32 2685067896), DataW.lit (Lit.int IntKind.u32 3183342108)] : List (DataW Unit))[i]? = some (DataW.lit (Lit.int IntKind.u32 ((tbl i : Nat) : Int))) := by
  have e : (tbl i) = ((List.range 16).map tbl)[i]?.getD 0 := by simp [hi]
  rw [e, tbl_vals]
  clear e
  match i, hi with
  | 0, _ => rfl
  | 1, _ => rfl
  | 2, _ => rfl
  | 3, _ => rfl
  | 4, _ => rfl
  | 5, _ => rfl
  | 6, _ => rfl
  | 7, _ => rfl
  | 8, _ => rfl
  | 9, _ => rfl
  | 10, _ => rfl
  | 11, _ => rfl
  | 12, _ => rfl
  | 13, _ => rfl
  | 14, _ => rfl
  | 15, _ => rfl
  | n + 16, h => exact absurd h (by omega)
theorem of_laidf {W : World} (h : laidMetH Tryd.prog laid1 W) : Tabf W := by
  rw [MakeChecks.laidMetH_plain _ _ _ (by kernel_rfl)] at h
  obtain ⟨ps, ⟨g0, t0, cs0, f0, p0, q0, hg0, ht0, hv0, hd0, _, _⟩, _, _⟩ := h
  obtain rfl := Option.some.inj (gSteps.symm.trans hg0)
  obtain rfl := Option.some.inj (tSteps.symm.trans ht0)
  obtain ⟨xs, m1, rfl, hx1, hlen, hn3, hel⟩ := DataW.trod_array Tryd.underlying102 hd0
  have c3 : Tryd.prog.cellsOf 23 = 1 := by kernel_rfl
  have c24 : Tryd.prog.cellsOf 102 = 16 := by kernel_rfl
  simp only [Prod.mk.injEq, DataW.agg.injEq, Rows.laid_pinnace_frame_steps] at hx1
  intro i hi
  have h0 := hel i hi
  have hxi : xs[i]? = some xs[i] := List.getElem?_eq_getElem (by rw [hn3]; exact hi)
  obtain ⟨k, e1, e2, _⟩ := DataW.trod_int Tryd.underlying23 (h0.trans hxi)
  have hk : k = ((tbl i : Nat) : Int) := by
    have h1 := steps_at i hi
    rw [hx1.1, List.getElem?_map, hxi] at h1
    simp only [Option.map_some, Option.some.injEq] at h1
    rw [e2] at h1
    simpa using h1
  subst hk
  have := World.var?_cell hg0 hv0 i
  rw [this]
  rw [c3, Nat.mul_one] at e1
  have h2 : (List.take 1 (List.drop i cs0.toList))[0]? = some (Value.int IntKind.u32 ((tbl i : Nat) : Int)) := by rw [e1]; rfl
  rw [List.getElem?_take, if_pos (by decide), List.getElem?_drop, Nat.add_zero, Array.getElem?_toList] at h2
  exact h2

theorem u16_rng {n : Int} (h : (Lit.int .u16 n).wf = true) : ∃ k : Nat, n = k ∧ k < 65536 := by
  have : 0 ≤ n ∧ n ≤ 65535 := by simpa [Lit.wf, IntKind.min, IntKind.max, IntKind.signed, IntKind.bits] using h
  exact ⟨n.toNat, by omega, by omega⟩
theorem u32_rng {n : Int} (h : (Lit.int .u32 n).wf = true) : ∃ k : Nat, n = k ∧ k < 4294967296 := by
  have : 0 ≤ n ∧ n ≤ 4294967295 := by simpa [Lit.wf, IntKind.min, IntKind.max, IntKind.signed, IntKind.bits] using h
  exact ⟨n.toNat, by omega, by omega⟩
theorem u8_rng {n : Int} (h : (Lit.int .u8 n).wf = true) : ∃ k : Nat, n = k ∧ k < 256 := by
  have : 0 ≤ n ∧ n ≤ 255 := by simpa [Lit.wf, IntKind.min, IntKind.max, IntKind.signed, IntKind.bits] using h
  exact ⟨n.toNat, by omega, by omega⟩
end Go.Proofs.YtheafmecpnjdjaaDoor

