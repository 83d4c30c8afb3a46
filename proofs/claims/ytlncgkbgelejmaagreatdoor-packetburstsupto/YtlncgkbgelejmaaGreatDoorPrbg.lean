/-
  The content of a Full and of a Step between snapshots.
-/
import Derived.Test.YtlncgkbgelejmaaGreatDoorPkpg
import Derived.Test.YtlncgkbgelejmaaGreatDoorEnog
import Derived.Test.YtlncgkbgelejmaaGreatDoorPkcg
namespace Go.Proofs.YtlncgkbgelejmaaGreatDoor
open Go.RowKit
set_option linter.unusedVariables false
set_option maxRecDepth 100000

theorem chz_of (W N : List En) : chz (N.filterMap (chgO W)) ≤ 2 * cszV N := by
  induction N with
  | nil => simp [chz]
  | cons e t ih =>
    rw [List.filterMap_cons]
    rcases hx : chgO W e with _ | c
    · simp only [cszV]; omega
    · obtain ⟨x, _, rfl⟩ := chgO_of hx
      have h1 := List.length_filter_le (isNew x.2) e.2
      have h2 := List.length_filter_le (isSet x.2) e.2
      have e1 : (chg1 x e).new.length = (e.2.filter (isNew x.2)).length := rfl
      have e2 : (chg1 x e).set.length = (e.2.filter (isSet x.2)).length := rfl
      simp only [chz, cszV]
      omega
theorem dsz_of {W N : List EnE} {d : DlE} (hW : fm 0 (evs W) = 0) (hN : fm 0 (evs N) = 0) (hd : d.v = btw (evs W) (evs N)) : dsz d ≤ esz W + 4 * esz N := by
  have sW := Snap.of hW
  have sN := Snap.of hN
  have hcs := come_sz (evs W) (evs N)
  rw [← hd] at hcs
  have hc2 : cszV (evs d.M) ≤ cszV (evs N) := hcs
  rw [cszV_evs, cszV_evs] at hc2
  rw [btw_dlt _ _ sW.up sN.up] at hd
  have hg : d.G.length = (((evs W).filter (fun e => (fstE (evs N) e.1).isNone)).map (·.1)).length := congrArg (fun x => x.gone.length) hd
  have hm : (evs d.M).length = ((evs N).filter (fun e => (fstE (evs W) e.1).isNone)).length := congrArg (fun x => x.come.length) hd
  have hh : d.H.map ChE.v = (evs N).filterMap (chgO (evs W)) := congrArg Dl.chg hd
  have h1 := List.length_filter_le (fun e => (fstE (evs N) e.1).isNone) (evs W)
  have h2 := List.length_filter_le (fun e => (fstE (evs W) e.1).isNone) (evs N)
  have h3 := List.length_filterMap_le (chgO (evs W)) (evs N)
  have h4 := chz_of (evs W) (evs N)
  rw [← hh] at h3 h4
  rw [List.length_map] at hg h3
  rw [evs_len] at hm h1 h2 h3
  rw [cszV_evs] at h4
  unfold dsz esz
  omega
set_option maxHeartbeats 1000000 in
theorem content_full (w0 w : World) (ht : Tab w0) (l : List Thing) (p b : Nat) (L : List Bool) (wv : Value) (h : Own w0 w (penC p b :: WrT b L :: l)) (an : Option Addr) (nn cn : Nat) (N : List EnE) (hQ : ∀ w', Own w0 w' l → EntsAt w' an N) (hN : N.length = nn) (hIN : EIn N) (hzN : esz N ≤ 400) (hf : fm 0 (evs N) = 0) (hl : L.length ≤ 1000) :
    Calls Tryz.prog 42 #[.pointer (some ⟨p, 0, none⟩), .int .u8 1, wv, .slice an nn cn] w fun e w' => e = .returned (.int .i64 0) ∧ Own w0 w' (penC p b :: WrT b (L ++ (var nn ++ entsB 0 (evs N))) :: l) := by
  have hF := form_any w (ht.quiet h.fr) an nn cn N (hQ w h.tail.tail) hN hIN (by omega)
  rw [hf] at hF
  have HF : Hid (Calls Tryz.prog 74 #[.slice an nn cn] w fun e w' => e = .returned (.int .i64 0) ∧ Fr Nobody w w') := hF
  have HP : Hid (∀ Z, Own w0 Z (penC p b :: WrT b L :: l) → Calls Tryz.prog 75 #[.pointer (some ⟨p, 0, none⟩), .slice an nn cn] Z fun e w' => e = .returned (.tuple #[]) ∧ Own w0 w' (penC p b :: WrT b ((L ++ var nn) ++ entsB 0 (evs N)) :: l)) := fun Z hZ => pents w0 Z ht l p b L an nn cn N hZ hQ hN hIN (Snap.of hf).up (fm_each hf) (by omega)
  have H : Hid (Own w0 w (penC p b :: WrT b L :: l)) := h
  have z0 : ((0 : Int) != 0) = false := rfl
  rw [← List.append_assoc]
  clear h hQ hN hIN hzN hf hl hF ht
  go_enter Tryz.func42, Tryz.ntmps42
  go_wp2_with fail
  refine HF.out.mono ?_
  rintro e w1 ⟨rfl, hf1⟩
  have HP1 : Hid (Calls _ _ _ _ _) := HP.out w1 (H.out.quiet hf1)
  clear hf1 HF HP H
  go_wp2_with fail
  refine HP1.out.mono ?_
  rintro e w2 ⟨rfl, h2⟩
  have H2 : Hid (Own w0 w2 _) := h2
  clear h2 HP1
  go_wp2
  go_ret
  exact ⟨rfl, by first | exact H2.out | (rw [← List.append_assoc]; exact H2.out)⟩
set_option maxHeartbeats 2000000 in
theorem content_step (w0 w : World) (ht : Tab w0) (l : List Thing) (p b : Nat) (L : List Bool) (h : Own w0 w (penC p b :: WrT b L :: l)) (aw an : Option Addr) (nw nn cw cn : Nat) (W N : List EnE) (hQ : ∀ w', Own w0 w' l → EntsAt w' aw W ∧ EntsAt w' an N) (hW : W.length = nw) (hN : N.length = nn) (hcw : nw ≤ cw) (hcn : nn ≤ cn) (hmw : cw ≤ 9223372036854775807) (hmn : cn ≤ 9223372036854775807) (hIW : EIn W) (hIN : EIn N) (hzW : esz W ≤ 400) (hzN : esz N ≤ 400) (hf : fm 0 (evs W) = 0) (hg : fm 0 (evs N) = 0) (hl : L.length ≤ 1000) :
    Calls Tryz.prog 42 #[.pointer (some ⟨p, 0, none⟩), .int .u8 2, .slice aw nw cw, .slice an nn cn] w fun e w' => e = .returned (.int .i64 0) ∧ Own w0 w' (penC p b :: WrT b (L ++ dltB (evs W) (btw (evs W) (evs N))) :: l) := by
  have HD : Hid (Calls _ _ _ _ _) := diff_any w0 w ht _ h aw an nw nn cw cn W N (fun w' hw => hQ w' hw.tail.tail) hW hN hcw hcn hmw hmn hIW hIN (by omega) (by omega)
  have hdc : dcode (evs W) (evs N) = 0 := by unfold dcode; simp [hf, hg]
  have hdv : dlv (evs W) (evs N) = btw (evs W) (evs N) := by unfold dlv; rw [if_pos hdc]
  rw [hdc, hdv] at HD
  have HPD : Hid (∀ Z (d : DlE) (X : Thing), d.v = btw (evs W) (evs N) → Own w0 Z (penC p b :: WrT b L :: X :: (d.things ++ l)) → Calls Tryz.prog 77 #[.pointer (some ⟨p, 0, none⟩), .slice aw nw cw, .agg #[.slice d.ga d.G.length d.gc, .slice d.ma d.M.length d.mc, .slice d.ha d.H.length d.hc]] Z fun e w' => e = .returned (.tuple #[]) ∧ Own w0 w' (penC p b :: WrT b (L ++ dltB (evs W) (btw (evs W) (evs N))) :: X :: (d.things ++ l))) := fun Z d X hd hZ => by
    have hds := dsz_of hf hg hd
    have h1 := pdelta w0 Z ht (X :: (d.things ++ l)) p b L aw nw cw W d hZ (fun w' hw => (hQ w' hw.tail.dropA).1) (fun w' hw j i hi => by
      obtain ⟨g, o, hga, hc⟩ := hw.tail.dlAt.g.at hi
      exact ⟨g, o, hga, hc⟩) (fun w' hw => hw.tail.dlAt.m) (fun w' hw j x hx => by
      obtain ⟨g, o, hga, hc, hn, hs⟩ := hw.tail.dlAt.h.at hx
      exact ⟨g, o, hga, hc, hn, hs⟩) hW (by omega) (Snap.of hf).up (dtOk_of hf hg hIW hIN hd) (by omega)
    rw [hd] at h1
    exact h1
  clear h hQ hW hN hcw hcn hmw hmn hIW hIN hzW hzN hf hg hdc hdv hl ht
  go_enter Tryz.func42, Tryz.ntmps42
  go_wp2_with fail
  refine HD.out.mono ?_
  rintro e w1 ⟨d, rfl, hd, h1⟩
  unfold DlE.vs
  have h2 := (h1.perm (List.perm_append_comm_assoc d.things [penC p b, WrT b L] l)).allocC #[.slice d.ga d.G.length d.gc, .slice d.ma d.M.length d.mc, .slice d.ha d.H.length d.hc] 53
  have q0 := h2.cell 0
  have q1 := h2.cell 1
  have q2 := h2.cell 2
  simp at q0 q1 q2
  have HP : Hid (Calls _ _ _ _ _) := HPD.out _ d _ hd h2.two.in23
  have z0 : ((0 : Int) != 0) = false := rfl
  clear h1 h2 hd HD HPD
  go_wp2_with fail
  refine HP.out.mono ?_
  rintro e w2 ⟨rfl, h3⟩
  have h4 := h3.three.tail
  have H3 : Hid (Own w0 w2 (penC p b :: WrT b (L ++ dltB (evs W) (btw (evs W) (evs N))) :: l)) := by
    have h5 := h4.perm ((List.perm_append_comm_assoc [penC p b, WrT b (L ++ dltB (evs W) (btw (evs W) (evs N)))] d.things l))
    exact h5.dropA
  clear h3 h4 HP q0 q1 q2
  go_wp2
  go_ret
  exact ⟨rfl, H3.out⟩
end Go.Proofs.YtlncgkbgelejmaaGreatDoor

/-
  Bits that can be parted: numbers of a width, and Var.
-/
namespace Go.Proofs.YtlncgkbgelejmaaGreatDoor
open Go.RowKit
set_option linter.unusedVariables false
set_option maxRecDepth 100000

theorem bits_cut {n v w : Nat} {r s : List Bool} (hv : v < 2 ^ n) (hw : w < 2 ^ n) (h : bitsN n v ++ r = bitsN n w ++ s) : v = w ∧ r = s := by
  have h1 := List.append_inj h (by rw [length_bitsN, length_bitsN])
  refine ⟨?_, h1.2⟩
  have h2 := congrArg num h1.1
  rw [num_bitsN, num_bitsN, Nat.mod_eq_of_lt hv, Nat.mod_eq_of_lt hw] at h2
  exact h2
theorem varTo_groups (v w n m : Nat) : ∀ k, varTo v n k = varTo w m k → ∀ i, i < k → grpAt v n i = grpAt w m i := by
  intro k
  induction k with
  | zero => intro _ i hi; omega
  | succ k ih =>
    intro h i hi
    rw [varTo, varTo] at h
    have h1 := List.append_inj h (by rw [length_varTo, length_varTo])
    rcases Nat.lt_or_ge i k with hk | hk
    · exact ih h1.1 i hk
    · have : i = k := by omega
      subst this
      have h2 : bitsN 5 (grpAt v n i) ++ [] = bitsN 5 (grpAt w m i) ++ [] := by rw [h1.2]
      exact (bits_cut (Nat.lt_of_lt_of_le (grpAt_lt v n i) (by decide)) (Nat.lt_of_lt_of_le (grpAt_lt w m i) (by decide)) h2).1
theorem varTo_split (w m n j : Nat) : ∃ t, varTo w m (n + j) = varTo w m n ++ t ∧ (j = 0 → t = []) := by
  induction j with
  | zero => exact ⟨[], by simp, fun _ => rfl⟩
  | succ j ih =>
    obtain ⟨t, ht, _⟩ := ih
    exact ⟨t ++ bitsN 5 (grpAt w m (n + j)), by rw [← Nat.add_assoc, varTo, ht, List.append_assoc], fun h => by omega⟩
theorem dig_eq : ∀ (n v w : Nat), v < 2 ^ (4 * n) → w < 2 ^ (4 * n) → (∀ i, i < n → v / 2 ^ (4 * i) % 16 = w / 2 ^ (4 * i) % 16) → v = w := by
  intro n
  induction n with
  | zero => intro v w hv hw _; simp at hv hw; omega
  | succ n ih =>
    intro v w hv hw h
    have h0 := h 0 (by omega)
    simp at h0
    have e : 2 ^ (4 * (n + 1)) = 16 * 2 ^ (4 * n) := by rw [Nat.mul_add, Nat.pow_add]; omega
    rw [e] at hv hw
    have h1 := ih (v / 16) (w / 16) (Nat.div_lt_of_lt_mul hv) (Nat.div_lt_of_lt_mul hw) (fun i hi => by
      have h2 := h (i + 1) (by omega)
      have e2 : 2 ^ (4 * (i + 1)) = 16 * 2 ^ (4 * i) := by rw [Nat.mul_add, Nat.pow_add]; omega
      rw [e2] at h2
      rw [Nat.div_div_eq_div_mul, Nat.div_div_eq_div_mul]
      exact h2)
    omega
theorem lt_grp (v : Nat) (h : v < 18446744073709551616) : v < 2 ^ (4 * grp v) := by
  refine Nat.lt_of_lt_of_le (lt_bitLen v h) (Nat.pow_le_pow_right (by decide) ?_)
  unfold grp
  omega
theorem var_cut_le {v w : Nat} {r s : List Bool} (hv : v < 18446744073709551616) (hw : w < 18446744073709551616) (hle : grp v ≤ grp w) (h : var v ++ r = var w ++ s) : v = w ∧ r = s := by
  obtain ⟨j, hj⟩ : ∃ j, grp w = grp v + j := ⟨grp w - grp v, by omega⟩
  obtain ⟨t, ht, ht0⟩ := varTo_split w (grp w) (grp v) j
  have hb := grp_bd v hv
  unfold var at h
  have e : varTo w (grp w) (grp w) = varTo w (grp w) (grp v) ++ t := by rw [← ht, ← hj]
  rw [e, List.append_assoc] at h
  have h1 := List.append_inj h (by rw [length_varTo, length_varTo])
  have h2 := varTo_groups v w (grp v) (grp w) (grp v) h1.1
  have h3 := h2 (grp v - 1) (by omega)
  unfold grpAt at h3
  rw [if_neg (by omega)] at h3
  have hj0 : j = 0 := by
    rcases Nat.eq_zero_or_pos j with h0 | h0
    · exact h0
    · rw [if_pos (by omega)] at h3; omega
  have hg : grp w = grp v := by omega
  have hr : r = s := by rw [h1.2, ht0 hj0]; rfl
  refine ⟨?_, hr⟩
  refine dig_eq (grp v) v w (lt_grp v hv) (by rw [← hg]; exact lt_grp w hw) (fun i hi => ?_)
  have h4 := h2 i hi
  unfold grpAt at h4
  rw [hg] at h4
  omega
/-- Var can be parted from what follows -/
theorem var_cut {v w : Nat} {r s : List Bool} (hv : v < 18446744073709551616) (hw : w < 18446744073709551616) (h : var v ++ r = var w ++ s) : v = w ∧ r = s := by
  rcases Nat.le_total (grp v) (grp w) with hle | hle
  · exact var_cut_le hv hw hle h
  · obtain ⟨h1, h2⟩ := var_cut_le hw hv hle h.symm
    exact ⟨h1.symm, h2.symm⟩
theorem idB_cut {a i j : Nat} {r s : List Bool} (hi : a < i ∧ i < 4294967296) (hj : a < j ∧ j < 4294967296) (h : idB a i ++ r = idB a j ++ s) : i = j ∧ r = s := by
  unfold idB at h
  obtain ⟨h1, h2⟩ := var_cut (by omega) (by omega) h
  exact ⟨by omega, h2⟩
end Go.Proofs.YtlncgkbgelejmaaGreatDoor

/-
  Bits that can be parted: components behind their mask.
-/
namespace Go.Proofs.YtlncgkbgelejmaaGreatDoor
open Go.RowKit
set_option linter.unusedVariables false
set_option maxRecDepth 100000

theorem val_inj : ∀ (a b c d e f a' b' c' d' e' f' : Bool), val a b c d e f = val a' b' c' d' e' f' → a = a' ∧ b = b' ∧ c = c' ∧ d = d' ∧ e = e' ∧ f = f' := by
  intro a b c d e f a' b' c' d' e' f' h
  unfold val at h
  cases a <;> cases a' <;> cases b <;> cases b' <;> simp at h ⊢ <;> first | omega | (cases c <;> cases c' <;> cases d <;> cases d' <;> simp at h ⊢ <;> first | omega | (cases e <;> cases e' <;> cases f <;> cases f' <;> simp at h ⊢))
theorem msk_has {C D : List Cp} (h : msk C = msk D) : ∀ k, k < 6 → hasK C k = hasK D k := by
  rw [msk_val, msk_val] at h
  obtain ⟨h0, h1, h2, h3, h4, h5⟩ := val_inj _ _ _ _ _ _ _ _ _ _ _ _ h
  intro k hk
  match k, hk with
  | 0, _ => exact h0
  | 1, _ => exact h1
  | 2, _ => exact h2
  | 3, _ => exact h3
  | 4, _ => exact h4
  | 5, _ => exact h5
theorem kinds_eq {C D : List Cp} (hC : Good C) (hD : Good D) (h : msk C = msk D) : C.map (·.k) = D.map (·.k) := by
  have hm := msk_has h
  have key : ∀ {A B : List Cp}, Good A → (∀ k, k < 6 → hasK A k = hasK B k) → ∀ x, x ∈ A.map (·.k) → x ∈ B.map (·.k) := fun hA hk x hx => by
    obtain ⟨q, hq, rfl⟩ := List.mem_map.1 hx
    have h1 := mem_hasK hq
    rw [hk q.k (hA.2 q hq)] at h1
    obtain ⟨y, hy⟩ := hasK_fst h1
    have h2 := fst_some hy
    exact List.mem_map.2 ⟨y, h2.1, h2.2⟩
  exact up_mem (fun x : Nat => x) (List.pairwise_map.2 hC.1) (List.pairwise_map.2 hD.1) (fun x => ⟨key hC hm x, key hD (fun k hk => (hm k hk).symm) x⟩)
theorem cb_fields (k : Nat) (F G : Nat → Int) : ∀ n, cb k F n = cb k G n → ∀ j, j < n → fb k F j = fb k G j := by
  intro n
  induction n with
  | zero => intro _ j hj; omega
  | succ n ih =>
    intro h j hj
    rw [cb, cb] at h
    have h1 := List.append_inj h (by rw [length_cb, length_cb])
    rcases Nat.lt_or_ge j n with hk | hk
    · exact ih h1.1 j hk
    · have : j = n := by omega
      subst this
      exact h1.2
theorem fb_eq {k j : Nat} {F G : Nat → Int} (hF : lo k j ≤ F j ∧ F j ≤ hi k j) (hG : lo k j ≤ G j ∧ G j ≤ hi k j) (hj : j < cnt k) (h : fb k F j = fb k G j) : F j = G j := by
  obtain ⟨l0, l1, l2, l3⟩ := rng_ok k j hj
  have a := in_lt (F j) (lo k j) (hi k j) (by omega) (by omega) hF.1 hF.2
  have b := in_lt (G j) (lo k j) (hi k j) (by omega) (by omega) hG.1 hG.2
  unfold fb at h
  have h2 : bitsN (wd k j) (F j - lo k j).toNat ++ [] = bitsN (wd k j) (G j - lo k j).toNat ++ [] := by rw [h]
  have := (bits_cut a b h2).1
  omega
theorem cpB_cut {q q' : Cp} {r s : List Bool} (hk : q.k = q'.k) (hq : chk q.k (f3 q.a q.b q.c) = 0) (hq' : chk q'.k (f3 q'.a q'.b q'.c) = 0) (h : cpB q ++ r = cpB q' ++ s) : q = q' ∧ r = s := by
  obtain ⟨k, a, b, c⟩ := q
  obtain ⟨k', a', b', c'⟩ := q'
  simp only at hk
  subst hk
  unfold cpB at h
  simp only at h hq hq'
  have h1 := List.append_inj h (by rw [length_cb, length_cb])
  obtain ⟨_, f1, f2⟩ := chk_ok _ _ hq
  obtain ⟨_, g1, g2⟩ := chk_ok _ _ hq'
  have key : ∀ j, j < 3 → f3 a b c j = f3 a' b' c' j := fun j hj => by
    by_cases hc : j < cnt k
    · exact fb_eq (f1 j hc) (g1 j hc) hc (cb_fields k _ _ _ h1.1 j hc)
    · rw [f2 j (by omega) hj, g2 j (by omega) hj]
  have e0 : a = a' := key 0 (by decide)
  have e1 : b = b' := key 1 (by decide)
  have e2 : c = c' := key 2 (by decide)
  exact ⟨by rw [e0, e1, e2], h1.2⟩
theorem cpsB_cut : ∀ {C D : List Cp} {r s : List Bool}, C.map (·.k) = D.map (·.k) → (∀ q ∈ C, chk q.k (f3 q.a q.b q.c) = 0) → (∀ q ∈ D, chk q.k (f3 q.a q.b q.c) = 0) → cpsB C ++ r = cpsB D ++ s → C = D ∧ r = s := by
  intro C
  induction C with
  | nil =>
    intro D r s hk _ _ h
    cases D with
    | nil => exact ⟨rfl, h⟩
    | cons q t => simp at hk
  | cons x t ih =>
    intro D r s hk hC hD h
    cases D with
    | nil => simp at hk
    | cons y u =>
      simp only [List.map_cons, List.cons.injEq] at hk
      simp only [cpsB, List.append_assoc] at h
      obtain ⟨h1, h2⟩ := cpB_cut hk.1 (hC x (by simp)) (hD y (by simp)) h
      obtain ⟨h3, h4⟩ := ih hk.2 (fun q hq => hC q (by simp [hq])) (fun q hq => hD q (by simp [hq])) h2
      exact ⟨by rw [h1, h3], h4⟩
/-- an entity that may be told -/
def EnOk (x : En) : Prop := 1024 ≤ x.1 ∧ x.1 < 4294967296 ∧ lst (-1) x.2 = 0 ∧ un x.2 = false
theorem entB_cut {a : Nat} {x y : En} {r s : List Bool} (hx : EnOk x) (hy : EnOk y) (hax : a < x.1) (hay : a < y.1) (h : entB a x ++ r = entB a y ++ s) : x = y ∧ r = s := by
  unfold entB at h
  simp only [List.append_assoc] at h
  obtain ⟨h1, h2⟩ := idB_cut ⟨hax, hx.2.1⟩ ⟨hay, hy.2.1⟩ h
  obtain ⟨h3, h4⟩ := bits_cut (Nat.lt_of_lt_of_le (msk_lt32 hx.2.2.2) (by decide)) (Nat.lt_of_lt_of_le (msk_lt32 hy.2.2.2) (by decide)) h2
  have lx := lst_ok hx.2.2.1
  have ly := lst_ok hy.2.2.1
  obtain ⟨h5, h6⟩ := cpsB_cut (kinds_eq (good_of hx.2.2.1) (good_of hy.2.2.1) h3) (fun q hq => (lx.2 q hq).2) (fun q hq => (ly.2 q hq).2) h4
  exact ⟨Prod.ext h1 h5, h6⟩
theorem entsB_cut : ∀ {X Y : List En} {a : Nat} {r s : List Bool}, X.length = Y.length → X.Pairwise (fun a b => a.1 < b.1) → Y.Pairwise (fun a b => a.1 < b.1) → (∀ x ∈ X, EnOk x ∧ a < x.1) → (∀ x ∈ Y, EnOk x ∧ a < x.1) → entsB a X ++ r = entsB a Y ++ s → X = Y ∧ r = s := by
  intro X
  induction X with
  | nil =>
    intro Y a r s hl _ _ _ _ h
    cases Y with
    | nil => exact ⟨rfl, h⟩
    | cons y t => simp at hl
  | cons x t ih =>
    intro Y a r s hl hX hY oX oY h
    cases Y with
    | nil => simp at hl
    | cons y u =>
      simp only [entsB, List.append_assoc] at h
      have x1 := oX x (by simp)
      have y1 := oY y (by simp)
      obtain ⟨h1, h2⟩ := entB_cut x1.1 y1.1 x1.2 y1.2 h
      subst h1
      have pX := List.pairwise_cons.1 hX
      have pY := List.pairwise_cons.1 hY
      obtain ⟨h3, h4⟩ := ih (by simpa using hl) pX.2 pY.2 (fun z hz => ⟨(oX z (by simp [hz])).1, pX.1 z hz⟩) (fun z hz => ⟨(oY z (by simp [hz])).1, pY.1 z hz⟩) h2
      exact ⟨by rw [h3], h4⟩
end Go.Proofs.YtlncgkbgelejmaaGreatDoor

/-
  Bits that can be parted: components behind what they were, changes, heads.
-/
namespace Go.Proofs.YtlncgkbgelejmaaGreatDoor
open Go.RowKit
set_option linter.unusedVariables false
set_option maxRecDepth 100000

theorem mz_inj {F G G' : Nat → Int} {j : Nat} (h : mz F G j = mz F G' j) : G j = G' j := by
  unfold mz zig at h
  split at h <;> split at h <;> omega
theorem sb_cut {k j : Nat} {F G G' : Nat → Int} {r s : List Bool} (hj : j < cnt k) (hG : lo k j ≤ G j ∧ G j ≤ hi k j) (hG' : lo k j ≤ G' j ∧ G' j ≤ hi k j) (h : sb k F G j ++ r = sb k F G' j ++ s) : G j = G' j ∧ r = s := by
  have b1 : bitsN 1 0 = [false] := rfl
  have b2 : bitsN 2 3 = [true, true] := rfl
  have b3 : bitsN 2 1 = [true, false] := rfl
  unfold sb at h
  by_cases z1 : mz F G j = 0
  · rw [if_pos z1] at h
    by_cases z2 : mz F G' j = 0
    · rw [if_pos z2, b1] at h
      exact ⟨mz_inj (by rw [z1, z2]), by simpa using h⟩
    · rw [if_neg z2] at h
      split at h
      · rw [b1, b2] at h; simp at h
      · rw [b1, b3] at h; simp at h
  · rw [if_neg z1] at h
    by_cases n1 : mz F G j ≤ 16
    · rw [if_pos n1] at h
      by_cases z2 : mz F G' j = 0
      · rw [if_pos z2, b1, b2] at h; simp at h
      · rw [if_neg z2] at h
        by_cases n2 : mz F G' j ≤ 16
        · rw [if_pos n2, b2] at h
          simp only [List.cons_append, List.nil_append, List.cons.injEq, true_and] at h
          obtain ⟨h1, h2⟩ := bits_cut (n := 4) (by show _ < 16; omega) (by show _ < 16; omega) h
          exact ⟨mz_inj (F := F) (by omega), h2⟩
        · rw [if_neg n2, b2, b3] at h; simp at h
    · rw [if_neg n1] at h
      by_cases z2 : mz F G' j = 0
      · rw [if_pos z2, b1, b3] at h; simp at h
      · rw [if_neg z2] at h
        by_cases n2 : mz F G' j ≤ 16
        · rw [if_pos n2, b2, b3] at h; simp at h
        · rw [if_neg n2, b3] at h
          simp only [List.cons_append, List.nil_append, List.cons.injEq, true_and] at h
          have h1 := List.append_inj h (by rw [length_fb, length_fb])
          exact ⟨fb_eq hG hG' hj h1.1, h1.2⟩
theorem sbs_cut {k : Nat} {F G G' : Nat → Int} (hG : ∀ j, j < cnt k → lo k j ≤ G j ∧ G j ≤ hi k j) (hG' : ∀ j, j < cnt k → lo k j ≤ G' j ∧ G' j ≤ hi k j) : ∀ (n : Nat) {r s : List Bool}, n ≤ cnt k → sbs k F G n ++ r = sbs k F G' n ++ s → (∀ j, j < n → G j = G' j) ∧ r = s := by
  intro n
  induction n with
  | zero => intro r s _ h; exact ⟨fun j hj => by omega, by simpa [sbs] using h⟩
  | succ n ih =>
    intro r s hn h
    rw [sbs, sbs, List.append_assoc, List.append_assoc] at h
    obtain ⟨h1, h2⟩ := ih (by omega) h
    obtain ⟨h3, h4⟩ := sb_cut (by omega) (hG n (by omega)) (hG' n (by omega)) h2
    refine ⟨fun j hj => ?_, h4⟩
    rcases Nat.lt_or_ge j n with hk | hk
    · exact h1 j hk
    · have : j = n := by omega
      subst this
      exact h3
def StOk (A : List Cp) (q : Cp) : Prop := (∃ y, fst A q.k = some y) ∧ chk q.k (f3 q.a q.b q.c) = 0
theorem stpB_cut {A : List Cp} {q q' : Cp} {r s : List Bool} (hk : q.k = q'.k) (hq : StOk A q) (hq' : StOk A q') (h : stpB A q ++ r = stpB A q' ++ s) : q = q' ∧ r = s := by
  obtain ⟨k, a, b, c⟩ := q
  obtain ⟨k', a', b', c'⟩ := q'
  simp only at hk
  subst hk
  obtain ⟨⟨y, hy⟩, hc⟩ := hq
  obtain ⟨_, hc'⟩ := hq'
  unfold stpB at h
  simp only at h hy hc hc'
  rw [hy] at h
  simp only at h
  obtain ⟨_, f1, f2⟩ := chk_ok _ _ hc
  obtain ⟨_, g1, g2⟩ := chk_ok _ _ hc'
  obtain ⟨h1, h2⟩ := sbs_cut f1 g1 _ (Nat.le_refl _) h
  have key : ∀ j, j < 3 → f3 a b c j = f3 a' b' c' j := fun j hj => by
    by_cases hcn : j < cnt k
    · exact h1 j hcn
    · rw [f2 j (by omega) hj, g2 j (by omega) hj]
  have e0 : a = a' := key 0 (by decide)
  have e1 : b = b' := key 1 (by decide)
  have e2 : c = c' := key 2 (by decide)
  exact ⟨by rw [e0, e1, e2], h2⟩
theorem stpsB_cut {A : List Cp} : ∀ {C D : List Cp} {r s : List Bool}, C.map (·.k) = D.map (·.k) → (∀ q ∈ C, StOk A q) → (∀ q ∈ D, StOk A q) → stpsB A C ++ r = stpsB A D ++ s → C = D ∧ r = s := by
  intro C
  induction C with
  | nil =>
    intro D r s hk _ _ h
    cases D with
    | nil => exact ⟨rfl, h⟩
    | cons q t => simp at hk
  | cons x t ih =>
    intro D r s hk hC hD h
    cases D with
    | nil => simp at hk
    | cons y u =>
      simp only [List.map_cons, List.cons.injEq] at hk
      simp only [stpsB, List.append_assoc] at h
      obtain ⟨h1, h2⟩ := stpB_cut hk.1 (hC x (by simp)) (hD y (by simp)) h
      obtain ⟨h3, h4⟩ := ih hk.2 (fun q hq => hC q (by simp [hq])) (fun q hq => hD q (by simp [hq])) h2
      exact ⟨by rw [h1, h3], h4⟩
/-- a change whose parts are in order -/
structure ChGo (W : List En) (c : Chg) : Prop where
  ok : ChOk W c
  gn : Good c.new
  gs : Good c.set
theorem chgB_cut {W : List En} {a : Nat} {c c' : Chg} {r s : List Bool} (hc : ChGo W c) (hc' : ChGo W c') (ha : a < c.id) (ha' : a < c'.id) (h : chgB W a c ++ r = chgB W a c' ++ s) : c = c' ∧ r = s := by
  unfold chgB at h
  simp only [List.append_assoc] at h
  obtain ⟨h1, h2⟩ := idB_cut ⟨ha, hc.ok.id32⟩ ⟨ha', hc'.ok.id32⟩ h
  obtain ⟨h3, h4⟩ := bits_cut (Nat.lt_of_lt_of_le hc.ok.lost (by decide)) (Nat.lt_of_lt_of_le hc'.ok.lost (by decide)) h2
  obtain ⟨h5, h6⟩ := bits_cut (Nat.lt_of_lt_of_le hc.ok.mn (by decide)) (Nat.lt_of_lt_of_le hc'.ok.mn (by decide)) h4
  obtain ⟨h7, h8⟩ := bits_cut (Nat.lt_of_lt_of_le hc.ok.ms (by decide)) (Nat.lt_of_lt_of_le hc'.ok.ms (by decide)) h6
  obtain ⟨h9, h10⟩ := cpsB_cut (kinds_eq hc.gn hc'.gn h5) (fun q hq => (hc.ok.kn q hq).2) (fun q hq => (hc'.ok.kn q hq).2) h8
  rw [h1] at h10
  obtain ⟨h11, h12⟩ := stpsB_cut (kinds_eq hc.gs hc'.gs h7) (fun q hq => by
    obtain ⟨y, hy, _, hq2⟩ := hc.ok.st q hq
    rw [h1] at hy
    exact ⟨⟨y, hy⟩, hq2⟩) (fun q hq => by
    obtain ⟨y, hy, _, hq2⟩ := hc'.ok.st q hq
    exact ⟨⟨y, hy⟩, hq2⟩) h10
  obtain ⟨i, lo', nw, st⟩ := c
  obtain ⟨i', lo'', nw', st'⟩ := c'
  simp only at h1 h3 h9 h11
  exact ⟨by rw [h1, h3, h9, h11], h12⟩
/-- a head's bits can be parted from what follows -/
theorem headB_cut {k c e t s k' c' e' t' s' : Nat} {r q : List Bool} (h : Right k c e t s) (h' : Right k' c' e' t' s') (hb : headB k c e t s ++ r = headB k' c' e' t' s' ++ q) : (k = k' ∧ c = c' ∧ e = e' ∧ t = t' ∧ s = s') ∧ r = q := by
  unfold headB at hb
  rw [wid15, wid015] at hb
  simp only [List.append_assoc] at hb
  have a1 := h.k1
  have a2 := h.k5
  have a3 := h'.k1
  have a4 := h'.k5
  have a5 := h.c15
  have a6 := h'.c15
  obtain ⟨h1, h2⟩ := bits_cut (n := 3) (by show _ < 8; omega) (by show _ < 8; omega) hb
  have hk : k = k' := by omega
  subst hk
  obtain ⟨h3, h4⟩ := bits_cut (n := 4) (by show _ < 16; omega) (by show _ < 16; omega) h2
  obtain ⟨h5, h6⟩ := var_cut (by have := h.e32; omega) (by have := h'.e32; omega) h4
  by_cases hT : hasT k = true
  · rw [if_pos hT, if_pos hT] at h6
    obtain ⟨h7, h8⟩ := bits_cut (n := 32) (by have := h.t32; show _ < 4294967296; omega) (by have := h'.t32; show _ < 4294967296; omega) h6
    by_cases h22 : k = 2
    · rw [if_pos h22, if_pos h22] at h8
      have b1 := h.bf
      have b2 := h'.bf
      unfold bfit at b1 b2
      rw [if_pos h22] at b1 b2
      simp at b1 b2
      obtain ⟨h9, h10⟩ := var_cut (by have := h.t32; omega) (by have := h'.t32; omega) h8
      exact ⟨⟨rfl, h3, h5, h7, by omega⟩, h10⟩
    · rw [if_neg h22, if_neg h22] at h8
      have b1 := h.bf
      have b2 := h'.bf
      unfold bfit at b1 b2
      rw [if_neg h22] at b1 b2
      simp at b1 b2
      exact ⟨⟨rfl, h3, h5, h7, by omega⟩, by simpa using h8⟩
  · have h22 : k ≠ 2 := by rintro rfl; exact hT rfl
    rw [if_neg hT, if_neg hT, if_neg h22, if_neg h22] at h6
    have t1 := h.tf
    have t2 := h'.tf
    unfold tfit at t1 t2
    simp [hT] at t1 t2
    have b1 := h.bf
    have b2 := h'.bf
    unfold bfit at b1 b2
    rw [if_neg h22] at b1 b2
    simp at b1 b2
    exact ⟨⟨rfl, h3, h5, by omega, by omega⟩, by simpa using h6⟩
end Go.Proofs.YtlncgkbgelejmaaGreatDoor

/-
  Bits that can be parted: lists of IDs and of changes, whole deltas; frames tell their bits.
-/
namespace Go.Proofs.YtlncgkbgelejmaaGreatDoor
open Go.RowKit
set_option linter.unusedVariables false
set_option maxRecDepth 100000

theorem idsB_cut : ∀ {X Y : List Nat} {a : Nat} {r s : List Bool}, X.length = Y.length → X.Pairwise (· < ·) → Y.Pairwise (· < ·) → (∀ x ∈ X, a < x ∧ x < 4294967296) → (∀ x ∈ Y, a < x ∧ x < 4294967296) → idsB a X ++ r = idsB a Y ++ s → X = Y ∧ r = s := by
  intro X
  induction X with
  | nil =>
    intro Y a r s hl _ _ _ _ h
    cases Y with
    | nil => exact ⟨rfl, h⟩
    | cons y t => simp at hl
  | cons x t ih =>
    intro Y a r s hl hX hY oX oY h
    cases Y with
    | nil => simp at hl
    | cons y u =>
      simp only [idsB, List.append_assoc] at h
      obtain ⟨h1, h2⟩ := idB_cut (oX x (by simp)) (oY y (by simp)) h
      subst h1
      have pX := List.pairwise_cons.1 hX
      have pY := List.pairwise_cons.1 hY
      obtain ⟨h3, h4⟩ := ih (by simpa using hl) pX.2 pY.2 (fun z hz => ⟨pX.1 z hz, (oX z (by simp [hz])).2⟩) (fun z hz => ⟨pY.1 z hz, (oY z (by simp [hz])).2⟩) h2
      exact ⟨by rw [h3], h4⟩
theorem chgsB_cut {W : List En} : ∀ {X Y : List Chg} {a : Nat} {r s : List Bool}, X.length = Y.length → (X.map Chg.id).Pairwise (· < ·) → (Y.map Chg.id).Pairwise (· < ·) → (∀ x ∈ X, ChGo W x ∧ a < x.id) → (∀ x ∈ Y, ChGo W x ∧ a < x.id) → chgsB W a X ++ r = chgsB W a Y ++ s → X = Y ∧ r = s := by
  intro X
  induction X with
  | nil =>
    intro Y a r s hl _ _ _ _ h
    cases Y with
    | nil => exact ⟨rfl, h⟩
    | cons y t => simp at hl
  | cons x t ih =>
    intro Y a r s hl hX hY oX oY h
    cases Y with
    | nil => simp at hl
    | cons y u =>
      simp only [chgsB, List.append_assoc] at h
      have x1 := oX x (by simp)
      have y1 := oY y (by simp)
      obtain ⟨h1, h2⟩ := chgB_cut x1.1 y1.1 x1.2 y1.2 h
      subst h1
      rw [List.map_cons] at hX hY
      have pX := List.pairwise_cons.1 hX
      have pY := List.pairwise_cons.1 hY
      obtain ⟨h3, h4⟩ := ih (by simpa using hl) pX.2 pY.2 (fun z hz => ⟨(oX z (by simp [hz])).1, pX.1 z.id (List.mem_map.2 ⟨z, hz, rfl⟩)⟩) (fun z hz => ⟨(oY z (by simp [hz])).1, pY.1 z.id (List.mem_map.2 ⟨z, hz, rfl⟩)⟩) h2
      exact ⟨by rw [h3], h4⟩
/-- a delta whose parts are in order -/
structure DlGo (W : List En) (d : Dl) : Prop where
  gu : d.gone.Pairwise (· < ·)
  g1 : ∀ i ∈ d.gone, 0 < i ∧ i < 4294967296
  mu : d.come.Pairwise (fun a b => a.1 < b.1)
  mo : ∀ x ∈ d.come, EnOk x ∧ 0 < x.1
  hu : (d.chg.map Chg.id).Pairwise (· < ·)
  ho : ∀ x ∈ d.chg, ChGo W x ∧ 0 < x.id
  sz : d.gone.length < 18446744073709551616 ∧ d.come.length < 18446744073709551616 ∧ d.chg.length < 18446744073709551616
theorem dltB_cut {W : List En} {d d' : Dl} {r s : List Bool} (h : DlGo W d) (h' : DlGo W d') (hb : dltB W d ++ r = dltB W d' ++ s) : d = d' ∧ r = s := by
  unfold dltB at hb
  simp only [List.append_assoc] at hb
  obtain ⟨h1, h2⟩ := var_cut h.sz.1 h'.sz.1 hb
  obtain ⟨h3, h4⟩ := idsB_cut h1 h.gu h'.gu h.g1 h'.g1 h2
  obtain ⟨h5, h6⟩ := var_cut h.sz.2.1 h'.sz.2.1 h4
  obtain ⟨h7, h8⟩ := entsB_cut h5 h.mu h'.mu h.mo h'.mo h6
  obtain ⟨h9, h10⟩ := var_cut h.sz.2.2 h'.sz.2.2 h8
  obtain ⟨h11, h12⟩ := chgsB_cut h9 h.hu h'.hu h.ho h'.ho h10
  obtain ⟨a, b, c⟩ := d
  obtain ⟨a', b', c'⟩ := d'
  simp only at h3 h7 h11
  exact ⟨by rw [h3, h7, h11], h12⟩
/-- one frame, the same bits, but for noughts behind them -/
theorem frm_pack {L M : List Bool} (h : frm (pack L) = frm (pack M)) : ∃ r s, L ++ r = M ++ s := by
  have hl := congrArg List.length h
  rw [length_frm, length_frm] at hl
  have h1 : pack L = pack M := by
    unfold frm at h
    exact (List.append_inj h (by omega)).1
  have h2 : bitsB (pack L) = bitsB (pack M) := by rw [h1]
  rw [bitsB_pack, bitsB_pack] at h2
  exact ⟨_, _, h2⟩
end Go.Proofs.YtlncgkbgelejmaaGreatDoor

/-
  Two packets with one frame are one packet, behind the same snapshot: the plain reason.
-/
namespace Go.Proofs.YtlncgkbgelejmaaGreatDoor
open Go.RowKit
set_option linter.unusedVariables false
set_option maxRecDepth 100000

theorem aft_g {x : En} {t : List En} {g : List Nat} {c : List Chg} {L : List En} (h : AftR t g c L) : AftR (x :: t) (x.1 :: g) c L := by
  unfold AftR
  simp only [List.head?_cons, if_true, List.tail_cons]
  exact h
theorem aft_c {x : En} {t : List En} {g : List Nat} {y : Chg} {c : List Chg} {M : List Cp} {L : List En} (hg : g.head? ≠ some x.1) (hy : y.id = x.1) (hM : ChgR x.2 y M) (h : AftR t g c L) : AftR (x :: t) g (y :: c) ((x.1, M) :: L) := by
  unfold AftR
  rw [if_neg hg]
  simp only
  rw [if_pos hy]
  exact ⟨M, L, rfl, hM, h⟩
theorem aft_s {x : En} {t : List En} {g : List Nat} {c : List Chg} {L : List En} (hg : g.head? ≠ some x.1) (hc : c.head?.map Chg.id ≠ some x.1) (h : AftR t g c L) : AftR (x :: t) g c (x :: L) := by
  unfold AftR
  rw [if_neg hg]
  cases c with
  | nil => exact ⟨L, rfl, h⟩
  | cons y c =>
    simp only
    rw [if_neg (by simpa using hc)]
    exact ⟨L, rfl, h⟩
theorem chgR_ex (C : List Cp) (c : Chg) : ∃ M, ChgR C c M := by
  refine ⟨(mid C c).mergeSort (fun a b => decide (a.k ≤ b.k)), List.mergeSort_perm _ _, ?_⟩
  have h := List.pairwise_mergeSort (le := fun a b : Cp => decide (a.k ≤ b.k)) (fun a b c h1 h2 => by simp at h1 h2 ⊢; omega) (fun a b => by simp; omega) (mid C c)
  exact h.imp (fun h => by simpa using h)
theorem aft_ex (W : List En) : ∀ (g : List Nat) (c : List Chg), ∃ L, AftR W g c L := by
  induction W with
  | nil => exact fun g c => ⟨[], by simp [AftR]⟩
  | cons x t ih =>
    intro g c
    by_cases hg : g.head? = some x.1
    · match g, hg with
      | y :: g', hg =>
        have e : y = x.1 := by simpa using hg
        subst e
        obtain ⟨L, hL⟩ := ih g' c
        exact ⟨L, aft_g hL⟩
    · by_cases hc : c.head?.map Chg.id = some x.1
      · match c, hc with
        | y :: c', hc =>
          have e : y.id = x.1 := by simpa using hc
          obtain ⟨L, hL⟩ := ih g c'
          obtain ⟨M, hM⟩ := chgR_ex x.2 y
          exact ⟨_, aft_c hg e hM hL⟩
      · obtain ⟨L, hL⟩ := ih g c
        exact ⟨_, aft_s hg hc hL⟩
theorem btw_inj {W N R : List En} (hW : Snap W) (hN : Snap N) (hR : Snap R) (h : btw W R = btw W N) : R = N := by
  obtain ⟨L, hL⟩ := aft_ex W (btw W N).gone (btw W N).chg
  have h1 := aft_to W N hW hN L hL
  have h2 := aft_to W R hW hR L (by rw [h]; exact hL)
  rw [h] at h2
  exact sorted_one (fun e : En => e.1) N R hN.up (hR.up.imp (fun h => Nat.le_of_lt h)) (h2.symm.trans h1)
theorem enOk_of {N : List En} (h : fm 0 N = 0) (hI : ∀ e ∈ N, e.1 < 4294967296) : ∀ x ∈ N, EnOk x ∧ 0 < x.1 := fun x hx => by
  have h1 := fm_each h x hx
  exact ⟨⟨h1.1, hI x hx, h1.2.1, h1.2.2⟩, by omega⟩
theorem good_filter {C : List Cp} (h : Good C) (p : Cp → Bool) : Good (C.filter p) := ⟨h.1.filter p, fun q hq => h.2 q (List.mem_filter.1 hq).1⟩
theorem dlGo_of {W N : List En} (hW : fm 0 W = 0) (hN : fm 0 N = 0) (hIW : ∀ e ∈ W, e.1 < 4294967296) (hIN : ∀ e ∈ N, e.1 < 4294967296) (zW : W.length ≤ 1000000) (zN : N.length ≤ 1000000) : DlGo W (btw W N) := by
  have sW := Snap.of hW
  have sN := Snap.of hN
  rw [btw_dlt _ _ sW.up sN.up]
  have l1 := List.length_filter_le (fun e => (fstE N e.1).isNone) W
  have l2 := List.length_filter_le (fun e => (fstE W e.1).isNone) N
  have l3 := List.length_filterMap_le (chgO W) N
  refine ⟨?_, ?_, ?_, ?_, ?_, ?_, ?_⟩
  · exact List.pairwise_map.2 (sW.up.filter _)
  · intro i hi
    obtain ⟨e, he, rfl⟩ := List.mem_map.1 hi
    have he2 := (List.mem_filter.1 he).1
    have h1 := (fm_each hW e he2).1
    exact ⟨by omega, hIW e he2⟩
  · exact sN.up.filter _
  · intro x hx
    exact enOk_of hN hIN x (List.mem_filter.1 hx).1
  · exact chg_up _ sN.up
  · intro x hx
    obtain ⟨e, he, hec⟩ := List.mem_filterMap.1 hx
    have h1 := chOk_of hW hN he (hIN e he) hec
    obtain ⟨y, hy, rfl⟩ := chgO_of hec
    have g := good_of (fm_each hN e he).2.1
    exact ⟨⟨h1, good_filter g _, good_filter g _⟩, h1.id0⟩
  · refine ⟨?_, ?_, ?_⟩
    · show (((W.filter (fun e => (fstE N e.1).isNone)).map (·.1)).length) < _
      rw [List.length_map]; omega
    · show ((N.filter (fun e => (fstE W e.1).isNone)).length) < _
      omega
    · show ((N.filterMap (chgO W)).length) < _
      omega
/-- the content's code -/
def ccode (k : Nat) (W N : List En) : Nat := if k = 1 then fm 0 N else if k = 2 then dcode W N else if N.length = 0 then 0 else 4
/-- the content's bits -/
def contB (k : Nat) (W N : List En) : List Bool := if k = 1 then var N.length ++ entsB 0 N else if k = 2 then dltB W (btw W N) else []
theorem dcode_0 {W N : List En} (h : dcode W N = 0) : fm 0 W = 0 ∧ fm 0 N = 0 := by
  unfold dcode at h
  split at h
  · rename_i h1; exact absurd h h1
  · rename_i h1; exact ⟨by simpa using h1, h⟩
theorem apart {k c e t s k' c' e' t' s' : Nat} {W X Y : List En} (h : Right k c e t s) (h' : Right k' c' e' t' s') (hIW : ∀ e ∈ W, e.1 < 4294967296) (hIX : ∀ e ∈ X, e.1 < 4294967296) (hIY : ∀ e ∈ Y, e.1 < 4294967296) (zW : W.length ≤ 1000000) (zX : X.length ≤ 1000000) (zY : Y.length ≤ 1000000) (cX : ccode k W X = 0) (cY : ccode k' W Y = 0) (hb : frm (pack (headB k c e t s ++ contB k W X)) = frm (pack (headB k' c' e' t' s' ++ contB k' W Y))) : (k = k' ∧ c = c' ∧ e = e' ∧ t = t' ∧ s = s') ∧ X = Y := by
  obtain ⟨r, q, h1⟩ := frm_pack hb
  rw [List.append_assoc, List.append_assoc] at h1
  obtain ⟨h2, h3⟩ := headB_cut h h' h1
  refine ⟨h2, ?_⟩
  obtain ⟨rfl, -, -, -, -⟩ := h2
  unfold ccode at cX cY
  unfold contB at h3
  by_cases k1 : k = 1
  · rw [if_pos k1] at cX cY
    rw [if_pos k1, if_pos k1, List.append_assoc, List.append_assoc] at h3
    obtain ⟨h4, h5⟩ := var_cut (by omega) (by omega) h3
    exact (entsB_cut h4 (Snap.of cX).up (Snap.of cY).up (enOk_of cX hIX) (enOk_of cY hIY) h5).1
  · rw [if_neg k1] at cX cY
    rw [if_neg k1, if_neg k1] at h3
    by_cases k2 : k = 2
    · rw [if_pos k2] at cX cY
      rw [if_pos k2, if_pos k2] at h3
      obtain ⟨a1, a2⟩ := dcode_0 cX
      obtain ⟨-, b2⟩ := dcode_0 cY
      obtain ⟨h4, -⟩ := dltB_cut (dlGo_of a1 a2 hIW hIX zW zX) (dlGo_of a1 b2 hIW hIY zW zY) h3
      exact btw_inj (Snap.of a1) (Snap.of b2) (Snap.of a2) h4
    · rw [if_neg k2] at cX cY
      have x0 : X.length = 0 := by
        by_cases hx : X.length = 0
        · exact hx
        · rw [if_neg hx] at cX; cases cX
      have y0 : Y.length = 0 := by
        by_cases hx : Y.length = 0
        · exact hx
        · rw [if_neg hx] at cY; cases cY
      rw [List.eq_nil_of_length_eq_zero x0, List.eq_nil_of_length_eq_zero y0]
/-- how long the content is -/
theorem cszV_filter (p : En → Bool) (N : List En) : cszV (N.filter p) ≤ cszV N := by
  induction N with
  | nil => simp
  | cons x t ih =>
    rw [List.filter_cons]
    split <;> simp only [cszV] <;> omega
theorem contB_le {k : Nat} {W N : List En} (hIW : ∀ e ∈ W, e.1 < 4294967296) (hIN : ∀ e ∈ N, e.1 < 4294967296) (zW : W.length + cszV W ≤ 400) (zN : N.length + cszV N ≤ 400) (hc : ccode k W N = 0) : (contB k W N).length ≤ 400000 := by
  have v80 : ∀ n, n ≤ 1000 → (var n).length ≤ 80 := fun n hn => by
    rw [length_var]
    have := (grp_bd n (by omega)).2
    omega
  unfold contB
  unfold ccode at hc
  by_cases k1 : k = 1
  · rw [if_pos k1]
    have h1 := entsB_le 0 N hIN
    have h2 := v80 N.length (by omega)
    rw [List.length_append]
    omega
  · rw [if_neg k1] at hc ⊢
    by_cases k2 : k = 2
    · rw [if_pos k2] at hc ⊢
      obtain ⟨a1, a2⟩ := dcode_0 hc
      have hD := dlGo_of a1 a2 hIW hIN (by omega) (by omega)
      have i1 := idsB_le 0 (btw W N).gone (fun i hi => (hD.g1 i hi).2)
      have i2 := entsB_le 0 (btw W N).come (fun x hx => (hD.mo x hx).1.2.1)
      have i3 := chgsB_le W 0 (btw W N).chg (fun x hx => (hD.ho x hx).1.ok.id32)
      have e := btw_dlt _ _ (Snap.of a1).up (Snap.of a2).up
      have g1 : (btw W N).gone.length ≤ W.length := by rw [e]; show (List.map _ _).length ≤ _; rw [List.length_map]; exact List.length_filter_le _ _
      have g2 : (btw W N).come.length ≤ N.length := by rw [e]; exact List.length_filter_le _ _
      have g3 : (btw W N).chg.length ≤ N.length := by rw [e]; exact List.length_filterMap_le _ _
      have g4 : cszV (btw W N).come ≤ cszV N := by rw [e]; exact cszV_filter _ _
      have g5 : chz (btw W N).chg ≤ 2 * cszV N := by rw [e]; exact chz_of _ _
      have v1 := v80 (btw W N).gone.length (by omega)
      have v2 := v80 (btw W N).come.length (by omega)
      have v3 := v80 (btw W N).chg.length (by omega)
      unfold dltB
      simp only [List.length_append]
      omega
    · rw [if_neg k2]
      simp
end Go.Proofs.YtlncgkbgelejmaaGreatDoor

/-
  Is a head right? Whatever it is.
-/
namespace Go.Proofs.YtlncgkbgelejmaaGreatDoor
open Go.RowKit
set_option linter.unusedVariables false
set_option maxRecDepth 100000

set_option maxHeartbeats 4000000 in
theorem hcheck_any (w : World) (k c e t s : Nat) (hI : HIn k c e t s) : Calls Tryz.prog 39 #[.agg (hvs k c e t s)] w fun x w' => x = .returned (.int .i64 ((hchk k c e t s : Nat) : Int)) ∧ Fr Nobody w w' := by
  have HT : Hid (∀ W, Calls Tryz.prog 69 #[.agg (hvs k c e t s)] W fun x w' => x = .returned (.bool (tfit k t)) ∧ Fr Nobody W w') := fun W => tickFits_any W k c e t s hI
  have HB : Hid (∀ W, Calls Tryz.prog 70 #[.agg (hvs k c e t s)] W fun x w' => x = .returned (.bool (bfit k t s)) ∧ Fr Nobody W w') := fun W => baseFits_any W k c e t s hI
  have HA : Hid (Own w _ _) := (Own.start w).allocC (hvs k c e t s) 24
  by_cases h1 : k < 1
  · have hc : hchk k c e t s = 1 := by unfold hchk; rw [if_pos (.inl h1)]
    rw [hc]
    have g1 : (k : Int) < 1 := by omega
    have HF : Hid (Fr Nobody w _) := HA.out.fr
    clear h1 hc HT HB HA hI
    unfold hvs at *
    go_enter Tryz.func39, Tryz.ntmps39
    go_wp2
    go_ret
    exact ⟨rfl, HF.out⟩
  · have g1 : ¬ (k : Int) < 1 := by omega
    by_cases h2 : 5 < k
    · have hc : hchk k c e t s = 1 := by unfold hchk; rw [if_pos (.inr (.inl h2))]
      rw [hc]
      have g2 : (5 : Int) < (k : Int) := by omega
      have HF : Hid (Fr Nobody w _) := HA.out.fr
      clear h1 h2 hc HT HB HA hI
      unfold hvs at *
      go_enter Tryz.func39, Tryz.ntmps39
      go_wp2
      go_ret
      exact ⟨rfl, HF.out⟩
    · have g2 : ¬ (5 : Int) < (k : Int) := by omega
      by_cases h3 : 16 ≤ c
      · have hc : hchk k c e t s = 1 := by unfold hchk; rw [if_pos (.inr (.inr h3))]
        rw [hc]
        have g3 : (16 : Int) ≤ (c : Int) := by omega
        have HF : Hid (Fr Nobody w _) := HA.out.fr
        clear h1 h2 h3 hc HT HB HA hI
        unfold hvs at *
        go_enter Tryz.func39, Tryz.ntmps39
        go_wp2
        go_ret
        exact ⟨rfl, HF.out⟩
      · have g3 : ¬ (16 : Int) ≤ (c : Int) := by omega
        have hn : ¬ (k < 1 ∨ 5 < k ∨ 16 ≤ c) := by omega
        by_cases h4 : e = 0
        · have hc : hchk k c e t s = 4 := by unfold hchk; rw [if_neg hn, if_pos (.inl h4)]
          rw [hc]
          subst h4
          have HF : Hid (Fr Nobody w _) := HA.out.fr
          clear h1 h2 h3 hn hc HT HB HA hI
          unfold hvs at *
          go_enter Tryz.func39, Tryz.ntmps39
          go_wp2
          go_ret
          exact ⟨rfl, HF.out⟩
        · have g4 : ((e : Int) == 0) = false := by rw [beq_eq_false_iff_ne]; omega
          have hc : hchk k c e t s = if tfit k t = false ∨ bfit k t s = false then 4 else 0 := by
            unfold hchk
            rw [if_neg hn]
            simp [h4]
          rw [hc]
          clear h1 h2 h3 h4 hn hc hI
          generalize tfit k t = tf at *
          generalize bfit k t s = bf at *
          unfold hvs at *
          cases tf
          · rw [if_pos (.inl rfl)]
            go_enter Tryz.func39, Tryz.ntmps39
            go_wp2_with fail
            refine (HT.out _).mono ?_
            rintro x w1 ⟨rfl, hf1⟩
            have HF : Hid (Fr Nobody w w1) := HA.out.fr.trans hf1
            clear hf1 HA HT HB
            go_wp2
            go_ret
            exact ⟨rfl, HF.out⟩
          · cases bf
            · rw [if_pos (.inr rfl)]
              go_enter Tryz.func39, Tryz.ntmps39
              go_wp2_with fail
              refine (HT.out _).mono ?_
              rintro x w1 ⟨rfl, hf1⟩
              have hA1 := HA.out.quiet hf1
              have r0 := hA1.cell 0
              have r1 := hA1.cell 1
              have r2 := hA1.cell 2
              have r3 := hA1.cell 3
              have r4 := hA1.cell 4
              simp at r0 r1 r2 r3 r4
              have HA1 : Hid (Own w w1 _) := hA1
              clear hf1 hA1 HA HT
              go_wp2_with fail
              refine (HB.out _).mono ?_
              rintro x w2 ⟨rfl, hf2⟩
              have HF : Hid (Fr Nobody w w2) := HA1.out.fr.trans hf2
              clear hf2 HA1 HB r0 r1 r2 r3 r4
              go_wp2
              go_ret
              exact ⟨rfl, HF.out⟩
            · rw [if_neg (by simp)]
              go_enter Tryz.func39, Tryz.ntmps39
              go_wp2_with fail
              refine (HT.out _).mono ?_
              rintro x w1 ⟨rfl, hf1⟩
              have hA1 := HA.out.quiet hf1
              have r0 := hA1.cell 0
              have r1 := hA1.cell 1
              have r2 := hA1.cell 2
              have r3 := hA1.cell 3
              have r4 := hA1.cell 4
              simp at r0 r1 r2 r3 r4
              have HA1 : Hid (Own w w1 _) := hA1
              clear hf1 hA1 HA HT
              go_wp2_with fail
              refine (HB.out _).mono ?_
              rintro x w2 ⟨rfl, hf2⟩
              have HF : Hid (Fr Nobody w w2) := HA1.out.fr.trans hf2
              clear hf2 HA1 HB r0 r1 r2 r3 r4
              go_wp2
              go_ret
              exact ⟨rfl, HF.out⟩
theorem right_of {k c e t s : Nat} (hI : HIn k c e t s) (h : hchk k c e t s = 0) : Right k c e t s := by
  unfold hchk at h
  split at h
  · cases h
  · split at h
    · cases h
    · rename_i h1 h2
      simp only [not_or] at h1 h2
      refine ⟨by omega, by omega, by omega, by omega, hI.e, hI.t, hI.s, ?_, ?_⟩
      · cases hh : tfit k t with
        | true => rfl
        | false => exact absurd hh h2.2.1
      · cases hh : bfit k t s with
        | true => rfl
        | false => exact absurd hh h2.2.2
end Go.Proofs.YtlncgkbgelejmaaGreatDoor

/-
  The content of any packet, and the frame of any packet: or what Seal refuses.
-/
namespace Go.Proofs.YtlncgkbgelejmaaGreatDoor
open Go.RowKit
set_option linter.unusedVariables false
set_option maxRecDepth 100000

set_option maxHeartbeats 1000000 in
theorem content_bad1 (w0 w : World) (ht : Tab w0) (l : List Thing) (p b : Nat) (L : List Bool) (wv : Value) (h : Own w0 w (penC p b :: WrT b L :: l)) (an : Option Addr) (nn cn : Nat) (N : List EnE) (hQ : ∀ w', Own w0 w' l → EntsAt w' an N) (hN : N.length = nn) (hIN : EIn N) (hzN : esz N ≤ 400) (hf : fm 0 (evs N) ≠ 0) :
    Calls Tryz.prog 42 #[.pointer (some ⟨p, 0, none⟩), .int .u8 1, wv, .slice an nn cn] w fun e w' => e = .returned (.int .i64 ((fm 0 (evs N) : Nat) : Int)) ∧ Own w0 w' (penC p b :: WrT b L :: l) := by
  have HF : Hid (Calls Tryz.prog 74 #[.slice an nn cn] w fun e w' => e = .returned (.int .i64 ((fm 0 (evs N) : Nat) : Int)) ∧ Fr Nobody w w') := form_any w (ht.quiet h.fr) an nn cn N (hQ w h.tail.tail) hN hIN (by omega)
  have hlt := fm_lt 0 (evs N)
  have H : Hid (Own w0 w (penC p b :: WrT b L :: l)) := h
  generalize fm 0 (evs N) = x at *
  have z0 : ((x : Int) != 0) = true := by simpa using hf
  clear h hQ hN hIN hzN hf ht
  go_enter Tryz.func42, Tryz.ntmps42
  go_wp2_with fail
  refine HF.out.mono ?_
  rintro e w1 ⟨rfl, hf1⟩
  have H2 : Hid (Own w0 w1 _) := H.out.quiet hf1
  clear hf1 HF H
  go_wp2
  go_ret
  exact ⟨rfl, H2.out⟩
set_option maxHeartbeats 1000000 in
theorem content_bad2 (w0 w : World) (ht : Tab w0) (l : List Thing) (p b : Nat) (L : List Bool) (h : Own w0 w (penC p b :: WrT b L :: l)) (aw an : Option Addr) (nw nn cw cn : Nat) (W N : List EnE) (hQ : ∀ w', Own w0 w' l → EntsAt w' aw W ∧ EntsAt w' an N) (hW : W.length = nw) (hN : N.length = nn) (hcw : nw ≤ cw) (hcn : nn ≤ cn) (hmw : cw ≤ 9223372036854775807) (hmn : cn ≤ 9223372036854775807) (hIW : EIn W) (hIN : EIn N) (hzW : esz W ≤ 400) (hzN : esz N ≤ 400) (hd : dcode (evs W) (evs N) ≠ 0) :
    Calls Tryz.prog 42 #[.pointer (some ⟨p, 0, none⟩), .int .u8 2, .slice aw nw cw, .slice an nn cn] w fun e w' => e = .returned (.int .i64 ((dcode (evs W) (evs N) : Nat) : Int)) ∧ Own w0 w' (penC p b :: WrT b L :: l) := by
  have HD : Hid (Calls _ _ _ _ _) := diff_any w0 w ht _ h aw an nw nn cw cn W N (fun w' hw => hQ w' hw.tail.tail) hW hN hcw hcn hmw hmn hIW hIN (by omega) (by omega)
  have hlt : dcode (evs W) (evs N) < 4294967296 := by
    unfold dcode
    split
    · exact fm_lt _ _
    · exact fm_lt _ _
  generalize dcode (evs W) (evs N) = x at *
  have z0 : ((x : Int) != 0) = true := by simpa using hd
  clear h hQ hW hN hcw hcn hmw hmn hIW hIN hzW hzN hd ht
  go_enter Tryz.func42, Tryz.ntmps42
  go_wp2_with fail
  refine HD.out.mono ?_
  rintro e w1 ⟨d, rfl, -, h1⟩
  unfold DlE.vs
  have H2 : Hid (Own w0 _ _) := ((Own.dropA h1).allocC #[.slice d.ga d.G.length d.gc, .slice d.ma d.M.length d.mc, .slice d.ha d.H.length d.hc] 53).tail
  clear h1 HD
  go_wp2
  go_ret
  exact ⟨rfl, H2.out⟩
set_option maxHeartbeats 400000 in
theorem content_bad3 (w0 w : World) (l : List Thing) (p k : Nat) (wv : Value) (a : Option Addr) (n c : Nat) (h : Own w0 w l) (h1 : k ≠ 1) (h2 : k ≠ 2) (hn : 0 < n) :
    Calls Tryz.prog 42 #[.pointer (some ⟨p, 0, none⟩), .int .u8 (k : Int), wv, .slice a n c] w fun e w' => e = .returned (.int .i64 4) ∧ Own w0 w' l := by
  have e1 : ((k : Int) == 1) = false := by rw [beq_eq_false_iff_ne]; omega
  have e2 : ((k : Int) == 2) = false := by rw [beq_eq_false_iff_ne]; omega
  have e3 : (0 : Int) < (n : Int) := by omega
  have H : Hid (Own w0 w l) := h
  clear h h1 h2 hn
  go_enter Tryz.func42, Tryz.ntmps42
  go_wp2
  go_ret
  exact ⟨rfl, H.out⟩
theorem content_any (w0 w : World) (ht : Tab w0) (l : List Thing) (p b k : Nat) (L : List Bool) (h : Own w0 w (penC p b :: WrT b L :: l)) (aw an : Option Addr) (nw nn cw cn : Nat) (W N : List EnE) (hQ : ∀ w', Own w0 w' l → EntsAt w' aw W ∧ EntsAt w' an N) (hW : W.length = nw) (hN : N.length = nn) (hcw : nw ≤ cw) (hcn : nn ≤ cn) (hmw : cw ≤ 9223372036854775807) (hmn : cn ≤ 9223372036854775807) (hIW : EIn W) (hIN : EIn N) (hzW : esz W ≤ 400) (hzN : esz N ≤ 400) (hl : L.length ≤ 1000) :
    Calls Tryz.prog 42 #[.pointer (some ⟨p, 0, none⟩), .int .u8 (k : Int), .slice aw nw cw, .slice an nn cn] w fun e w' => e = .returned (.int .i64 ((ccode k (evs W) (evs N) : Nat) : Int)) ∧ ∃ M, Own w0 w' (penC p b :: WrT b M :: l) ∧ (ccode k (evs W) (evs N) = 0 → M = L ++ contB k (evs W) (evs N)) := by
  unfold ccode contB
  by_cases k1 : k = 1
  · subst k1
    rw [if_pos rfl, if_pos rfl]
    by_cases hf : fm 0 (evs N) = 0
    · refine (content_full w0 w ht l p b L _ h an nn cn N (fun w' hw => (hQ w' hw).2) hN hIN hzN hf hl).mono ?_
      rintro e w' ⟨rfl, h1⟩
      rw [hf, evs_len, hN]
      exact ⟨rfl, _, h1, fun _ => rfl⟩
    · refine (content_bad1 w0 w ht l p b L _ h an nn cn N (fun w' hw => (hQ w' hw).2) hN hIN hzN hf).mono ?_
      rintro e w' ⟨rfl, h1⟩
      exact ⟨rfl, _, h1, fun h0 => absurd h0 hf⟩
  · rw [if_neg k1, if_neg k1]
    by_cases k2 : k = 2
    · subst k2
      rw [if_pos rfl, if_pos rfl]
      by_cases hd : dcode (evs W) (evs N) = 0
      · obtain ⟨a1, a2⟩ := dcode_0 hd
        refine (content_step w0 w ht l p b L h aw an nw nn cw cn W N hQ hW hN hcw hcn hmw hmn hIW hIN hzW hzN a1 a2 hl).mono ?_
        rintro e w' ⟨rfl, h1⟩
        rw [hd]
        exact ⟨rfl, _, h1, fun _ => rfl⟩
      · refine (content_bad2 w0 w ht l p b L h aw an nw nn cw cn W N hQ hW hN hcw hcn hmw hmn hIW hIN hzW hzN hd).mono ?_
        rintro e w' ⟨rfl, h1⟩
        exact ⟨rfl, _, h1, fun h0 => absurd h0 hd⟩
    · rw [if_neg k2, if_neg k2, evs_len, hN]
      by_cases hn : nn = 0
      · subst hn
        rw [if_pos rfl]
        refine (content_no w0 w _ p k _ an cn h k1 k2).mono ?_
        rintro e w' ⟨rfl, h1⟩
        exact ⟨rfl, _, h1, fun _ => by simp⟩
      · rw [if_neg hn]
        refine (content_bad3 w0 w _ p k _ an nn cn h k1 k2 (by omega)).mono ?_
        rintro e w' ⟨rfl, h1⟩
        exact ⟨rfl, _, h1, fun h0 => by cases h0⟩
theorem ccode_lt (k : Nat) (W N : List En) : ccode k W N < 4294967296 := by
  unfold ccode dcode
  have h1 := fm_lt 0 W
  have h2 := fm_lt 0 N
  split
  · exact h2
  · split
    · split
      · exact h1
      · exact h2
    · split <;> decide
/-- what Seal answers -/
def SealR (k c e t s : Nat) (W N : List En) (code : Nat) (P : List Nat) : Prop := code < 4294967296 ∧ (∀ x ∈ P, x < 256) ∧ (code = 0 → Right k c e t s ∧ ccode k W N = 0 ∧ P = frm (pack (headB k c e t s ++ contB k W N)) ∧ P.length ≤ 4100)
theorem sealR_no {k c e t s : Nat} {W N : List En} {code : Nat} (h : code < 4294967296) (h0 : code ≠ 0) : SealR k c e t s W N code [] := ⟨h, (fun x hx => by cases hx), fun h1 => absurd h1 h0⟩
theorem hchk_lt (k c e t s : Nat) : hchk k c e t s < 4294967296 := by
  unfold hchk
  split
  · decide
  · split <;> decide
set_option maxHeartbeats 4000000 in
theorem pseal_any (w0 w : World) (htb : Tab w0) (htf : Tabf w0) (l : List Thing) (h : Own w0 w l) (k c e t s : Nat) (hI : HIn k c e t s) (aw an : Option Addr) (nw nn cw cn : Nat) (W N : List EnE) (hQ : ∀ w', Own w0 w' l → EntsAt w' aw W ∧ EntsAt w' an N) (hW : W.length = nw) (hN : N.length = nn) (hcw : nw ≤ cw) (hcn : nn ≤ cn) (hmw : cw ≤ 9223372036854775807) (hmn : cn ≤ 9223372036854775807) (hIW : EIn W) (hIN : EIn N) (hzW : esz W ≤ 400) (hzN : esz N ≤ 400) :
    Calls Tryz.prog 11 #[.agg (hvs k c e t s), .slice aw nw cw, .slice an nn cn] w fun x w' => ∃ v code P, x = .returned (.tuple #[v, .int .i64 ((code : Nat) : Int)]) ∧ SealR k c e t s (evs W) (evs N) code P ∧ Own w0 w' (Row 5 1 v P.length (vrow P) :: l) := by
  have hB := h.allocC (hvs k c e t s) 24
  have HCH : Hid (Calls _ _ _ _ _) := hcheck_any (w.alloc (.cells (hvs k c e t s) 24)) k c e t s hI
  have HB : Hid (Own w0 _ _) := hB
  have hcl := hchk_lt k c e t s
  have HRT : Hid (hchk k c e t s = 0 → Right k c e t s) := right_of hI
  have HTF : Hid (Tabf w0) := htf
  have zz : ∀ X : List EnE, (evs X).length + cszV (evs X) = esz X := fun X => by rw [evs_len, cszV_evs]; rfl
  have HCL : Hid (ccode k (evs W) (evs N) = 0 → (contB k (evs W) (evs N)).length ≤ 400000) := fun hc => contB_le (fun x hx => by
      obtain ⟨y, hy, rfl⟩ := List.mem_map.1 hx
      exact (hIW y hy).1) (fun x hx => by
      obtain ⟨y, hy, rfl⟩ := List.mem_map.1 hx
      exact (hIN y hy).1) (by rw [zz]; exact hzW) (by rw [zz]; exact hzN) hc
  have HCO : Hid (∀ (w' : World) (p b : Nat) (X : Thing), Own w0 w' (penC p b :: WrT b (headB k c e t s) :: X :: l) → Calls Tryz.prog 42 #[.pointer (some ⟨p, 0, none⟩), .int .u8 (k : Int), .slice aw nw cw, .slice an nn cn] w' fun e' w' => e' = .returned (.int .i64 ((ccode k (evs W) (evs N) : Nat) : Int)) ∧ ∃ M, Own w0 w' (penC p b :: WrT b M :: X :: l) ∧ (ccode k (evs W) (evs N) = 0 → M = headB k c e t s ++ contB k (evs W) (evs N))) := fun w' p b X hw => content_any w0 w' htb _ p b k _ hw aw an nw nn cw cn W N (fun w2 hw2 => hQ w2 hw2.tail) hW hN hcw hcn hmw hmn hIW hIN hzW hzN (by have := headB_le k c e t s hI.e hI.t; omega)
  have hkl := ccode_lt k (evs W) (evs N)
  have HE : Hid (∀ M, M = headB k c e t s ++ contB k (evs W) (evs N) → ccode k (evs W) (evs N) = 0 → M.length ≤ 401000) := fun M hM hc => by
    have h1 := HCL.out hc
    have h2 := headB_le k c e t s hI.e hI.t
    rw [hM, List.length_append]
    omega
  have HL0 : Hid (∀ M, M = headB k c e t s ++ contB k (evs W) (evs N) → 0 < M.length) := fun M hM => by
    rw [hM]; unfold headB
    simp only [List.length_append, length_bitsN, wid15]
    omega
  have q0 := hB.cell 0
  have q1 := hB.cell 1
  have q2 := hB.cell 2
  have q3 := hB.cell 3
  have q4 := hB.cell 4
  simp [hvs] at q0 q1 q2 q3 q4
  have HSR : Hid (∀ code, code < 4294967296 → code ≠ 0 → SealR k c e t s (evs W) (evs N) code []) := fun code => sealR_no
  have HSY : Hid (∀ P, (∀ x ∈ P, x < 256) → hchk k c e t s = 0 → ccode k (evs W) (evs N) = 0 → P = frm (pack (headB k c e t s ++ contB k (evs W) (evs N))) → P.length ≤ 4100 → SealR k c e t s (evs W) (evs N) 0 P) := fun P h1 h2 h3 h4 h5 => ⟨by decide, h1, fun _ => ⟨HRT.out h2, h3, h4, h5⟩⟩
  generalize hhc : hchk k c e t s = hc at *
  generalize hcc : ccode k (evs W) (evs N) = cc at *
  clear h hB hQ hW hN hcw hcn hmw hmn hIW hIN hzW hzN zz htb htf HCL hcc hhc
  by_cases h0 : hc = 0
  · subst h0
    have HR : Hid (Right k c e t s) := HRT.out rfl
    unfold hvs at HCH ⊢
    clear HRT hI
    go_enter Tryz.func11, Tryz.ntmps11
    go_wp2_with fail
    refine HCH.out.mono ?_
    rintro x w1 ⟨rfl, hf1⟩
    have h1 := HB.out.quiet hf1
    have HNW : Hid (Calls _ _ _ _ _) := new_own w0 w1 _ h1
    clear hf1 h1 HCH HB q0 q1 q2 q3 q4
    generalize w.heap.size = bh at *
    go_wp2_with fail
    refine HNW.out.mono ?_
    rintro x w2 ⟨b, rfl, h2⟩
    have h3 := h2.allocC #[.pointer (some ⟨b, 0, none⟩), .int .i64 0] 96
    have q0 := h3.three.cell 0
    have q1 := h3.three.cell 1
    have q2 := h3.three.cell 2
    have q3 := h3.three.cell 3
    have q4 := h3.three.cell 4
    simp [hvs] at q0 q1 q2 q3 q4
    have HHD : Hid (Calls _ _ _ _ _) := phead w0 _ _ w2.heap.size b h3 k c e t s HR.out
    unfold hvs at HHD
    clear h2 h3 HNW
    go_wp2_with fail
    refine HHD.out.mono ?_
    rintro x w3 ⟨rfl, h4⟩
    generalize w2.heap.size = p at *
    have r0 := h4.three.cell 0
    simp at r0
    have HCN : Hid (Calls _ _ _ _ _) := HCO.out w3 p b _ h4
    clear h4 HHD q0 q1 q2 q3 q4
    by_cases hc0 : cc = 0
    · subst hc0
      go_wp2_with fail
      refine HCN.out.mono ?_
      rintro x w4 ⟨rfl, L, h5, hLE⟩
      have z0 := Own.cell (show Own w0 w4 (Cells p #[.pointer (some ⟨b, 0, none⟩), .int .i64 0] 96 :: _) from h5) 0
      have z1 := Own.cell (show Own w0 w4 (Cells p #[.pointer (some ⟨b, 0, none⟩), .int .i64 0] 96 :: _) from h5) 1
      simp at z0 z1
      have hle := hLE (by first | rfl | trivial)
      have hll := HE.out L hle (by first | rfl | trivial)
      have hl0 := HL0.out L hle
      have HLE : Hid (L = headB k c e t s ++ contB k (evs W) (evs N)) := hle
      have HBY : Hid (Calls _ _ _ _ _) := bytesW w0 w4 _ b L h5.two (by omega)
      clear h5 HCN r0 hLE hle HE HL0 HCO
      go_wp2_with fail
      refine HBY.out.mono ?_
      rintro x w5 ⟨v, rfl, h6⟩
      have hnb : 0 < nb L.length := by unfold nb; omega
      have hnb2 : nb L.length ≤ 60000 := by unfold nb; omega
      obtain ⟨g, cap, hv, _⟩ := row_shape h6.row hnb
      subst hv
      by_cases hlg : nb L.length ≤ 4096
      · have hin := In.of_row h6.row (by rw [pack_len]) (pack_byte L)
        have HSE : Hid (Calls _ _ _ _ _) := seal_ok w5 (some ⟨g, 0, none⟩) cap (nb L.length) (pack L) hin hlg (HTF.out.quiet h6.fr)
        have H6 : Hid (Own w0 w5 _) := h6
        clear h6 HBY hin z0 z1
        go_wp2_with fail
        refine HSE.out.mono ?_
        rintro x w6 ⟨g6, cp6, rfl, hr6, hf6⟩
        have H7 : Hid (Own w0 w6 (Row 5 1 (.slice (some ⟨g6, 0, none⟩) (nb L.length + 4) cp6) (nb L.length + 4) (vrow (frm (pack L))) :: l)) := by
          have h7 := (H6.out.tail.tail.tail.tail)
          exact h7.new (Row 5 1 (.slice (some ⟨g6, 0, none⟩) (nb L.length + 4) cp6) (nb L.length + 4) (vrow (frm (pack L)))) (fun j => (Value.slice (some ⟨g6, 0, none⟩) (nb L.length + 4) cp6).ownBlock = some j) ⟨row_weak hr6, fun _ => Iff.rfl⟩ hf6 (fun j hj => (hr6.lt j hj).1)
        clear hr6 hf6 HSE H6
        go_wp2
        go_ret2
        refine ⟨_, 0, frm (pack L), rfl, HSY.out _ (frm_byte _ (pack_byte L)) (by first | rfl | trivial) (by first | rfl | trivial) (by rw [HLE.out]) (by rw [length_frm, pack_len]; omega), ?_⟩
        have e1 : (frm (pack L)).length = nb L.length + 4 := by rw [length_frm, pack_len]
        rw [e1]
        exact H7.out
      · have HSE : Hid (Calls _ _ _ _ _) := seal_long w5 (some ⟨g, 0, none⟩) cap (nb L.length) (by omega) (by unfold maxLen; omega)
        have H6 : Hid (Own w0 w5 l) := h6.tail.tail.tail.tail
        clear h6 HBY z0 z1
        go_wp2_with fail
        refine HSE.out.mono ?_
        rintro x w6 ⟨rfl, rfl⟩
        clear HSE
        go_wp2
        go_ret2
        exact ⟨_, 3, [], rfl, HSR.out 3 (by decide) (by decide), H6.out.nilRow _ _⟩
    · have z0 : ((cc : Int) != 0) = true := by simpa using hc0
      have HC0 : Hid (cc ≠ 0) := hc0
      clear hc0
      go_wp2_with fail
      refine HCN.out.mono ?_
      rintro x w4 ⟨rfl, L, h5, -⟩
      have H5 : Hid (Own w0 w4 l) := h5.tail.tail.tail
      clear h5 HCN r0
      go_wp2
      go_ret2
      exact ⟨_, cc, [], rfl, HSR.out cc hkl HC0.out, H5.out.nilRow _ _⟩
  · have z0 : ((hc : Int) != 0) = true := by simpa using h0
    have HC0 : Hid (hc ≠ 0) := h0
    unfold hvs at HCH ⊢
    clear h0 HRT hI
    go_enter Tryz.func11, Tryz.ntmps11
    go_wp2_with fail
    refine HCH.out.mono ?_
    rintro x w1 ⟨rfl, hf1⟩
    have H5 : Hid (Own w0 w1 l) := (HB.out.quiet hf1).tail
    clear hf1 HCH HB q0 q1 q2 q3 q4
    go_wp2
    go_ret2
    exact ⟨_, hc, [], rfl, HSR.out hc hcl HC0.out, H5.out.nilRow _ _⟩
end Go.Proofs.YtlncgkbgelejmaaGreatDoor

/-
  The document's Check of a head.
-/
namespace Go.Proofs.YtlncgkbgelejmaaGreatDoor
open Go.RowKit
set_option linter.unusedVariables false
set_option maxRecDepth 100000

set_option maxHeartbeats 400000 in
theorem hrcheck_0 (w : World) (k c e t s : Nat) (h0 : k < 1) : Calls Tryz.prog 15 #[.agg (hvs k c e t s)] w fun x w' => x = .returned (.int .i64 1) ∧ Fr Nobody w w' := by
  have HF : Hid (∀ o, Fr Nobody w (w.alloc o)) := fun o => (Fr.refl _ _).alloc o
  have g0 : (k : Int) < 1 := by omega
  clear h0
  unfold hvs at *
  go_enter Tryz.func15, Tryz.ntmps15
  go_wp2
  go_ret
  exact ⟨rfl, HF.out _⟩
set_option maxHeartbeats 400000 in
theorem hrcheck_1 (w : World) (k c e t s : Nat) (h0 : 1 ≤ k) (h1 : 5 < k) : Calls Tryz.prog 15 #[.agg (hvs k c e t s)] w fun x w' => x = .returned (.int .i64 1) ∧ Fr Nobody w w' := by
  have HF : Hid (∀ o, Fr Nobody w (w.alloc o)) := fun o => (Fr.refl _ _).alloc o
  have g0 : ¬ (k : Int) < 1 := by omega
  have g1 : (5 : Int) < (k : Int) := by omega
  clear h0 h1
  unfold hvs at *
  go_enter Tryz.func15, Tryz.ntmps15
  go_wp2
  go_ret
  exact ⟨rfl, HF.out _⟩
set_option maxHeartbeats 400000 in
theorem hrcheck_2 (w : World) (k c e t s : Nat) (h0 : 1 ≤ k) (h1 : k ≤ 5) (h2 : 15 < c) : Calls Tryz.prog 15 #[.agg (hvs k c e t s)] w fun x w' => x = .returned (.int .i64 1) ∧ Fr Nobody w w' := by
  have HF : Hid (∀ o, Fr Nobody w (w.alloc o)) := fun o => (Fr.refl _ _).alloc o
  have g0 : ¬ (k : Int) < 1 := by omega
  have g1 : ¬ (5 : Int) < (k : Int) := by omega
  have g2 : (15 : Int) < (c : Int) := by omega
  clear h0 h1 h2
  unfold hvs at *
  go_enter Tryz.func15, Tryz.ntmps15
  go_wp2
  go_ret
  exact ⟨rfl, HF.out _⟩
set_option maxHeartbeats 400000 in
theorem hrcheck_3 (w : World) (k c e t s : Nat) (h0 : 1 ≤ k) (h1 : k ≤ 5) (h2 : c ≤ 15) (h3 : e = 0) : Calls Tryz.prog 15 #[.agg (hvs k c e t s)] w fun x w' => x = .returned (.int .i64 4) ∧ Fr Nobody w w' := by
  have HF : Hid (∀ o, Fr Nobody w (w.alloc o)) := fun o => (Fr.refl _ _).alloc o
  have g0 : ¬ (k : Int) < 1 := by omega
  have g1 : ¬ (5 : Int) < (k : Int) := by omega
  have g2 : ¬ (15 : Int) < (c : Int) := by omega
  have g3 : ((e : Int) == 0) = true := by rw [beq_iff_eq]; omega
  clear h0 h1 h2 h3
  unfold hvs at *
  go_enter Tryz.func15, Tryz.ntmps15
  go_wp2
  go_ret
  exact ⟨rfl, HF.out _⟩
set_option maxHeartbeats 400000 in
theorem hrcheck_4 (w : World) (k c e t s : Nat) (h0 : 1 ≤ k) (h1 : k ≤ 5) (h2 : c ≤ 15) (h3 : e ≠ 0) (h4 : 3 < k) (h5 : 0 < t) : Calls Tryz.prog 15 #[.agg (hvs k c e t s)] w fun x w' => x = .returned (.int .i64 4) ∧ Fr Nobody w w' := by
  have HF : Hid (∀ o, Fr Nobody w (w.alloc o)) := fun o => (Fr.refl _ _).alloc o
  have g0 : ¬ (k : Int) < 1 := by omega
  have g1 : ¬ (5 : Int) < (k : Int) := by omega
  have g2 : ¬ (15 : Int) < (c : Int) := by omega
  have g3 : ((e : Int) == 0) = false := by rw [beq_eq_false_iff_ne]; omega
  have g4 : (3 : Int) < (k : Int) := by omega
  have g5 : (0 : Int) < (t : Int) := by omega
  clear h0 h1 h2 h3 h4 h5
  unfold hvs at *
  go_enter Tryz.func15, Tryz.ntmps15
  go_wp2
  go_ret
  exact ⟨rfl, HF.out _⟩
set_option maxHeartbeats 400000 in
theorem hrcheck_5 (w : World) (k c e t s : Nat) (h0 : 1 ≤ k) (h1 : k ≤ 5) (h2 : c ≤ 15) (h3 : e ≠ 0) (h4 : 3 < k) (h5 : t = 0) (h6 : k ≠ 2) (h7 : 0 < s) : Calls Tryz.prog 15 #[.agg (hvs k c e t s)] w fun x w' => x = .returned (.int .i64 4) ∧ Fr Nobody w w' := by
  have HF : Hid (∀ o, Fr Nobody w (w.alloc o)) := fun o => (Fr.refl _ _).alloc o
  have g0 : ¬ (k : Int) < 1 := by omega
  have g1 : ¬ (5 : Int) < (k : Int) := by omega
  have g2 : ¬ (15 : Int) < (c : Int) := by omega
  have g3 : ((e : Int) == 0) = false := by rw [beq_eq_false_iff_ne]; omega
  have g4 : (3 : Int) < (k : Int) := by omega
  have g5 : ¬ (0 : Int) < (t : Int) := by omega
  have g6 : ((k : Int) != 2) = true := by rw [bne_iff_ne]; omega
  have g7 : ((k : Int) == 2) = false := by rw [beq_eq_false_iff_ne]; omega
  have g8 : (0 : Int) < (s : Int) := by omega
  clear h0 h1 h2 h3 h4 h5 h6 h7
  unfold hvs at *
  go_enter Tryz.func15, Tryz.ntmps15
  go_wp2
  go_ret
  exact ⟨rfl, HF.out _⟩
set_option maxHeartbeats 400000 in
theorem hrcheck_6 (w : World) (k c e t s : Nat) (h0 : 1 ≤ k) (h1 : k ≤ 5) (h2 : c ≤ 15) (h3 : e ≠ 0) (h4 : 3 < k) (h5 : t = 0) (h6 : k ≠ 2) (h7 : s = 0) : Calls Tryz.prog 15 #[.agg (hvs k c e t s)] w fun x w' => x = .returned (.int .i64 0) ∧ Fr Nobody w w' := by
  have HF : Hid (∀ o, Fr Nobody w (w.alloc o)) := fun o => (Fr.refl _ _).alloc o
  have g0 : ¬ (k : Int) < 1 := by omega
  have g1 : ¬ (5 : Int) < (k : Int) := by omega
  have g2 : ¬ (15 : Int) < (c : Int) := by omega
  have g3 : ((e : Int) == 0) = false := by rw [beq_eq_false_iff_ne]; omega
  have g4 : (3 : Int) < (k : Int) := by omega
  have g5 : ¬ (0 : Int) < (t : Int) := by omega
  have g6 : ((k : Int) != 2) = true := by rw [bne_iff_ne]; omega
  have g7 : ((k : Int) == 2) = false := by rw [beq_eq_false_iff_ne]; omega
  have g8 : ¬ (0 : Int) < (s : Int) := by omega
  clear h0 h1 h2 h3 h4 h5 h6 h7
  unfold hvs at *
  go_enter Tryz.func15, Tryz.ntmps15
  go_wp2
  go_ret
  exact ⟨rfl, HF.out _⟩
set_option maxHeartbeats 400000 in
theorem hrcheck_7 (w : World) (k c e t s : Nat) (h0 : 1 ≤ k) (h1 : k ≤ 5) (h2 : c ≤ 15) (h3 : e ≠ 0) (h4 : k ≤ 3) (h5 : k ≠ 2) (h6 : 0 < s) : Calls Tryz.prog 15 #[.agg (hvs k c e t s)] w fun x w' => x = .returned (.int .i64 4) ∧ Fr Nobody w w' := by
  have HF : Hid (∀ o, Fr Nobody w (w.alloc o)) := fun o => (Fr.refl _ _).alloc o
  have g0 : ¬ (k : Int) < 1 := by omega
  have g1 : ¬ (5 : Int) < (k : Int) := by omega
  have g2 : ¬ (15 : Int) < (c : Int) := by omega
  have g3 : ((e : Int) == 0) = false := by rw [beq_eq_false_iff_ne]; omega
  have g4 : ¬ (3 : Int) < (k : Int) := by omega
  have g5 : ((k : Int) != 2) = true := by rw [bne_iff_ne]; omega
  have g6 : ((k : Int) == 2) = false := by rw [beq_eq_false_iff_ne]; omega
  have g7 : (0 : Int) < (s : Int) := by omega
  clear h0 h1 h2 h3 h4 h5 h6
  unfold hvs at *
  go_enter Tryz.func15, Tryz.ntmps15
  go_wp2
  go_ret
  exact ⟨rfl, HF.out _⟩
set_option maxHeartbeats 400000 in
theorem hrcheck_8 (w : World) (k c e t s : Nat) (h0 : 1 ≤ k) (h1 : k ≤ 5) (h2 : c ≤ 15) (h3 : e ≠ 0) (h4 : k ≤ 3) (h5 : k ≠ 2) (h6 : s = 0) : Calls Tryz.prog 15 #[.agg (hvs k c e t s)] w fun x w' => x = .returned (.int .i64 0) ∧ Fr Nobody w w' := by
  have HF : Hid (∀ o, Fr Nobody w (w.alloc o)) := fun o => (Fr.refl _ _).alloc o
  have g0 : ¬ (k : Int) < 1 := by omega
  have g1 : ¬ (5 : Int) < (k : Int) := by omega
  have g2 : ¬ (15 : Int) < (c : Int) := by omega
  have g3 : ((e : Int) == 0) = false := by rw [beq_eq_false_iff_ne]; omega
  have g4 : ¬ (3 : Int) < (k : Int) := by omega
  have g5 : ((k : Int) != 2) = true := by rw [bne_iff_ne]; omega
  have g6 : ((k : Int) == 2) = false := by rw [beq_eq_false_iff_ne]; omega
  have g7 : ¬ (0 : Int) < (s : Int) := by omega
  clear h0 h1 h2 h3 h4 h5 h6
  unfold hvs at *
  go_enter Tryz.func15, Tryz.ntmps15
  go_wp2
  go_ret
  exact ⟨rfl, HF.out _⟩
set_option maxHeartbeats 400000 in
theorem hrcheck_9 (w : World) (k c e t s : Nat) (h0 : 1 ≤ k) (h1 : k ≤ 5) (h2 : c ≤ 15) (h3 : e ≠ 0) (h4 : k ≤ 3) (h5 : k = 2) (h6 : t ≤ s) : Calls Tryz.prog 15 #[.agg (hvs k c e t s)] w fun x w' => x = .returned (.int .i64 4) ∧ Fr Nobody w w' := by
  have HF : Hid (∀ o, Fr Nobody w (w.alloc o)) := fun o => (Fr.refl _ _).alloc o
  have g0 : ¬ (k : Int) < 1 := by omega
  have g1 : ¬ (5 : Int) < (k : Int) := by omega
  have g2 : ¬ (15 : Int) < (c : Int) := by omega
  have g3 : ((e : Int) == 0) = false := by rw [beq_eq_false_iff_ne]; omega
  have g4 : ¬ (3 : Int) < (k : Int) := by omega
  have g5 : ((k : Int) != 2) = false := by rw [bne_eq_false_iff_eq]; omega
  have g6 : ((k : Int) == 2) = true := by rw [beq_iff_eq]; omega
  have g7 : (t : Int) ≤ (s : Int) := by omega
  clear h0 h1 h2 h3 h4 h5 h6
  unfold hvs at *
  go_enter Tryz.func15, Tryz.ntmps15
  go_wp2
  go_ret
  exact ⟨rfl, HF.out _⟩
set_option maxHeartbeats 400000 in
theorem hrcheck_10 (w : World) (k c e t s : Nat) (h0 : 1 ≤ k) (h1 : k ≤ 5) (h2 : c ≤ 15) (h3 : e ≠ 0) (h4 : k ≤ 3) (h5 : k = 2) (h6 : s < t) : Calls Tryz.prog 15 #[.agg (hvs k c e t s)] w fun x w' => x = .returned (.int .i64 0) ∧ Fr Nobody w w' := by
  have HF : Hid (∀ o, Fr Nobody w (w.alloc o)) := fun o => (Fr.refl _ _).alloc o
  have g0 : ¬ (k : Int) < 1 := by omega
  have g1 : ¬ (5 : Int) < (k : Int) := by omega
  have g2 : ¬ (15 : Int) < (c : Int) := by omega
  have g3 : ((e : Int) == 0) = false := by rw [beq_eq_false_iff_ne]; omega
  have g4 : ¬ (3 : Int) < (k : Int) := by omega
  have g5 : ((k : Int) != 2) = false := by rw [bne_eq_false_iff_eq]; omega
  have g6 : ((k : Int) == 2) = true := by rw [beq_iff_eq]; omega
  have g7 : ¬ (t : Int) ≤ (s : Int) := by omega
  clear h0 h1 h2 h3 h4 h5 h6
  unfold hvs at *
  go_enter Tryz.func15, Tryz.ntmps15
  go_wp2
  go_ret
  exact ⟨rfl, HF.out _⟩
theorem hrcheck_any (w : World) (k c e t s : Nat) (hI : HIn k c e t s) : Calls Tryz.prog 15 #[.agg (hvs k c e t s)] w fun x w' => x = .returned (.int .i64 ((hchk k c e t s : Nat) : Int)) ∧ Fr Nobody w w' := by
  by_cases q0 : k < 1
  · have ee : hchk k c e t s = 1 := by
      unfold hchk tfit bfit hasT
      rw [if_pos (by omega)]
    rw [ee]
    exact hrcheck_0 w k c e t s (by omega)
  · by_cases q1 : 5 < k
    · have ee : hchk k c e t s = 1 := by
        unfold hchk tfit bfit hasT
        rw [if_pos (by omega)]
      rw [ee]
      exact hrcheck_1 w k c e t s (by omega) (by omega)
    · by_cases q2 : 15 < c
      · have ee : hchk k c e t s = 1 := by
          unfold hchk tfit bfit hasT
          rw [if_pos (by omega)]
        rw [ee]
        exact hrcheck_2 w k c e t s (by omega) (by omega) (by omega)
      · by_cases q3 : e = 0
        · have ee : hchk k c e t s = 4 := by
            unfold hchk tfit bfit hasT
            rw [if_neg (by omega), if_pos ?_]
            by_cases kk : k = 2 <;> simp [kk] <;> omega
          rw [ee]
          exact hrcheck_3 w k c e t s (by omega) (by omega) (by omega) (by omega)
        · by_cases q4 : 3 < k
          · by_cases q5 : 0 < t
            · have ee : hchk k c e t s = 4 := by
                unfold hchk tfit bfit hasT
                rw [if_neg (by omega), if_pos ?_]
                by_cases kk : k = 2 <;> simp [kk] <;> omega
              rw [ee]
              exact hrcheck_4 w k c e t s (by omega) (by omega) (by omega) (by omega) (by omega) (by omega)
            · by_cases q6 : 0 < s
              · have ee : hchk k c e t s = 4 := by
                  unfold hchk tfit bfit hasT
                  rw [if_neg (by omega), if_pos ?_]
                  by_cases kk : k = 2 <;> simp [kk] <;> omega
                rw [ee]
                exact hrcheck_5 w k c e t s (by omega) (by omega) (by omega) (by omega) (by omega) (by omega) (by omega) (by omega)
              · have ee : hchk k c e t s = 0 := by
                  unfold hchk tfit bfit hasT
                  rw [if_neg (by omega), if_neg ?_]
                  by_cases kk : k = 2 <;> simp [kk] <;> omega
                rw [ee]
                exact hrcheck_6 w k c e t s (by omega) (by omega) (by omega) (by omega) (by omega) (by omega) (by omega) (by omega)
          · by_cases q7 : k = 2
            · by_cases q8 : t ≤ s
              · have ee : hchk k c e t s = 4 := by
                  unfold hchk tfit bfit hasT
                  rw [if_neg (by omega), if_pos ?_]
                  by_cases kk : k = 2 <;> simp [kk] <;> omega
                rw [ee]
                exact hrcheck_9 w k c e t s (by omega) (by omega) (by omega) (by omega) (by omega) (by omega) (by omega)
              · have ee : hchk k c e t s = 0 := by
                  unfold hchk tfit bfit hasT
                  rw [if_neg (by omega), if_neg ?_]
                  by_cases kk : k = 2 <;> simp [kk] <;> omega
                rw [ee]
                exact hrcheck_10 w k c e t s (by omega) (by omega) (by omega) (by omega) (by omega) (by omega) (by omega)
            · by_cases q9 : 0 < s
              · have ee : hchk k c e t s = 4 := by
                  unfold hchk tfit bfit hasT
                  rw [if_neg (by omega), if_pos ?_]
                  by_cases kk : k = 2 <;> simp [kk] <;> omega
                rw [ee]
                exact hrcheck_7 w k c e t s (by omega) (by omega) (by omega) (by omega) (by omega) (by omega) (by omega)
              · have ee : hchk k c e t s = 0 := by
                  unfold hchk tfit bfit hasT
                  rw [if_neg (by omega), if_neg ?_]
                  by_cases kk : k = 2 <;> simp [kk] <;> omega
                rw [ee]
                exact hrcheck_8 w k c e t s (by omega) (by omega) (by omega) (by omega) (by omega) (by omega) (by omega)
end Go.Proofs.YtlncgkbgelejmaaGreatDoor
