/-
  A store's Set.
-/
import Derived.Test.YtflmgilmbppieaaGreatDoorWoqg
import Derived.Test.YtflmgilmbppieaaGreatDoorQig
import Derived.Test.YtflmgilmbppieaaGreatDoorOj
import Derived.Test.YtflmgilmbppieaaGreatDoorUb
namespace Go.Proofs.YtflmgilmbppieaaGreatDoor
open Go.RowKit Go.Maps
set_option linter.unusedVariables false
set_option maxRecDepth 100000

theorem plc_same {L : List Ent} {r id : Nat} {C C' : List Cp} (he : L[r]? = some (id, C)) (x : Nat) : plc (L.set r (id, C')) x = plc L x := by
  have key : ∀ M : List Ent, plc M x = (ids M).findIdx? (fun y => decide (y = x)) := by
    intro M
    unfold plc ids
    rw [List.findIdx?_map]
    rfl
  rw [key, key]
  have : ids (L.set r (id, C')) = ids L := by
    unfold ids
    apply List.ext_getElem?
    intro i
    rw [List.getElem?_map, List.getElem?_map, List.getElem?_set]
    by_cases c : r = i
    · subst c
      have hr := (List.getElem?_eq_some_iff.1 he).1
      rw [he]; simp [hr]
    · rw [if_neg c]
  rw [this]
def Sto.set (σ : Sto) (id : Nat) (c : Cp) : Int × Sto :=
  if c.chk ≠ 0 then ((c.chk : Int), σ) else if σ.S.isLive id = false then (7, σ) else if hasK (σ.cps id) c.k = false then (10, σ) else (0, { σ with T := upd σ.T (σ.hom id) ((σ.T (σ.hom id)).set ((plc (σ.T (σ.hom id)) id).getD 0) (id, setc (σ.cps id) c)) })
theorem Sto.set_ok {σ : Sto} (h : σ.Ok) (id : Nat) (c : Cp) : (σ.set id c).2.Ok := by
  unfold Sto.set
  split
  · exact h
  · rename_i h0
    have hc : c.chk = 0 := by simpa using h0
    split
    · exact h
    · rename_i h1
      have hl : σ.S.isLive id = true := by simpa using h1
      split
      · exact h
      · obtain ⟨r, C, hr, he, hC, hm, h6⟩ := h.ent hl
        rw [Sto.cps_of hr he, hr]
        simp only [Option.getD_some]
        generalize hk : σ.hom id = k at *
        refine ⟨h.s, h.ml, ?_, ?_, ?_⟩
        · intro m hm'
          show TOk m (upd σ.T k _ m)
          by_cases e : m = k
          · subst e; rw [upd_same]; exact (h.t m hm').set he c hc
          · rw [upd_other _ _ _ e]; exact h.t m hm'
        · intro m hm' x hx
          replace hx : x ∈ upd σ.T k ((σ.T k).set r (id, setc C c)) m := hx
          by_cases e : m = k
          · subst e
            rw [upd_same] at hx
            rcases List.mem_or_eq_of_mem_set hx with hx | hx
            · exact h.lv m hm' x hx
            · subst hx
              exact h.lv m hm' (id, C) (List.mem_of_getElem? he)
          · rw [upd_other _ _ _ e] at hx; exact h.lv m hm' x hx
        · intro x hx
          obtain ⟨m, hm', h1', r', h2'⟩ := h.hm x hx
          refine ⟨m, hm', h1', r', ?_⟩
          show plc (upd σ.T k _ m) x = _
          by_cases e : m = k
          · subst e; rw [upd_same, plc_same he]; exact h2'
          · rw [upd_other _ _ _ e]; exact h2'
theorem Sto.add_ok {σ : Sto} (h : σ.Ok) (id : Nat) (c : Cp) : (σ.add id c).2.Ok := by
  unfold Sto.add
  split
  · exact h
  · rename_i h0
    split
    · exact h
    · rename_i h1
      have hl : σ.S.isLive id = true := by simpa using h1
      split
      · exact h
      · rename_i h2
        obtain ⟨r, C, hr, he, hC, hm, h6⟩ := h.ent hl
        have hcps := Sto.cps_of hr he
        rw [hcps] at h2 ⊢
        exact Sto.turn_ok h hl (insw_ok hC (by simpa using h0) (by simpa using h2))
set_option maxHeartbeats 2000000 in
theorem setC0 (w0 w : World) (l : List Thing) (b : Nat) (σ : Sto) (K : Nat) (ht : Tab w0) (h : Own w0 w (Store b σ K :: l)) (hσ : σ.Ok) (id : Nat) (hid : id < 4294967296) (c : Cp) (hk : c.k < 256) (hK : K < 1000000) :
    Calls Tryz.prog 112 #[.pointer (some ⟨b, 0, none⟩), .int .u32 (id : Int), c.ag] w fun e w' => e = .returned (.int .i64 (σ.set id c).1) ∧ Own w0 w' (Store b (σ.set id c).2 K :: l) := by
  obtain ⟨bs, v, p, h⟩ := h.stoX
  have hA := (h.allocC c.ar 46).two
  have HA : Hid (Own w0 _ _) := hA
  by_cases hc : c.chk = 0
  · cases hl : σ.S.isLive id with
    | false =>
      have HV : Hid (σ.set id c = (7, σ)) := by show _ = _; unfold Sto.set; rw [if_neg (by simp [hc]), if_pos hl]
      have HH : Hid (Calls _ _ _ _ _) := homeFor_of w0 _ _ b bs v p σ K ht hA id c hk hc none 7 (fun w' h' => home_dead w0 w' _ b bs v p σ K h' hσ.s id hid hl)
      obtain ⟨ck, ca, cb, cc⟩ := c
      unfold Cp.ag at HH ⊢
      unfold Cp.ar at HH
      clear h hA hσ hl hc HA
      go_enter Tryz.func112, Tryz.ntmps112
      go_wp2_with fail
      refine HH.out.mono ?_
      rintro e w1 ⟨rfl, hO⟩
      have H1 : Hid (Own w0 w1 (StoX b σ K (bs, v, p) :: l)) := hO.two.tail
      clear hO HH
      go_wp2
      go_ret
      rw [HV.out]
      exact ⟨rfl, H1.out.xSto⟩
    | true =>
      obtain ⟨r, C, hr, he, hC, hm, h6⟩ := hσ.ent hl
      have hcps := Sto.cps_of hr he
      obtain ⟨bt0, hp⟩ := stoP h h6 he
      have hn := (hσ.home hl).2.1
      have hbt : bt (σ.hom id) c.k = hasK C c.k := by rw [← hm]; exact bt_msk C c.k (chk_k hc)
      have HH : Hid (Calls _ _ _ _ _) := homeFor_of w0 _ _ b bs v p σ K ht hA id c hk hc (some ⟨bt0, 0, none⟩) 0 (fun w' h' => by
        have := home_ok w0 w' _ b bs v p σ K h' hσ.s id hid hl hn h6
        rw [hp, pp_some] at this
        exact this)
      have hts : tset (σ.hom id) (σ.T (σ.hom id)) id c = if hasK C c.k then (0, (σ.T (σ.hom id)).set r (id, setc C c)) else (10, σ.T (σ.hom id)) := by
        unfold tset
        rw [if_neg (by simp [hc]), hr]
        simp only [he, Option.map_some, Option.getD_some, hbt]
      have HST : Hid (∀ w' l', Own w0 w' (StoX b σ K (bs, v, p) :: l') → Calls Tryz.prog 175 #[.pointer (some ⟨bt0, 0, none⟩), .int .u32 (id : Int), c.ag] w' fun e w'' => e = .returned (.int .i64 (σ.set id c).1) ∧ Own w0 w'' (Store b (σ.set id c).2 K :: l')) := by
        intro w' l' h'
        obtain ⟨cc, hcc, hne, hlen, h2⟩ := h'.stoB h6 hp
        have k := tsetC w0 w' _ bt0 _ _ cc ht h2 (hσ.t _ h6) id hid c hk (by omega)
        rw [hts] at k
        cases hhk : hasK C c.k with
        | false =>
          have hv : σ.set id c = (10, σ) := by unfold Sto.set; rw [if_neg (by simp [hc]), if_neg (by simp [hl]), hcps, if_pos hhk]
          rw [hhk] at k
          simp only [if_false, Bool.false_eq_true] at k
          rw [hv]
          refine k.mono ?_
          rintro e w'' ⟨rfl, h3⟩
          exact ⟨rfl, (h3.stoT h6 hp hcc hne hlen).xSto⟩
        | true =>
          have hv : σ.set id c = (0, { σ with T := upd σ.T (σ.hom id) ((σ.T (σ.hom id)).set r (id, setc C c)) }) := by unfold Sto.set; rw [if_neg (by simp [hc]), if_neg (by simp [hl]), hcps, if_neg (by simp [hhk]), hr]; rfl
          rw [hhk] at k
          simp only [if_true] at k
          rw [hv]
          refine k.mono ?_
          rintro e w'' ⟨rfl, h3⟩
          exact ⟨rfl, (h3.stoBX h6 hp (Nat.le_refl K) hcc (fun q => hne (by simpa using q)) (by simpa using hlen)).xSto⟩
      obtain ⟨ck, ca, cb, cc⟩ := c
      unfold Cp.ag at HH HST ⊢
      unfold Cp.ar at HH
      simp only at HH HST
      clear h hA hσ hl hc HA hr he hC hm hcps hp hn hbt hts
      generalize Sto.set σ id ⟨ck, ca, cb, cc⟩ = rs at *
      go_enter Tryz.func112, Tryz.ntmps112
      go_wp2_with fail
      refine HH.out.mono ?_
      rintro e w1 ⟨rfl, hO⟩
      have q0 := hO.two.cell 0
      have q1 := hO.two.cell 1
      have q2 := hO.two.cell 2
      have q3 := hO.two.cell 3
      simp at q0 q1 q2 q3
      have H1 : Hid (Own w0 w1 _) := hO
      clear hO HH
      go_wp2_with fail
      refine (HST.out _ _ H1.out).mono ?_
      rintro e w2 ⟨rfl, hO⟩
      have H2 : Hid (Own w0 w2 _) := hO.two.tail
      clear hO HST
      go_wp2
      go_ret
      exact ⟨rfl, H2.out⟩
  · have HV : Hid (σ.set id c = ((c.chk : Int), σ)) := by show _ = _; unfold Sto.set; rw [if_pos hc]
    have HH : Hid (Calls _ _ _ _ _) := homeFor_bad w0 _ _ b bs v p σ K ht hA id c hk hc
    have hx : ¬ ((c.chk : Nat) : Int) = 0 := by omega
    generalize c.chk = x at *
    obtain ⟨ck, ca, cb, cc⟩ := c
    unfold Cp.ag at HH ⊢
    unfold Cp.ar at HH
    clear h hA hσ hc HA
    go_enter Tryz.func112, Tryz.ntmps112
    go_wp2_with fail
    refine HH.out.mono ?_
    rintro e w1 ⟨rfl, hO⟩
    have H1 : Hid (Own w0 w1 (StoX b σ K (bs, v, p) :: l)) := hO.two.tail
    clear hO HH
    go_wp2
    go_ret
    rw [HV.out]
    exact ⟨rfl, H1.out.xSto⟩
end Go.Proofs.YtflmgilmbppieaaGreatDoor

/-
  slices.DeleteFunc: a component less.
-/
namespace Go.Proofs.YtflmgilmbppieaaGreatDoor
open Go.RowKit
set_option linter.unusedVariables false
set_option maxRecDepth 100000

theorem ccat_set4 (C : List Cp) (k : Nat) (q : Cp) (hk : k < C.length) : ccat (C.set k q) = ((((ccat C).set (k * 4) (.int .u8 (q.k : Int))).set (k * 4 + 1) (.int .i32 q.a)).set (k * 4 + 2) (.int .i32 q.b)).set (k * 4 + 3) (.int .i32 q.c) := by
  induction C generalizing k with
  | nil => simp at hk
  | cons y C ih =>
    have e1 : ∀ (A : List Cp) (z : Cp), ccat (z :: A) = [.int .u8 (z.k : Int), .int .i32 z.a, .int .i32 z.b, .int .i32 z.c] ++ ccat A := fun _ _ => rfl
    cases k with
    | zero => rw [List.set_cons_zero, e1, e1]; simp
    | succ k =>
      have ih := ih k (by simpa using hk)
      rw [List.set_cons_succ, e1, e1, ih]
      have h0 : (k + 1) * 4 = k * 4 + 4 := by omega
      have h1 : (k + 1) * 4 + 1 = (k * 4 + 1) + 4 := by omega
      have h2 : (k + 1) * 4 + 2 = (k * 4 + 2) + 4 := by omega
      have h3 : (k + 1) * 4 + 3 = (k * 4 + 3) + 4 := by omega
      rw [h1, h2, h3, h0]
      simp
set_option maxHeartbeats 400000 in
theorem pred_any (w : World) (bk k : Nat) (hk : w.cell? ⟨bk, 0, none⟩ = some (.int .u8 (k : Int))) (q : Cp) :
    Calls Tryz.prog 256 #[.agg #[.int .u8 (q.k : Int), .int .i32 q.a, .int .i32 q.b, .int .i32 q.c], .pointer (some ⟨bk, 0, none⟩)] w fun e w' => e = .returned (.bool (decide (q.k = k))) ∧ Fr Nobody w w' := by
  have hlt : bk < w.heap.size := World.block_lt_of_cell? w _ hk
  have hne : bk ≠ w.heap.size := by omega
  have hne2 : w.heap.size ≠ bk := by omega
  by_cases h : q.k = k
  · subst h
    go_enter Tryz.func256, Tryz.ntmps256
    go_wp2
    go_ret
    exact ⟨by simp, (Fr.refl _ _).alloc _⟩
  · have h' : ((q.k : Int) == (k : Int)) = false := by simp; omega
    rw [decide_eq_false h]
    go_enter Tryz.func256, Tryz.ntmps256
    go_wp2
    go_ret
    exact ⟨rfl, (Fr.refl _ _).alloc _⟩
set_option maxHeartbeats 1000000 in
theorem index_ok (w0 w : World) (l : List Thing) (C : List Cp) (ao : Option Addr) (n cap bk k r : Nat) (hn : C.length = n) (hn6 : n ≤ 1000) (h : Own w0 w (Row 46 4 (.slice ao n cap) n (ccat C) :: Cells bk #[.int .u8 (k : Int)] 5 :: l)) (hr : ∃ q, C[r]? = some q ∧ q.k = k) (hlt : ∀ j x, j < r → C[j]? = some x → x.k ≠ k) :
    Calls Tryz.prog 146 #[.slice ao n cap, .func (.func 256) #[] #[.pointer (some ⟨bk, 0, none⟩)]] w fun e w' => e = .returned (.int .i64 (r : Int)) ∧ Own w0 w' (Row 46 4 (.slice ao n cap) n (ccat C) :: Cells bk #[.int .u8 (k : Int)] 5 :: l) := by
  have H : Hid (Own w0 w _) := h
  have HN : Hid (C.length = n) := hn
  have HR : Hid (∃ q, C[r]? = some q ∧ q.k = k) := hr
  have HLT : Hid (∀ j x, j < r → C[j]? = some x → x.k ≠ k) := hlt
  have hrn : r < n := by obtain ⟨q, hq, _⟩ := hr; rw [← hn]; exact (List.getElem?_eq_some_iff.1 hq).1
  clear h hn hr hlt
  go_enter Tryz.func146, Tryz.ntmps146
  go_wp2
  go_loopw [8] (fun cc wr => ∃ j : Nat, j ≤ r ∧ cc = .int .i64 j ∧ Own w0 wr (Row 46 4 (.slice ao n cap) n (ccat C) :: Cells bk #[.int .u8 (k : Int)] 5 :: l)) (fun cc _ => n - (intOf cc).toNat)
  case atStart => exact ⟨0, Nat.zero_le _, rfl, H.out⟩
  case round =>
    obtain ⟨j, hj, rfl, hO⟩ := hrel
    have HO : Hid (Own w0 wr _) := hO
    clear H
    obtain ⟨q, hq⟩ : ∃ q, C[j]? = some q := ⟨_, List.getElem?_eq_getElem (by rw [HN.out]; omega)⟩
    obtain ⟨g, o, hao, _, c0, c1, c2, c3⟩ := (Own.rcs hO HN.out).at j q hq
    subst hao
    have kc := hO.two.cell 0
    simp at kc
    have HP : Hid (Calls _ _ _ _ _) := pred_any wr bk k kc q
    have hlt' : (j : Int) < (n : Int) := by omega
    by_cases hjr : j < r
    · have hqk : q.k ≠ k := HLT.out j q hjr hq
      rw [decide_eq_false hqk] at HP
      obtain ⟨qk, qa, qb, qc⟩ := q
      simp only at c0 c1 c2 c3 HP
      clear hO hq
      go_wp2_with fail
      refine HP.out.mono ?_
      rintro e w2 ⟨rfl, hf⟩
      have H2 : Hid (Own w0 w2 _) := HO.out.quiet hf
      clear hf HP HO
      go_wp2
      go_roundw
      case rel => exact ⟨j + 1, by omega, by go_num, H2.out⟩
      case measure => simp [intOf]; omega
    · have hje : j = r := by omega
      subst hje
      obtain ⟨q', hq', hk'⟩ := HR.out
      rw [hq] at hq'
      cases hq'
      rw [decide_eq_true hk'] at HP
      obtain ⟨qk, qa, qb, qc⟩ := q
      simp only at c0 c1 c2 c3 HP
      clear hO hq hk'
      go_wp2_with fail
      refine HP.out.mono ?_
      rintro e w2 ⟨rfl, hf⟩
      have H2 : Hid (Own w0 w2 _) := HO.out.quiet hf
      clear hf HP HO
      go_wp2
      go_ret
      exact ⟨rfl, H2.out⟩
theorem zeroComp2 (w : World) : (zeroValue 46).run Tryz.prog w = .ok (.agg #[.int .u8 0, .int .i32 0, .int .i32 0, .int .i32 0]) w := by kernel_rfl
set_option maxHeartbeats 2000000 in
theorem delete_ok (w0 w : World) (l : List Thing) (C : List Cp) (g n cap bk k r : Nat) (hn : C.length = n) (hn6 : n ≤ 1000) (h : Own w0 w (Row 46 4 (.slice (some ⟨g, 0, none⟩) n cap) n (ccat C) :: Cells bk #[.int .u8 (k : Int)] 5 :: l)) (hr : ∃ q, C[r]? = some q ∧ q.k = k) (hlt : ∀ j x, j ≠ r → C[j]? = some x → x.k ≠ k) :
    Calls Tryz.prog 255 #[.slice (some ⟨g, 0, none⟩) n cap, .func (.func 256) #[] #[.pointer (some ⟨bk, 0, none⟩)]] w fun e w' => e = .returned (.slice (some ⟨g, 0, none⟩) (n - 1) cap) ∧ Own w0 w' (Row 46 4 (.slice (some ⟨g, 0, none⟩) (n - 1) cap) (n - 1) (ccat (C.eraseIdx r)) :: Cells bk #[.int .u8 (k : Int)] 5 :: l) := by
  have HIX : Hid (Calls _ _ _ _ _) := index_ok w0 w l C (some ⟨g, 0, none⟩) n cap bk k r hn hn6 h hr (fun j x hj hx => hlt j x (by omega) hx)
  have HN : Hid (C.length = n) := hn
  have HLT : Hid (∀ j x, j ≠ r → C[j]? = some x → x.k ≠ k) := hlt
  have hrn : r < n := by obtain ⟨q, hq, _⟩ := hr; rw [← hn]; exact (List.getElem?_eq_some_iff.1 hq).1
  obtain ⟨hnc, hcm⟩ := (row_cap h.row).2
  unfold maxLen at hcm
  have HEL : Hid ((C.eraseIdx r).length = n - 1) := by show _ = _; rw [List.length_eraseIdx_of_lt (by omega), hn]
  have hr1 : ¬ (r : Int) = -1 := by omega
  clear h hn hr hlt
  go_enter Tryz.func255, Tryz.ntmps255
  go_wp2_with fail
  refine HIX.out.mono ?_
  rintro e w1 ⟨rfl, hO⟩
  have H1 : Hid (Own w0 w1 _) := hO
  clear hO HIX
  go_wp2
  go_loopw [5, 6] (fun iv jv wr => ∃ (j : Nat) (X : List Cp), r + 1 ≤ j ∧ j ≤ n ∧ jv = .int .i64 j ∧ iv = .int .i64 ((j - 1 : Nat) : Int) ∧ X.length = n ∧ X.take (j - 1) = (C.eraseIdx r).take (j - 1) ∧ X.drop j = C.drop j ∧ Own w0 wr (Row 46 4 (.slice (some ⟨g, 0, none⟩) n cap) n (ccat X) :: Cells bk #[.int .u8 (k : Int)] 5 :: l)) (fun _ jv _ => n - (intOf jv).toNat)
  case atStart =>
    refine ⟨r + 1, C, Nat.le_refl _, by omega, by go_num, by simp, HN.out, ?_, rfl, H1.out⟩
    rw [Nat.add_sub_cancel, List.eraseIdx_eq_take_drop_succ, List.take_append_of_le_length (by rw [List.length_take, HN.out]; omega), List.take_take, Nat.min_self]
  case round =>
    obtain ⟨j, X, hj1, hj2, rfl, rfl, hXl, hXt, hXd, hO⟩ := hrel
    have HO : Hid (Own w0 wr _) := hO
    have HX : Hid (X.length = n ∧ X.take (j - 1) = (C.eraseIdx r).take (j - 1) ∧ X.drop j = C.drop j) := ⟨hXl, hXt, hXd⟩
    clear H1
    obtain ⟨i, hi⟩ : ∃ i, i = j - 1 := ⟨_, rfl⟩
    have hij : i + 1 = j := by omega
    rw [← hi]
    rw [← hi] at HX hXt
    by_cases hlt : j < n
    · have hlt' : (j : Int) < (n : Int) := by omega
      obtain ⟨q, hq⟩ : ∃ q, X[j]? = some q := ⟨_, List.getElem?_eq_getElem (by rw [hXl]; exact hlt)⟩
      have hCq : C[j]? = some q := by
        have := congrArg (fun l => l[0]?) hXd
        simp only [List.getElem?_drop, Nat.add_zero] at this
        rw [← this]; exact hq
      have hqk : q.k ≠ k := HLT.out j q (by omega) hCq
      obtain ⟨g', o', hao, _, c0, c1, c2, c3⟩ := (Own.rcs hO hXl).at j q hq
      cases hao
      have kc := hO.two.cell 0
      simp at kc
      have HP : Hid (∀ w', Own w0 w' (Row 46 4 (.slice (some ⟨g, 0, none⟩) n cap) n (ccat X) :: Cells bk #[.int .u8 (k : Int)] 5 :: l) → Calls Tryz.prog 256 #[.agg #[.int .u8 (q.k : Int), .int .i32 q.a, .int .i32 q.b, .int .i32 q.c], .pointer (some ⟨bk, 0, none⟩)] w' fun e w'' => e = .returned (.bool false) ∧ Fr Nobody w' w'') := by
        intro w' h'
        have kc := h'.two.cell 0
        simp at kc
        have := pred_any w' bk k kc q
        rw [decide_eq_false hqk] at this
        exact this
      have HXN : Hid ((X.set i q).length = n ∧ (X.set i q).take j = (C.eraseIdx r).take j ∧ (X.set i q).drop (j + 1) = C.drop (j + 1)) := by
        refine ⟨by rw [List.length_set]; exact hXl, ?_, ?_⟩
        · rw [← hij, List.take_add_one, List.take_add_one, List.getElem?_set_self (by omega), List.getElem?_eraseIdx, if_neg (by omega), hij, hCq, List.take_set_of_le (Nat.le_refl _), hXt]
        · rw [List.drop_set_of_lt (by omega)]
          have := congrArg (List.drop 1) hXd
          rw [List.drop_drop, List.drop_drop] at this
          exact this
      have hA := hO.alloc (.cells #[.int .u8 (q.k : Int), .int .i32 q.a, .int .i32 q.b, .int .i32 q.c] 46)
      have HA : Hid (Own w0 _ _) := hA
      have hnew := hO.allocC #[.int .u8 (q.k : Int), .int .i32 q.a, .int .i32 q.b, .int .i32 q.c] 46
      have HW : Hid (Own w0 _ _) := hnew
      have hS4 : Hid (ccat (X.set i q) = ((((ccat X).set (i * 4) (.int .u8 (q.k : Int))).set (i * 4 + 1) (.int .i32 q.a)).set (i * 4 + 2) (.int .i32 q.b)).set (i * 4 + 3) (.int .i32 q.c)) := ccat_set4 X i q (by omega)
      have hin : (i : Int) < (n : Int) := by omega
      have hi0 : (0 : Int) ≤ (i : Int) := by omega
      obtain ⟨qk, qa, qb, qc⟩ := q
      simp only [Nat.zero_add] at c0 c1 c2 c3 HP HW hS4
      clear hO hA hnew hq hCq hXl hXt hXd HO hi
      go_wp2_with fail
      refine (HP.out _ HA.out).mono ?_
      rintro e w2 ⟨rfl, hf⟩
      have hO2 := HW.out.quiet hf
      have x0 := hO2.cell 0
      have x1 := hO2.cell 1
      have x2 := hO2.cell 2
      have x3 := hO2.cell 3
      simp at x0 x1 x2 x3
      have hrow := hO2.two.row
      have z0 := hrow.frozenAt (i * 4)
      have z1 := hrow.frozenAt (i * 4 + 1)
      have z2 := hrow.frozenAt (i * 4 + 2)
      have z3 := hrow.frozenAt (i * 4 + 3)
      obtain ⟨v0, y0⟩ : ∃ v, w2.cell? ⟨g, i * 4, none⟩ = some v := ⟨_, by rw [hrow.cellAt _ (by omega)]; exact List.getElem?_eq_getElem (by rw [length_ccat, HX.out.1]; omega)⟩
      obtain ⟨v1, y1⟩ : ∃ v, w2.cell? ⟨g, i * 4 + 1, none⟩ = some v := ⟨_, by rw [hrow.cellAt _ (by omega)]; exact List.getElem?_eq_getElem (by rw [length_ccat, HX.out.1]; omega)⟩
      obtain ⟨v2, y2⟩ : ∃ v, w2.cell? ⟨g, i * 4 + 2, none⟩ = some v := ⟨_, by rw [hrow.cellAt _ (by omega)]; exact List.getElem?_eq_getElem (by rw [length_ccat, HX.out.1]; omega)⟩
      obtain ⟨v3, y3⟩ : ∃ v, w2.cell? ⟨g, i * 4 + 3, none⟩ = some v := ⟨_, by rw [hrow.cellAt _ (by omega)]; exact List.getElem?_eq_getElem (by rw [length_ccat, HX.out.1]; omega)⟩
      have HF : Hid (Own w0 ((((w2.setCell ⟨g, i * 4, none⟩ (.int .u8 (qk : Int))).setCell ⟨g, i * 4 + 1, none⟩ (.int .i32 qa)).setCell ⟨g, i * 4 + 2, none⟩ (.int .i32 qb)).setCell ⟨g, i * 4 + 3, none⟩ (.int .i32 qc)) (Row 46 4 (.slice (some ⟨g, 0, none⟩) n cap) n (ccat (X.set i ⟨qk, qa, qb, qc⟩)) :: Cells bk #[.int .u8 (k : Int)] 5 :: l)) := by
        have h4 := ((((hO2.tail).setR (i * 4) (.int .u8 (qk : Int))).setR (i * 4 + 1) (.int .i32 qa)).setR (i * 4 + 2) (.int .i32 qb)).setR (i * 4 + 3) (.int .i32 qc)
        rw [← hS4.out] at h4
        exact h4
      clear hO2 hf hrow HP HA HW hS4
      go_wp2
      go_roundw
      case rel =>
        refine ⟨_, _, _, _, _, _, _, _, _, _, _, _, _, _, _, _, _, _, _, _, _, _, _, ⟨j + 1, X.set i ⟨qk, qa, qb, qc⟩, by omega, by omega, by go_num, ?_, HXN.out.1, by rw [Nat.add_sub_cancel]; exact HXN.out.2.1, HXN.out.2.2, HF.out⟩, rfl⟩
        rw [Nat.add_sub_cancel, ← hij]; go_num
      case measure => simp [intOf]; omega
    · have hlt' : ¬ (j : Int) < (n : Int) := by omega
      have hjn : j = n := by omega
      have hcut := hO.cut (m := i) (by omega)
      have e1 : (ccat X).take (i * 4) = ccat (C.eraseIdx r) := by
        rw [ccat_take, hXt]
        rw [List.take_of_length_le (by rw [HEL.out]; omega)]
      rw [e1] at hcut
      obtain ⟨w2, hcl, hO2⟩ := hcut.cleared (P := Tryz.prog) 39 (.agg #[.int .u8 0, .int .i32 0, .int .i32 0, .int .i32 0]) Tryz.underlying39 zeroComp2 rfl (by intro u hu; simp [Value.cells] at hu; rcases hu with rfl | rfl | rfl | rfl <;> rfl) (by decide) 1 (cap - i) (by decide) (by omega)
      have H2 : Hid (Own w0 w2 _) := hO2
      have hni : n - 1 = i := by omega
      have hni2 : n - i = 1 := by omega
      have hin : (i : Int) ≤ (n : Int) := by omega
      have hci : ¬ cap = i := by omega
      have hic : i ≤ cap := by omega
      clear hO hcut hXl hXt hXd hO2 e1 HO hi HX
      go_wp2
      go_ret
      first
        | exact ⟨rfl, H2.out⟩
        | (show Ending.returned _ = Ending.returned (.slice (some ⟨g, 0, none⟩) (n - 1) cap) ∧ _; rw [hni]; exact ⟨rfl, H2.out⟩)
end Go.Proofs.YtflmgilmbppieaaGreatDoor

/-
  A store's Remove.
-/
namespace Go.Proofs.YtflmgilmbppieaaGreatDoor
open Go.RowKit Go.Maps
set_option linter.unusedVariables false
set_option maxRecDepth 100000

/-- without a kind -/
def outk (C : List Cp) (k : Nat) : List Cp := C.filter (fun q => decide (q.k ≠ k))
theorem outk_none {C : List Cp} {k : Nat} (h : ∀ q ∈ C, q.k ≠ k) : outk C k = C := List.filter_eq_self.2 (fun q hq => by simpa using h q hq)
theorem outk_erase {C : List Cp} {k r : Nat} {q : Cp} (h : C.Pairwise (fun x y => x.k < y.k)) (hr : C[r]? = some q) (hq : q.k = k) : C.eraseIdx r = outk C k := by
  induction C generalizing r with
  | nil => simp at hr
  | cons a C ih =>
    obtain ⟨h1, h2⟩ := List.pairwise_cons.1 h
    cases r with
    | zero =>
      simp at hr
      subst hr
      have : outk (a :: C) k = outk C k := by unfold outk; rw [List.filter_cons]; simp [hq]
      rw [this, outk_none (fun x hx => by have := h1 x hx; omega)]
      rfl
    | succ r =>
      have hm : q ∈ C := List.mem_of_getElem? (by simpa using hr)
      have ha : a.k ≠ k := by have := h1 q hm; omega
      have := ih h2 (r := r) (by simpa using hr)
      rw [List.eraseIdx_cons_succ, this]
      unfold outk
      rw [List.filter_cons]; simp [ha]
theorem outk_ok {C : List Cp} (h : lst (-1) C = 0) (k : Nat) : lst (-1) (outk C k) = 0 := by
  rw [lst_iff] at h ⊢
  exact ⟨h.1.filter _, fun x hx => h.2 x (List.mem_filter.1 hx).1⟩
set_option maxHeartbeats 1000000 in
theorem without_ok (w0 w : World) (l : List Thing) (C : List Cp) (ao : Option Addr) (n cap k : Nat) (hn : C.length = n) (hC : lst (-1) C = 0) (h : Own w0 w (Row 46 4 (.slice ao n cap) n (ccat C) :: l)) (hk : hasK C k = true) :
    Calls Tryz.prog 239 #[.slice ao n cap, .int .u8 (k : Int)] w fun e w' => ∃ ao' cap', e = .returned (.slice ao' (outk C k).length cap') ∧ Own w0 w' (Row 46 4 (.slice ao' (outk C k).length cap') (outk C k).length (ccat (outk C k)) :: l) := by
  obtain ⟨q, hq, hqk⟩ := (hasK_iff _ _).1 hk
  obtain ⟨r, hr⟩ := List.getElem?_of_mem hq
  have hs := ((lst_iff C).1 hC).1
  have hlen := lst_len hC
  have hrn : r < n := by rw [← hn]; exact (List.getElem?_eq_some_iff.1 hr).1
  obtain ⟨g, cap', hv, _⟩ := row_shape h.row (by omega)
  have hao := (Value.slice.inj hv).1
  subst hao
  have hA := (h.allocC #[.int .u8 (k : Int)] 5).two
  have HD : Hid (Calls _ _ _ _ _) := delete_ok w0 _ l C g n cap w.heap.size k r hn (by omega) hA ⟨q, hr, hqk⟩ (fun j x hj hx e => by
    rcases Nat.lt_or_gt_of_ne hj with c | c
    · have := List.pairwise_iff_getElem.1 hs j r (List.getElem?_eq_some_iff.1 hx).1 (List.getElem?_eq_some_iff.1 hr).1 c
      rw [(List.getElem?_eq_some_iff.1 hx).2, (List.getElem?_eq_some_iff.1 hr).2] at this
      omega
    · have := List.pairwise_iff_getElem.1 hs r j (List.getElem?_eq_some_iff.1 hr).1 (List.getElem?_eq_some_iff.1 hx).1 c
      rw [(List.getElem?_eq_some_iff.1 hx).2, (List.getElem?_eq_some_iff.1 hr).2] at this
      omega)
  have hol : n - 1 = (outk C k).length := by rw [← outk_erase hs hr hqk, List.length_eraseIdx_of_lt (by omega), hn]
  rw [outk_erase hs hr hqk, hol] at HD
  clear h hA hol hs hC hk hq hr hqk hn
  go_enter Tryz.func239, Tryz.ntmps239
  go_wp2_with fail
  refine HD.out.mono ?_
  rintro e w1 ⟨rfl, hO⟩
  have H1 : Hid (Own w0 w1 _) := hO
  clear hO
  go_wp2
  go_ret
  exact ⟨_, _, rfl, H1.out.two.tail⟩
def Sto.remove (σ : Sto) (id k : Nat) : Int × Sto :=
  if σ.S.isLive id = false then (7, σ) else if hasK (σ.cps id) k = false then (10, σ) else (0, σ.turn id (outk (σ.cps id) k))
set_option maxHeartbeats 2000000 in
theorem removeC (w0 w : World) (l : List Thing) (b : Nat) (σ : Sto) (K : Nat) (ht : Tab w0) (h : Own w0 w (Store b σ K :: l)) (hσ : σ.Ok) (id : Nat) (hid : id < 4294967296) (k : Nat) (hk : k < 256) (hK : K + 1 < 1000000) :
    Calls Tryz.prog 202 #[.pointer (some ⟨b, 0, none⟩), .int .u32 (id : Int), .int .u8 (k : Int)] w fun e w' => e = .returned (.int .i64 (σ.remove id k).1) ∧ Own w0 w' (Store b (σ.remove id k).2 (K + 2) :: l) := by
  obtain ⟨bs, v, p, h⟩ := h.stoX
  cases hl : σ.S.isLive id with
  | false =>
    have HV : Hid (σ.remove id k = (7, σ)) := by show _ = _; unfold Sto.remove; rw [if_pos hl]
    have HH : Hid (Calls _ _ _ _ _) := home_dead w0 w l b bs v p σ K h hσ.s id hid hl
    clear h hσ hl
    go_enter Tryz.func202, Tryz.ntmps202
    go_wp2_with fail
    refine HH.out.mono ?_
    rintro e w1 ⟨rfl, hO⟩
    have H1 : Hid (Own w0 w1 (StoX b σ K (bs, v, p) :: l)) := hO
    clear hO HH
    go_wp2
    go_ret
    rw [HV.out]
    exact ⟨rfl, H1.out.xSto.stoK (by omega)⟩
  | true =>
    obtain ⟨r, C, hr, he, hC, hm, h6⟩ := hσ.ent hl
    have hcps := Sto.cps_of hr he
    obtain ⟨bt0, hp⟩ := stoP h h6 he
    have hn := (hσ.home hl).2.1
    have HH : Hid (Calls _ _ _ _ _) := home_ok w0 w l b bs v p σ K h hσ.s id hid hl hn h6
    rw [hp, pp_some] at HH
    have HG : Hid (∀ w' l', Own w0 w' (StoX b σ K (bs, v, p) :: l') → Calls Tryz.prog 171 #[.pointer (some ⟨bt0, 0, none⟩), .int .u32 (id : Int), .int .u8 (k : Int)] w' fun e w'' => e = .returned (.tuple #[(if hasK C k then mkc k (fv C k) else ⟨0, 0, 0, 0⟩ : Cp).ag, .int .i64 (if hasK C k then 0 else 10)]) ∧ Own w0 w'' (StoX b σ K (bs, v, p) :: l')) := fun w' l' h' => by
      have := homeGet w0 w' l' b bs v p σ K hσ id hid hl bt0 hp h' k hk
      rw [hcps] at this
      exact this
    cases hhk : hasK C k with
    | false =>
      have HV : Hid (σ.remove id k = (10, σ)) := by show _ = _; unfold Sto.remove; rw [if_neg (by simp [hl]), hcps, if_pos hhk]
      rw [hhk] at HG
      simp only [if_false, Bool.false_eq_true] at HG
      unfold Cp.ag at HG
      simp only at HG
      clear h hσ hl hr he hC hm hcps hp hn hhk
      go_enter Tryz.func202, Tryz.ntmps202
      go_wp2_with fail
      refine HH.out.mono ?_
      rintro e w1 ⟨rfl, hO⟩
      have H1 : Hid (Own w0 w1 _) := hO
      clear hO HH
      go_wp2_with fail
      refine (HG.out _ _ H1.out).mono ?_
      rintro e w2 ⟨rfl, hO⟩
      have H2 : Hid (Own w0 _ (StoX b σ K (bs, v, p) :: l)) := hO.alloc (.cells #[.int .u8 0, .int .i32 0, .int .i32 0, .int .i32 0] 46)
      clear hO
      go_wp2
      go_ret
      rw [HV.out]
      exact ⟨rfl, H2.out.xSto.stoK (by omega)⟩
    | true =>
      have HV : Hid (σ.remove id k = (0, (σ.out (σ.hom id) r).put id (outk C k))) := by show _ = _; unfold Sto.remove; rw [if_neg (by simp [hl]), hcps, if_neg (by simp [hhk])]; unfold Sto.turn; rw [hr]; rfl
      rw [hhk] at HG
      simp only [if_true] at HG
      have hlen := lst_len hC
      have hI := outk_ok hC k
      have hIl := lst_len hI
      have hLk := hσ.out hl hr
      have HPL : Hid (∀ w' l', Own w0 w' (StoX b σ K (bs, v, p) :: l') → Calls Tryz.prog 172 #[.pointer (some ⟨b, 0, none⟩), .pointer (some ⟨bt0, 0, none⟩), .int .u32 (id : Int)] w' fun out w'' => ∃ ao cap, out = .returned (.slice ao C.length cap) ∧ Own w0 w'' (Row 46 4 (.slice ao C.length cap) C.length (ccat C) :: Store b (σ.out (σ.hom id) r) (K + 1) :: l')) := fun w' l' h' => pull_ok w0 w' l' b bs v p σ K h' (σ.hom id) h6 (some bt0) hp (hσ.t _ h6) id hid r (id, C) hr he (by omega)
      have HWI : Hid (∀ w' l' ao cap, Own w0 w' (Row 46 4 (.slice ao C.length cap) C.length (ccat C) :: l') → Calls Tryz.prog 239 #[.slice ao C.length cap, .int .u8 (k : Int)] w' fun e w'' => ∃ ao' cap', e = .returned (.slice ao' (outk C k).length cap') ∧ Own w0 w'' (Row 46 4 (.slice ao' (outk C k).length cap') (outk C k).length (ccat (outk C k)) :: l')) := fun w' l' ao cap h' => without_ok w0 w' l' C ao C.length cap k rfl hC h' hhk
      have HPU : Hid (∀ w' l' ao cap, Own w0 w' (Row 46 4 (.slice ao (outk C k).length cap) (outk C k).length (ccat (outk C k)) :: Store b (σ.out (σ.hom id) r) (K + 1) :: l') → Calls Tryz.prog 213 #[.pointer (some ⟨b, 0, none⟩), .int .u32 (id : Int), .slice ao (outk C k).length cap] w' fun e w'' => e = .returned (.tuple #[]) ∧ Own w0 w'' (Store b ((σ.out (σ.hom id) r).put id (outk C k)) (K + 2) :: l')) := by
        intro w' l' ao cap h'
        obtain ⟨bs', v', p', h2⟩ := h'.two.stoX
        have hli := St.live_lt hLk.s hLk.li
        refine (put_ok w0 w' _ b bs' v' p' _ (K + 1) ht h2 id hid (by rw [hLk.ml]; exact hli.2) ao (outk C k).length cap (outk C k) rfl (fun w'' h'' => Own.rcs h'' rfl) (lst_k hI) (by omega) hI (hLk.t _ (msk64 _)) (hLk.none (msk64 _)) (by omega)).mono ?_
        rintro e w'' ⟨rfl, h3⟩
        exact ⟨rfl, h3.two.tail⟩
      generalize mkc k (fv C k) = q at *
      obtain ⟨qk, qa, qb, qc⟩ := q
      unfold Cp.ag at HG
      simp only at HG
      clear h hσ hl hr he hC hm hcps hp hn hhk hI hLk hIl
      generalize (outk C k).length = n2 at *
      generalize C.length = n at *
      go_enter Tryz.func202, Tryz.ntmps202
      go_wp2_with fail
      refine HH.out.mono ?_
      rintro e w1 ⟨rfl, hO⟩
      have H1 : Hid (Own w0 w1 _) := hO
      clear hO HH
      go_wp2_with fail
      refine (HG.out _ _ H1.out).mono ?_
      rintro e w2 ⟨rfl, hO⟩
      have H2 : Hid (Own w0 _ _) := hO.alloc (.cells #[.int .u8 (qk : Int), .int .i32 qa, .int .i32 qb, .int .i32 qc] 46)
      clear hO H1
      go_wp2_with fail
      refine (HPL.out _ _ H2.out).mono ?_
      rintro e w3 ⟨a3, c3, rfl, hO⟩
      have H3 : Hid (Own w0 w3 _) := hO
      clear hO H2
      go_wp2_with fail
      refine (HWI.out _ _ _ _ H3.out).mono ?_
      rintro e w4 ⟨a4, c4, rfl, hO⟩
      have H4 : Hid (Own w0 w4 _) := hO
      clear hO H3
      go_wp2_with fail
      refine (HPU.out _ _ _ _ H4.out).mono ?_
      rintro e w5 ⟨rfl, hO⟩
      have H5 : Hid (Own w0 w5 _) := hO
      clear hO H4
      go_wp2
      go_ret
      rw [HV.out]
      exact ⟨rfl, H5.out⟩
end Go.Proofs.YtflmgilmbppieaaGreatDoor

/-
  Orders to set, to add and to remove; Do of any order.
-/
namespace Go.Proofs.YtflmgilmbppieaaGreatDoor
open Go.RowKit
set_option linter.unusedVariables false
set_option maxRecDepth 100000

theorem Sto.remove_ok {σ : Sto} (h : σ.Ok) (id k : Nat) : (σ.remove id k).2.Ok := by
  unfold Sto.remove
  split
  · exact h
  · rename_i h1
    have hl : σ.S.isLive id = true := by simpa using h1
    split
    · exact h
    · obtain ⟨r, C, hr, he, hC, hm, h6⟩ := h.ent hl
      rw [Sto.cps_of hr he]
      exact Sto.turn_ok h hl (outk_ok hC k)
set_option maxHeartbeats 2000000 in
theorem tell_set (w0 w : World) (l : List Thing) (b : Nat) (σ : Sto) (K : Nat) (ht : Tab w0) (h : Own w0 w (Store b σ K :: l)) (hσ : σ.Ok) (id k : Nat) (hid : id < 4294967296) (q : Cp) (hq : q.k < 256) (ao : Option Addr) (cap : Nat) (hCs : ∀ w', Own w0 w' l → Cs w' ao [q]) (hK : K + 1 < 1000000) :
    Calls Tryz.prog 167 #[.pointer (some ⟨b, 0, none⟩), .agg #[.int .u8 3, .int .u32 (id : Int), .int .u8 (k : Int), .slice ao 1 cap]] w fun e w' => e = .returned (.tuple #[.int .u32 (id : Int), .int .i64 (σ.set id q).1]) ∧ Own w0 w' (Store b (σ.set id q).2 K :: l) := by
  have hA := (h.allocC #[.int .u8 3, .int .u32 (id : Int), .int .u8 (k : Int), .slice ao 1 cap] 41).two
  obtain ⟨g, o, rfl, _, c0, c1, c2, c3⟩ := (hCs _ hA.tail.tail).at 0 q rfl
  have HCE : Hid (∀ w', Own w0 w' l → At4 w' g o q) := by
    intro w' h'
    obtain ⟨g', o', he, _, hat⟩ := (hCs _ h').at 0 q rfl
    cases he
    simpa using hat
  have HS : Hid (Calls _ _ _ _ _) := setC0 w0 _ _ b σ K ht hA.drew hσ id hid q hq (by omega)
  have HB : Hid (w.heap.size = w.heap.size) := rfl
  have b1 := hA.two.cell 1
  have b3 := hA.two.cell 3
  simp at b1 b3
  simp only [Nat.zero_mul, Nat.add_zero] at c0 c1 c2 c3
  obtain ⟨qk, qa, qb, qc⟩ := q
  unfold Cp.ag at HS
  simp only at c0 c1 c2 c3 HS
  generalize σ.set id ⟨qk, qa, qb, qc⟩ = r at *
  clear h hσ hA hCs
  go_enter Tryz.func167, Tryz.ntmps167
  go_wp2_with fail
  go_region_held3 (fun w' => w'.cell? ⟨w.heap.size, 1, none⟩ = some (.int .u32 (id : Int)) ∧ w'.cell? ⟨w.heap.size, 3, none⟩ = some (.slice (some ⟨g, o, none⟩) 1 cap) ∧ w'.cell? ⟨g, o, none⟩ = some (.int .u8 (qk : Int)) ∧ w'.cell? ⟨g, o + 1, none⟩ = some (.int .i32 qa) ∧ w'.cell? ⟨g, o + 2, none⟩ = some (.int .i32 qb) ∧ w'.cell? ⟨g, o + 3, none⟩ = some (.int .i32 qc)) (go_keep)
    (first
     | (go_at_call 112; refine HS.out.mono ?_; rintro e w1 ⟨rfl, hO⟩
        have t1 := hO.two.cell 1
        have t3 := hO.two.cell 3
        simp at t1 t3
        obtain ⟨s0, s1, s2, s3⟩ := HCE.out _ hO.tail.tail
        have H1 : Hid (Own w0 w1 _) := hO
        clear hO))
  all_goals
    go_wp2
    go_ret2
    exact ⟨rfl, H1.out.two.tail⟩
set_option maxHeartbeats 2000000 in
theorem tell_add (w0 w : World) (l : List Thing) (b : Nat) (σ : Sto) (K : Nat) (ht : Tab w0) (h : Own w0 w (Store b σ K :: l)) (hσ : σ.Ok) (id k : Nat) (hid : id < 4294967296) (q : Cp) (hq : q.k < 256) (ao : Option Addr) (cap : Nat) (hCs : ∀ w', Own w0 w' l → Cs w' ao [q]) (hK : K + 1 < 1000000) :
    Calls Tryz.prog 167 #[.pointer (some ⟨b, 0, none⟩), .agg #[.int .u8 4, .int .u32 (id : Int), .int .u8 (k : Int), .slice ao 1 cap]] w fun e w' => e = .returned (.tuple #[.int .u32 (id : Int), .int .i64 (σ.add id q).1]) ∧ Own w0 w' (Store b (σ.add id q).2 (K + 2) :: l) := by
  have hA := (h.allocC #[.int .u8 4, .int .u32 (id : Int), .int .u8 (k : Int), .slice ao 1 cap] 41).two
  obtain ⟨g, o, rfl, _, c0, c1, c2, c3⟩ := (hCs _ hA.tail.tail).at 0 q rfl
  have HCE : Hid (∀ w', Own w0 w' l → At4 w' g o q) := by
    intro w' h'
    obtain ⟨g', o', he, _, hat⟩ := (hCs _ h').at 0 q rfl
    cases he
    simpa using hat
  have HS : Hid (Calls _ _ _ _ _) := addC w0 _ _ b σ K ht hA.drew hσ id hid q hq hK
  have HB : Hid (w.heap.size = w.heap.size) := rfl
  have b1 := hA.two.cell 1
  have b3 := hA.two.cell 3
  simp at b1 b3
  simp only [Nat.zero_mul, Nat.add_zero] at c0 c1 c2 c3
  obtain ⟨qk, qa, qb, qc⟩ := q
  unfold Cp.ag at HS
  simp only at c0 c1 c2 c3 HS
  generalize σ.add id ⟨qk, qa, qb, qc⟩ = r at *
  clear h hσ hA hCs
  go_enter Tryz.func167, Tryz.ntmps167
  go_wp2_with fail
  go_region_held3 (fun w' => w'.cell? ⟨w.heap.size, 1, none⟩ = some (.int .u32 (id : Int)) ∧ w'.cell? ⟨w.heap.size, 3, none⟩ = some (.slice (some ⟨g, o, none⟩) 1 cap) ∧ w'.cell? ⟨g, o, none⟩ = some (.int .u8 (qk : Int)) ∧ w'.cell? ⟨g, o + 1, none⟩ = some (.int .i32 qa) ∧ w'.cell? ⟨g, o + 2, none⟩ = some (.int .i32 qb) ∧ w'.cell? ⟨g, o + 3, none⟩ = some (.int .i32 qc)) (go_keep)
    (first
     | (go_at_call 201; refine HS.out.mono ?_; rintro e w1 ⟨rfl, hO⟩
        have t1 := hO.two.cell 1
        have t3 := hO.two.cell 3
        simp at t1 t3
        obtain ⟨s0, s1, s2, s3⟩ := HCE.out _ hO.tail.tail
        have H1 : Hid (Own w0 w1 _) := hO
        clear hO))
  all_goals
    go_wp2
    go_ret2
    exact ⟨rfl, H1.out.two.tail⟩
set_option maxHeartbeats 2000000 in
theorem tell_remove (w0 w : World) (l : List Thing) (b : Nat) (σ : Sto) (K : Nat) (ht : Tab w0) (h : Own w0 w (Store b σ K :: l)) (hσ : σ.Ok) (id k : Nat) (hid : id < 4294967296) (hk : k < 256) (v : Value) (hv : v.oneCell' = true) (hK : K + 1 < 1000000) (ao : Option Addr) (len cap : Nat) :
    Calls Tryz.prog 167 #[.pointer (some ⟨b, 0, none⟩), .agg #[.int .u8 5, .int .u32 (id : Int), .int .u8 (k : Int), .slice ao len cap]] w fun e w' => e = .returned (.tuple #[.int .u32 (id : Int), .int .i64 (σ.remove id k).1]) ∧ Own w0 w' (Store b (σ.remove id k).2 (K + 2) :: l) := by
  have hA := (h.allocC #[.int .u8 5, .int .u32 (id : Int), .int .u8 (k : Int), .slice ao len cap] 41).two
  have HS : Hid (Calls _ _ _ _ _) := removeC w0 _ _ b σ K ht hA.drew hσ id hid k hk hK
  have b1 := hA.two.cell 1
  have b2 := hA.two.cell 2
  simp at b1 b2
  generalize σ.remove id k = r at *
  clear h hσ hA
  go_enter Tryz.func167, Tryz.ntmps167
  go_wp2_with fail
  go_region_held3 (fun w' => w'.cell? ⟨w.heap.size, 1, none⟩ = some (.int .u32 (id : Int)) ∧ w'.cell? ⟨w.heap.size, 2, none⟩ = some (.int .u8 (k : Int))) (go_keep)
    (first
     | (go_at_call 202; refine HS.out.mono ?_; rintro e w1 ⟨rfl, hO⟩
        have t1 := hO.two.cell 1
        have t2 := hO.two.cell 2
        simp at t1 t2
        have H1 : Hid (Own w0 w1 _) := hO
        clear hO))
  all_goals
    go_wp2
    go_ret2
    exact ⟨rfl, H1.out.two.tail⟩
end Go.Proofs.YtflmgilmbppieaaGreatDoor

/-
  Do of any order on a store.
-/
namespace Go.Proofs.YtflmgilmbppieaaGreatDoor
open Go.RowKit
set_option linter.unusedVariables false
set_option maxRecDepth 100000

def OrdE.c (o : OrdE) : Cp := o.C.headD ⟨0, 0, 0, 0⟩
/-- what becomes of a store by an order, and what is told -/
def stq (s : Sto × Nat) (o : OrdE) : (Int × Nat) × (Sto × Nat) :=
  if o.ck ≠ 0 then (((o.ck : Int), 0), (s.1, s.2 + 2))
  else if o.d = 1 then (res (s.1.spawn o.C).2.1 (s.1.spawn o.C).1, ((s.1.spawn o.C).2.2, s.2 + 2))
  else if o.d = 2 then (res (s.1.despawn o.id).1 o.id, ((s.1.despawn o.id).2, s.2 + 2))
  else if o.d = 3 then (res (s.1.set o.id o.c).1 o.id, ((s.1.set o.id o.c).2, s.2 + 2))
  else if o.d = 4 then (res (s.1.add o.id o.c).1 o.id, ((s.1.add o.id o.c).2, s.2 + 2))
  else (res (s.1.remove o.id o.k).1 o.id, ((s.1.remove o.id o.k).2, s.2 + 2))
theorem stq_ok (s : Sto × Nat) (h : s.1.Ok) (o : OrdE) : (stq s o).2.1.Ok ∧ (stq s o).2.2 = s.2 + 2 := by
  unfold stq
  split
  · exact ⟨h, rfl⟩
  · split
    · exact ⟨Sto.spawn_ok h _, rfl⟩
    · split
      · exact ⟨Sto.despawn_ok h _, rfl⟩
      · split
        · exact ⟨Sto.set_ok h _ _, rfl⟩
        · split
          · exact ⟨Sto.add_ok h _ _, rfl⟩
          · exact ⟨Sto.remove_ok h _ _, rfl⟩
theorem do_any (w0 w : World) (l : List Thing) (b : Nat) (s : Sto × Nat) (ht : Tab w0) (h : Own w0 w (Store b s.1 s.2 :: l)) (hσ : s.1.Ok) (hK : s.2 + 1 < 1000000) (o : OrdE) (hi : o.In) (hCs : ∀ w', Own w0 w' l → Cs w' o.ao o.C) :
    Calls Tryz.prog 107 #[.pointer (some ⟨b, 0, none⟩), o.ag] w fun e w' => e = .returned (rag (stq s o).1) ∧ Own w0 w' (Store b (stq s o).2.1 (stq s o).2.2 :: l) := by
  obtain ⟨σ, K⟩ := s
  simp only at h hσ hK
  by_cases hb : o.ck = 0
  · have key : ∀ (id : Nat) (er : Int) (σ' : Sto), (∀ w' l', Own w0 w' (Store b σ K :: l') → (∀ w'', Own w0 w'' l' → Cs w'' o.ao o.C) → Calls Tryz.prog 167 #[.pointer (some ⟨b, 0, none⟩), o.ag] w' fun e w'' => e = .returned (.tuple #[.int .u32 (id : Int), .int .i64 er]) ∧ Own w0 w'' (Store b σ' (K + 2) :: l')) → stq (σ, K) o = (res er id, (σ', K + 2)) → Calls Tryz.prog 107 #[.pointer (some ⟨b, 0, none⟩), o.ag] w fun e w' => e = .returned (rag (stq (σ, K) o).1) ∧ Own w0 w' (Store b (stq (σ, K) o).2.1 (stq (σ, K) o).2.2 :: l) := by
      intro id er σ' HT he
      rw [he]
      exact do_of w0 w _ (Store b σ' (K + 2)) l h ht _ o hi hCs hb id er HT
    obtain ⟨d, id, k, C, ao, cap⟩ := o
    have hw := ock_ways hb
    simp only at hw
    rcases hw with rfl | rfl | rfl | rfl | rfl
    · refine key _ _ (σ.spawn C).2.2 (fun w' l' h' hC => ?_) (by unfold stq; rw [if_neg (by simp [hb]), if_pos rfl])
      refine (tell_spawn w0 w' l' b σ K ht h' hσ _ hi rfl hC (by omega)).mono ?_
      rintro e w'' ⟨he, h2⟩
      exact ⟨he, h2.stoK (by omega)⟩
    · refine key _ _ (σ.despawn id).2 (fun w' l' h' hC => ?_) (by unfold stq; rw [if_neg (by simp [hb]), if_neg (by simp), if_pos rfl])
      refine (tell_despawn w0 w' l' b σ K h' hσ _ hi rfl (by omega)).mono ?_
      rintro e w'' ⟨he, h2⟩
      exact ⟨he, h2.stoK (by omega)⟩
    · obtain ⟨q, rfl⟩ : ∃ q, C = [q] := List.length_eq_one_iff.1 (ock_one (.inl rfl) hb)
      refine key _ _ (σ.set id q).2 (fun w' l' h' hC => ?_) (by unfold stq; rw [if_neg (by simp [hb]), if_neg (by simp), if_neg (by simp), if_pos rfl]; rfl)
      refine (tell_set w0 w' l' b σ K ht h' hσ id k hi.id q (hi.C q (by simp)) ao cap hC hK).mono ?_
      rintro e w'' ⟨he, h2⟩
      exact ⟨he, h2.stoK (by omega)⟩
    · obtain ⟨q, rfl⟩ : ∃ q, C = [q] := List.length_eq_one_iff.1 (ock_one (.inr rfl) hb)
      refine key _ _ (σ.add id q).2 (fun w' l' h' hC => ?_) (by unfold stq; rw [if_neg (by simp [hb]), if_neg (by simp), if_neg (by simp), if_neg (by simp), if_pos rfl]; rfl)
      exact tell_add w0 w' l' b σ K ht h' hσ id k hi.id q (hi.C q (by simp)) ao cap hC hK
    · refine key _ _ (σ.remove id k).2 (fun w' l' h' hC => ?_) (by unfold stq; rw [if_neg (by simp [hb]), if_neg (by simp), if_neg (by simp), if_neg (by simp), if_neg (by simp)])
      exact tell_remove w0 w' l' b σ K ht h' hσ id k hi.id hi.k (.bool false) rfl hK ao C.length cap
  · have e : stq (σ, K) o = (((o.ck : Int), 0), (σ, K + 2)) := by unfold stq; rw [if_pos hb]
    rw [e]
    refine (do_bad w0 w _ h ht _ o hi (fun w' h' => hCs w' h'.tail) hb).mono ?_
    rintro e w' ⟨he, h2⟩
    exact ⟨he, h2.stoK (Nat.le_add_right K 2)⟩
/-- orders that are done in two goes are done as in one -/
theorem runs_app {α : Type} (step : α → OrdE → (Int × Nat) × α) (A B : List OrdE) : ∀ s, runs step s (A ++ B) = ((runs step s A).1 ++ (runs step (runs step s A).2 B).1, (runs step (runs step s A).2 B).2) := by
  induction A with
  | nil => intro s; simp [runs]
  | cons x A ih => intro s; simp [runs, ih]
/-- what is done does not hang on where the components lie -/
theorem stq_is (s : Sto × Nat) (x y : OrdE) (h : x.is = y.is) : stq s x = stq s y := by
  obtain ⟨d, id, k, C, a, c⟩ := x
  obtain ⟨d', id', k', C', a', c'⟩ := y
  simp only [OrdE.is, Prod.mk.injEq] at h
  obtain ⟨rfl, rfl, rfl, rfl⟩ := h
  rfl
theorem runs_is (A : List OrdE) : ∀ (B : List OrdE) (s : Sto × Nat), A.map OrdE.is = B.map OrdE.is → runs stq s A = runs stq s B := by
  induction A with
  | nil =>
    intro B s h
    cases B with
    | nil => rfl
    | cons y B => simp at h
  | cons x A ih =>
    intro B s h
    cases B with
    | nil => simp at h
    | cons y B =>
      simp only [List.map_cons, List.cons.injEq] at h
      unfold runs
      rw [stq_is s x y h.1, ih B _ h.2]
end Go.Proofs.YtflmgilmbppieaaGreatDoor

/-
  Lists of orders that come in; orders in rows.
-/
namespace Go.Proofs.YtflmgilmbppieaaGreatDoor
open Go.ChangeShapes Go.WideShapes Go.ChangeAt Go.RowKit Go.Deep
set_option linter.unusedVariables false
set_option maxRecDepth 100000

def IsOrds (w : World) (ao : Option Addr) (len cap : Nat) (Q : List OrdE) : Prop := Q.length = len ∧ len ≤ cap ∧ cap ≤ maxLen ∧ RowsAt (OrdT w) 4 w ao Q
theorem open_ops {H : Type} {enc : TypeId × Value → H} {W : World} {base : Nat} {ao : Option Addr} {len cap : Nat} {d : DataW H} {p : List MemPlace}
    (hv : Value.okWide Tryz.prog W .any base 32 (.slice ao len cap)) (h : DataW.Trod enc Tryz.prog W 0 (fun _ => true) true 32 (.slice ao len cap) d p) : ∃ Q, IsOrds W ao len cap Q := by
  haveI : Inhabited OrdE := ⟨⟨0, 0, 0, [], none, 0⟩⟩
  exact open_rows 4 Tryz.underlying32 cellsOrd (by decide) (OrdT W) (fun fuel cs x hx => ord_is fuel cs x hx) h
theorem IsOrds.ords {w : World} {ao : Option Addr} {len cap : Nat} {Q : List OrdE} (h : IsOrds w ao len cap Q) : Ords w ao Q ∧ ∀ o ∈ Q, o.d < 256 ∧ o.id < 4294967296 ∧ o.k < 256 ∧ IsComps w o.ao o.C.length o.cap o.C := by
  obtain ⟨hl, _, _, hR⟩ := h
  have key : ∀ o ∈ Q, o.d < 256 ∧ o.id < 4294967296 ∧ o.k < 256 ∧ IsComps w o.ao o.C.length o.cap o.C := by
    intro o ho
    obtain ⟨j, hj⟩ := List.getElem?_of_mem ho
    rcases hR with h | ⟨g, of, ha, hc⟩
    · subst h; simp at hj
    · obtain ⟨cs, ⟨_, h1, h2, h3, h4⟩, _⟩ := hc j o hj
      exact ⟨h1, h2, h3, h4⟩
  refine ⟨⟨?_, fun o ho => (key o ho).2.2.2.cs.1⟩, key⟩
  rcases hR with h | ⟨g, of, ha, hc⟩
  · exact .inl h
  · refine .inr ⟨g, of, ha, fun j o hj => ?_⟩
    obtain ⟨cs, ⟨rfl, _⟩, _, h3⟩ := hc j o hj
    exact ⟨h3 0 (by decide), h3 1 (by decide), h3 2 (by decide), h3 3 (by decide)⟩
theorem ord_len (x : OrdE) : x.cs.length = 4 := rfl
theorem Own.ords {w0 w : World} {l : List Thing} {ao : Option Addr} {n cap : Nat} {L : List OrdE} (h : Own w0 w (Row 41 4 (.slice ao n cap) n (cat OrdE.cs L) :: l)) (hn : L.length = n) (hc : ∀ x ∈ L, Cs w x.ao x.C) : Ords w ao L := by
  refine ⟨?_, hc⟩
  have r := h.row
  rcases Nat.eq_zero_or_pos n with h0 | h0
  · exact .inl (List.eq_nil_of_length_eq_zero (by omega))
  · obtain ⟨g, c, hv, _⟩ := row_shape r h0
    have ha := (Value.slice.inj hv).1
    subst ha
    refine .inr ⟨g, 0, rfl, fun j x hx => ?_⟩
    have hj := (List.getElem?_eq_some_iff.1 hx).1
    have e := fun i (hi : i < 4) => cat_at OrdE.cs 4 ord_len L j i x hx hi
    have k := fun i (hi : i < 4) => r.cellAt (j * 4 + i) (by omega)
    refine ⟨?_, ?_, ?_, ?_⟩
    · have := k 0 (by decide); rw [e 0 (by decide)] at this; simpa [OrdE.cs] using this
    · have := k 1 (by decide); rw [e 1 (by decide)] at this; simpa [Nat.zero_add, OrdE.cs] using this
    · have := k 2 (by decide); rw [e 2 (by decide)] at this; simpa [Nat.zero_add, OrdE.cs] using this
    · have := k 3 (by decide); rw [e 3 (by decide)] at this; simpa [Nat.zero_add, OrdE.cs] using this
theorem orow_pick (M : List OrdE) (j : Nat) (y : OrdE) (hy : M[j]? = some y) : (M.map orow).Perm (orow y :: (M.eraseIdx j).map orow) := by
  obtain ⟨hj, he⟩ := List.getElem?_eq_some_iff.1 hy
  have hd : M.drop j = y :: M.drop (j + 1) := by rw [List.drop_eq_getElem_cons hj, he]
  have e1 : M.map orow = (M.take j).map orow ++ orow y :: (M.drop (j + 1)).map orow := by
    have := congrArg (List.map orow) (List.take_append_drop j M)
    rw [hd, List.map_append, List.map_cons] at this
    exact this.symm
  rw [e1, List.eraseIdx_eq_take_drop_succ, List.map_append]
  exact List.perm_middle
theorem orow_back (M : List OrdE) (j : Nat) (y : OrdE) (hj : j < M.length) : ((M.set j y).map orow).Perm (orow y :: (M.eraseIdx j).map orow) := by
  have h := orow_pick (M.set j y) j y (by rw [List.getElem?_set_self hj])
  rw [List.eraseIdx_set_eq] at h
  exact h
theorem ccat_at1 (C : List Cp) (j : Nat) (q : Cp) (hq : C[j]? = some q) : (ccat C)[j * 4 + 1]? = some (.int .i32 q.a) := by
  unfold ccat
  rw [cat_at Cp.cs 4 cs_len C j 1 q hq (by decide)]; rfl
theorem ccat_set1 (C : List Cp) (k : Nat) (q : Cp) (a : Int) (hq : C[k]? = some q) : ccat (C.set k ⟨q.k, a, q.b, q.c⟩) = (ccat C).set (k * 4 + 1) (.int .i32 a) := by
  induction C generalizing k with
  | nil => simp at hq
  | cons y C ih =>
    have e1 : ∀ (A : List Cp) (z : Cp), ccat (z :: A) = [.int .u8 (z.k : Int), .int .i32 z.a, .int .i32 z.b, .int .i32 z.c] ++ ccat A := fun _ _ => rfl
    cases k with
    | zero => simp at hq; subst hq; rw [List.set_cons_zero, e1, e1]; simp
    | succ k =>
      have ih := ih k (by simpa using hq)
      rw [List.set_cons_succ, e1, e1, ih]
      have h1 : (k + 1) * 4 + 1 = (k * 4 + 1) + 4 := by omega
      rw [h1]
      simp
end Go.Proofs.YtflmgilmbppieaaGreatDoor

/-
  The store's Get; how one comes from a place by a speed.
-/
namespace Go.Proofs.YtflmgilmbppieaaGreatDoor
open Go.RowKit Go.Maps
set_option linter.unusedVariables false
set_option maxRecDepth 100000

/-- the component of a kind that one has; nothing of it, if it has none -/
def Sto.gv (σ : Sto) (id k : Nat) : Cp := if hasK (σ.cps id) k then mkc k (fv (σ.cps id) k) else ⟨0, 0, 0, 0⟩
set_option maxHeartbeats 2000000 in
theorem sgetC (w0 w : World) (l : List Thing) (b : Nat) (σ : Sto) (K : Nat) (h : Own w0 w (Store b σ K :: l)) (hσ : σ.Ok) (id : Nat) (hid : id < 4294967296) (hl : σ.S.isLive id = true) (k : Nat) (hk : k < 256) :
    Calls Tryz.prog 110 #[.pointer (some ⟨b, 0, none⟩), .int .u32 (id : Int), .int .u8 (k : Int)] w fun e w' => e = .returned (.tuple #[(σ.gv id k).ag, .int .i64 (if hasK (σ.cps id) k then 0 else 10)]) ∧ Own w0 w' (Store b σ K :: l) := by
  obtain ⟨bs, v, p, h⟩ := h.stoX
  obtain ⟨h6, hn, _⟩ := hσ.home hl
  obtain ⟨r, C, hr, he, _⟩ := hσ.ent hl
  have hA := (h.allocC #[.int .u8 0, .int .i32 0, .int .i32 0, .int .i32 0] 46).two
  have HH : Hid (Calls _ _ _ _ _) := home_ok w0 _ _ b bs v p σ K hA hσ.s id hid hl hn h6
  obtain ⟨bt, hp⟩ := stoP h h6 he
  rw [hp, pp_some] at HH
  have HG : Hid (∀ w' l', Own w0 w' (StoX b σ K (bs, v, p) :: l') → Calls Tryz.prog 171 #[.pointer (some ⟨bt, 0, none⟩), .int .u32 (id : Int), .int .u8 (k : Int)] w' fun e w'' => e = .returned (.tuple #[(σ.gv id k).ag, .int .i64 (if hasK (σ.cps id) k then 0 else 10)]) ∧ Own w0 w'' (StoX b σ K (bs, v, p) :: l')) := fun w' l' h' => homeGet w0 w' l' b bs v p σ K hσ id hid hl bt hp h' k hk
  generalize σ.gv id k = G at *
  generalize (if hasK (σ.cps id) k then (0 : Int) else 10) = er at *
  clear h hA hσ hl he hr hp hn hid
  obtain ⟨gk, ga, gb, gc⟩ := G
  simp only [Cp.ag] at HG ⊢
  go_enter Tryz.func110, Tryz.ntmps110
  go_wp2_with fail
  refine HH.out.mono ?_
  rintro e w1 ⟨rfl, hO⟩
  have H1 : Hid (Own w0 w1 _) := hO
  clear hO HH
  go_wp2_with fail
  refine (HG.out _ _ H1.out).mono ?_
  rintro e w2 ⟨rfl, hO⟩
  have hB := hO.two
  have z0 := hB.cell 0
  have z1 := hB.cell 1
  have z2 := hB.cell 2
  have z3 := hB.cell 3
  simp at z0 z1 z2 z3
  have y0 := hB.froz 0
  have y1 := hB.froz 1
  have y2 := hB.froz 2
  have y3 := hB.froz 3
  have HF : Hid (Own w0 _ _) := (((hB.setC 0 (.int .u8 (gk : Int))).setC 1 (.int .i32 ga)).setC 2 (.int .i32 gb)).setC 3 (.int .i32 gc)
  clear hO hB HG H1
  go_wp2
  (try simp only [Exit.inBlock, Exit.then])
  refine bodyPost_ret (v := .tuple #[.agg #[.int .u8 (gk : Int), .int .i32 ga, .int .i32 gb, .int .i32 gc], .int .i64 er]) ?_ rfl ⟨rfl, HF.out.tail.xSto⟩
  rw [results_cell_tmp rfl]
  have r0 := HF.out.cell 0
  have r1 := HF.out.cell 1
  have r2 := HF.out.cell 2
  have r3 := HF.out.cell 3
  simp at r0 r1 r2 r3
  go_simp

/-- where one comes, and its speed from then on -/
def gl1 (at_ by_ : Int) : Int × Int := (max (-524288) (min (at_ + by_) 524287), if max (-524288) (min (at_ + by_) 524287) = at_ + by_ then by_ else min (-by_) 32767)
theorem gl1_in {a b : Int} (hb : -32768 ≤ b ∧ b ≤ 32767) : (-524288 ≤ (gl1 a b).1 ∧ (gl1 a b).1 ≤ 524287) ∧ (-32768 ≤ (gl1 a b).2 ∧ (gl1 a b).2 ≤ 32767) := by
  unfold gl1
  refine ⟨by simp only; omega, ?_⟩
  simp only
  split <;> omega
set_option maxHeartbeats 400000 in
theorem keep_in (w : World) (x : Int) (h1 : -2147483648 ≤ x) (h2 : x ≤ 2147483647) : Calls Tryz.prog 240 #[.int .i64 x] w fun e w' => e = .returned (.int .i32 x) ∧ w' = w := by
  have e1 : max x (-2147483648) = x := by omega
  have e2 : min x 2147483647 = x := by omega
  go_enter Tryz.func240, Tryz.ntmps240
  go_wp2
  go_ret
  exact ⟨rfl, rfl⟩
set_option maxHeartbeats 400000 in
theorem add_in (w : World) (a b : Int) (h1 : -2147483648 ≤ a + b) (h2 : a + b ≤ 2147483647) (ha : -2147483648 ≤ a ∧ a ≤ 2147483647) (hb : -2147483648 ≤ b ∧ b ≤ 2147483647) : Calls Tryz.prog 205 #[.int .i32 a, .int .i32 b] w fun e w' => e = .returned (.int .i32 (a + b)) ∧ w' = w := by
  have HK : Hid (Calls _ _ _ _ _) := keep_in w (a + b) h1 h2
  obtain ⟨ha1, ha2⟩ := ha
  obtain ⟨hb1, hb2⟩ := hb
  go_enter Tryz.func205, Tryz.ntmps205
  go_wp2_with fail
  refine HK.out.mono ?_
  rintro e w1 ⟨rfl, rfl⟩
  go_wp2
  go_ret
  exact ⟨rfl, rfl⟩
set_option maxHeartbeats 400000 in
theorem clamp_in (w : World) (x : Int) : Calls Tryz.prog 206 #[.int .i32 x, .int .i32 (-524288), .int .i32 524287] w fun e w' => e = .returned (.int .i32 (max (-524288) (min x 524287))) ∧ w' = w := by
  by_cases c1 : x < -524288
  · have e : max (-524288) (min x 524287) = -524288 := by omega
    rw [e]
    go_enter Tryz.func206, Tryz.ntmps206
    go_wp2
    go_ret
    exact ⟨rfl, rfl⟩
  · by_cases c2 : 524287 < x
    · have e : max (-524288) (min x 524287) = 524287 := by omega
      rw [e]
      go_enter Tryz.func206, Tryz.ntmps206
      go_wp2
      go_ret
      exact ⟨rfl, rfl⟩
    · have e : max (-524288) (min x 524287) = x := by omega
      rw [e]
      clear e
      go_enter Tryz.func206, Tryz.ntmps206
      go_wp2
      go_ret
      exact ⟨rfl, rfl⟩
set_option maxHeartbeats 1000000 in
theorem glide_in (w : World) (a b : Int) (ha : -524288 ≤ a ∧ a ≤ 524287) (hb : -32768 ≤ b ∧ b ≤ 32767) : Calls Tryz.prog 169 #[.int .i32 a, .int .i32 b] w fun e w' => e = .returned (.tuple #[.int .i32 (gl1 a b).1, .int .i32 (gl1 a b).2]) ∧ w' = w := by
  have HA : Hid (Calls _ _ _ _ _) := add_in w a b (by omega) (by omega) (by omega) (by omega)
  have HC : Hid (Calls _ _ _ _ _) := clamp_in w (a + b)
  obtain ⟨hb1, hb2⟩ := hb
  unfold gl1
  simp only
  generalize hk : max (-524288) (min (a + b) 524287) = kp at *
  by_cases hc : kp = a + b
  · rw [if_pos hc]
    have hne : (kp != a + b) = false := by simp [hc]
    clear hc hk
    generalize a + b = to at *
    go_enter Tryz.func169, Tryz.ntmps169
    go_wp2_with fail
    refine HA.out.mono ?_
    rintro e w1 ⟨rfl, rfl⟩
    go_wp2_with fail
    refine HC.out.mono ?_
    rintro e w2 ⟨rfl, rfl⟩
    go_wp2
    go_ret2
    exact ⟨rfl, rfl⟩
  · rw [if_neg hc]
    have hne : (kp != a + b) = true := by simpa using hc
    clear hc hk
    generalize a + b = to at *
    generalize hmn : min (-b) 32767 = mn at *
    go_enter Tryz.func169, Tryz.ntmps169
    go_wp2_with fail
    refine HA.out.mono ?_
    rintro e w1 ⟨rfl, rfl⟩
    go_wp2_with fail
    refine HC.out.mono ?_
    rintro e w2 ⟨rfl, rfl⟩
    go_wp2
    go_ret2
    exact ⟨rfl, rfl⟩
theorem chk_pv {k : Nat} {a b c : Int} (hk : k = 0 ∨ k = 1) (h : (⟨k, a, b, c⟩ : Cp).chk = 0) : lo k 0 ≤ a ∧ a ≤ hi k 0 ∧ lo k 1 ≤ b ∧ b ≤ hi k 1 ∧ c = 0 := by
  unfold Cp.chk chk at h
  simp only at h
  rcases hk with rfl | rfl
  all_goals
    rw [if_neg (by decide)] at h
    split at h
    · cases h
    · rename_i hs
      split at h
      · cases h
      · rename_i ho
        simp [stray, cnt, kinds, f3, List.range, List.range.loop] at hs
        simp [outside, cnt, kinds, f3, List.range, List.range.loop, lo, hi, fld] at ho
        simp [lo, hi, fld, kinds]
        omega
end Go.Proofs.YtflmgilmbppieaaGreatDoor

/-
  Query: With.
-/
namespace Go.Proofs.YtflmgilmbppieaaGreatDoor
open Go.RowKit Go.Maps Go.Shelf
set_option linter.unusedVariables false
set_option maxRecDepth 100000
attribute [local go_sem] Oper.semAt_some

theorem append1_in {F : Fence} {m : Nat} {P : Program} {w0 w : World} {l : List Thing} {ops : Array Oper} {rest : List Oper} {o : Oper} {a : Act} {Q : Exit → Act → World → Prop} (hgd : o.guard = none) (s x : Operand) (t : TypeId)
    (ho : o.op = .call { callee := .builtin .append, args := #[s, x], argTypes := #[t, t] })
    (e : TypeId) (i : TypeInfo) (z : Value) (size bytes : Nat) (ht : P.underlying t = some (.slice e)) (hi : P.info? e = some i) (hz : i.zero = some z)
    (hsize : i.size = size) (hby : i.bytes = bytes) (hzs : z.cells.size = size) (hsz : 0 < size)
    (v : Value) (n : Nat) (xs : List Value) (hs : a.eval s = v) (hown : Own w0 w (Row e size v n xs :: l))
    (k : Nat) (cs : Array Value) (hk : k = w.heap.size) (hx : a.eval x = .slice (some ⟨k, 0, none⟩) 1 1) (hl : cs.size = size) (h1 : ∀ u ∈ cs.toList, u.oneCell' = true)
    (h63 : n + 1 ≤ maxLen) (hbytes : (n + 1) * bytes ≤ 140737488355328)
    (h : ∀ g cap w', Own w0 w' (Row e size (.slice (some ⟨g, 0, none⟩) (n + 1) cap) (n + 1) (xs ++ cs.toList) :: l) → wpListIn F m P ops Q rest (a.put o.dst (.slice (some ⟨g, 0, none⟩) (n + 1) cap)) w') : wpListIn F m P ops Q (o :: rest) a (w.alloc (.cells cs e)) := by
  refine wpListIn_plain hgd fun K hK' => ?_
  obtain ⟨g, cap, w', hrun, hO⟩ := run1_own (P := P) t o.type e i z size bytes ht hi hz hsize hby hzs hsz v n xs hown cs hl h1 h63 hbytes
  subst hk
  unfold Oper.wpIn
  refine ⟨?_, ?_⟩
  · simp [Oper.about, ho, resolve, Target.leads, Sem.run_pure]
  · rw [Oper.semAt_plain F _ _ (by rw [ho]; intro c hc'; cases hc')]
    simp [execOp, ho, resolve, invoke, builtin, hs, hx, hrun, Result.andThen]
    exact hK' _ _ (h g cap w' hO)
theorem Own.fiv {w0 w : World} {P Q R S T : Thing} {l : List Thing} (h : Own w0 w (P :: Q :: R :: S :: T :: l)) : Own w0 w (T :: P :: Q :: R :: S :: l) := h.perm (List.perm_middle (l₁ := [P, Q, R, S]) (a := T) (l₂ := l))
theorem Own.bfiv {w0 w : World} {P Q R S T : Thing} {l : List Thing} (h : Own w0 w (T :: P :: Q :: R :: S :: l)) : Own w0 w (P :: Q :: R :: S :: T :: l) := h.perm (List.perm_middle (l₁ := [P, Q, R, S]) (a := T) (l₂ := l)).symm
/-- what is never there -/
def Never : Thing := ⟨fun _ _ => False, fun h _ => h.elim, fun h _ _ => h⟩
theorem Own.never {w0 w : World} {l : List Thing} (h : Own w0 w (Never :: l)) : False := by
  obtain ⟨_, ⟨_, _, h, _⟩, _⟩ := h
  exact h
/-- a variable that holds a slice of IDs -/
def Coll (B : Nat) (L : List Nat) : Thing := Ex (fun v : Value => [Cells B #[v] 55, Row 38 1 v L.length (irow .u32 L)])
theorem Coll.open {w0 w : World} {B : Nat} {L : List Nat} {l : List Thing} (h : Own w0 w (Coll B L :: l)) : ∃ ao cap, Own w0 w (Cells B #[.slice ao L.length cap] 55 :: Row 38 1 (.slice ao L.length cap) L.length (irow .u32 L) :: l) := by
  obtain ⟨v, h⟩ := Own.ex_iff.1 h
  have h' : Own w0 w (Cells B #[v] 55 :: Row 38 1 v L.length (irow .u32 L) :: l) := h
  obtain ⟨ao, cap, rfl⟩ := row_any h'.two.row
  exact ⟨ao, cap, h'⟩
theorem Coll.shut {w0 w : World} {B : Nat} {L : List Nat} {v : Value} {l : List Thing} (h : Own w0 w (Cells B #[v] 55 :: Row 38 1 v L.length (irow .u32 L) :: l)) : Own w0 w (Coll B L :: l) := Own.ex_iff.2 ⟨v, h⟩
theorem Sto.find_len {σ : Sto} (hσ : σ.S.Ok) (a n : Nat) : (σ.find a n).length ≤ 1024 := Nat.le_trans (List.length_filter_le _ _) (list_len2 hσ)
set_option maxHeartbeats 4000000 in
theorem with_g (w0 w : World) (l : List Thing) (p : Option Addr) (SG : Thing) (Xs : List Nat) (h : Own w0 w (SG :: l)) (a n : Nat) (hI : IterC w0 p a n SG Xs) (hfl : Xs.length ≤ 1024) :
    Calls Tryz.prog 108 #[.pointer p, .int .u8 (a : Int), .int .u8 (n : Int)] w fun e w' => ∃ ao cap, e = .returned (.slice ao Xs.length cap) ∧ Own w0 w' (Row 38 1 (.slice ao Xs.length cap) Xs.length (irow .u32 Xs) :: SG :: l) := by
  obtain ⟨i0, hi, hz0, hz1, hz2⟩ := info_parts Tryz.infoID2
  have hA : Own w0 (w.alloc (.cells #[.slice none 0 0] 55)) (Coll w.heap.size [] :: SG :: l) := by
    have k := (h.nilRow 38 1).allocC #[.slice none 0 0] 55
    exact Coll.shut k
  have HF : Hid (Calls _ _ _ _ _) := fitting_ok w0 _ _ hA.two p a n
  have HSQ : Hid (IterC w0 p a n SG Xs) := hI
  clear h hA hI
  refine (callsIn_wide (n := 4)).1 ?_
  refine callsIn_of_wp_marks Tryz.func108 rfl trivial ?_ rfl
  simp only [Tryz.ntmps108, List.size_toArray, List.length_cons, List.length_nil, Nat.reduceAdd, Nat.reduceSub, Array.replicate_succ, Array.replicate_zero, List.push_toArray, List.append_toArray, List.nil_append, List.cons_append]
  gi_wp2_with fail
  refine ⟨trivial, (callsIn_wide.2 HF.out).mono ?_⟩
  rintro e w1 ⟨rfl, hO1, _⟩
  simp only [World.size_alloc] at hO1 ⊢
  have H1 : Hid (Own w0 w1 _) := hO1
  clear hO1 HF
  gi_wp2_with fail
  refine range_things (n := 4) rfl (enters_of Tryz.func203 (by kernel_rfl) rfl) (fun pre => boxes (w.heap.size + 1) p a n (SG :: Coll w.heap.size pre :: l)) (fun _ => [Never]) .skip (HSQ.out _ (fun pre => Coll w.heap.size pre :: l) (fun _ => [Never])) (fun _ => rfl) H1.out
    (fun x => { tmps := #[.pointer p, .int .u8 (a : Int), .int .u8 (n : Int), undef, undef, undef, .slice none 0 0, .pointer (some ⟨w.heap.size, 0, none⟩), .int .u32 (x : Int), .pointer p, .int .u8 (a : Int), .int .u8 (n : Int), .func (.func 203) #[] #[.pointer (some ⟨w.heap.size + 1, 0, none⟩), .pointer (some ⟨w.heap.size + 1 + 1, 0, none⟩), .pointer (some ⟨w.heap.size + 1 + 2, 0, none⟩)], .int .u32 (x : Int), undef, undef, undef, undef, undef], defers := [] }) ?assign ?body ?done ?stop
  case assign =>
    intro l' x W K hK
    gi_wp2
    exact hK
  case body =>
    intro l' pre x W R hG hO
    have hpl : pre.length + 1 ≤ 1024 := by have := hG.length_le; simp at this; omega
    obtain ⟨ao, cap, hO⟩ := Coll.open (Own.fiv hO)
    have q0 := hO.cell 0
    simp at q0
    have HO : Hid (Own w0 W _) := hO
    have hB0 := hO.lt
    generalize hpn : pre.length = pn at *
    have HPN : Hid (pre.length = pn) := hpn
    clear hO hG hpn
    gi_wp2_with (gi_at_builtin; refine append1_in rfl _ _ 55 rfl 38 i0 (.int .u32 0) 1 4 Tryz.underlying55 hi hz0 hz1 hz2 rfl (by decide) _ pn _ rfl HO.out.two _ _ (by simp) rfl rfl (one_int _ _) (by unfold maxLen; omega) (by omega) ?_)
    intro g' cap' w2 hO2
    have q1 := hO2.two.cell 0
    have y1 := hO2.two.froz 0
    simp at q1
    have H2 : Hid (Own w0 _ _) := hO2.two.setC 0 (.slice (some ⟨g', 0, none⟩) (pn + 1) cap')
    clear hO2 HO q0
    gi_wp2
    have h3 : Own w0 _ (Coll w.heap.size (pre ++ [x]) :: _) := Coll.shut (v := .slice (some ⟨g', 0, none⟩) (pn + 1) cap') (by rw [List.length_append, HPN.out]; simpa [irow] using H2.out)
    exact h3.bfiv
  case done =>
    intro D xs W hS hO
    subst hS
    have hO2 : Own w0 W (Coll w.heap.size xs :: Objt D (.deferred (some [])) :: boxes (w.heap.size + 1) p a n (SG :: l)) := hO.perm (List.perm_middle (l₁ := [Objt D (.deferred (some [])), Cells (w.heap.size + 1) #[.pointer p] 110, Cells (w.heap.size + 1 + 1) #[.int .u8 (a : Int)] 5, Cells (w.heap.size + 1 + 2) #[.int .u8 (n : Int)] 5, SG]) (l₂ := l))
    obtain ⟨ao, cap, hO3⟩ := Coll.open hO2
    have q0 := hO3.cell 0
    simp at q0
    have hK := hO3.three.objt
    have H4 : Hid (Own w0 (W.putObj D (.deferred none)) _) := hO3.three.putO (.deferred none)
    clear hO hO2 hO3
    gi_wp2
    refine ⟨by simp, .inl ⟨_, _, rfl, run_takeDeferred hK, ?_⟩⟩
    exact ⟨_, results_tmp rfl _ _ _, ao, cap, rfl, H4.out.tail.tail.two.tail.two.tail.two.tail⟩
  case stop =>
    intro D pre W hS hO
    exact (hO.tail.never).elim
end Go.Proofs.YtflmgilmbppieaaGreatDoor
