/-
  A store's Add.
-/
import Derived.Test.YtlaghbapnffhaaaDoorOn
namespace Go.Proofs.YtlaghbapnffhaaaDoor
open Go.RowKit Go.Maps
set_option linter.unusedVariables false
set_option maxRecDepth 100000

theorem k6_of {c : Cp} (h : c.chk = 0) : c.k < 6 := chk_k h
theorem lst_k {C : List Cp} (h : lst (-1) C = 0) : ∀ q ∈ C, q.k < 256 := fun q hq => by have := chk_k (((lst_iff C).1 h).2 q hq); omega
theorem lst_len {C : List Cp} (h : lst (-1) C = 0) : C.length ≤ 6 := by
  have e := kinds_of h rfl
  have := congrArg List.length e
  rw [List.length_map] at this
  rw [this]
  exact Nat.le_trans (List.length_filter_le _ _) (by simp)
/-- what a call to Get of the home answers -/
theorem homeGet (w0 w : World) (l : List Thing) (b bs : Nat) (v : Value) (p : Nat → Option Nat) (σ : Sto) (K : Nat) (hσ : σ.Ok) (id : Nat) (hid : id < 4294967296) (hl : σ.S.isLive id = true) (bt0 : Nat) (hp : p (σ.hom id) = some bt0) (h : Own w0 w (StoX b σ K (bs, v, p) :: l)) (k : Nat) (hk : k < 256) :
    Calls Tryd.prog 34 #[.pointer (some ⟨bt0, 0, none⟩), .int .u32 (id : Int), .int .u8 (k : Int)] w fun e w' => e = .returned (.tuple #[(if hasK (σ.cps id) k then mkc k (fv (σ.cps id) k) else ⟨0, 0, 0, 0⟩ : Cp).ag, .int .i64 (if hasK (σ.cps id) k then 0 else 10)]) ∧ Own w0 w' (StoX b σ K (bs, v, p) :: l) := by
  obtain ⟨r, C, hr, he, hC, hm, h6⟩ := hσ.ent hl
  obtain ⟨c, hc, hne, hlen, h2⟩ := h.stoB h6 hp
  have hcps := Sto.cps_of hr he
  have hbt : bt (σ.hom id) k = hasK C k := by
    by_cases hk6 : k < 6
    · rw [← hm]; exact bt_msk C k hk6
    · cases hb : bt (σ.hom id) k with
      | true => exact absurd (bt_lt h6 hb) hk6
      | false =>
        cases hh : hasK C k with
        | false => rfl
        | true =>
          obtain ⟨q, hq, e⟩ := (hasK_iff _ _).1 hh
          have := chk_k (((lst_iff C).1 hC).2 q hq)
          omega
  have hg : tget (σ.hom id) (σ.T (σ.hom id)) id k = (if hasK C k then 0 else 10, if hasK C k then mkc k (fv C k) else ⟨0, 0, 0, 0⟩) := by
    unfold tget
    rw [hr]
    simp only [he, Option.map_some, Option.getD_some, hbt]
    split <;> rfl
  have k2 := tgetC w0 w _ bt0 _ _ c h2 (hσ.t _ h6) id hid k hk
  rw [hg] at k2
  rw [hcps]
  refine k2.mono ?_
  rintro e w' ⟨rfl, h3⟩
  refine ⟨?_, h3.stoT h6 hp hc hne hlen⟩
  split <;> rfl
set_option maxHeartbeats 2000000 in
theorem addC (w0 w : World) (l : List Thing) (b : Nat) (σ : Sto) (K : Nat) (ht : Tab w0) (h : Own w0 w (Store b σ K :: l)) (hσ : σ.Ok) (id : Nat) (hid : id < 4294967296) (c : Cp) (hk : c.k < 256) (hK : K + 1 < 1000000) :
    Calls Tryd.prog 13 #[.pointer (some ⟨b, 0, none⟩), .int .u32 (id : Int), c.ag] w fun e w' => e = .returned (.int .i64 (σ.add id c).1) ∧ Own w0 w' (Store b (σ.add id c).2 (K + 2) :: l) := by
  obtain ⟨bs, v, p, h⟩ := h.stoX
  have hA := (h.allocC c.ar 25).two
  have HA : Hid (Own w0 _ _) := hA
  by_cases hc : c.chk = 0
  · cases hl : σ.S.isLive id with
    | false =>
      have HV : Hid (σ.add id c = (7, σ)) := by show _ = _; unfold Sto.add; rw [if_neg (by simp [hc]), if_pos hl]
      have HH : Hid (Calls _ _ _ _ _) := homeFor_of w0 _ _ b bs v p σ K ht hA id c hk hc none 7 (fun w' h' => home_dead w0 w' _ b bs v p σ K h' hσ.s id hid hl)
      obtain ⟨ck, ca, cb, cc⟩ := c
      unfold Cp.ag at HH ⊢
      unfold Cp.ar at HH
      clear h hA hσ hl hc HA
      go_enter Tryd.func13, Tryd.ntmps13
      go_wp2_with fail
      refine HH.out.mono ?_
      rintro e w1 ⟨rfl, hO⟩
      have H1 : Hid (Own w0 w1 (StoX b σ K (bs, v, p) :: l)) := hO.two.tail
      clear hO HH
      go_wp2
      go_ret
      rw [HV.out]
      exact ⟨rfl, H1.out.xSto.stoK (by omega)⟩
    | true =>
      obtain ⟨r, C, hr, he, hC, hm, h6⟩ := hσ.ent hl
      have hcps := Sto.cps_of hr he
      obtain ⟨bt0, hp⟩ := stoP h h6 he
      have hn := (hσ.home hl).2.1
      have HH : Hid (Calls _ _ _ _ _) := homeFor_of w0 _ _ b bs v p σ K ht hA id c hk hc (some ⟨bt0, 0, none⟩) 0 (fun w' h' => by
        have := home_ok w0 w' _ b bs v p σ K h' hσ.s id hid hl hn h6
        rw [hp, pp_some] at this
        exact this)
      have HG : Hid (∀ w' l', Own w0 w' (StoX b σ K (bs, v, p) :: l') → Calls Tryd.prog 34 #[.pointer (some ⟨bt0, 0, none⟩), .int .u32 (id : Int), .int .u8 (c.k : Int)] w' fun e w'' => e = .returned (.tuple #[(if hasK C c.k then mkc c.k (fv C c.k) else ⟨0, 0, 0, 0⟩ : Cp).ag, .int .i64 (if hasK C c.k then 0 else 10)]) ∧ Own w0 w'' (StoX b σ K (bs, v, p) :: l')) := fun w' l' h' => by
        have := homeGet w0 w' l' b bs v p σ K hσ id hid hl bt0 hp h' c.k hk
        rw [hcps] at this
        exact this
      cases hhk : hasK C c.k with
      | true =>
        have HV : Hid (σ.add id c = (9, σ)) := by show _ = _; unfold Sto.add; rw [if_neg (by simp [hc]), if_neg (by simp [hl]), hcps, if_pos hhk]
        rw [hhk] at HG
        simp only [if_true] at HG
        generalize mkc c.k (fv C c.k) = q at *
        obtain ⟨qk, qa, qb, qc⟩ := q
        obtain ⟨ck, ca, cb, cc⟩ := c
        unfold Cp.ag at HH HG ⊢
        unfold Cp.ar at HH
        simp only at HG HH
        clear h hA hσ hl hc HA hr he hC hm hcps hp hn hhk
        go_enter Tryd.func13, Tryd.ntmps13
        go_wp2_with fail
        refine HH.out.mono ?_
        rintro e w1 ⟨rfl, hO⟩
        have H1 : Hid (Own w0 w1 _) := hO
        have q0 := hO.two.cell 0
        simp at q0
        clear hO HH
        go_wp2_with fail
        refine (HG.out _ _ H1.out).mono ?_
        rintro e w2 ⟨rfl, hO⟩
        have H2 : Hid (Own w0 _ (StoX b σ K (bs, v, p) :: l)) := hO.two.tail.alloc (.cells #[.int .u8 (qk : Int), .int .i32 qa, .int .i32 qb, .int .i32 qc] 25)
        clear hO
        go_wp2
        go_ret
        rw [HV.out]
        exact ⟨rfl, H2.out.xSto.stoK (by omega)⟩
      | false =>
        have HV : Hid (σ.add id c = (0, (σ.out (σ.hom id) r).put id (insw C c))) := by show _ = _; unfold Sto.add; rw [if_neg (by simp [hc]), if_neg (by simp [hl]), hcps, if_neg (by simp [hhk])]; unfold Sto.turn; rw [hr]; rfl
        rw [hhk] at HG
        simp only [if_false, Bool.false_eq_true] at HG
        have hlen := lst_len hC
        have hI := insw_ok hC hc hhk
        have hLk := hσ.out hl hr
        have HPL : Hid (∀ w' l', Own w0 w' (StoX b σ K (bs, v, p) :: l') → Calls Tryd.prog 36 #[.pointer (some ⟨b, 0, none⟩), .pointer (some ⟨bt0, 0, none⟩), .int .u32 (id : Int)] w' fun out w'' => ∃ ao cap, out = .returned (.slice ao C.length cap) ∧ Own w0 w'' (Row 25 4 (.slice ao C.length cap) C.length (ccat C) :: Store b (σ.out (σ.hom id) r) (K + 1) :: l')) := fun w' l' h' => pull_ok w0 w' l' b bs v p σ K h' (σ.hom id) h6 (some bt0) hp (hσ.t _ h6) id hid r (id, C) hr he (by omega)
        have HWI : Hid (∀ w' l' ao cap, Own w0 w' (Row 25 4 (.slice ao C.length cap) C.length (ccat C) :: l') → Calls Tryd.prog 35 #[.slice ao C.length cap, c.ag] w' fun e w'' => ∃ ao' cap', e = .returned (.slice ao' (C.length + 1) cap') ∧ Own w0 w'' (Row 25 4 (.slice ao' (C.length + 1) cap') (C.length + 1) (ccat (insw C c)) :: l')) := fun w' l' ao cap h' => with_ok w0 w' l' C c ao C.length cap rfl (by omega) h'
        have HPU : Hid (∀ w' l' ao cap, Own w0 w' (Row 25 4 (.slice ao (C.length + 1) cap) (C.length + 1) (ccat (insw C c)) :: Store b (σ.out (σ.hom id) r) (K + 1) :: l') → Calls Tryd.prog 32 #[.pointer (some ⟨b, 0, none⟩), .int .u32 (id : Int), .slice ao (C.length + 1) cap] w' fun e w'' => e = .returned (.tuple #[]) ∧ Own w0 w'' (Store b ((σ.out (σ.hom id) r).put id (insw C c)) (K + 2) :: l')) := by
          intro w' l' ao cap h'
          obtain ⟨bs', v', p', h2⟩ := h'.two.stoX
          have hli := St.live_lt hLk.s hLk.li
          refine (put_ok w0 w' _ b bs' v' p' _ (K + 1) ht h2 id hid (by rw [hLk.ml]; exact hli.2) ao (C.length + 1) cap (insw C c) (insw_len C c) (fun w'' h'' => Own.rcs h'' (insw_len C c)) (lst_k hI) (by omega) hI (hLk.t _ (msk64 _)) (hLk.none (msk64 _)) (by omega)).mono ?_
          rintro e w'' ⟨rfl, h3⟩
          exact ⟨rfl, h3.two.tail⟩
        obtain ⟨ck, ca, cb, cc⟩ := c
        unfold Cp.ag at HH HG HWI ⊢
        unfold Cp.ar at HH
        simp only at HG HH HWI
        clear h hA hσ hl hc HA hr he hC hm hcps hp hn hhk hI hLk
        generalize C.length = n at *
        go_enter Tryd.func13, Tryd.ntmps13
        go_wp2_with fail
        refine HH.out.mono ?_
        rintro e w1 ⟨rfl, hO⟩
        have H1 : Hid (Own w0 w1 _) := hO
        have q0 := hO.two.cell 0
        simp at q0
        clear hO HH
        go_wp2_with fail
        refine (HG.out _ _ H1.out).mono ?_
        rintro e w2 ⟨rfl, hO⟩
        have hO2 := hO.alloc (.cells #[.int .u8 0, .int .i32 0, .int .i32 0, .int .i32 0] 25)
        have H2 : Hid (Own w0 _ _) := hO2
        have s0 := hO2.two.cell 0
        have s1 := hO2.two.cell 1
        have s2 := hO2.two.cell 2
        have s3 := hO2.two.cell 3
        simp at s0 s1 s2 s3
        clear hO hO2 H1 q0
        go_wp2_with fail
        go_region_with (first
          | (go_at_call 36
             refine (HPL.out _ _ H2.out.drew).mono ?_
             rintro e w3 ⟨a3, c3, rfl, hO⟩
             have t0 := hO.three.cell 0
             have t1 := hO.three.cell 1
             have t2 := hO.three.cell 2
             have t3 := hO.three.cell 3
             simp at t0 t1 t2 t3
             have H3 : Hid (Own w0 w3 _) := hO
             clear hO)
          | (go_at_call 35
             refine (HWI.out _ _ _ _ H3.out).mono ?_
             rintro e w4 ⟨a4, c4, rfl, hO⟩
             have H4 : Hid (Own w0 w4 _) := hO
             clear hO)
          | (go_at_call 32
             refine (HPU.out _ _ _ _ H4.out).mono ?_
             rintro e w5 ⟨rfl, hO⟩
             have H5 : Hid (Own w0 w5 _) := hO
             clear hO))
        all_goals
          go_wp2
          go_ret
          rw [HV.out]
          exact ⟨rfl, H5.out.two.tail⟩
  · have HV : Hid (σ.add id c = ((c.chk : Int), σ)) := by show _ = _; unfold Sto.add; rw [if_pos hc]
    have HH : Hid (Calls _ _ _ _ _) := homeFor_bad w0 _ _ b bs v p σ K ht hA id c hk hc
    have hx : ¬ ((c.chk : Nat) : Int) = 0 := by omega
    generalize c.chk = x at *
    obtain ⟨ck, ca, cb, cc⟩ := c
    unfold Cp.ag at HH ⊢
    unfold Cp.ar at HH
    clear h hA hσ hc HA
    go_enter Tryd.func13, Tryd.ntmps13
    go_wp2_with fail
    refine HH.out.mono ?_
    rintro e w1 ⟨rfl, hO⟩
    have H1 : Hid (Own w0 w1 (StoX b σ K (bs, v, p) :: l)) := hO.two.tail
    clear hO HH
    go_wp2
    go_ret
    rw [HV.out]
    exact ⟨rfl, H1.out.xSto.stoK (by omega)⟩
end Go.Proofs.YtlaghbapnffhaaaDoor
