/-
  A component more: what becomes of a store.
-/
import Derived.Test.YtlbbljjfejhniaaDoorOmg
import Derived.Test.YtlbbljjfejhniaaDoorOjg
namespace Go.Proofs.YtlbbljjfejhniaaDoor
open Go.RowKit Go.Maps
set_option linter.unusedVariables false
set_option maxRecDepth 100000

theorem insw_cons (q : Cp) (t : List Cp) (c : Cp) : insw (q :: t) c = if q.k < c.k then q :: insw t c else c :: q :: t := by
  unfold insw
  by_cases h : q.k < c.k <;> simp [h]
theorem insw_mem {C : List Cp} {c x : Cp} (h : x ∈ insw C c) : x ∈ C ∨ x = c := by
  induction C with
  | nil => simp [insw] at h; exact .inr h
  | cons q t ih =>
    rw [insw_cons] at h
    split at h
    · rcases List.mem_cons.1 h with rfl | h
      · exact .inl List.mem_cons_self
      · rcases ih h with h | h
        · exact .inl (List.mem_cons_of_mem _ h)
        · exact .inr h
    · rcases List.mem_cons.1 h with rfl | h
      · exact .inr rfl
      · exact .inl h
theorem insw_sorted {C : List Cp} {c : Cp} (h : C.Pairwise (fun x y => x.k < y.k)) (hk : hasK C c.k = false) : (insw C c).Pairwise (fun x y => x.k < y.k) := by
  induction C with
  | nil => simp [insw]
  | cons q t ih =>
    obtain ⟨h1, h2⟩ := List.pairwise_cons.1 h
    have hq : q.k ≠ c.k := by
      intro e
      have : hasK (q :: t) c.k = true := (hasK_iff _ _).2 ⟨q, List.mem_cons_self, e⟩
      rw [hk] at this; cases this
    have ht : hasK t c.k = false := by
      cases hh : hasK t c.k with
      | false => rfl
      | true =>
        obtain ⟨x, hx, e⟩ := (hasK_iff _ _).1 hh
        have : hasK (q :: t) c.k = true := (hasK_iff _ _).2 ⟨x, List.mem_cons_of_mem _ hx, e⟩
        rw [hk] at this; cases this
    rw [insw_cons]
    split
    · rename_i hlt
      refine List.pairwise_cons.2 ⟨fun x hx => ?_, ih h2 ht⟩
      rcases insw_mem hx with hx | hx
      · exact h1 x hx
      · rw [hx]; exact hlt
    · rename_i hlt
      refine List.pairwise_cons.2 ⟨fun x hx => ?_, h⟩
      rcases List.mem_cons.1 hx with rfl | hx
      · omega
      · have := h1 x hx; omega
theorem insw_ok {C : List Cp} {c : Cp} (h : lst (-1) C = 0) (hc : c.chk = 0) (hk : hasK C c.k = false) : lst (-1) (insw C c) = 0 := by
  rw [lst_iff] at h ⊢
  refine ⟨insw_sorted h.1 hk, fun x hx => ?_⟩
  rcases insw_mem hx with hx | hx
  · exact h.2 x hx
  · rw [hx]; exact hc
theorem insw_len (C : List Cp) (c : Cp) : (insw C c).length = C.length + 1 := by
  unfold insw
  have := congrArg List.length (List.takeWhile_append_dropWhile (p := fun q => decide (q.k < c.k)) (l := C))
  rw [List.length_append] at this
  rw [List.length_append, List.length_cons]; omega

section
variable (w0 w : World) (l : List Thing) (b bs : Nat) (v : Value) (p : Nat → Option Nat) (σ : Sto) (K : Nat)
set_option maxHeartbeats 1000000 in
theorem homeFor_bad (ht : Tab w0) (h : Own w0 w (StoX b σ K (bs, v, p) :: l)) (id : Nat) (c : Cp) (hk : c.k < 256) (hc : c.chk ≠ 0) :
    Calls Tryd.prog 29 #[.pointer (some ⟨b, 0, none⟩), .int .u32 (id : Int), c.ag] w fun e w' => e = .returned (.tuple #[.pointer none, .int .i64 (c.chk : Int)]) ∧ Own w0 w' (StoX b σ K (bs, v, p) :: l) := by
  obtain ⟨ck, ca, cb, cc⟩ := c
  have hA := h.alloc (.cells #[.int .u8 (ck : Int), .int .i32 ca, .int .i32 cb, .int .i32 cc] 46)
  have HC : Hid (Calls _ _ _ _ _) := check3 _ (ht.quiet hA.fr) ck hk ca cb cc
  have HA : Hid (Own w0 _ _) := hA
  have hx : ¬ ((Cp.chk ⟨ck, ca, cb, cc⟩ : Nat) : Int) = 0 := by omega
  show Calls _ _ #[_, _, .agg #[.int .u8 (ck : Int), .int .i32 ca, .int .i32 cb, .int .i32 cc]] _ _
  change Hid (Calls _ _ _ _ fun e w' => e = .returned (.int .i64 ((Cp.chk ⟨ck, ca, cb, cc⟩ : Nat) : Int)) ∧ _) at HC
  generalize Cp.chk ⟨ck, ca, cb, cc⟩ = x at *
  clear h hA hc
  go_enter Tryd.func29, Tryd.ntmps29
  go_wp2_with fail
  refine HC.out.mono ?_
  rintro e w1 ⟨rfl, hf⟩
  go_wp2
  go_ret2
  exact ⟨rfl, HA.out.quiet hf⟩
set_option maxHeartbeats 1000000 in
theorem homeFor_of (ht : Tab w0) (h : Own w0 w (StoX b σ K (bs, v, p) :: l)) (id : Nat) (c : Cp) (hk : c.k < 256) (hc : c.chk = 0) (hp : Option Addr) (er : Int)
    (HH : ∀ w', Own w0 w' (StoX b σ K (bs, v, p) :: l) → Calls Tryd.prog 24 #[.pointer (some ⟨b, 0, none⟩), .int .u32 (id : Int)] w' fun e w'' => e = .returned (.tuple #[.pointer hp, .int .i64 er]) ∧ Own w0 w'' (StoX b σ K (bs, v, p) :: l)) :
    Calls Tryd.prog 29 #[.pointer (some ⟨b, 0, none⟩), .int .u32 (id : Int), c.ag] w fun e w' => e = .returned (.tuple #[.pointer hp, .int .i64 er]) ∧ Own w0 w' (StoX b σ K (bs, v, p) :: l) := by
  obtain ⟨ck, ca, cb, cc⟩ := c
  have hA := h.alloc (.cells #[.int .u8 (ck : Int), .int .i32 ca, .int .i32 cb, .int .i32 cc] 46)
  have HC : Hid (Calls _ _ _ _ _) := check3 _ (ht.quiet hA.fr) ck hk ca cb cc
  have HA : Hid (Own w0 _ _) := hA
  have HHH : Hid _ := HH
  show Calls _ _ #[_, _, .agg #[.int .u8 (ck : Int), .int .i32 ca, .int .i32 cb, .int .i32 cc]] _ _
  change Hid (Calls _ _ _ _ fun e w' => e = .returned (.int .i64 ((Cp.chk ⟨ck, ca, cb, cc⟩ : Nat) : Int)) ∧ _) at HC
  rw [hc] at HC
  clear h hA hc HH
  go_enter Tryd.func29, Tryd.ntmps29
  go_wp2_with fail
  refine HC.out.mono ?_
  rintro e w1 ⟨rfl, hf⟩
  have H1 : Hid (Own w0 w1 _) := HA.out.quiet hf
  clear hf
  go_wp2_with fail
  refine (HHH.out _ H1.out).mono ?_
  rintro e w2 ⟨rfl, hO⟩
  have H2 : Hid (Own w0 w2 _) := hO
  clear hO
  go_wp2
  go_ret2
  exact ⟨rfl, H2.out⟩
end
/-- the components of an entity -/
def Sto.cps (σ : Sto) (id : Nat) : List Cp := (((plc (σ.T (σ.hom id)) id).bind fun r => (σ.T (σ.hom id))[r]?).map (·.2)).getD []
theorem Sto.cps_of {σ : Sto} {id r : Nat} {C : List Cp} (hr : plc (σ.T (σ.hom id)) id = some r) (he : (σ.T (σ.hom id))[r]? = some (id, C)) : σ.cps id = C := by
  unfold Sto.cps; rw [hr]; simp [he]
def Sto.turn (σ : Sto) (id : Nat) (C : List Cp) : Sto := (σ.out (σ.hom id) ((plc (σ.T (σ.hom id)) id).getD 0)).put id C
def Sto.add (σ : Sto) (id : Nat) (c : Cp) : Int × Sto :=
  if c.chk ≠ 0 then ((c.chk : Int), σ) else if σ.S.isLive id = false then (7, σ) else if hasK (σ.cps id) c.k then (9, σ) else (0, σ.turn id (insw (σ.cps id) c))
theorem Sto.Ok.ent {σ : Sto} (h : σ.Ok) {id : Nat} (hl : σ.S.isLive id = true) : ∃ r C, plc (σ.T (σ.hom id)) id = some r ∧ (σ.T (σ.hom id))[r]? = some (id, C) ∧ lst (-1) C = 0 ∧ msk C = σ.hom id ∧ σ.hom id < 64 := by
  obtain ⟨h6, _, r, e, hr, he, hx⟩ := h.home hl
  obtain ⟨e1, e2⟩ := e
  simp only at hx
  subst hx
  obtain ⟨a, b⟩ := (h.t _ h6).ok _ (List.mem_of_getElem? he)
  exact ⟨r, e2, hr, he, a, b, h6⟩
theorem Sto.turn_ok {σ : Sto} (h : σ.Ok) {id : Nat} (hl : σ.S.isLive id = true) {C : List Cp} (hC : lst (-1) C = 0) : (σ.turn id C).Ok := by
  obtain ⟨r, _, hr, _⟩ := h.ent hl
  unfold Sto.turn
  rw [hr]
  exact (h.out hl hr).put hC
end Go.Proofs.YtlbbljjfejhniaaDoor

/-
  A store's Add.
-/
namespace Go.Proofs.YtlbbljjfejhniaaDoor
open Go.RowKit Go.Maps
set_option linter.unusedVariables false
set_option maxRecDepth 100000

theorem k6_of {c : Cp} (h : c.chk = 0) : c.k < 6 := chk_k h
theorem lst_k {C : List Cp} (h : lst (-1) C = 0) : ∀ q ∈ C, q.k < 256 := fun q hq => by have := chk_k (((lst_iff C).1 h).2 q hq); omega
theorem lst_len {C : List Cp} (h : lst (-1) C = 0) : C.length ≤ 6 := by
  have e := kinds_of h rfl
  have := congrArg List.length e
  rw [List.length_map] at this
  rw [this]
  exact Nat.le_trans (List.length_filter_le _ _) (by simp)
/-- what a call to Get of the home answers -/
theorem homeGet (w0 w : World) (l : List Thing) (b bs : Nat) (v : Value) (p : Nat → Option Nat) (σ : Sto) (K : Nat) (hσ : σ.Ok) (id : Nat) (hid : id < 4294967296) (hl : σ.S.isLive id = true) (bt0 : Nat) (hp : p (σ.hom id) = some bt0) (h : Own w0 w (StoX b σ K (bs, v, p) :: l)) (k : Nat) (hk : k < 256) :
    Calls Tryd.prog 31 #[.pointer (some ⟨bt0, 0, none⟩), .int .u32 (id : Int), .int .u8 (k : Int)] w fun e w' => e = .returned (.tuple #[(if hasK (σ.cps id) k then mkc k (fv (σ.cps id) k) else ⟨0, 0, 0, 0⟩ : Cp).ag, .int .i64 (if hasK (σ.cps id) k then 0 else 10)]) ∧ Own w0 w' (StoX b σ K (bs, v, p) :: l) := by
  obtain ⟨r, C, hr, he, hC, hm, h6⟩ := hσ.ent hl
  obtain ⟨c, hc, hne, hlen, h2⟩ := h.stoB h6 hp
  have hcps := Sto.cps_of hr he
  have hbt : bt (σ.hom id) k = hasK C k := by
    by_cases hk6 : k < 6
    · rw [← hm]; exact bt_msk C k hk6
    · cases hb : bt (σ.hom id) k with
      | true => exact absurd (bt_lt h6 hb) hk6
      | false =>
        cases hh : hasK C k with
        | false => rfl
        | true =>
          obtain ⟨q, hq, e⟩ := (hasK_iff _ _).1 hh
          have := chk_k (((lst_iff C).1 hC).2 q hq)
          omega
  have hg : tget (σ.hom id) (σ.T (σ.hom id)) id k = (if hasK C k then 0 else 10, if hasK C k then mkc k (fv C k) else ⟨0, 0, 0, 0⟩) := by
    unfold tget
    rw [hr]
    simp only [he, Option.map_some, Option.getD_some, hbt]
    split <;> rfl
  have k2 := tgetC w0 w _ bt0 _ _ c h2 (hσ.t _ h6) id hid k hk
  rw [hg] at k2
  rw [hcps]
  refine k2.mono ?_
  rintro e w' ⟨rfl, h3⟩
  refine ⟨?_, h3.stoT h6 hp hc hne hlen⟩
  split <;> rfl
set_option maxHeartbeats 2000000 in
theorem addC (w0 w : World) (l : List Thing) (b : Nat) (σ : Sto) (K : Nat) (ht : Tab w0) (h : Own w0 w (Store b σ K :: l)) (hσ : σ.Ok) (id : Nat) (hid : id < 4294967296) (c : Cp) (hk : c.k < 256) (hK : K + 1 < 1000000) :
    Calls Tryd.prog 13 #[.pointer (some ⟨b, 0, none⟩), .int .u32 (id : Int), c.ag] w fun e w' => e = .returned (.int .i64 (σ.add id c).1) ∧ Own w0 w' (Store b (σ.add id c).2 (K + 2) :: l) := by
  obtain ⟨bs, v, p, h⟩ := h.stoX
  have hA := (h.allocC c.ar 46).two
  have HA : Hid (Own w0 _ _) := hA
  by_cases hc : c.chk = 0
  · cases hl : σ.S.isLive id with
    | false =>
      have HV : Hid (σ.add id c = (7, σ)) := by show _ = _; unfold Sto.add; rw [if_neg (by simp [hc]), if_pos hl]
      have HH : Hid (Calls _ _ _ _ _) := homeFor_of w0 _ _ b bs v p σ K ht hA id c hk hc none 7 (fun w' h' => home_dead w0 w' _ b bs v p σ K h' hσ.s id hid hl)
      obtain ⟨ck, ca, cb, cc⟩ := c
      unfold Cp.ag at HH ⊢
      unfold Cp.ar at HH
      clear h hA hσ hl hc HA
      go_enter Tryd.func13, Tryd.ntmps13
      go_wp2_with fail
      refine HH.out.mono ?_
      rintro e w1 ⟨rfl, hO⟩
      have H1 : Hid (Own w0 w1 (StoX b σ K (bs, v, p) :: l)) := hO.two.tail
      clear hO HH
      go_wp2
      go_ret
      rw [HV.out]
      exact ⟨rfl, H1.out.xSto.stoK (by omega)⟩
    | true =>
      obtain ⟨r, C, hr, he, hC, hm, h6⟩ := hσ.ent hl
      have hcps := Sto.cps_of hr he
      obtain ⟨bt0, hp⟩ := stoP h h6 he
      have hn := (hσ.home hl).2.1
      have HH : Hid (Calls _ _ _ _ _) := homeFor_of w0 _ _ b bs v p σ K ht hA id c hk hc (some ⟨bt0, 0, none⟩) 0 (fun w' h' => by
        have := home_ok w0 w' _ b bs v p σ K h' hσ.s id hid hl hn h6
        rw [hp, pp_some] at this
        exact this)
      have HG : Hid (∀ w' l', Own w0 w' (StoX b σ K (bs, v, p) :: l') → Calls Tryd.prog 31 #[.pointer (some ⟨bt0, 0, none⟩), .int .u32 (id : Int), .int .u8 (c.k : Int)] w' fun e w'' => e = .returned (.tuple #[(if hasK C c.k then mkc c.k (fv C c.k) else ⟨0, 0, 0, 0⟩ : Cp).ag, .int .i64 (if hasK C c.k then 0 else 10)]) ∧ Own w0 w'' (StoX b σ K (bs, v, p) :: l')) := fun w' l' h' => by
        have := homeGet w0 w' l' b bs v p σ K hσ id hid hl bt0 hp h' c.k hk
        rw [hcps] at this
        exact this
      cases hhk : hasK C c.k with
      | true =>
        have HV : Hid (σ.add id c = (9, σ)) := by show _ = _; unfold Sto.add; rw [if_neg (by simp [hc]), if_neg (by simp [hl]), hcps, if_pos hhk]
        rw [hhk] at HG
        simp only [if_true] at HG
        generalize mkc c.k (fv C c.k) = q at *
        obtain ⟨qk, qa, qb, qc⟩ := q
        obtain ⟨ck, ca, cb, cc⟩ := c
        unfold Cp.ag at HH HG ⊢
        unfold Cp.ar at HH
        simp only at HG HH
        clear h hA hσ hl hc HA hr he hC hm hcps hp hn hhk
        go_enter Tryd.func13, Tryd.ntmps13
        go_wp2_with fail
        refine HH.out.mono ?_
        rintro e w1 ⟨rfl, hO⟩
        have H1 : Hid (Own w0 w1 _) := hO
        have q0 := hO.two.cell 0
        simp at q0
        clear hO HH
        go_wp2_with fail
        refine (HG.out _ _ H1.out).mono ?_
        rintro e w2 ⟨rfl, hO⟩
        have H2 : Hid (Own w0 _ (StoX b σ K (bs, v, p) :: l)) := hO.two.tail.alloc (.cells #[.int .u8 (qk : Int), .int .i32 qa, .int .i32 qb, .int .i32 qc] 46)
        clear hO
        go_wp2
        go_ret
        rw [HV.out]
        exact ⟨rfl, H2.out.xSto.stoK (by omega)⟩
      | false =>
        have HV : Hid (σ.add id c = (0, (σ.out (σ.hom id) r).put id (insw C c))) := by show _ = _; unfold Sto.add; rw [if_neg (by simp [hc]), if_neg (by simp [hl]), hcps, if_neg (by simp [hhk])]; unfold Sto.turn; rw [hr]; rfl
        rw [hhk] at HG
        simp only [if_false, Bool.false_eq_true] at HG
        have hlen := lst_len hC
        have hI := insw_ok hC hc hhk
        have hLk := hσ.out hl hr
        have HPL : Hid (∀ w' l', Own w0 w' (StoX b σ K (bs, v, p) :: l') → Calls Tryd.prog 27 #[.pointer (some ⟨b, 0, none⟩), .pointer (some ⟨bt0, 0, none⟩), .int .u32 (id : Int)] w' fun out w'' => ∃ ao cap, out = .returned (.slice ao C.length cap) ∧ Own w0 w'' (Row 46 4 (.slice ao C.length cap) C.length (ccat C) :: Store b (σ.out (σ.hom id) r) (K + 1) :: l')) := fun w' l' h' => pull_ok w0 w' l' b bs v p σ K h' (σ.hom id) h6 (some bt0) hp (hσ.t _ h6) id hid r (id, C) hr he (by omega)
        have HWI : Hid (∀ w' l' ao cap, Own w0 w' (Row 46 4 (.slice ao C.length cap) C.length (ccat C) :: l') → Calls Tryd.prog 32 #[.slice ao C.length cap, c.ag] w' fun e w'' => ∃ ao' cap', e = .returned (.slice ao' (C.length + 1) cap') ∧ Own w0 w'' (Row 46 4 (.slice ao' (C.length + 1) cap') (C.length + 1) (ccat (insw C c)) :: l')) := fun w' l' ao cap h' => with_ok w0 w' l' C c ao C.length cap rfl (by omega) h'
        have HPU : Hid (∀ w' l' ao cap, Own w0 w' (Row 46 4 (.slice ao (C.length + 1) cap) (C.length + 1) (ccat (insw C c)) :: Store b (σ.out (σ.hom id) r) (K + 1) :: l') → Calls Tryd.prog 21 #[.pointer (some ⟨b, 0, none⟩), .int .u32 (id : Int), .slice ao (C.length + 1) cap] w' fun e w'' => e = .returned (.tuple #[]) ∧ Own w0 w'' (Store b ((σ.out (σ.hom id) r).put id (insw C c)) (K + 2) :: l')) := by
          intro w' l' ao cap h'
          obtain ⟨bs', v', p', h2⟩ := h'.two.stoX
          have hli := St.live_lt hLk.s hLk.li
          refine (put_ok w0 w' _ b bs' v' p' _ (K + 1) ht h2 id hid (by rw [hLk.ml]; exact hli.2) ao (C.length + 1) cap (insw C c) (insw_len C c) (fun w'' h'' => Own.rcs h'' (insw_len C c)) (lst_k hI) (by omega) hI (hLk.t _ (msk64 _)) (hLk.none (msk64 _)) (by omega)).mono ?_
          rintro e w'' ⟨rfl, h3⟩
          exact ⟨rfl, h3.two.tail⟩
        obtain ⟨ck, ca, cb, cc⟩ := c
        unfold Cp.ag at HH HG HWI ⊢
        unfold Cp.ar at HH
        simp only at HG HH HWI
        clear h hA hσ hl hc HA hr he hC hm hcps hp hn hhk hI hLk
        generalize C.length = n at *
        go_enter Tryd.func13, Tryd.ntmps13
        go_wp2_with fail
        refine HH.out.mono ?_
        rintro e w1 ⟨rfl, hO⟩
        have H1 : Hid (Own w0 w1 _) := hO
        have q0 := hO.two.cell 0
        simp at q0
        clear hO HH
        go_wp2_with fail
        refine (HG.out _ _ H1.out).mono ?_
        rintro e w2 ⟨rfl, hO⟩
        have hO2 := hO.alloc (.cells #[.int .u8 0, .int .i32 0, .int .i32 0, .int .i32 0] 46)
        have H2 : Hid (Own w0 _ _) := hO2
        have s0 := hO2.two.cell 0
        have s1 := hO2.two.cell 1
        have s2 := hO2.two.cell 2
        have s3 := hO2.two.cell 3
        simp at s0 s1 s2 s3
        clear hO hO2 H1 q0
        go_wp2_with fail
        go_region_with (first
          | (go_at_call 27
             refine (HPL.out _ _ H2.out.drew).mono ?_
             rintro e w3 ⟨a3, c3, rfl, hO⟩
             have t0 := hO.three.cell 0
             have t1 := hO.three.cell 1
             have t2 := hO.three.cell 2
             have t3 := hO.three.cell 3
             simp at t0 t1 t2 t3
             have H3 : Hid (Own w0 w3 _) := hO
             clear hO)
          | (go_at_call 32
             refine (HWI.out _ _ _ _ H3.out).mono ?_
             rintro e w4 ⟨a4, c4, rfl, hO⟩
             have H4 : Hid (Own w0 w4 _) := hO
             clear hO)
          | (go_at_call 21
             refine (HPU.out _ _ _ _ H4.out).mono ?_
             rintro e w5 ⟨rfl, hO⟩
             have H5 : Hid (Own w0 w5 _) := hO
             clear hO))
        all_goals
          go_wp2
          go_ret
          rw [HV.out]
          exact ⟨rfl, H5.out.two.tail⟩
  · have HV : Hid (σ.add id c = ((c.chk : Int), σ)) := by show _ = _; unfold Sto.add; rw [if_pos hc]
    have HH : Hid (Calls _ _ _ _ _) := homeFor_bad w0 _ _ b bs v p σ K ht hA id c hk hc
    have hx : ¬ ((c.chk : Nat) : Int) = 0 := by omega
    generalize c.chk = x at *
    obtain ⟨ck, ca, cb, cc⟩ := c
    unfold Cp.ag at HH ⊢
    unfold Cp.ar at HH
    clear h hA hσ hc HA
    go_enter Tryd.func13, Tryd.ntmps13
    go_wp2_with fail
    refine HH.out.mono ?_
    rintro e w1 ⟨rfl, hO⟩
    have H1 : Hid (Own w0 w1 (StoX b σ K (bs, v, p) :: l)) := hO.two.tail
    clear hO HH
    go_wp2
    go_ret
    rw [HV.out]
    exact ⟨rfl, H1.out.xSto.stoK (by omega)⟩
end Go.Proofs.YtlbbljjfejhniaaDoor

/-
  A store's Set.
-/
namespace Go.Proofs.YtlbbljjfejhniaaDoor
open Go.RowKit Go.Maps
set_option linter.unusedVariables false
set_option maxRecDepth 100000

theorem plc_same {L : List Ent} {r id : Nat} {C C' : List Cp} (he : L[r]? = some (id, C)) (x : Nat) : plc (L.set r (id, C')) x = plc L x := by
  have key : ∀ M : List Ent, plc M x = (ids M).findIdx? (fun y => decide (y = x)) := by
    intro M
    unfold plc ids
    rw [List.findIdx?_map]
    rfl
  rw [key, key]
  have : ids (L.set r (id, C')) = ids L := by
    unfold ids
    apply List.ext_getElem?
    intro i
    rw [List.getElem?_map, List.getElem?_map, List.getElem?_set]
    by_cases c : r = i
    · subst c
      have hr := (List.getElem?_eq_some_iff.1 he).1
      rw [he]; simp [hr]
    · rw [if_neg c]
  rw [this]
def Sto.set (σ : Sto) (id : Nat) (c : Cp) : Int × Sto :=
  if c.chk ≠ 0 then ((c.chk : Int), σ) else if σ.S.isLive id = false then (7, σ) else if hasK (σ.cps id) c.k = false then (10, σ) else (0, { σ with T := upd σ.T (σ.hom id) ((σ.T (σ.hom id)).set ((plc (σ.T (σ.hom id)) id).getD 0) (id, setc (σ.cps id) c)) })
theorem Sto.set_ok {σ : Sto} (h : σ.Ok) (id : Nat) (c : Cp) : (σ.set id c).2.Ok := by
  unfold Sto.set
  split
  · exact h
  · rename_i h0
    have hc : c.chk = 0 := by simpa using h0
    split
    · exact h
    · rename_i h1
      have hl : σ.S.isLive id = true := by simpa using h1
      split
      · exact h
      · obtain ⟨r, C, hr, he, hC, hm, h6⟩ := h.ent hl
        rw [Sto.cps_of hr he, hr]
        simp only [Option.getD_some]
        generalize hk : σ.hom id = k at *
        refine ⟨h.s, h.ml, ?_, ?_, ?_⟩
        · intro m hm'
          show TOk m (upd σ.T k _ m)
          by_cases e : m = k
          · subst e; rw [upd_same]; exact (h.t m hm').set he c hc
          · rw [upd_other _ _ _ e]; exact h.t m hm'
        · intro m hm' x hx
          replace hx : x ∈ upd σ.T k ((σ.T k).set r (id, setc C c)) m := hx
          by_cases e : m = k
          · subst e
            rw [upd_same] at hx
            rcases List.mem_or_eq_of_mem_set hx with hx | hx
            · exact h.lv m hm' x hx
            · subst hx
              exact h.lv m hm' (id, C) (List.mem_of_getElem? he)
          · rw [upd_other _ _ _ e] at hx; exact h.lv m hm' x hx
        · intro x hx
          obtain ⟨m, hm', h1', r', h2'⟩ := h.hm x hx
          refine ⟨m, hm', h1', r', ?_⟩
          show plc (upd σ.T k _ m) x = _
          by_cases e : m = k
          · subst e; rw [upd_same, plc_same he]; exact h2'
          · rw [upd_other _ _ _ e]; exact h2'
theorem Sto.add_ok {σ : Sto} (h : σ.Ok) (id : Nat) (c : Cp) : (σ.add id c).2.Ok := by
  unfold Sto.add
  split
  · exact h
  · rename_i h0
    split
    · exact h
    · rename_i h1
      have hl : σ.S.isLive id = true := by simpa using h1
      split
      · exact h
      · rename_i h2
        obtain ⟨r, C, hr, he, hC, hm, h6⟩ := h.ent hl
        have hcps := Sto.cps_of hr he
        rw [hcps] at h2 ⊢
        exact Sto.turn_ok h hl (insw_ok hC (by simpa using h0) (by simpa using h2))
set_option maxHeartbeats 2000000 in
theorem setC0 (w0 w : World) (l : List Thing) (b : Nat) (σ : Sto) (K : Nat) (ht : Tab w0) (h : Own w0 w (Store b σ K :: l)) (hσ : σ.Ok) (id : Nat) (hid : id < 4294967296) (c : Cp) (hk : c.k < 256) (hK : K < 1000000) :
    Calls Tryd.prog 12 #[.pointer (some ⟨b, 0, none⟩), .int .u32 (id : Int), c.ag] w fun e w' => e = .returned (.int .i64 (σ.set id c).1) ∧ Own w0 w' (Store b (σ.set id c).2 K :: l) := by
  obtain ⟨bs, v, p, h⟩ := h.stoX
  have hA := (h.allocC c.ar 46).two
  have HA : Hid (Own w0 _ _) := hA
  by_cases hc : c.chk = 0
  · cases hl : σ.S.isLive id with
    | false =>
      have HV : Hid (σ.set id c = (7, σ)) := by show _ = _; unfold Sto.set; rw [if_neg (by simp [hc]), if_pos hl]
      have HH : Hid (Calls _ _ _ _ _) := homeFor_of w0 _ _ b bs v p σ K ht hA id c hk hc none 7 (fun w' h' => home_dead w0 w' _ b bs v p σ K h' hσ.s id hid hl)
      obtain ⟨ck, ca, cb, cc⟩ := c
      unfold Cp.ag at HH ⊢
      unfold Cp.ar at HH
      clear h hA hσ hl hc HA
      go_enter Tryd.func12, Tryd.ntmps12
      go_wp2_with fail
      refine HH.out.mono ?_
      rintro e w1 ⟨rfl, hO⟩
      have H1 : Hid (Own w0 w1 (StoX b σ K (bs, v, p) :: l)) := hO.two.tail
      clear hO HH
      go_wp2
      go_ret
      rw [HV.out]
      exact ⟨rfl, H1.out.xSto⟩
    | true =>
      obtain ⟨r, C, hr, he, hC, hm, h6⟩ := hσ.ent hl
      have hcps := Sto.cps_of hr he
      obtain ⟨bt0, hp⟩ := stoP h h6 he
      have hn := (hσ.home hl).2.1
      have hbt : bt (σ.hom id) c.k = hasK C c.k := by rw [← hm]; exact bt_msk C c.k (chk_k hc)
      have HH : Hid (Calls _ _ _ _ _) := homeFor_of w0 _ _ b bs v p σ K ht hA id c hk hc (some ⟨bt0, 0, none⟩) 0 (fun w' h' => by
        have := home_ok w0 w' _ b bs v p σ K h' hσ.s id hid hl hn h6
        rw [hp, pp_some] at this
        exact this)
      have hts : tset (σ.hom id) (σ.T (σ.hom id)) id c = if hasK C c.k then (0, (σ.T (σ.hom id)).set r (id, setc C c)) else (10, σ.T (σ.hom id)) := by
        unfold tset
        rw [if_neg (by simp [hc]), hr]
        simp only [he, Option.map_some, Option.getD_some, hbt]
      have HST : Hid (∀ w' l', Own w0 w' (StoX b σ K (bs, v, p) :: l') → Calls Tryd.prog 30 #[.pointer (some ⟨bt0, 0, none⟩), .int .u32 (id : Int), c.ag] w' fun e w'' => e = .returned (.int .i64 (σ.set id c).1) ∧ Own w0 w'' (Store b (σ.set id c).2 K :: l')) := by
        intro w' l' h'
        obtain ⟨cc, hcc, hne, hlen, h2⟩ := h'.stoB h6 hp
        have k := tsetC w0 w' _ bt0 _ _ cc ht h2 (hσ.t _ h6) id hid c hk (by omega)
        rw [hts] at k
        cases hhk : hasK C c.k with
        | false =>
          have hv : σ.set id c = (10, σ) := by unfold Sto.set; rw [if_neg (by simp [hc]), if_neg (by simp [hl]), hcps, if_pos hhk]
          rw [hhk] at k
          simp only [if_false, Bool.false_eq_true] at k
          rw [hv]
          refine k.mono ?_
          rintro e w'' ⟨rfl, h3⟩
          exact ⟨rfl, (h3.stoT h6 hp hcc hne hlen).xSto⟩
        | true =>
          have hv : σ.set id c = (0, { σ with T := upd σ.T (σ.hom id) ((σ.T (σ.hom id)).set r (id, setc C c)) }) := by unfold Sto.set; rw [if_neg (by simp [hc]), if_neg (by simp [hl]), hcps, if_neg (by simp [hhk]), hr]; rfl
          rw [hhk] at k
          simp only [if_true] at k
          rw [hv]
          refine k.mono ?_
          rintro e w'' ⟨rfl, h3⟩
          exact ⟨rfl, (h3.stoBX h6 hp (Nat.le_refl K) hcc (fun q => hne (by simpa using q)) (by simpa using hlen)).xSto⟩
      obtain ⟨ck, ca, cb, cc⟩ := c
      unfold Cp.ag at HH HST ⊢
      unfold Cp.ar at HH
      simp only at HH HST
      clear h hA hσ hl hc HA hr he hC hm hcps hp hn hbt hts
      generalize Sto.set σ id ⟨ck, ca, cb, cc⟩ = rs at *
      go_enter Tryd.func12, Tryd.ntmps12
      go_wp2_with fail
      refine HH.out.mono ?_
      rintro e w1 ⟨rfl, hO⟩
      have q0 := hO.two.cell 0
      have q1 := hO.two.cell 1
      have q2 := hO.two.cell 2
      have q3 := hO.two.cell 3
      simp at q0 q1 q2 q3
      have H1 : Hid (Own w0 w1 _) := hO
      clear hO HH
      go_wp2_with fail
      refine (HST.out _ _ H1.out).mono ?_
      rintro e w2 ⟨rfl, hO⟩
      have H2 : Hid (Own w0 w2 _) := hO.two.tail
      clear hO HST
      go_wp2
      go_ret
      exact ⟨rfl, H2.out⟩
  · have HV : Hid (σ.set id c = ((c.chk : Int), σ)) := by show _ = _; unfold Sto.set; rw [if_pos hc]
    have HH : Hid (Calls _ _ _ _ _) := homeFor_bad w0 _ _ b bs v p σ K ht hA id c hk hc
    have hx : ¬ ((c.chk : Nat) : Int) = 0 := by omega
    generalize c.chk = x at *
    obtain ⟨ck, ca, cb, cc⟩ := c
    unfold Cp.ag at HH ⊢
    unfold Cp.ar at HH
    clear h hA hσ hc HA
    go_enter Tryd.func12, Tryd.ntmps12
    go_wp2_with fail
    refine HH.out.mono ?_
    rintro e w1 ⟨rfl, hO⟩
    have H1 : Hid (Own w0 w1 (StoX b σ K (bs, v, p) :: l)) := hO.two.tail
    clear hO HH
    go_wp2
    go_ret
    rw [HV.out]
    exact ⟨rfl, H1.out.xSto⟩
end Go.Proofs.YtlbbljjfejhniaaDoor
