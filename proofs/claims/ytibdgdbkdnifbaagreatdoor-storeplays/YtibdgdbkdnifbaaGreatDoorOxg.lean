/-
  A store's Set.
-/
import Derived.Test.YtibdgdbkdnifbaaGreatDoorOog
namespace Go.Proofs.YtibdgdbkdnifbaaGreatDoor
open Go.RowKit Go.Maps
set_option linter.unusedVariables false
set_option maxRecDepth 100000

theorem plc_same {L : List Ent} {r id : Nat} {C C' : List Cp} (he : L[r]? = some (id, C)) (x : Nat) : plc (L.set r (id, C')) x = plc L x := by
  have key : ∀ M : List Ent, plc M x = (ids M).findIdx? (fun y => decide (y = x)) := by
    intro M
    unfold plc ids
    rw [List.findIdx?_map]
    rfl
  rw [key, key]
  have : ids (L.set r (id, C')) = ids L := by
    unfold ids
    apply List.ext_getElem?
    intro i
    rw [List.getElem?_map, List.getElem?_map, List.getElem?_set]
    by_cases c : r = i
    · subst c
      have hr := (List.getElem?_eq_some_iff.1 he).1
      rw [he]; simp [hr]
    · rw [if_neg c]
  rw [this]
def Sto.set (σ : Sto) (id : Nat) (c : Cp) : Int × Sto :=
  if c.chk ≠ 0 then ((c.chk : Int), σ) else if σ.S.isLive id = false then (7, σ) else if hasK (σ.cps id) c.k = false then (10, σ) else (0, { σ with T := upd σ.T (σ.hom id) ((σ.T (σ.hom id)).set ((plc (σ.T (σ.hom id)) id).getD 0) (id, setc (σ.cps id) c)) })
theorem Sto.set_ok {σ : Sto} (h : σ.Ok) (id : Nat) (c : Cp) : (σ.set id c).2.Ok := by
  unfold Sto.set
  split
  · exact h
  · rename_i h0
    have hc : c.chk = 0 := by simpa using h0
    split
    · exact h
    · rename_i h1
      have hl : σ.S.isLive id = true := by simpa using h1
      split
      · exact h
      · obtain ⟨r, C, hr, he, hC, hm, h6⟩ := h.ent hl
        rw [Sto.cps_of hr he, hr]
        simp only [Option.getD_some]
        generalize hk : σ.hom id = k at *
        refine ⟨h.s, h.ml, ?_, ?_, ?_⟩
        · intro m hm'
          show TOk m (upd σ.T k _ m)
          by_cases e : m = k
          · subst e; rw [upd_same]; exact (h.t m hm').set he c hc
          · rw [upd_other _ _ _ e]; exact h.t m hm'
        · intro m hm' x hx
          replace hx : x ∈ upd σ.T k ((σ.T k).set r (id, setc C c)) m := hx
          by_cases e : m = k
          · subst e
            rw [upd_same] at hx
            rcases List.mem_or_eq_of_mem_set hx with hx | hx
            · exact h.lv m hm' x hx
            · subst hx
              exact h.lv m hm' (id, C) (List.mem_of_getElem? he)
          · rw [upd_other _ _ _ e] at hx; exact h.lv m hm' x hx
        · intro x hx
          obtain ⟨m, hm', h1', r', h2'⟩ := h.hm x hx
          refine ⟨m, hm', h1', r', ?_⟩
          show plc (upd σ.T k _ m) x = _
          by_cases e : m = k
          · subst e; rw [upd_same, plc_same he]; exact h2'
          · rw [upd_other _ _ _ e]; exact h2'
theorem Sto.add_ok {σ : Sto} (h : σ.Ok) (id : Nat) (c : Cp) : (σ.add id c).2.Ok := by
  unfold Sto.add
  split
  · exact h
  · rename_i h0
    split
    · exact h
    · rename_i h1
      have hl : σ.S.isLive id = true := by simpa using h1
      split
      · exact h
      · rename_i h2
        obtain ⟨r, C, hr, he, hC, hm, h6⟩ := h.ent hl
        have hcps := Sto.cps_of hr he
        rw [hcps] at h2 ⊢
        exact Sto.turn_ok h hl (insw_ok hC (by simpa using h0) (by simpa using h2))
set_option maxHeartbeats 2000000 in
theorem setC0 (w0 w : World) (l : List Thing) (b : Nat) (σ : Sto) (K : Nat) (ht : Tab w0) (h : Own w0 w (Store b σ K :: l)) (hσ : σ.Ok) (id : Nat) (hid : id < 4294967296) (c : Cp) (hk : c.k < 256) (hK : K < 1000000) :
    Calls Tryz.prog 12 #[.pointer (some ⟨b, 0, none⟩), .int .u32 (id : Int), c.ag] w fun e w' => e = .returned (.int .i64 (σ.set id c).1) ∧ Own w0 w' (Store b (σ.set id c).2 K :: l) := by
  obtain ⟨bs, v, p, h⟩ := h.stoX
  have hA := (h.allocC c.ar 48).two
  have HA : Hid (Own w0 _ _) := hA
  by_cases hc : c.chk = 0
  · cases hl : σ.S.isLive id with
    | false =>
      have HV : Hid (σ.set id c = (7, σ)) := by show _ = _; unfold Sto.set; rw [if_neg (by simp [hc]), if_pos hl]
      have HH : Hid (Calls _ _ _ _ _) := homeFor_of w0 _ _ b bs v p σ K ht hA id c hk hc none 7 (fun w' h' => home_dead w0 w' _ b bs v p σ K h' hσ.s id hid hl)
      obtain ⟨ck, ca, cb, cc⟩ := c
      unfold Cp.ag at HH ⊢
      unfold Cp.ar at HH
      clear h hA hσ hl hc HA
      go_enter Tryz.func12, Tryz.ntmps12
      go_wp2_with fail
      refine HH.out.mono ?_
      rintro e w1 ⟨rfl, hO⟩
      have H1 : Hid (Own w0 w1 (StoX b σ K (bs, v, p) :: l)) := hO.two.tail
      clear hO HH
      go_wp2
      go_ret
      rw [HV.out]
      exact ⟨rfl, H1.out.xSto⟩
    | true =>
      obtain ⟨r, C, hr, he, hC, hm, h6⟩ := hσ.ent hl
      have hcps := Sto.cps_of hr he
      obtain ⟨bt0, hp⟩ := stoP h h6 he
      have hn := (hσ.home hl).2.1
      have hbt : bt (σ.hom id) c.k = hasK C c.k := by rw [← hm]; exact bt_msk C c.k (chk_k hc)
      have HH : Hid (Calls _ _ _ _ _) := homeFor_of w0 _ _ b bs v p σ K ht hA id c hk hc (some ⟨bt0, 0, none⟩) 0 (fun w' h' => by
        have := home_ok w0 w' _ b bs v p σ K h' hσ.s id hid hl hn h6
        rw [hp, pp_some] at this
        exact this)
      have hts : tset (σ.hom id) (σ.T (σ.hom id)) id c = if hasK C c.k then (0, (σ.T (σ.hom id)).set r (id, setc C c)) else (10, σ.T (σ.hom id)) := by
        unfold tset
        rw [if_neg (by simp [hc]), hr]
        simp only [he, Option.map_some, Option.getD_some, hbt]
      have HST : Hid (∀ w' l', Own w0 w' (StoX b σ K (bs, v, p) :: l') → Calls Tryz.prog 41 #[.pointer (some ⟨bt0, 0, none⟩), .int .u32 (id : Int), c.ag] w' fun e w'' => e = .returned (.int .i64 (σ.set id c).1) ∧ Own w0 w'' (Store b (σ.set id c).2 K :: l')) := by
        intro w' l' h'
        obtain ⟨cc, hcc, hne, hlen, h2⟩ := h'.stoB h6 hp
        have k := tsetC w0 w' _ bt0 _ _ cc ht h2 (hσ.t _ h6) id hid c hk (by omega)
        rw [hts] at k
        cases hhk : hasK C c.k with
        | false =>
          have hv : σ.set id c = (10, σ) := by unfold Sto.set; rw [if_neg (by simp [hc]), if_neg (by simp [hl]), hcps, if_pos hhk]
          rw [hhk] at k
          simp only [if_false, Bool.false_eq_true] at k
          rw [hv]
          refine k.mono ?_
          rintro e w'' ⟨rfl, h3⟩
          exact ⟨rfl, (h3.stoT h6 hp hcc hne hlen).xSto⟩
        | true =>
          have hv : σ.set id c = (0, { σ with T := upd σ.T (σ.hom id) ((σ.T (σ.hom id)).set r (id, setc C c)) }) := by unfold Sto.set; rw [if_neg (by simp [hc]), if_neg (by simp [hl]), hcps, if_neg (by simp [hhk]), hr]; rfl
          rw [hhk] at k
          simp only [if_true] at k
          rw [hv]
          refine k.mono ?_
          rintro e w'' ⟨rfl, h3⟩
          exact ⟨rfl, (h3.stoBX h6 hp (Nat.le_refl K) hcc (fun q => hne (by simpa using q)) (by simpa using hlen)).xSto⟩
      obtain ⟨ck, ca, cb, cc⟩ := c
      unfold Cp.ag at HH HST ⊢
      unfold Cp.ar at HH
      simp only at HH HST
      clear h hA hσ hl hc HA hr he hC hm hcps hp hn hbt hts
      generalize Sto.set σ id ⟨ck, ca, cb, cc⟩ = rs at *
      go_enter Tryz.func12, Tryz.ntmps12
      go_wp2_with fail
      refine HH.out.mono ?_
      rintro e w1 ⟨rfl, hO⟩
      have q0 := hO.two.cell 0
      have q1 := hO.two.cell 1
      have q2 := hO.two.cell 2
      have q3 := hO.two.cell 3
      simp at q0 q1 q2 q3
      have H1 : Hid (Own w0 w1 _) := hO
      clear hO HH
      go_wp2_with fail
      refine (HST.out _ _ H1.out).mono ?_
      rintro e w2 ⟨rfl, hO⟩
      have H2 : Hid (Own w0 w2 _) := hO.two.tail
      clear hO HST
      go_wp2
      go_ret
      exact ⟨rfl, H2.out⟩
  · have HV : Hid (σ.set id c = ((c.chk : Int), σ)) := by show _ = _; unfold Sto.set; rw [if_pos hc]
    have HH : Hid (Calls _ _ _ _ _) := homeFor_bad w0 _ _ b bs v p σ K ht hA id c hk hc
    have hx : ¬ ((c.chk : Nat) : Int) = 0 := by omega
    generalize c.chk = x at *
    obtain ⟨ck, ca, cb, cc⟩ := c
    unfold Cp.ag at HH ⊢
    unfold Cp.ar at HH
    clear h hA hσ hc HA
    go_enter Tryz.func12, Tryz.ntmps12
    go_wp2_with fail
    refine HH.out.mono ?_
    rintro e w1 ⟨rfl, hO⟩
    have H1 : Hid (Own w0 w1 (StoX b σ K (bs, v, p) :: l)) := hO.two.tail
    clear hO HH
    go_wp2
    go_ret
    rw [HV.out]
    exact ⟨rfl, H1.out.xSto⟩
end Go.Proofs.YtibdgdbkdnifbaaGreatDoor
