/-
  A store's put and pull.
-/
import Derived.Test.YtibdgdbkdnifbaaGreatDoorObg
import Derived.Test.YtibdgdbkdnifbaaGreatDoorUg
import Derived.Test.YtibdgdbkdnifbaaGreatDoorUh
import Derived.Test.YtibdgdbkdnifbaaGreatDoorOmg
namespace Go.Proofs.YtibdgdbkdnifbaaGreatDoor
open Go.RowKit Go.Maps
set_option linter.unusedVariables false

theorem tadd_put {m : Nat} {L : List Ent} {id : Nat} {C : List Cp} (h1 : lst (-1) C = 0) (h2 : msk C = m) (h3 : plc L id = none) : tadd m L id C = (0, L ++ [(id, C)]) := by
  unfold tadd; rw [if_neg (by simp [h1]), if_neg (by simp [h2]), if_neg (by rw [h3]; simp)]
theorem Own.stoBX {w0 w : World} {l : List Thing} {b bs : Nat} {v : Value} {p : Nat → Option Nat} {σ : Sto} {K K' m bt c : Nat} {L : List Ent} (h : Own w0 w (Table bt m L c :: StoB b σ K (bs, v, p) m :: l)) (hm : m < 64) (hp : p m = some bt) (hK : K ≤ K') (hc : c ≤ K') (hL : L ≠ []) (hl : L.length ≤ K') : Own w0 w (StoX b { σ with T := upd σ.T m L } K' (bs, v, p) :: l) := by
  have e : upd p m (some bt) = p := by
    funext j
    unfold upd
    split
    · rename_i q; rw [q, hp]
    · rfl
  have h2 := h.tabShut hc hL hl
  rw [← e] at h2
  have := h2.stoI hm hK
  rw [e] at this
  exact this

set_option maxHeartbeats 1000000 in
set_option maxRecDepth 100000 in
theorem put_ok (w0 w : World) (l : List Thing) (b bs : Nat) (v : Value) (p : Nat → Option Nat) (σ : Sto) (K : Nat) (ht : Tab w0) (h : Own w0 w (StoX b σ K (bs, v, p) :: l)) (id : Nat) (hid : id < 4294967296) (hm : id % 1024 < σ.mks.length)
    (ao : Option Addr) (len cap : Nat) (C : List Cp) (hCl : C.length = len) (hCs : ∀ w', Own w0 w' l → Cs w' ao C) (hCk : ∀ q ∈ C, q.k < 256) (hlen : len ≤ 1000000) (hC : lst (-1) C = 0) (hT : TOk (msk C) (σ.T (msk C))) (hp : plc (σ.T (msk C)) id = none) (hK : K < 1000000) :
    Calls Tryz.prog 29 #[.pointer (some ⟨b, 0, none⟩), .int .u32 (id : Int), .slice ao len cap] w fun e w' => e = .returned (.tuple #[]) ∧ Own w0 w' (Store b (σ.put id C) (K + 1) :: l) := by
  have H : Hid (Own w0 w (StoX b σ K (bs, v, p) :: l)) := h
  have h6 : msk C < 64 := hT.m64
  obtain ⟨g, cp, rfl, _, _, _⟩ := stoMk h (id % 1024) hm
  have HCs : Hid (∀ w', Own w0 w' l → Cs w' ao C) := hCs
  have HMK : Hid (Calls _ _ _ _ _) := mask_any w ao len cap C hCl (hCs _ h.tail) hCk hlen
  have HSL : Hid (∀ w', Calls Tryz.prog 67 #[.int .u32 (id : Int)] w' fun e w'' => e = .returned (.int .i64 ((id % 1024 : Nat) : Int)) ∧ w'' = w') := fun w' => slot_any id w' hid
  have HC4 : Hid (∀ w' p', Own w0 w' (StoX b { σ with T := upd σ.T (msk C) (σ.T (msk C) ++ [(id, C)]) } (K + 1) (bs, .slice (some ⟨g, 0, none⟩) σ.mks.length cp, p') :: l) → w'.cell? ⟨b, 1, none⟩ = some (.slice (some ⟨g, 0, none⟩) σ.mks.length cp) ∧ (∃ u, w'.cell? ⟨g, id % 1024, none⟩ = some u) ∧ w'.frozen? ⟨g, id % 1024, none⟩ = false) := by
    intro w' p' h'
    obtain ⟨g', cp', he, q1, q2, _⟩ := stoMk h' (id % 1024) hm
    cases he
    exact ⟨(stoCells h').2.1, ⟨_, q1⟩, q2⟩
  have HFIN : Hid (∀ w' p', Own w0 w' (StoX b { σ with T := upd σ.T (msk C) (σ.T (msk C) ++ [(id, C)]) } (K + 1) (bs, .slice (some ⟨g, 0, none⟩) σ.mks.length cp, p') :: l) → Own w0 (w'.setCell ⟨g, id % 1024, none⟩ (.int .u8 ((msk C : Nat) : Int))) (Store b (σ.put id C) (K + 1) :: l)) := fun w' p' h' => (Own.stoMset (σ := { σ with T := upd σ.T (msk C) (σ.T (msk C) ++ [(id, C)]) }) h' (id % 1024) (msk C)).xSto
  have HADD : Hid (∀ w' l' bt c, Own w0 w' (Table bt (msk C) (σ.T (msk C)) c :: l') → (∀ w'', Own w0 w'' l' → Cs w'' ao C) → (σ.T (msk C)).length ≤ 1000000 → c ≤ 1000000 → Calls Tryz.prog 66 #[.pointer (some ⟨bt, 0, none⟩), .int .u32 (id : Int), .slice ao len cap] w' fun e w'' => e = .returned (.int .i64 0) ∧ Own w0 w'' (Table bt (msk C) (σ.T (msk C) ++ [(id, C)]) (c + 1) :: l')) := by
    intro w' l' bt c h' hc' hl' hcc
    have := taddC w0 w' l' bt (msk C) (σ.T (msk C)) c ht h' hT id hid ao len cap C hCl hc' hCk hlen hl' hcc
    rw [tadd_put hC rfl hp] at this
    exact this
  have HNEW : Hid (∀ w' l', Own w0 w' l' → Calls Tryz.prog 65 #[.int .u8 ((msk C : Nat) : Int)] w' fun e w'' => ∃ bt, e = .returned (.tuple #[.pointer (some ⟨bt, 0, none⟩), .int .i64 0]) ∧ Own w0 w'' (Table bt (msk C) [] 0 :: l')) := fun w' l' h' => tnew w0 w' l' (msk C) h' h6
  have qt := (stoCells h).2.2 _ h6
  have h6' : ((msk C : Nat) : Int) < 64 := by omega
  have hm' : ((id % 1024 : Nat) : Int) < (σ.mks.length : Int) := by omega
  cases hpm : p (msk C) with
  | none =>
    obtain ⟨hTe, hB⟩ := h.stoN h6 hpm
    have HB : Hid (∀ w', Fr Nobody w w' → Own w0 w' (StoB b σ K (bs, .slice (some ⟨g, 0, none⟩) σ.mks.length cp, p) (msk C) :: l)) := fun w' hf => hB.quiet hf
    have HTE : Hid (σ.T (msk C) = []) := hTe
    have HTL : Hid ((σ.T (msk C)).length ≤ 1000000) := by show _ ≤ _; rw [hTe]; simp
    have HTL2 : Hid ((σ.T (msk C)).length ≤ K) := by show _ ≤ _; rw [hTe]; simp
    have HPM : Hid (p (msk C) = none) := hpm
    clear qt
    clear h hB hTe hT hp hC hCs hCk hid hlen hCl hpm
    generalize msk C = m at *
    generalize id % 1024 = s at *
    go_enter Tryz.func29, Tryz.ntmps29
    go_wp2_with fail
    refine HMK.out.mono ?_
    rintro e w1 ⟨rfl, hf⟩
    have hB1 := HB.out _ hf
    have HB1 : Hid (Own w0 w1 _) := hB1
    have qt1 := (hB1.stoBcell m h6).1
    rw [HPM.out, pp_none] at qt1
    clear hB1 hf HMK HB
    go_wp2_with fail
    go_region_with (
      go_at_call 65
      refine (HNEW.out _ _ HB1.out.drew).mono ?_
      rintro e w2 ⟨bt, rfl, hO⟩
      have qz := hO.two.stoBcell m h6
      rw [HPM.out, pp_none] at qz
      obtain ⟨qc, qz⟩ := qz
      have HO3 : Hid (Own w0 (w2.setCell ⟨b, 2 + m, none⟩ (.pointer (some ⟨bt, 0, none⟩))) (Table bt m (σ.T m) 0 :: StoB b σ K (bs, .slice (some ⟨g, 0, none⟩) σ.mks.length cp, upd p m (some bt)) m :: l)) := by rw [HTE.out]; exact (hO.two.stoBset h6 (some bt)).two
      clear hO)
    all_goals
      have qp := (HO3.out.two.stoBcell m h6).1
      rw [upd_same, pp_some] at qp
      generalize hw3 : (w2.setCell ⟨b, 2 + m, none⟩ (.pointer (some ⟨bt, 0, none⟩))) = w3 at *
      clear hw3 qc qz qt1 HB1
      go_wp2_with fail
      refine (HADD.out _ _ bt 0 HO3.out (fun w'' h'' => HCs.out _ h''.tail) HTL.out (by omega)).mono ?_
      rintro e w4 ⟨rfl, hO4⟩
      have hX := hO4.stoBX h6 (upd_same _ _ _) (Nat.le_succ K) (by omega) (by simp) (by have := HTL2.out; simp; omega)
      have HX : Hid (Own w0 w4 _) := hX
      obtain ⟨q1, ⟨u, qu⟩, qf⟩ := HC4.out _ _ hX
      clear hO4 hX qp HADD HNEW
      go_wp2_with fail
      go_region_with (
        go_at_call 67
        refine (HSL.out _).mono ?_
        rintro e w' ⟨rfl, rfl⟩)
      all_goals
        go_wp2
        go_end0
        exact ⟨rfl, HFIN.out _ _ HX.out.drew⟩
  | some bt =>
    obtain ⟨c, hcK, hTne, hTl, hB⟩ := h.stoB h6 hpm
    have HB : Hid (∀ w', Fr Nobody w w' → Own w0 w' (Table bt (msk C) (σ.T (msk C)) c :: StoB b σ K (bs, .slice (some ⟨g, 0, none⟩) σ.mks.length cp, p) (msk C) :: l)) := fun w' hf => hB.quiet hf
    have HTL : Hid ((σ.T (msk C)).length ≤ 1000000) := by show _ ≤ _; omega
    have HTL2 : Hid ((σ.T (msk C)).length ≤ K) := hTl
    have HPM : Hid (p (msk C) = some bt) := hpm
    clear qt
    clear h hB hT hp hC hCs hCk hid hlen hCl hpm hTl hTne
    generalize msk C = m at *
    generalize id % 1024 = s at *
    go_enter Tryz.func29, Tryz.ntmps29
    go_wp2_with fail
    refine HMK.out.mono ?_
    rintro e w1 ⟨rfl, hf⟩
    have hB1 := HB.out _ hf
    have HB1 : Hid (Own w0 w1 _) := hB1
    have qt1 := (hB1.two.stoBcell m h6).1
    rw [HPM.out, pp_some] at qt1
    clear hB1 hf HMK HB
    go_wp2_with fail
    refine (HADD.out _ _ bt c HB1.out (fun w'' h'' => HCs.out _ h''.tail) HTL.out (by omega)).mono ?_
    rintro e w4 ⟨rfl, hO4⟩
    have hX := hO4.stoBX h6 HPM.out (Nat.le_succ K) (by omega) (by simp) (by have := HTL2.out; simp; omega)
    have HX : Hid (Own w0 w4 _) := hX
    obtain ⟨q1, ⟨u, qu⟩, qf⟩ := HC4.out _ _ hX
    clear hO4 hX qt1 HADD HNEW
    go_wp2_with fail
    go_region_with (
      go_at_call 67
      refine (HSL.out _).mono ?_
      rintro e w' ⟨rfl, rfl⟩)
    all_goals
      go_wp2
      go_end0
      exact ⟨rfl, HFIN.out _ _ HX.out.drew⟩
end Go.Proofs.YtibdgdbkdnifbaaGreatDoor

/-
  What is so of a store at all times: every entity that there is stands in the table of its make, and nobody else does.
-/
namespace Go.Proofs.YtibdgdbkdnifbaaGreatDoor
open Go.RowKit Go.Maps
set_option linter.unusedVariables false

theorem gd_set_same {α : Type} (l : List α) (i : Nat) (x d : α) (h : i < l.length) : (l.set i x).getD i d = x := by rw [List.getD_eq_getElem?_getD, List.getElem?_set_self h]; rfl
theorem gd_set_other {α : Type} (l : List α) (i k : Nat) (x d : α) (h : k ≠ i) : (l.set i x).getD k d = l.getD k d := by rw [List.getD_eq_getElem?_getD, List.getElem?_set_ne (fun q => h q.symm), List.getD_eq_getElem?_getD]
theorem gd_snoc_same {α : Type} (l : List α) (x d : α) (k : Nat) (h : k = l.length) : (l ++ [x]).getD k d = x := by rw [h, List.getD_eq_getElem?_getD, List.getElem?_append_right (Nat.le_refl _)]; simp
theorem gd_snoc_other {α : Type} (l : List α) (x d : α) (k : Nat) (h : k ≠ l.length) : (l ++ [x]).getD k d = l.getD k d := by
  rw [List.getD_eq_getElem?_getD, List.getD_eq_getElem?_getD]
  rcases Nat.lt_or_gt_of_ne h with c | c
  · rw [List.getElem?_append_left c]
  · rw [List.getElem?_eq_none (by simp; omega), List.getElem?_eq_none (by omega)]
theorem gd_some {α : Type} {l : List α} {i : Nat} {d x : α} (h : l[i]? = some x) : l.getD i d = x := by rw [List.getD_eq_getElem?_getD, h]; rfl
theorem gd_none {α : Type} {l : List α} {i : Nat} {d : α} (h : l.length ≤ i) : l.getD i d = d := by rw [List.getD_eq_getElem?_getD, List.getElem?_eq_none h]; rfl

theorem St.live_lt {S : St} (h : S.Ok) {id : Nat} (hl : S.isLive id = true) : id < 4294967296 ∧ id % 1024 < S.n := by
  obtain ⟨_, b⟩ := (S.isLive_iff h id).1 hl
  exact ⟨(h.id _ _ b).2.2, Nat.lt_of_lt_of_le (List.getElem?_eq_some_iff.1 b).1 h.le⟩
theorem St.live_one {S : St} (h : S.Ok) {x y : Nat} (hx : S.isLive x = true) (hy : S.isLive y = true) (he : x % 1024 = y % 1024) : x = y := by
  obtain ⟨_, a⟩ := (S.isLive_iff h x).1 hx
  obtain ⟨_, b⟩ := (S.isLive_iff h y).1 hy
  rw [he, b] at a
  exact (Option.some.inj a).symm
theorem St.take_live {S : St} (h : S.Ok) (he : S.take.2.1 = 0) : S.isLive S.take.1 = false ∧ ∀ x, S.take.2.2.isLive x = (decide (x = S.take.1) || S.isLive x) := by
  cases hf : S.freed.getLast? with
  | some f =>
    have ht : S.take = (S.last.getD f 0 + 1024, 0, S.again f) := by unfold St.take; rw [hf]
    have hm : f ∈ S.freed := by rw [dropLast_of _ _ hf]; simp
    obtain ⟨hu, x, hx, _⟩ := h.fr f hm
    obtain ⟨h1, h2, h3⟩ := h.id f x hx
    have hlt := (List.getElem?_eq_some_iff.1 hx).1
    have hlu := (List.getElem?_eq_some_iff.1 hu).1
    rw [ht]
    simp only [gd_some hx]
    have hmod : (x + 1024) % 1024 = f := by omega
    refine ⟨by unfold St.isLive; rw [hmod, gd_some hu]; rfl, fun y => ?_⟩
    unfold St.isLive St.again
    simp only [gd_some hx]
    by_cases c : y % 1024 = f
    · rw [c, gd_set_same _ _ _ _ hlu, gd_set_same _ _ _ _ hlt, gd_some hu]
      by_cases d : y = x + 1024
      · subst d; simp
      · have : ¬ x + 1024 = y := fun q => d q.symm
        simp [d, this]
    · rw [gd_set_other _ _ _ _ _ c, gd_set_other _ _ _ _ _ c]
      have d : ¬ y = x + 1024 := fun q => c (by rw [q]; exact hmod)
      simp [d]
  | none =>
    by_cases hl : S.last.length < S.n
    · have ht : S.take = (S.first * 1024 + S.last.length, 0, S.more) := by unfold St.take; rw [hf]; simp [hl]
      rw [ht]
      simp only
      have h2 := h.n2
      have hul := h.ul
      have hmod : (S.first * 1024 + S.last.length) % 1024 = S.last.length := by omega
      refine ⟨by unfold St.isLive; rw [hmod, gd_none (by omega)]; rfl, fun y => ?_⟩
      unfold St.isLive St.more
      simp only
      by_cases c : y % 1024 = S.last.length
      · rw [c, gd_snoc_same _ _ _ _ hul.symm, gd_snoc_same _ _ _ _ rfl, gd_none (l := S.used) (by omega)]
        by_cases d : y = S.first * 1024 + S.last.length
        · subst d; simp
        · have : ¬ S.first * 1024 + S.last.length = y := fun q => d q.symm
          simp [d, this]
      · rw [gd_snoc_other _ _ _ _ (by omega), gd_snoc_other _ _ _ _ c]
        have d : ¬ y = S.first * 1024 + S.last.length := fun q => c (by rw [q]; exact hmod)
        simp [d]
    · have ht : S.take = (0, 8, S) := by unfold St.take; rw [hf]; simp [hl]
      rw [ht] at he
      simp at he
theorem St.free_live {S : St} (h : S.Ok) {id : Nat} (hl : S.isLive id = true) : S.free id = (0, S.less id) ∧ ∀ x, (S.less id).isLive x = (S.isLive x && !decide (x = id)) := by
  refine ⟨by unfold St.free; rw [if_pos hl], fun x => ?_⟩
  obtain ⟨hu, hx⟩ := (S.isLive_iff h id).1 hl
  have hlu := (List.getElem?_eq_some_iff.1 hu).1
  unfold St.isLive St.less
  simp only
  by_cases c : x % 1024 = id % 1024
  · rw [c, gd_set_same _ _ _ _ hlu, gd_some hu, gd_some hx]
    by_cases d : x = id
    · subst d; simp
    · have : ¬ id = x := fun q => d q.symm
      simp [d, this]
  · rw [gd_set_other _ _ _ _ _ c]
    have d : ¬ x = id := fun q => c (by rw [q])
    simp [d]

structure Sto.Ok (σ : Sto) : Prop where
  s : σ.S.Ok
  ml : σ.mks.length = σ.S.n
  t : ∀ m, m < 64 → TOk m (σ.T m)
  lv : ∀ m, m < 64 → ∀ e ∈ σ.T m, σ.S.isLive e.1 = true ∧ σ.mks[e.1 % 1024]? = some m
  hm : ∀ x, σ.S.isLive x = true → ∃ m, m < 64 ∧ σ.mks[x % 1024]? = some m ∧ ∃ r, plc (σ.T m) x = some r
/-- all is right, but this one has no row -/
structure Sto.Lack (σ : Sto) (id : Nat) : Prop where
  s : σ.S.Ok
  ml : σ.mks.length = σ.S.n
  t : ∀ m, m < 64 → TOk m (σ.T m)
  li : σ.S.isLive id = true
  lv : ∀ m, m < 64 → ∀ e ∈ σ.T m, e.1 ≠ id ∧ σ.S.isLive e.1 = true ∧ σ.mks[e.1 % 1024]? = some m
  hm : ∀ x, x ≠ id → σ.S.isLive x = true → ∃ m, m < 64 ∧ σ.mks[x % 1024]? = some m ∧ ∃ r, plc (σ.T m) x = some r
theorem msk64 (C : List Cp) : msk C < 64 := mskN_lt C 6
theorem Sto.Lack.none {σ : Sto} {id : Nat} (h : σ.Lack id) {m : Nat} (hm : m < 64) : plc (σ.T m) id = Option.none := (plc_none _ _).2 (fun e he => (h.lv m hm e he).1)
theorem Sto.Lack.put {σ : Sto} {id : Nat} (h : σ.Lack id) {C : List Cp} (hC : lst (-1) C = 0) : (σ.put id C).Ok := by
  have h6 := msk64 C
  obtain ⟨hi, hn⟩ := St.live_lt h.s h.li
  rw [← h.ml] at hn
  have hset : (σ.mks.set (id % 1024) (msk C))[id % 1024]? = some (msk C) := List.getElem?_set_self hn
  have hother : ∀ x, x ≠ id → σ.S.isLive x = true → (σ.mks.set (id % 1024) (msk C))[x % 1024]? = σ.mks[x % 1024]? := fun x hx hl => List.getElem?_set_ne (fun q => hx (St.live_one h.s hl h.li q.symm))
  refine ⟨h.s, by simp [Sto.put, h.ml], ?_, ?_, ?_⟩
  · intro m hm
    show TOk m (upd σ.T (msk C) _ m)
    by_cases c : m = msk C
    · subst c
      rw [upd_same]
      exact (h.t _ hm).snoc (id, C) hi (h.none hm) hC rfl
    · rw [upd_other _ _ _ c]; exact h.t m hm
  · intro m hm e he
    show σ.S.isLive e.1 = true ∧ (σ.mks.set (id % 1024) (msk C))[e.1 % 1024]? = some m
    replace he : e ∈ upd σ.T (msk C) (σ.T (msk C) ++ [(id, C)]) m := he
    have old : e ∈ σ.T m → σ.S.isLive e.1 = true ∧ (σ.mks.set (id % 1024) (msk C))[e.1 % 1024]? = some m := fun he => by
      obtain ⟨a, b, c⟩ := h.lv m hm e he
      exact ⟨b, by rw [hother _ a b]; exact c⟩
    by_cases c : m = msk C
    · subst c
      rw [upd_same] at he
      rcases List.mem_append.1 he with he | he
      · exact old he
      · simp at he
        subst he
        exact ⟨h.li, hset⟩
    · rw [upd_other _ _ _ c] at he; exact old he
  · intro x hl
    by_cases hx : x = id
    · subst hx
      refine ⟨msk C, h6, hset, (σ.T (msk C)).length, ?_⟩
      show plc (upd σ.T (msk C) _ (msk C)) x = _
      rw [upd_same, plc_snoc _ (x, C) (h.none h6)]; simp
    · obtain ⟨m, hm, h1, r, h2⟩ := h.hm x hx hl
      refine ⟨m, hm, (hother x hx hl).trans h1, r, ?_⟩
      show plc (upd σ.T (msk C) _ m) x = _
      by_cases c : m = msk C
      · subst c
        rw [upd_same, plc_snoc _ (id, C) (h.none hm), if_neg hx]; exact h2
      · rw [upd_other _ _ _ c]; exact h2
theorem Sto.Ok.home {σ : Sto} (h : σ.Ok) {id : Nat} (hl : σ.S.isLive id = true) : σ.hom id < 64 ∧ id % 1024 < σ.mks.length ∧ ∃ r e, plc (σ.T (σ.hom id)) id = some r ∧ (σ.T (σ.hom id))[r]? = some e ∧ e.1 = id := by
  obtain ⟨m, hm, h1, r, h2⟩ := h.hm id hl
  have e : σ.hom id = m := gd_some h1
  obtain ⟨en, he, hx⟩ := (plc_some (h.t m hm).ap id r).1 h2
  rw [e]
  exact ⟨hm, (List.getElem?_eq_some_iff.1 h1).1, r, en, h2, he, hx⟩
theorem Sto.Ok.out {σ : Sto} (h : σ.Ok) {id r : Nat} (hl : σ.S.isLive id = true) (hr : plc (σ.T (σ.hom id)) id = some r) : (σ.out (σ.hom id) r).Lack id := by
  obtain ⟨h6, hn, _⟩ := h.home hl
  generalize hk : σ.hom id = k at *
  have hlt := plc_lt hr
  have hT := h.t k h6
  obtain ⟨last, hlast⟩ : ∃ e, (σ.T k)[(σ.T k).length - 1]? = some e := ⟨_, List.getElem?_eq_getElem (by omega)⟩
  have hmk : σ.mks[id % 1024]? = some k := by
    obtain ⟨m, _, h1, _⟩ := h.hm id hl
    rw [h1, ← hk]; congr 1; exact (gd_some h1).symm
  refine ⟨h.s, h.ml, ?_, hl, ?_, ?_⟩
  · intro m hm
    show TOk m (upd σ.T k _ m)
    by_cases c : m = k
    · subst c; rw [upd_same]; exact hT.outr r hlt
    · rw [upd_other _ _ _ c]; exact h.t m hm
  · intro m hm e he
    replace he : e ∈ upd σ.T k (outr (σ.T k) r) m := he
    by_cases c : m = k
    · subst c
      rw [upd_same] at he
      refine ⟨?_, h.lv m hm e (mem_outr hlt he)⟩
      have hp := plc_outr hT.ap hr hlast id
      rw [if_pos rfl, plc_none] at hp
      exact hp e he
    · rw [upd_other _ _ _ c] at he
      obtain ⟨a, b⟩ := h.lv m hm e he
      refine ⟨?_, a, b⟩
      intro q
      rw [q, hmk] at b
      exact c (Option.some.inj b).symm
  · intro x hx hlx
    obtain ⟨m, hm, h1, r', h2⟩ := h.hm x hlx
    refine ⟨m, hm, h1, ?_⟩
    show ∃ r', plc (upd σ.T k _ m) x = some r'
    by_cases c : m = k
    · subst c
      rw [upd_same, plc_outr hT.ap hr hlast x, if_neg hx]
      split
      · exact ⟨_, rfl⟩
      · exact ⟨_, h2⟩
    · rw [upd_other _ _ _ c]; exact ⟨_, h2⟩
theorem Sto.Ok.take {σ : Sto} (h : σ.Ok) (he : σ.S.take.2.1 = 0) : (Sto.Lack { σ with S := σ.S.take.2.2 } σ.S.take.1) := by
  obtain ⟨h1, h2⟩ := St.take_live h.s he
  have hne : ∀ x, σ.S.isLive x = true → x ≠ σ.S.take.1 := fun x hx q => by rw [q, h1] at hx; cases hx
  refine ⟨St.take_ok h.s, h.ml.trans (St.take_n _).1.symm, h.t, by simp [h2], ?_, ?_⟩
  · intro m hm e hx
    obtain ⟨a, b⟩ := h.lv m hm e hx
    exact ⟨hne _ a, by simp [h2, a], b⟩
  · intro x hx hl
    simp [h2, hx] at hl
    exact h.hm x hl
theorem Sto.Lack.free {σ : Sto} {id : Nat} (h : σ.Lack id) : (Sto.Ok { σ with S := σ.S.less id }) := by
  obtain ⟨_, h2⟩ := St.free_live h.s h.li
  refine ⟨St.less_ok h.s h.li, h.ml, h.t, ?_, ?_⟩
  · intro m hm e he
    obtain ⟨a, b, c⟩ := h.lv m hm e he
    exact ⟨by simp [h2, b, a], c⟩
  · intro x hx
    simp [h2] at hx
    exact h.hm x hx.2 hx.1
def Sto.new (n f : Nat) : Sto := ⟨St.new n f, List.replicate n 0, fun _ => []⟩
theorem Sto.new_ok (n f : Nat) (h1 : 1 ≤ n) (h2 : n ≤ 1024) (h3 : 1 ≤ f) (h4 : f ≤ 4194303) : (Sto.new n f).Ok :=
  ⟨St.new_ok n f h1 h2 h3 h4, by simp [Sto.new, St.new], fun m hm => TOk.nil hm, by simp [Sto.new], fun x hx => by simp [Sto.new, St.new, St.isLive] at hx⟩
end Go.Proofs.YtibdgdbkdnifbaaGreatDoor

/-
  A store's pull.
-/
namespace Go.Proofs.YtibdgdbkdnifbaaGreatDoor
open Go.RowKit Go.Maps
set_option linter.unusedVariables false

set_option maxHeartbeats 1000000 in
set_option maxRecDepth 100000 in
theorem pull_ok (w0 w : World) (l : List Thing) (b bs : Nat) (v : Value) (p : Nat → Option Nat) (σ : Sto) (K : Nat) (h : Own w0 w (StoX b σ K (bs, v, p) :: l)) (m : Nat) (hm : m < 64) (pt : Option Nat) (hp : p m = pt) (hT : TOk m (σ.T m)) (id : Nat) (hid : id < 4294967296) (r : Nat) (e : Ent) (hr : plc (σ.T m) id = some r) (he : (σ.T m)[r]? = some e) (hK : K < 1000000) :
    Calls Tryz.prog 34 #[.pointer (some ⟨b, 0, none⟩), .pointer (pp pt), .int .u32 (id : Int)] w fun out w' => ∃ ao cap, out = .returned (.slice ao e.2.length cap) ∧ Own w0 w' (Row 48 4 (.slice ao e.2.length cap) e.2.length (ccat e.2) :: Store b (σ.out m r) (K + 1) :: l) := by
  cases pt with
  | none => exact absurd (h.stoN hm hp).1 (fun q => by rw [q] at he; simp at he)
  | some bt =>
  rw [pp_some]
  obtain ⟨c, hc, hne, hlen, hO⟩ := h.stoB hm hp
  have HR : Hid (Calls _ _ _ _ _) := tremC w0 w _ bt m (σ.T m) c hO hT id hid r e hr he (by omega) (by omega)
  have hrl := (List.getElem?_eq_some_iff.1 he).1
  have hol : (outr (σ.T m) r).length = (σ.T m).length - 1 := length_outr _ _ hrl
  have HE : Hid (∀ w' l', Own w0 w' (Table bt m (outr (σ.T m) r) (c + 1) :: StoB b σ K (bs, v, p) m :: l') → outr (σ.T m) r ≠ [] → Own w0 w' (Store b (σ.out m r) (K + 1) :: l')) := fun w' l' h' hn => (h'.stoBX hm hp (by omega) (by omega) hn (by omega)).xSto
  have HZ : Hid (∀ w' l', Own w0 w' (StoB b σ K (bs, v, upd p m none) m :: l') → outr (σ.T m) r = [] → Own w0 w' (Store b (σ.out m r) (K + 1) :: l')) := fun w' l' h' hn => ((h'.tabEmpty hn).stoI hm (by omega)).xSto
  have HLN : Hid (∀ w' l', Own w0 w' (Table bt m (outr (σ.T m) r) (c + 1) :: l') → Calls Tryz.prog 73 #[.pointer (some ⟨bt, 0, none⟩)] w' fun e w'' => e = .returned (.int .i64 ((outr (σ.T m) r).length : Int)) ∧ w'' = w') := fun w' l' h' => by have := tlen w0 w' l' bt m _ _ _ _ h'; rw [length_ids] at this; exact this
  have HMM : Hid (∀ w' l', Own w0 w' (Table bt m (outr (σ.T m) r) (c + 1) :: l') → Calls Tryz.prog 74 #[.pointer (some ⟨bt, 0, none⟩)] w' fun e w'' => e = .returned (.int .u8 (m : Int)) ∧ w'' = w') := fun w' l' h' => tmask w0 w' l' bt m _ _ _ _ h'
  clear h hO hT hr he hrl hol hlen hne hid hc hK
  generalize outr (σ.T m) r = L2 at *
  generalize e.2 = C at *
  have hm' : (m : Int) < 64 := by omega
  by_cases hz : L2 = []
  · subst hz
    go_enter Tryz.func34, Tryz.ntmps34
    go_wp2_with fail
    refine HR.out.mono ?_
    rintro out w1 ⟨ao, cap, rfl, hO⟩
    have H1 : Hid (Own w0 w1 (Table bt m [] (c + 1) :: Row 48 4 (.slice ao C.length cap) C.length (ccat C) :: StoB b σ K (bs, v, p) m :: l)) := hO.two
    clear hO HR
    go_wp2_with fail
    refine (HLN.out _ _ H1.out).mono ?_
    rintro out w2 ⟨rfl, rfl⟩
    simp only [List.length_nil]
    obtain ⟨qc, qz⟩ := H1.out.three.stoBcell m hm
    have HS : Hid (∀ w', Own w0 w' (StoB b σ K (bs, v, p) m :: Table bt m [] (c + 1) :: Row 48 4 (.slice ao C.length cap) C.length (ccat C) :: l) → Own w0 (w'.setCell ⟨b, 2 + m, none⟩ (.pointer none)) (Row 48 4 (.slice ao C.length cap) C.length (ccat C) :: Store b (σ.out m r) (K + 1) :: l)) := fun w' h' => (HZ.out _ _ (h'.stoBset hm none).two.tail (by trivial)).two
    go_wp2_with fail
    go_region_with (
      go_at_call 74
      refine (HMM.out _ _ H1.out.drew).mono ?_
      rintro e w3 ⟨rfl, rfl⟩)
    all_goals
      go_wp2
      go_ret
      exact ⟨ao, cap, rfl, HS.out _ H1.out.three.drew⟩
  · have hz' : ¬ ((L2.length : Nat) : Int) = 0 := by
      intro q
      exact hz (List.eq_nil_of_length_eq_zero (by omega))
    have HNZ : Hid (L2 ≠ []) := hz
    clear hz
    go_enter Tryz.func34, Tryz.ntmps34
    go_wp2_with fail
    refine HR.out.mono ?_
    rintro out w1 ⟨ao, cap, rfl, hO⟩
    have H1 : Hid (Own w0 w1 (Table bt m L2 (c + 1) :: Row 48 4 (.slice ao C.length cap) C.length (ccat C) :: StoB b σ K (bs, v, p) m :: l)) := hO.two
    clear hO HR
    go_wp2_with fail
    refine (HLN.out _ _ H1.out).mono ?_
    rintro out w2 ⟨rfl, rfl⟩
    go_wp2
    go_ret
    exact ⟨ao, cap, rfl, (HE.out _ _ H1.out.in23 HNZ.out).two⟩
end Go.Proofs.YtibdgdbkdnifbaaGreatDoor

/-
  A store's Spawn, Despawn and New.
-/
namespace Go.Proofs.YtibdgdbkdnifbaaGreatDoor
open Go.RowKit Go.Maps
set_option linter.unusedVariables false

theorem Own.stoK {w0 w : World} {l : List Thing} {b : Nat} {σ : Sto} {K K' : Nat} (hK : K ≤ K') (h : Own w0 w (Store b σ K :: l)) : Own w0 w (Store b σ K' :: l) := by
  obtain ⟨bs, v, p, h⟩ := h.stoX
  exact (Own.stoS (TabsOn.mono hK h.stoO.four).back4).xSto
def Sto.spawn (σ : Sto) (C : List Cp) : Nat × Int × Sto :=
  if lst (-1) C ≠ 0 then (0, (lst (-1) C : Int), σ) else if σ.S.take.2.1 ≠ 0 then (0, σ.S.take.2.1, σ) else (σ.S.take.1, 0, Sto.put { σ with S := σ.S.take.2.2 } σ.S.take.1 C)
theorem Sto.spawn_ok {σ : Sto} (h : σ.Ok) (C : List Cp) : (σ.spawn C).2.2.Ok := by
  unfold Sto.spawn
  split
  · exact h
  · rename_i h0
    split
    · exact h
    · rename_i h1
      exact (h.take (by simpa using h1)).put (by simpa using h0)
/-- what goes -/
def Sto.despawn (σ : Sto) (id : Nat) : Int × Sto :=
  if σ.S.isLive id then (0, { σ.out (σ.hom id) ((plc (σ.T (σ.hom id)) id).getD 0) with S := σ.S.less id }) else (7, σ)
theorem Sto.despawn_ok {σ : Sto} (h : σ.Ok) (id : Nat) : (σ.despawn id).2.Ok := by
  unfold Sto.despawn
  split
  · rename_i hl
    obtain ⟨_, _, r, e, hr, _⟩ := h.home hl
    rw [hr]
    exact (h.out hl hr).free
  · exact h

set_option maxHeartbeats 1000000 in
set_option maxRecDepth 100000 in
theorem spawnC (w0 w : World) (l : List Thing) (b : Nat) (σ : Sto) (K : Nat) (ht : Tab w0) (h : Own w0 w (Store b σ K :: l)) (hσ : σ.Ok)
    (ao : Option Addr) (len cap : Nat) (C : List Cp) (hCl : C.length = len) (hCs : ∀ w', Own w0 w' l → Cs w' ao C) (hCk : ∀ q ∈ C, q.k < 256) (hlen : len ≤ 1000000) (hK : K < 1000000) :
    Calls Tryz.prog 8 #[.pointer (some ⟨b, 0, none⟩), .slice ao len cap] w fun e w' => e = .returned (.tuple #[.int .u32 ((σ.spawn C).1 : Int), .int .i64 (σ.spawn C).2.1]) ∧ Own w0 w' (Store b (σ.spawn C).2.2 (K + 1) :: l) := by
  have H : Hid (Own w0 w (Store b σ K :: l)) := h
  have HLS : Hid (Calls _ _ _ _ _) := list_any w (ht.quiet h.fr) ao len cap C hCl (hCs _ h.tail) hCk hlen
  by_cases h0 : lst (-1) C = 0
  · rw [h0] at HLS
    have HTK : Hid (∀ w', Own w0 w' (Store b σ K :: l) → ∃ bs, w'.cell? ⟨b, 0, none⟩ = some (.pointer (some ⟨bs, 0, none⟩)) ∧ Calls Tryz.prog 28 #[.pointer (some ⟨bs, 0, none⟩)] w' fun e w'' => e = .returned (.tuple #[.int .u32 (σ.S.take.1 : Int), .int .i64 σ.S.take.2.1]) ∧ Own w0 w'' (Store b { σ with S := σ.S.take.2.2 } K :: l)) := by
      intro w' h'
      obtain ⟨bs, v, p, h'⟩ := h'.stoX
      refine ⟨bs, (stoCells h').1, (take_ok w0 w' _ bs σ.S h'.stoO.two hσ.s).mono ?_⟩
      rintro e w'' ⟨rfl, h2⟩
      exact ⟨rfl, (Own.stoS (σ := { σ with S := σ.S.take.2.2 }) h2.two).xSto⟩
    by_cases h1 : σ.S.take.2.1 = 0
    · have HV : Hid (σ.spawn C = (σ.S.take.1, 0, Sto.put { σ with S := σ.S.take.2.2 } σ.S.take.1 C)) := by show _ = _; unfold Sto.spawn; rw [if_neg (by simp [h0]), if_neg (by simp [h1])]
      have hL := hσ.take h1
      have hli := St.live_lt hL.s hL.li
      have HPU : Hid (∀ w', Own w0 w' (Store b { σ with S := σ.S.take.2.2 } K :: l) → Calls Tryz.prog 29 #[.pointer (some ⟨b, 0, none⟩), .int .u32 (σ.S.take.1 : Int), .slice ao len cap] w' fun e w'' => e = .returned (.tuple #[]) ∧ Own w0 w'' (Store b (Sto.put { σ with S := σ.S.take.2.2 } σ.S.take.1 C) (K + 1) :: l)) := by
        intro w' h'
        obtain ⟨bs, v, p, h'⟩ := h'.stoX
        exact put_ok w0 w' l b bs v p _ K ht h' σ.S.take.1 hli.1 (by rw [hL.ml]; exact hli.2) ao len cap C hCl hCs hCk hlen h0 (hL.t _ (msk64 C)) (hL.none (msk64 C)) hK
      rw [h1] at HTK
      clear h hCs hσ h0 h1 hL hli
      go_enter Tryz.func8, Tryz.ntmps8
      go_wp2_with fail
      refine HLS.out.mono ?_
      rintro e w1 ⟨rfl, hf⟩
      obtain ⟨bs, q0, htk⟩ := HTK.out _ (H.out.quiet hf)
      have HTK1 : Hid (Calls _ _ _ _ _) := htk
      clear htk hf HTK H HLS
      go_wp2_with fail
      refine HTK1.out.mono ?_
      rintro e w2 ⟨rfl, hO⟩
      have H2 : Hid (Own w0 w2 _) := hO
      clear hO HTK1
      go_wp2_with fail
      refine (HPU.out _ H2.out).mono ?_
      rintro e w3 ⟨rfl, hO⟩
      have H3 : Hid (Own w0 w3 _) := hO
      clear hO
      go_wp2
      go_ret2
      rw [HV.out]
      exact ⟨rfl, H3.out⟩
    · have HV : Hid (σ.spawn C = (0, σ.S.take.2.1, σ)) := by show _ = _; unfold Sto.spawn; rw [if_neg (by simp [h0]), if_pos (by simp [h1])]
      have HS : Hid (σ.S.take.2.2 = σ.S) := by
        show _ = _
        unfold St.take at h1 ⊢
        split at h1
        · exact absurd rfl h1
        · split at h1
          · exact absurd rfl h1
          · rename_i c; simp [c]
      clear h hCs hσ h0
      generalize σ.S.take.2.1 = r at *
      have h1' : (r == (0 : Int)) = false := by simpa using h1
      go_enter Tryz.func8, Tryz.ntmps8
      go_wp2_with fail
      refine HLS.out.mono ?_
      rintro e w1 ⟨rfl, hf⟩
      obtain ⟨bs, q0, htk⟩ := HTK.out _ (H.out.quiet hf)
      have HTK1 : Hid (Calls _ _ _ _ _) := htk
      clear htk hf HTK H HLS
      go_wp2_with fail
      refine HTK1.out.mono ?_
      rintro e w2 ⟨rfl, hO⟩
      rw [HS.out] at hO
      have H2 : Hid (Own w0 w2 _) := hO
      clear hO HTK1
      go_wp2
      go_ret2
      rw [HV.out]
      exact ⟨rfl, H2.out.stoK (Nat.le_succ K)⟩
  · have HV : Hid (σ.spawn C = (0, (lst (-1) C : Int), σ)) := by show _ = _; unfold Sto.spawn; rw [if_pos h0]
    clear h hCs hσ
    generalize lst (-1) C = r at *
    have h1' : ((r : Int) == (0 : Int)) = false := by simp; omega
    go_enter Tryz.func8, Tryz.ntmps8
    go_wp2_with fail
    refine HLS.out.mono ?_
    rintro e w1 ⟨rfl, hf⟩
    have H1 : Hid (Own w0 w1 (Store b σ K :: l)) := H.out.quiet hf
    clear hf H HLS
    go_wp2
    go_ret2
    rw [HV.out]
    exact ⟨rfl, H1.out.stoK (Nat.le_succ K)⟩
end Go.Proofs.YtibdgdbkdnifbaaGreatDoor

/-
  A store's Despawn and New; what is told of its numbers.
-/
namespace Go.Proofs.YtibdgdbkdnifbaaGreatDoor
open Go.RowKit Go.Maps
set_option linter.unusedVariables false

/-- a row that is made -/
theorem Own.made {P : Program} {w0 w : World} {l : List Thing} (h : Own w0 w l) (t e : TypeId) (i : TypeInfo) (z : Value) (size : Nat) (ht : P.underlying t = some (.slice e)) (hi : P.info? e = some i) (hz : i.zero = some z) (hsize : i.size = size)
    (n : Nat) (hbytes : i.bytes * n ≤ 281474976710656) (h63 : n ≤ maxLen) :
    ∃ w', (Instr.makeSlice t (.int .i64 (n : Int)) (.int .i64 (n : Int))).run P w = .ok (.slice (some ⟨w.heap.size, 0, none⟩) n n) w' ∧ Own w0 w' (Row e size (.slice (some ⟨w.heap.size, 0, none⟩) n n) n (madeCells z.cells (n * size)).toList :: l) ∧ Fr Nobody w w' ∧ w.heap.size < w'.heap.size := by
  obtain ⟨w', h1, h2, h3⟩ := run_make_full (P := P) w 0 t e i z size ht hi hz hsize .i64 .i64 n hbytes h63 (Nat.zero_le _)
  have hf : Fr Nobody w w' := (Fr.refl _ _).grown h3 (by simp)
  exact ⟨w', h1, h.new (Row e size (.slice (some ⟨w.heap.size, 0, none⟩) n n) n _) (fun k => k = w.heap.size) ⟨h2, fun k => by simp [Value.ownBlock]; exact eq_comm⟩ hf (fun k hk => by omega), hf, (h2.lt _ rfl).2⟩
theorem made_bytes (n : Nat) : (madeCells #[.int .u8 0] (n * 1)).toList = irow .u8 (List.replicate n 0) := by
  apply List.ext_getElem?
  intro i
  rw [getElem?_irow]
  by_cases h : i < n
  · have : i % 1 = 0 := Nat.mod_one i
    simp [madeCells, h, this]
  · simp [madeCells, h]
theorem Tryz.infoB2 : (Tryz.prog.info? 5).map (fun i => (i.zero, i.size, i.bytes)) = some (some (.int .u8 0), 1, 1) := by kernel_rfl
set_option maxRecDepth 100000 in
theorem scells_zero (bs : Nat) (v : Value) : (Tryz.zeroCells74.setIfInBounds 0 (.pointer (some ⟨bs, 0, none⟩))).setIfInBounds 1 v = scells bs v (fun _ => none) := by kernel_rfl
set_option maxHeartbeats 1000000 in
set_option maxRecDepth 100000 in
theorem snew (w0 w : World) (l : List Thing) (n f : Nat) (h : Own w0 w l) (h1 : 1 ≤ n) (h2 : n ≤ 1024) (h3 : 1 ≤ f) (h4 : f ≤ 4194303) :
    Calls Tryz.prog 5 #[.int .i64 (n : Int), .int .i64 (f : Int)] w fun e w' => ∃ b, e = .returned (.tuple #[.pointer (some ⟨b, 0, none⟩), .int .i64 0]) ∧ Own w0 w' (Store b (Sto.new n f) 0 :: l) := by
  obtain ⟨i0, hi, hz0, hz1, hz2⟩ := info_parts Tryz.infoB2
  have HN : Hid (Calls _ _ _ _ _) := new_ok w0 w l n f h h1 h2 h3 h4
  have HM : Hid (∀ w' l', Own w0 w' l' → ∃ w'', (Instr.makeSlice 68 (.int .i64 (n : Int)) (.int .i64 (n : Int))).run Tryz.prog w' = .ok (.slice (some ⟨w'.heap.size, 0, none⟩) n n) w'' ∧ Own w0 w'' (Row 5 1 (.slice (some ⟨w'.heap.size, 0, none⟩) n n) n (irow .u8 (List.replicate n 0)) :: l')) := by
    intro w' l' h'
    obtain ⟨w'', r1, r2, _⟩ := h'.made (P := Tryz.prog) 68 5 i0 (.int .u8 0) 1 Tryz.underlying68 hi hz0 hz1 n (by rw [hz2]; omega) (by unfold maxLen; omega)
    have e2 : Value.cells (.int .u8 0) = #[.int .u8 0] := by rfl
    rw [e2, made_bytes] at r2
    exact ⟨w'', r1, r2⟩
  clear hi hz0 hz1 hz2 h
  go_enter Tryz.func5, Tryz.ntmps5
  go_wp2_with fail
  refine HN.out.mono ?_
  rintro e w1 ⟨bs, rfl, _, hO⟩
  obtain ⟨w2, hmk, hO2⟩ := HM.out _ _ hO
  have H2 : Hid (Own w0 w2 _) := hO2
  clear hO hO2 HM HN
  go_wp2
  go_ret2
  refine ⟨_, rfl, ?_⟩
  have k := H2.out.allocC (scells bs (.slice (some ⟨w1.heap.size, 0, none⟩) n n) (fun _ => none)) 74
  rw [← scells_zero] at k
  have k2 := (k.in23.tabsNew 0).back4
  refine (Own.stoS (σ := Sto.new n f) (bs := bs) (v := .slice (some ⟨w1.heap.size, 0, none⟩) n n) (p := fun _ => none) ?_).xSto
  have e : (Sto.new n f).mks.length = n := by simp [Sto.new]
  rw [e, ← scells_zero]
  exact k2

set_option maxHeartbeats 1000000 in
theorem despawnC (w0 w : World) (l : List Thing) (b : Nat) (σ : Sto) (K : Nat) (h : Own w0 w (Store b σ K :: l)) (hσ : σ.Ok) (id : Nat) (hid : id < 4294967296) (hK : K < 1000000) :
    Calls Tryz.prog 10 #[.pointer (some ⟨b, 0, none⟩), .int .u32 (id : Int)] w fun e w' => e = .returned (.int .i64 (σ.despawn id).1) ∧ Own w0 w' (Store b (σ.despawn id).2 (K + 1) :: l) := by
  obtain ⟨bs, v, p, h⟩ := h.stoX
  by_cases hl : σ.S.isLive id = true
  · obtain ⟨h6, hn, r, e, hr, he, hx⟩ := hσ.home hl
    have HH : Hid (Calls _ _ _ _ _) := home_ok w0 w l b bs v p σ K h hσ.s id hid hl hn h6
    have HP : Hid (∀ w', Own w0 w' (StoX b σ K (bs, v, p) :: l) → Calls Tryz.prog 34 #[.pointer (some ⟨b, 0, none⟩), .pointer (pp (p (σ.hom id))), .int .u32 (id : Int)] w' fun out w'' => ∃ ao cap, out = .returned (.slice ao e.2.length cap) ∧ Own w0 w'' (Row 48 4 (.slice ao e.2.length cap) e.2.length (ccat e.2) :: Store b (σ.out (σ.hom id) r) (K + 1) :: l)) := fun w' h' => pull_ok w0 w' l b bs v p σ K h' (σ.hom id) h6 _ rfl (hσ.t _ h6) id hid r e hr he hK
    have HV : Hid (σ.despawn id = (0, { σ.out (σ.hom id) r with S := σ.S.less id })) := by show _ = _; unfold Sto.despawn; rw [if_pos hl, hr]; rfl
    have HF : Hid (∀ w', Own w0 w' (Store b (σ.out (σ.hom id) r) (K + 1) :: l) → ∃ bs, w'.cell? ⟨b, 0, none⟩ = some (.pointer (some ⟨bs, 0, none⟩)) ∧ Calls Tryz.prog 35 #[.pointer (some ⟨bs, 0, none⟩), .int .u32 (id : Int)] w' fun e w'' => e = .returned (.int .i64 0) ∧ Own w0 w'' (Store b { σ.out (σ.hom id) r with S := σ.S.less id } (K + 1) :: l)) := by
      intro w' h'
      obtain ⟨bs, v, p, h'⟩ := h'.stoX
      have k := free_ok w0 w' _ bs (σ.out (σ.hom id) r).S id h'.stoO.two hσ.s hid
      rw [show (σ.out (σ.hom id) r).S = σ.S from rfl, (St.free_live hσ.s hl).1] at k
      refine ⟨bs, (stoCells h').1, k.mono ?_⟩
      rintro e w'' ⟨rfl, h2⟩
      exact ⟨rfl, (Own.stoS (σ := { σ.out (σ.hom id) r with S := σ.S.less id }) h2.two).xSto⟩
    clear h hσ hl hr he hx hK
    generalize pp (p (σ.hom id)) = pt at *
    go_enter Tryz.func10, Tryz.ntmps10
    go_wp2_with fail
    refine HH.out.mono ?_
    rintro e w1 ⟨rfl, hO⟩
    have HP1 : Hid (Calls _ _ _ _ _) := HP.out _ hO
    clear hO HH HP
    go_wp2_with fail
    refine HP1.out.mono ?_
    rintro e w2 ⟨ao, cap, rfl, hO⟩
    obtain ⟨bs2, q0, hfr⟩ := HF.out _ hO.tail
    have HF1 : Hid (Calls _ _ _ _ _) := hfr
    clear hO hfr HP1 HF
    go_wp2_with fail
    refine HF1.out.mono ?_
    rintro e w3 ⟨rfl, hO⟩
    have H3 : Hid (Own w0 w3 _) := hO
    clear hO
    go_wp2
    go_ret
    rw [HV.out]
    exact ⟨rfl, H3.out⟩
  · have hl' : σ.S.isLive id = false := by simpa using hl
    have HH : Hid (Calls _ _ _ _ _) := home_dead w0 w l b bs v p σ K h hσ.s id hid hl'
    have HV : Hid (σ.despawn id = (7, σ)) := by show _ = _; unfold Sto.despawn; rw [if_neg hl]
    clear h hσ hl hl'
    go_enter Tryz.func10, Tryz.ntmps10
    go_wp2_with fail
    refine HH.out.mono ?_
    rintro e w1 ⟨rfl, hO⟩
    have H1 : Hid (Own w0 w1 _) := hO
    clear hO HH
    go_wp2
    go_ret
    rw [HV.out]
    exact ⟨rfl, H1.out.xSto.stoK (Nat.le_succ K)⟩
end Go.Proofs.YtibdgdbkdnifbaaGreatDoor

/-
  An entity with all its components.
-/
namespace Go.Proofs.YtibdgdbkdnifbaaGreatDoor
open Go.RowKit Go.Maps
set_option linter.unusedVariables false
set_option maxRecDepth 100000

theorem upd_self {α : Type} (f : Nat → α) (k : Nat) : upd f k (f k) = f := by
  funext j; unfold upd; split
  · rename_i e; rw [e]
  · rfl
theorem Own.stoT {w0 w : World} {l : List Thing} {b bs : Nat} {v : Value} {p : Nat → Option Nat} {σ : Sto} {K m bt c : Nat} (h : Own w0 w (Table bt m (σ.T m) c :: StoB b σ K (bs, v, p) m :: l)) (hm : m < 64) (hp : p m = some bt) (hc : c ≤ K) (hL : σ.T m ≠ []) (hl : (σ.T m).length ≤ K) : Own w0 w (StoX b σ K (bs, v, p) :: l) := by
  have k := h.stoBX hm hp (Nat.le_refl K) hc hL hl
  rw [upd_self] at k
  exact k
theorem stoP {w0 w : World} {l : List Thing} {b bs : Nat} {v : Value} {p : Nat → Option Nat} {σ : Sto} {K m r : Nat} {e : Ent} (h : Own w0 w (StoX b σ K (bs, v, p) :: l)) (hm : m < 64) (he : (σ.T m)[r]? = some e) : ∃ bt, p m = some bt := by
  cases hp : p m with
  | none => exact absurd (h.stoN hm hp).1 (fun q => by rw [q] at he; simp at he)
  | some bt => exact ⟨bt, rfl⟩
set_option maxHeartbeats 2000000 in
theorem sent (w0 w : World) (l : List Thing) (b : Nat) (σ : Sto) (K : Nat) (h : Own w0 w (Store b σ K :: l)) (hσ : σ.Ok) (id : Nat) (hid : id < 4294967296) (hl : σ.S.isLive id = true) (r : Nat) (C : List Cp) (he : (σ.T (σ.hom id))[r]? = some (id, C)) (hK : K ≤ 1000000) :
    Calls Tryz.prog 56 #[.pointer (some ⟨b, 0, none⟩), .int .u32 (id : Int)] w fun e w' => ∃ ao cap, e = .returned (.tuple #[.agg #[.int .u32 (id : Int), .slice ao C.length cap], .int .i64 0]) ∧ Own w0 w' (Row 48 4 (.slice ao C.length cap) C.length (ccat C) :: Store b σ K :: l) := by
  obtain ⟨bs, v, p, h⟩ := h.stoX
  obtain ⟨h6, hn, _⟩ := hσ.home hl
  have hr : plc (σ.T (σ.hom id)) id = some r := (plc_some (hσ.t _ h6).ap id r).2 ⟨_, he, rfl⟩
  have hA := (h.allocC #[.int .u32 0, .slice none 0 0] 94).two
  have HH : Hid (Calls _ _ _ _ _) := home_ok w0 _ _ b bs v p σ K hA hσ.s id hid hl hn h6
  obtain ⟨bt, hp⟩ := stoP h h6 he
  rw [hp, pp_some] at HH
  have HRW : Hid (∀ w' l', Own w0 w' (StoX b σ K (bs, v, p) :: l') → Calls Tryz.prog 79 #[.pointer (some ⟨bt, 0, none⟩), .int .u32 (id : Int)] w' fun e w'' => e = .returned (.tuple #[.int .i64 (r : Int), .bool true]) ∧ w'' = w') := by
    intro w' l' h'
    obtain ⟨c, _, _, _, h2⟩ := h'.stoB h6 hp
    have k := trow w0 w' _ bt _ _ _ _ c h2 id hid
    rw [hr] at k
    exact k
  have HAT : Hid (∀ w' l', Own w0 w' (StoX b σ K (bs, v, p) :: l') → Calls Tryz.prog 92 #[.pointer (some ⟨bt, 0, none⟩), .int .i64 (r : Int)] w' fun out w'' => ∃ ao cap, out = .returned (.tuple #[.agg #[.int .u32 (id : Int), .slice ao C.length cap], .bool true]) ∧ Own w0 w'' (Row 48 4 (.slice ao C.length cap) C.length (ccat C) :: StoX b σ K (bs, v, p) :: l')) := by
    intro w' l' h'
    obtain ⟨c, hc, hne, hlen, h2⟩ := h'.stoB h6 hp
    refine (tatC w0 w' _ bt _ _ c h2 (hσ.t _ h6) r (id, C) he (by omega)).mono ?_
    rintro e w'' ⟨ao, cap, rfl, h3⟩
    refine ⟨ao, cap, rfl, ?_⟩
    have h4 : Own w0 w'' (Table bt (σ.hom id) (σ.T (σ.hom id)) c :: StoB b σ K (bs, v, p) (σ.hom id) :: Row 48 4 (.slice ao C.length cap) C.length (ccat C) :: l') := h3.back3
    exact (h4.stoT h6 hp hc hne hlen).two
  clear h hA hσ hl he hr hp hn hid
  go_enter Tryz.func56, Tryz.ntmps56
  go_wp2_with fail
  refine HH.out.mono ?_
  rintro e w1 ⟨rfl, hO⟩
  have H1 : Hid (Own w0 w1 _) := hO
  clear hO HH
  go_wp2_with fail
  refine (HRW.out _ _ H1.out).mono ?_
  rintro e w2 ⟨rfl, rfl⟩
  go_wp2_with fail
  refine (HAT.out _ _ H1.out).mono ?_
  rintro e w3 ⟨ao, cap, rfl, hO⟩
  have hB := (hO.allocC #[.int .u32 (id : Int), .slice ao C.length cap] 94).four
  have x0 := hB.two.cell 0
  have x1 := hB.two.cell 1
  have z0 := hB.cell 0
  have z1 := hB.cell 1
  simp at x0 x1 z0 z1
  have y0 := hB.froz 0
  have y1 := hB.froz 1
  have hne1 : w3.heap.size ≠ w.heap.size := by
    have := hO.three.lt
    omega
  have hne2 : w.heap.size ≠ w3.heap.size := fun q => hne1 q.symm
  have HF : Hid (Own w0 _ _) := (hB.setC 0 (.int .u32 (id : Int))).setC 1 (.slice ao C.length cap)
  clear hO hB HAT HRW H1
  go_wp2
  (try simp only [Exit.inBlock, Exit.then])
  refine bodyPost_ret (v := .tuple #[.agg #[.int .u32 (id : Int), .slice ao C.length cap], .int .i64 0]) ?_ rfl ⟨ao, cap, rfl, ?_⟩
  · rw [results_cell_tmp rfl]
    have r0 := HF.out.cell 0
    have r1 := HF.out.cell 1
    simp at r0 r1
    go_simp
  · exact HF.out.tail.tail.two.xSto.two
end Go.Proofs.YtibdgdbkdnifbaaGreatDoor

/-
  A component more: what becomes of a store.
-/
namespace Go.Proofs.YtibdgdbkdnifbaaGreatDoor
open Go.RowKit Go.Maps
set_option linter.unusedVariables false
set_option maxRecDepth 100000

theorem insw_cons (q : Cp) (t : List Cp) (c : Cp) : insw (q :: t) c = if q.k < c.k then q :: insw t c else c :: q :: t := by
  unfold insw
  by_cases h : q.k < c.k <;> simp [h]
theorem insw_mem {C : List Cp} {c x : Cp} (h : x ∈ insw C c) : x ∈ C ∨ x = c := by
  induction C with
  | nil => simp [insw] at h; exact .inr h
  | cons q t ih =>
    rw [insw_cons] at h
    split at h
    · rcases List.mem_cons.1 h with rfl | h
      · exact .inl List.mem_cons_self
      · rcases ih h with h | h
        · exact .inl (List.mem_cons_of_mem _ h)
        · exact .inr h
    · rcases List.mem_cons.1 h with rfl | h
      · exact .inr rfl
      · exact .inl h
theorem insw_sorted {C : List Cp} {c : Cp} (h : C.Pairwise (fun x y => x.k < y.k)) (hk : hasK C c.k = false) : (insw C c).Pairwise (fun x y => x.k < y.k) := by
  induction C with
  | nil => simp [insw]
  | cons q t ih =>
    obtain ⟨h1, h2⟩ := List.pairwise_cons.1 h
    have hq : q.k ≠ c.k := by
      intro e
      have : hasK (q :: t) c.k = true := (hasK_iff _ _).2 ⟨q, List.mem_cons_self, e⟩
      rw [hk] at this; cases this
    have ht : hasK t c.k = false := by
      cases hh : hasK t c.k with
      | false => rfl
      | true =>
        obtain ⟨x, hx, e⟩ := (hasK_iff _ _).1 hh
        have : hasK (q :: t) c.k = true := (hasK_iff _ _).2 ⟨x, List.mem_cons_of_mem _ hx, e⟩
        rw [hk] at this; cases this
    rw [insw_cons]
    split
    · rename_i hlt
      refine List.pairwise_cons.2 ⟨fun x hx => ?_, ih h2 ht⟩
      rcases insw_mem hx with hx | hx
      · exact h1 x hx
      · rw [hx]; exact hlt
    · rename_i hlt
      refine List.pairwise_cons.2 ⟨fun x hx => ?_, h⟩
      rcases List.mem_cons.1 hx with rfl | hx
      · omega
      · have := h1 x hx; omega
theorem insw_ok {C : List Cp} {c : Cp} (h : lst (-1) C = 0) (hc : c.chk = 0) (hk : hasK C c.k = false) : lst (-1) (insw C c) = 0 := by
  rw [lst_iff] at h ⊢
  refine ⟨insw_sorted h.1 hk, fun x hx => ?_⟩
  rcases insw_mem hx with hx | hx
  · exact h.2 x hx
  · rw [hx]; exact hc
theorem insw_len (C : List Cp) (c : Cp) : (insw C c).length = C.length + 1 := by
  unfold insw
  have := congrArg List.length (List.takeWhile_append_dropWhile (p := fun q => decide (q.k < c.k)) (l := C))
  rw [List.length_append] at this
  rw [List.length_append, List.length_cons]; omega

section
variable (w0 w : World) (l : List Thing) (b bs : Nat) (v : Value) (p : Nat → Option Nat) (σ : Sto) (K : Nat)
set_option maxHeartbeats 1000000 in
theorem homeFor_bad (ht : Tab w0) (h : Own w0 w (StoX b σ K (bs, v, p) :: l)) (id : Nat) (c : Cp) (hk : c.k < 256) (hc : c.chk ≠ 0) :
    Calls Tryz.prog 40 #[.pointer (some ⟨b, 0, none⟩), .int .u32 (id : Int), c.ag] w fun e w' => e = .returned (.tuple #[.pointer none, .int .i64 (c.chk : Int)]) ∧ Own w0 w' (StoX b σ K (bs, v, p) :: l) := by
  obtain ⟨ck, ca, cb, cc⟩ := c
  have hA := h.alloc (.cells #[.int .u8 (ck : Int), .int .i32 ca, .int .i32 cb, .int .i32 cc] 48)
  have HC : Hid (Calls _ _ _ _ _) := check3 _ (ht.quiet hA.fr) ck hk ca cb cc
  have HA : Hid (Own w0 _ _) := hA
  have hx : ¬ ((Cp.chk ⟨ck, ca, cb, cc⟩ : Nat) : Int) = 0 := by omega
  show Calls _ _ #[_, _, .agg #[.int .u8 (ck : Int), .int .i32 ca, .int .i32 cb, .int .i32 cc]] _ _
  change Hid (Calls _ _ _ _ fun e w' => e = .returned (.int .i64 ((Cp.chk ⟨ck, ca, cb, cc⟩ : Nat) : Int)) ∧ _) at HC
  generalize Cp.chk ⟨ck, ca, cb, cc⟩ = x at *
  clear h hA hc
  go_enter Tryz.func40, Tryz.ntmps40
  go_wp2_with fail
  refine HC.out.mono ?_
  rintro e w1 ⟨rfl, hf⟩
  go_wp2
  go_ret2
  exact ⟨rfl, HA.out.quiet hf⟩
set_option maxHeartbeats 1000000 in
theorem homeFor_of (ht : Tab w0) (h : Own w0 w (StoX b σ K (bs, v, p) :: l)) (id : Nat) (c : Cp) (hk : c.k < 256) (hc : c.chk = 0) (hp : Option Addr) (er : Int)
    (HH : ∀ w', Own w0 w' (StoX b σ K (bs, v, p) :: l) → Calls Tryz.prog 33 #[.pointer (some ⟨b, 0, none⟩), .int .u32 (id : Int)] w' fun e w'' => e = .returned (.tuple #[.pointer hp, .int .i64 er]) ∧ Own w0 w'' (StoX b σ K (bs, v, p) :: l)) :
    Calls Tryz.prog 40 #[.pointer (some ⟨b, 0, none⟩), .int .u32 (id : Int), c.ag] w fun e w' => e = .returned (.tuple #[.pointer hp, .int .i64 er]) ∧ Own w0 w' (StoX b σ K (bs, v, p) :: l) := by
  obtain ⟨ck, ca, cb, cc⟩ := c
  have hA := h.alloc (.cells #[.int .u8 (ck : Int), .int .i32 ca, .int .i32 cb, .int .i32 cc] 48)
  have HC : Hid (Calls _ _ _ _ _) := check3 _ (ht.quiet hA.fr) ck hk ca cb cc
  have HA : Hid (Own w0 _ _) := hA
  have HHH : Hid _ := HH
  show Calls _ _ #[_, _, .agg #[.int .u8 (ck : Int), .int .i32 ca, .int .i32 cb, .int .i32 cc]] _ _
  change Hid (Calls _ _ _ _ fun e w' => e = .returned (.int .i64 ((Cp.chk ⟨ck, ca, cb, cc⟩ : Nat) : Int)) ∧ _) at HC
  rw [hc] at HC
  clear h hA hc HH
  go_enter Tryz.func40, Tryz.ntmps40
  go_wp2_with fail
  refine HC.out.mono ?_
  rintro e w1 ⟨rfl, hf⟩
  have H1 : Hid (Own w0 w1 _) := HA.out.quiet hf
  clear hf
  go_wp2_with fail
  refine (HHH.out _ H1.out).mono ?_
  rintro e w2 ⟨rfl, hO⟩
  have H2 : Hid (Own w0 w2 _) := hO
  clear hO
  go_wp2
  go_ret2
  exact ⟨rfl, H2.out⟩
end
/-- the components of an entity -/
def Sto.cps (σ : Sto) (id : Nat) : List Cp := (((plc (σ.T (σ.hom id)) id).bind fun r => (σ.T (σ.hom id))[r]?).map (·.2)).getD []
theorem Sto.cps_of {σ : Sto} {id r : Nat} {C : List Cp} (hr : plc (σ.T (σ.hom id)) id = some r) (he : (σ.T (σ.hom id))[r]? = some (id, C)) : σ.cps id = C := by
  unfold Sto.cps; rw [hr]; simp [he]
def Sto.turn (σ : Sto) (id : Nat) (C : List Cp) : Sto := (σ.out (σ.hom id) ((plc (σ.T (σ.hom id)) id).getD 0)).put id C
def Sto.add (σ : Sto) (id : Nat) (c : Cp) : Int × Sto :=
  if c.chk ≠ 0 then ((c.chk : Int), σ) else if σ.S.isLive id = false then (7, σ) else if hasK (σ.cps id) c.k then (9, σ) else (0, σ.turn id (insw (σ.cps id) c))
theorem Sto.Ok.ent {σ : Sto} (h : σ.Ok) {id : Nat} (hl : σ.S.isLive id = true) : ∃ r C, plc (σ.T (σ.hom id)) id = some r ∧ (σ.T (σ.hom id))[r]? = some (id, C) ∧ lst (-1) C = 0 ∧ msk C = σ.hom id ∧ σ.hom id < 64 := by
  obtain ⟨h6, _, r, e, hr, he, hx⟩ := h.home hl
  obtain ⟨e1, e2⟩ := e
  simp only at hx
  subst hx
  obtain ⟨a, b⟩ := (h.t _ h6).ok _ (List.mem_of_getElem? he)
  exact ⟨r, e2, hr, he, a, b, h6⟩
theorem Sto.turn_ok {σ : Sto} (h : σ.Ok) {id : Nat} (hl : σ.S.isLive id = true) {C : List Cp} (hC : lst (-1) C = 0) : (σ.turn id C).Ok := by
  obtain ⟨r, _, hr, _⟩ := h.ent hl
  unfold Sto.turn
  rw [hr]
  exact (h.out hl hr).put hC
end Go.Proofs.YtibdgdbkdnifbaaGreatDoor

/-
  A store's Add.
-/
namespace Go.Proofs.YtibdgdbkdnifbaaGreatDoor
open Go.RowKit Go.Maps
set_option linter.unusedVariables false
set_option maxRecDepth 100000

theorem k6_of {c : Cp} (h : c.chk = 0) : c.k < 6 := chk_k h
theorem lst_k {C : List Cp} (h : lst (-1) C = 0) : ∀ q ∈ C, q.k < 256 := fun q hq => by have := chk_k (((lst_iff C).1 h).2 q hq); omega
theorem lst_len {C : List Cp} (h : lst (-1) C = 0) : C.length ≤ 6 := by
  have e := kinds_of h rfl
  have := congrArg List.length e
  rw [List.length_map] at this
  rw [this]
  exact Nat.le_trans (List.length_filter_le _ _) (by simp)
/-- what a call to Get of the home answers -/
theorem homeGet (w0 w : World) (l : List Thing) (b bs : Nat) (v : Value) (p : Nat → Option Nat) (σ : Sto) (K : Nat) (hσ : σ.Ok) (id : Nat) (hid : id < 4294967296) (hl : σ.S.isLive id = true) (bt0 : Nat) (hp : p (σ.hom id) = some bt0) (h : Own w0 w (StoX b σ K (bs, v, p) :: l)) (k : Nat) (hk : k < 256) :
    Calls Tryz.prog 44 #[.pointer (some ⟨bt0, 0, none⟩), .int .u32 (id : Int), .int .u8 (k : Int)] w fun e w' => e = .returned (.tuple #[(if hasK (σ.cps id) k then mkc k (fv (σ.cps id) k) else ⟨0, 0, 0, 0⟩ : Cp).ag, .int .i64 (if hasK (σ.cps id) k then 0 else 10)]) ∧ Own w0 w' (StoX b σ K (bs, v, p) :: l) := by
  obtain ⟨r, C, hr, he, hC, hm, h6⟩ := hσ.ent hl
  obtain ⟨c, hc, hne, hlen, h2⟩ := h.stoB h6 hp
  have hcps := Sto.cps_of hr he
  have hbt : bt (σ.hom id) k = hasK C k := by
    by_cases hk6 : k < 6
    · rw [← hm]; exact bt_msk C k hk6
    · cases hb : bt (σ.hom id) k with
      | true => exact absurd (bt_lt h6 hb) hk6
      | false =>
        cases hh : hasK C k with
        | false => rfl
        | true =>
          obtain ⟨q, hq, e⟩ := (hasK_iff _ _).1 hh
          have := chk_k (((lst_iff C).1 hC).2 q hq)
          omega
  have hg : tget (σ.hom id) (σ.T (σ.hom id)) id k = (if hasK C k then 0 else 10, if hasK C k then mkc k (fv C k) else ⟨0, 0, 0, 0⟩) := by
    unfold tget
    rw [hr]
    simp only [he, Option.map_some, Option.getD_some, hbt]
    split <;> rfl
  have k2 := tgetC w0 w _ bt0 _ _ c h2 (hσ.t _ h6) id hid k hk
  rw [hg] at k2
  rw [hcps]
  refine k2.mono ?_
  rintro e w' ⟨rfl, h3⟩
  refine ⟨?_, h3.stoT h6 hp hc hne hlen⟩
  split <;> rfl
set_option maxHeartbeats 2000000 in
theorem addC (w0 w : World) (l : List Thing) (b : Nat) (σ : Sto) (K : Nat) (ht : Tab w0) (h : Own w0 w (Store b σ K :: l)) (hσ : σ.Ok) (id : Nat) (hid : id < 4294967296) (c : Cp) (hk : c.k < 256) (hK : K + 1 < 1000000) :
    Calls Tryz.prog 15 #[.pointer (some ⟨b, 0, none⟩), .int .u32 (id : Int), c.ag] w fun e w' => e = .returned (.int .i64 (σ.add id c).1) ∧ Own w0 w' (Store b (σ.add id c).2 (K + 2) :: l) := by
  obtain ⟨bs, v, p, h⟩ := h.stoX
  have hA := (h.allocC c.ar 48).two
  have HA : Hid (Own w0 _ _) := hA
  by_cases hc : c.chk = 0
  · cases hl : σ.S.isLive id with
    | false =>
      have HV : Hid (σ.add id c = (7, σ)) := by show _ = _; unfold Sto.add; rw [if_neg (by simp [hc]), if_pos hl]
      have HH : Hid (Calls _ _ _ _ _) := homeFor_of w0 _ _ b bs v p σ K ht hA id c hk hc none 7 (fun w' h' => home_dead w0 w' _ b bs v p σ K h' hσ.s id hid hl)
      obtain ⟨ck, ca, cb, cc⟩ := c
      unfold Cp.ag at HH ⊢
      unfold Cp.ar at HH
      clear h hA hσ hl hc HA
      go_enter Tryz.func15, Tryz.ntmps15
      go_wp2_with fail
      refine HH.out.mono ?_
      rintro e w1 ⟨rfl, hO⟩
      have H1 : Hid (Own w0 w1 (StoX b σ K (bs, v, p) :: l)) := hO.two.tail
      clear hO HH
      go_wp2
      go_ret
      rw [HV.out]
      exact ⟨rfl, H1.out.xSto.stoK (by omega)⟩
    | true =>
      obtain ⟨r, C, hr, he, hC, hm, h6⟩ := hσ.ent hl
      have hcps := Sto.cps_of hr he
      obtain ⟨bt0, hp⟩ := stoP h h6 he
      have hn := (hσ.home hl).2.1
      have HH : Hid (Calls _ _ _ _ _) := homeFor_of w0 _ _ b bs v p σ K ht hA id c hk hc (some ⟨bt0, 0, none⟩) 0 (fun w' h' => by
        have := home_ok w0 w' _ b bs v p σ K h' hσ.s id hid hl hn h6
        rw [hp, pp_some] at this
        exact this)
      have HG : Hid (∀ w' l', Own w0 w' (StoX b σ K (bs, v, p) :: l') → Calls Tryz.prog 44 #[.pointer (some ⟨bt0, 0, none⟩), .int .u32 (id : Int), .int .u8 (c.k : Int)] w' fun e w'' => e = .returned (.tuple #[(if hasK C c.k then mkc c.k (fv C c.k) else ⟨0, 0, 0, 0⟩ : Cp).ag, .int .i64 (if hasK C c.k then 0 else 10)]) ∧ Own w0 w'' (StoX b σ K (bs, v, p) :: l')) := fun w' l' h' => by
        have := homeGet w0 w' l' b bs v p σ K hσ id hid hl bt0 hp h' c.k hk
        rw [hcps] at this
        exact this
      cases hhk : hasK C c.k with
      | true =>
        have HV : Hid (σ.add id c = (9, σ)) := by show _ = _; unfold Sto.add; rw [if_neg (by simp [hc]), if_neg (by simp [hl]), hcps, if_pos hhk]
        rw [hhk] at HG
        simp only [if_true] at HG
        generalize mkc c.k (fv C c.k) = q at *
        obtain ⟨qk, qa, qb, qc⟩ := q
        obtain ⟨ck, ca, cb, cc⟩ := c
        unfold Cp.ag at HH HG ⊢
        unfold Cp.ar at HH
        simp only at HG HH
        clear h hA hσ hl hc HA hr he hC hm hcps hp hn hhk
        go_enter Tryz.func15, Tryz.ntmps15
        go_wp2_with fail
        refine HH.out.mono ?_
        rintro e w1 ⟨rfl, hO⟩
        have H1 : Hid (Own w0 w1 _) := hO
        have q0 := hO.two.cell 0
        simp at q0
        clear hO HH
        go_wp2_with fail
        refine (HG.out _ _ H1.out).mono ?_
        rintro e w2 ⟨rfl, hO⟩
        have H2 : Hid (Own w0 _ (StoX b σ K (bs, v, p) :: l)) := hO.two.tail.alloc (.cells #[.int .u8 (qk : Int), .int .i32 qa, .int .i32 qb, .int .i32 qc] 48)
        clear hO
        go_wp2
        go_ret
        rw [HV.out]
        exact ⟨rfl, H2.out.xSto.stoK (by omega)⟩
      | false =>
        have HV : Hid (σ.add id c = (0, (σ.out (σ.hom id) r).put id (insw C c))) := by show _ = _; unfold Sto.add; rw [if_neg (by simp [hc]), if_neg (by simp [hl]), hcps, if_neg (by simp [hhk])]; unfold Sto.turn; rw [hr]; rfl
        rw [hhk] at HG
        simp only [if_false, Bool.false_eq_true] at HG
        have hlen := lst_len hC
        have hI := insw_ok hC hc hhk
        have hLk := hσ.out hl hr
        have HPL : Hid (∀ w' l', Own w0 w' (StoX b σ K (bs, v, p) :: l') → Calls Tryz.prog 34 #[.pointer (some ⟨b, 0, none⟩), .pointer (some ⟨bt0, 0, none⟩), .int .u32 (id : Int)] w' fun out w'' => ∃ ao cap, out = .returned (.slice ao C.length cap) ∧ Own w0 w'' (Row 48 4 (.slice ao C.length cap) C.length (ccat C) :: Store b (σ.out (σ.hom id) r) (K + 1) :: l')) := fun w' l' h' => pull_ok w0 w' l' b bs v p σ K h' (σ.hom id) h6 (some bt0) hp (hσ.t _ h6) id hid r (id, C) hr he (by omega)
        have HWI : Hid (∀ w' l' ao cap, Own w0 w' (Row 48 4 (.slice ao C.length cap) C.length (ccat C) :: l') → Calls Tryz.prog 45 #[.slice ao C.length cap, c.ag] w' fun e w'' => ∃ ao' cap', e = .returned (.slice ao' (C.length + 1) cap') ∧ Own w0 w'' (Row 48 4 (.slice ao' (C.length + 1) cap') (C.length + 1) (ccat (insw C c)) :: l')) := fun w' l' ao cap h' => with_ok w0 w' l' C c ao C.length cap rfl (by omega) h'
        have HPU : Hid (∀ w' l' ao cap, Own w0 w' (Row 48 4 (.slice ao (C.length + 1) cap) (C.length + 1) (ccat (insw C c)) :: Store b (σ.out (σ.hom id) r) (K + 1) :: l') → Calls Tryz.prog 29 #[.pointer (some ⟨b, 0, none⟩), .int .u32 (id : Int), .slice ao (C.length + 1) cap] w' fun e w'' => e = .returned (.tuple #[]) ∧ Own w0 w'' (Store b ((σ.out (σ.hom id) r).put id (insw C c)) (K + 2) :: l')) := by
          intro w' l' ao cap h'
          obtain ⟨bs', v', p', h2⟩ := h'.two.stoX
          have hli := St.live_lt hLk.s hLk.li
          refine (put_ok w0 w' _ b bs' v' p' _ (K + 1) ht h2 id hid (by rw [hLk.ml]; exact hli.2) ao (C.length + 1) cap (insw C c) (insw_len C c) (fun w'' h'' => Own.rcs h'' (insw_len C c)) (lst_k hI) (by omega) hI (hLk.t _ (msk64 _)) (hLk.none (msk64 _)) (by omega)).mono ?_
          rintro e w'' ⟨rfl, h3⟩
          exact ⟨rfl, h3.two.tail⟩
        obtain ⟨ck, ca, cb, cc⟩ := c
        unfold Cp.ag at HH HG HWI ⊢
        unfold Cp.ar at HH
        simp only at HG HH HWI
        clear h hA hσ hl hc HA hr he hC hm hcps hp hn hhk hI hLk
        generalize C.length = n at *
        go_enter Tryz.func15, Tryz.ntmps15
        go_wp2_with fail
        refine HH.out.mono ?_
        rintro e w1 ⟨rfl, hO⟩
        have H1 : Hid (Own w0 w1 _) := hO
        have q0 := hO.two.cell 0
        simp at q0
        clear hO HH
        go_wp2_with fail
        refine (HG.out _ _ H1.out).mono ?_
        rintro e w2 ⟨rfl, hO⟩
        have hO2 := hO.alloc (.cells #[.int .u8 0, .int .i32 0, .int .i32 0, .int .i32 0] 48)
        have H2 : Hid (Own w0 _ _) := hO2
        have s0 := hO2.two.cell 0
        have s1 := hO2.two.cell 1
        have s2 := hO2.two.cell 2
        have s3 := hO2.two.cell 3
        simp at s0 s1 s2 s3
        clear hO hO2 H1 q0
        go_wp2_with fail
        go_region_with (first
          | (go_at_call 34
             refine (HPL.out _ _ H2.out.drew).mono ?_
             rintro e w3 ⟨a3, c3, rfl, hO⟩
             have t0 := hO.three.cell 0
             have t1 := hO.three.cell 1
             have t2 := hO.three.cell 2
             have t3 := hO.three.cell 3
             simp at t0 t1 t2 t3
             have H3 : Hid (Own w0 w3 _) := hO
             clear hO)
          | (go_at_call 45
             refine (HWI.out _ _ _ _ H3.out).mono ?_
             rintro e w4 ⟨a4, c4, rfl, hO⟩
             have H4 : Hid (Own w0 w4 _) := hO
             clear hO)
          | (go_at_call 29
             refine (HPU.out _ _ _ _ H4.out).mono ?_
             rintro e w5 ⟨rfl, hO⟩
             have H5 : Hid (Own w0 w5 _) := hO
             clear hO))
        all_goals
          go_wp2
          go_ret
          rw [HV.out]
          exact ⟨rfl, H5.out.two.tail⟩
  · have HV : Hid (σ.add id c = ((c.chk : Int), σ)) := by show _ = _; unfold Sto.add; rw [if_pos hc]
    have HH : Hid (Calls _ _ _ _ _) := homeFor_bad w0 _ _ b bs v p σ K ht hA id c hk hc
    have hx : ¬ ((c.chk : Nat) : Int) = 0 := by omega
    generalize c.chk = x at *
    obtain ⟨ck, ca, cb, cc⟩ := c
    unfold Cp.ag at HH ⊢
    unfold Cp.ar at HH
    clear h hA hσ hc HA
    go_enter Tryz.func15, Tryz.ntmps15
    go_wp2_with fail
    refine HH.out.mono ?_
    rintro e w1 ⟨rfl, hO⟩
    have H1 : Hid (Own w0 w1 (StoX b σ K (bs, v, p) :: l)) := hO.two.tail
    clear hO HH
    go_wp2
    go_ret
    rw [HV.out]
    exact ⟨rfl, H1.out.xSto.stoK (by omega)⟩
end Go.Proofs.YtibdgdbkdnifbaaGreatDoor
