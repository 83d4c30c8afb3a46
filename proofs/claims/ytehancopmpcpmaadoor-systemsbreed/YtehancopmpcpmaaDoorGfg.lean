/-
  The document's store: put, Spawn, Despawn.
-/
import Derived.Test.YtehancopmpcpmaaDoorDgg
import Derived.Test.YtehancopmpcpmaaDoorDe
import Derived.Test.YtehancopmpcpmaaDoorOxg
import Derived.Test.YtehancopmpcpmaaDoorDig
import Derived.Test.YtehancopmpcpmaaDoorGa
namespace Go.Proofs.YtehancopmpcpmaaDoor
open Go.RowKit Go.Maps
set_option linter.unusedVariables false
set_option maxRecDepth 100000

section
variable (w0 w : World) (l : List Thing) (b : Nat) (σ : Sto) (K : Nat)
set_option maxHeartbeats 2000000 in
theorem rputS (h : Own w0 w (RSto b σ K :: l)) (id : Nat) (hid : id < 4294967296) (ao : Option Addr) (len cap : Nat) (C : List Cp) (hCl : C.length = len) (hCs : ∀ w', Own w0 w' l → Cs w' ao C) (hCk : ∀ q ∈ C, q.k < 256) (hlen : len ≤ 1000000) (h0 : lst (-1) C = 0) (hT : TOk (msk C) (σ.T (msk C))) (hn : plc (σ.T (msk C)) id = none) (hK : K < 1000000) :
    Calls Tryd.prog 53 #[.pointer (some ⟨b, 0, none⟩), .int .u32 (id : Int), .slice ao len cap] w fun e w' => e = .returned (.tuple #[]) ∧ Own w0 w' (RSto b (σ.put id C) (K + 1) :: l) := by
  have h6 := msk64 C
  have H : Hid (Own w0 w.drew (RSto b σ K :: l)) := h.drew
  have HMK : Hid (Calls Tryd.prog 87 #[.slice ao len cap] w.drew fun e w'' => e = .returned (.int .u8 ((msk C : Nat) : Int)) ∧ Fr Nobody w.drew w'') := rmask_any w.drew ao len cap C hCl (hCs _ h.drew.tail) hCk hlen
  have HAD : Hid (∀ w', Own w0 w' (RSto b σ K :: l) → Calls Tryd.prog 86 #[.pointer (some ⟨b, 1 + msk C * 2, none⟩), .int .u32 (id : Int), .slice ao len cap] w' fun e w'' => e = .returned (.int .i64 0) ∧ Own w0 w'' (RSto b (σ.put id C) (K + 1) :: l)) := by
    intro w' h'
    obtain ⟨x, hx, h'⟩ := RSto.opn h'
    have h2 := RSX.out h' h6
    rw [hx.E _ h6] at h2
    have ht : tadd (msk C) (σ.T (msk C)) id C = (0, σ.T (msk C) ++ [(id, C)]) := by unfold tadd; rw [if_neg (by simp [h0]), if_neg (by simp), if_neg (by rw [hn]; simp)]
    refine (rtaddC w0 w' _ b _ _ _ _ h2 hT id hid ao len cap C hCl (fun w'' h'' => hCs _ h''.tail.tail) hCk hlen (by have := hx.len _ h6; omega)).mono ?_
    rintro e w'' ⟨rfl, h3⟩
    rw [ht] at h3 ⊢
    obtain ⟨v', E', hE, h4⟩ := RSX.into h6 h3
    refine ⟨rfl, RSto.mk (σ := σ.put id C) ((hx.mono (Nat.le_succ K)).upd h6 hE ?_) h4⟩
    have := hx.len _ h6
    simp; omega
  clear h hCs hCk h0 hT hn
  generalize msk C = m at *
  go_enter Tryd.func53, Tryd.ntmps53
  go_wp2_with fail
  have hm64 : (m : Int) < 64 := by omega
  go_region_with (first
    | (go_at_call 87
       refine HMK.out.mono ?_
       rintro e w3 ⟨rfl, hf3⟩
       have H3 : Hid (Own w0 w3 (RSto b σ K :: l)) := H.out.quiet hf3
       clear hf3)
    | (go_at_call 86
       refine (HAD.out _ H3.out).mono ?_
       rintro e w4 ⟨rfl, hO4⟩
       have H4 : Hid (Own w0 w4 _) := hO4
       clear hO4))
  all_goals
    go_wp2
    go_end0
    exact ⟨rfl, H4.out⟩
set_option maxHeartbeats 2000000 in
theorem rspawnC (h : Own w0 w (RSto b σ K :: l)) (hσ : σ.Ok)
    (ao : Option Addr) (len cap : Nat) (C : List Cp) (hCl : C.length = len) (hCs : ∀ w', Own w0 w' l → Cs w' ao C) (hCk : ∀ q ∈ C, q.k < 256) (hlen : len ≤ 1000000) (hK : K < 1000000) :
    Calls Tryd.prog 25 #[.pointer (some ⟨b, 0, none⟩), .slice ao len cap] w fun e w' => e = .returned (.tuple #[.int .u32 ((σ.spawn C).1 : Int), .int .i64 (σ.spawn C).2.1]) ∧ Own w0 w' (RSto b (σ.spawn C).2.2 (K + 1) :: l) := by
  have H : Hid (Own w0 w (RSto b σ K :: l)) := h
  have HLS : Hid (Calls _ _ _ _ _) := rlist_any w ao len cap C hCl (hCs _ h.tail) hCk hlen
  by_cases h0 : lst (-1) C = 0
  · rw [h0] at HLS
    have HTK : Hid (∀ w', Own w0 w' (RSto b σ K :: l) → ∃ bs, w'.cell? ⟨b, 0, none⟩ = some (.pointer (some ⟨bs, 0, none⟩)) ∧ Calls Tryd.prog 52 #[.pointer (some ⟨bs, 0, none⟩)] w' fun e w'' => e = .returned (.tuple #[.int .u32 (σ.S.take.1 : Int), .int .i64 σ.S.take.2.1]) ∧ Own w0 w'' (RSto b { σ with S := σ.S.take.2.2 } K :: l)) := by
      intro w' h'
      obtain ⟨x, hx, h'⟩ := RSto.opn h'
      refine ⟨x.bs, RSX.ids w0 w' l b σ x h', (rtake_ok w0 w' _ x.bs σ.S x.f x.ck (RSX.iff.1 h').two hσ.s hx.st (by have := hx.ck; omega)).mono ?_⟩
      rintro e w'' ⟨rfl, f', hf', h2⟩
      refine ⟨rfl, RSto.mk (σ := { σ with S := σ.S.take.2.2 }) (x := { x with f := f' }) ⟨hf', hx.ck, hx.E, hx.len⟩ (RSX.iff.2 h2.two)⟩
    by_cases h1 : σ.S.take.2.1 = 0
    · have HV : Hid (σ.spawn C = (σ.S.take.1, 0, Sto.put { σ with S := σ.S.take.2.2 } σ.S.take.1 C)) := by show _ = _; unfold Sto.spawn; rw [if_neg (by simp [h0]), if_neg (by simp [h1])]
      have hL := hσ.take h1
      have hli := St.live_lt hL.s hL.li
      have HPU : Hid (∀ w', Own w0 w' (RSto b { σ with S := σ.S.take.2.2 } K :: l) → Calls Tryd.prog 53 #[.pointer (some ⟨b, 0, none⟩), .int .u32 (σ.S.take.1 : Int), .slice ao len cap] w' fun e w'' => e = .returned (.tuple #[]) ∧ Own w0 w'' (RSto b (Sto.put { σ with S := σ.S.take.2.2 } σ.S.take.1 C) (K + 1) :: l)) := by
        intro w' h'
        exact rputS w0 w' l b _ K h' σ.S.take.1 hli.1 ao len cap C hCl hCs hCk hlen h0 (hL.t _ (msk64 C)) (hL.none (msk64 C)) hK
      rw [h1] at HTK
      clear h hCs hσ h0 h1 hL hli
      go_enter Tryd.func25, Tryd.ntmps25
      go_wp2_with fail
      refine HLS.out.mono ?_
      rintro e w1 ⟨rfl, hf⟩
      obtain ⟨bs, q0, htk⟩ := HTK.out _ (H.out.quiet hf)
      have HTK1 : Hid (Calls _ _ _ _ _) := htk
      clear htk hf HTK H HLS
      go_wp2_with fail
      refine HTK1.out.mono ?_
      rintro e w2 ⟨rfl, hO⟩
      have H2 : Hid (Own w0 w2 _) := hO
      clear hO HTK1
      go_wp2_with fail
      refine (HPU.out _ H2.out).mono ?_
      rintro e w3 ⟨rfl, hO⟩
      have H3 : Hid (Own w0 w3 _) := hO
      clear hO
      go_wp2
      go_ret2
      rw [HV.out]
      exact ⟨rfl, H3.out⟩
    · have HV : Hid (σ.spawn C = (0, σ.S.take.2.1, σ)) := by show _ = _; unfold Sto.spawn; rw [if_neg (by simp [h0]), if_pos (by simp [h1])]
      have HS : Hid (σ.S.take.2.2 = σ.S ∧ σ.S.take.1 = 0) := by
        show _ ∧ _
        unfold St.take at h1 ⊢
        split at h1
        · exact absurd rfl h1
        · split at h1
          · exact absurd rfl h1
          · rename_i c; simp [c]
      rw [HS.out.2] at HTK
      clear h hCs hσ h0
      generalize σ.S.take.2.1 = r at *
      have h1' : (r == (0 : Int)) = false := by simpa using h1
      go_enter Tryd.func25, Tryd.ntmps25
      go_wp2_with fail
      refine HLS.out.mono ?_
      rintro e w1 ⟨rfl, hf⟩
      obtain ⟨bs, q0, htk⟩ := HTK.out _ (H.out.quiet hf)
      have HTK1 : Hid (Calls _ _ _ _ _) := htk
      clear htk hf HTK H HLS
      go_wp2_with fail
      refine HTK1.out.mono ?_
      rintro e w2 ⟨rfl, hO⟩
      have H2 : Hid (Own w0 w2 _) := hO
      clear hO HTK1
      go_wp2
      go_ret2
      rw [HV.out]
      have h3 := H2.out
      rw [HS.out.1] at h3
      exact ⟨rfl, h3.rstoK (Nat.le_succ K)⟩
  · have HV : Hid (σ.spawn C = (0, (lst (-1) C : Int), σ)) := by show _ = _; unfold Sto.spawn; rw [if_pos h0]
    generalize lst (-1) C = r at *
    have h1' : ((r : Int) != 0) = true := by simpa using h0
    clear h hCs hσ h0
    go_enter Tryd.func25, Tryd.ntmps25
    go_wp2_with fail
    refine HLS.out.mono ?_
    rintro e w1 ⟨rfl, hf⟩
    have H1 : Hid (Own w0 w1 _) := H.out.quiet hf
    clear hf H HLS
    go_wp2
    go_ret2
    rw [HV.out]
    exact ⟨rfl, H1.out.rstoK (Nat.le_succ K)⟩
/-- the row of one that there is -/
theorem RXok.row {σ : Sto} {x : RX} {K : Nat} (hx : RXok σ x K) (hσ : σ.Ok) {id : Nat} (hl : σ.S.isLive id = true) : ∃ r d, plc (σ.T (σ.hom id)) id = some r ∧ (x.E (σ.hom id))[r]? = some d ∧ d.1 = id ∧ (σ.T (σ.hom id))[r]? = some (id, d.2.1) := by
  obtain ⟨h6, hn, r, e, hr, he, hi⟩ := hσ.home hl
  have : ((x.E (σ.hom id)).map REnt.e)[r]? = some e := by rw [hx.E _ h6]; exact he
  rw [List.getElem?_map] at this
  cases hd : (x.E (σ.hom id))[r]? with
  | none => rw [hd] at this; simp at this
  | some d =>
    rw [hd] at this
    have hde : d.e = e := Option.some.inj this
    subst hde
    have h1 : d.1 = id := hi
    refine ⟨r, d, hr, hd, h1, ?_⟩
    rw [he, ← h1]; rfl
/-- Remove of the table that has one -/
theorem rdrop (h : Own w0 w (RSto b σ K :: l)) (hσ : σ.Ok) (hK : K ≤ 1000000) (id : Nat) (hl : σ.S.isLive id = true) (r : Nat) (C : List Cp) (hr : plc (σ.T (σ.hom id)) id = some r) (he : (σ.T (σ.hom id))[r]? = some (id, C)) :
    Calls Tryd.prog 67 #[.pointer (some ⟨b, 1 + σ.hom id * 2, none⟩), .int .u32 (id : Int)] w fun out w' => ∃ ao cap, out = .returned (.tuple #[.slice ao C.length cap, .int .i64 0]) ∧ Own w0 w' (RSto b (σ.out (σ.hom id) r) K :: l) := by
  obtain ⟨h6, _⟩ := hσ.home hl
  obtain ⟨x, hx, h'⟩ := RSto.opn h
  have h2 := RSX.out h' h6
  rw [hx.E _ h6] at h2
  refine (rtremC w0 w _ b _ _ _ _ h2 (hσ.t _ h6) (by have := hx.len _ h6; omega) id r (id, C) hr he).mono ?_
  rintro out w' ⟨ao, cap, rfl, h3⟩
  obtain ⟨v', E', hE, h4⟩ := RSX.into h6 h3.tail
  refine ⟨ao, cap, rfl, RSto.mk (σ := σ.out (σ.hom id) r) (hx.upd h6 hE ?_) h4⟩
  have h5 := hx.len _ h6
  have h7 := (List.getElem?_eq_some_iff.1 he).1
  rw [length_outr _ _ h7]; omega
set_option maxHeartbeats 2000000 in
theorem rdespawnC (h : Own w0 w (RSto b σ K :: l)) (hσ : σ.Ok) (id : Nat) (hid : id < 4294967296) (hK : K < 1000000) :
    Calls Tryd.prog 36 #[.pointer (some ⟨b, 0, none⟩), .int .u32 (id : Int)] w fun e w' => e = .returned (.int .i64 (σ.despawn id).1) ∧ Own w0 w' (RSto b (σ.despawn id).2 (K + 1) :: l) := by
  cases hl : σ.S.isLive id with
  | false =>
    have HV : Hid (σ.despawn id = (7, σ)) := by show _ = _; unfold Sto.despawn; rw [hl]; rfl
    obtain ⟨x, hx, h'⟩ := RSto.opn h
    have HE : Hid (Calls _ _ _ _ _) := rentNo w0 w l b σ x K h' hx hσ (by omega) id hl
    have HX : Hid (RXok σ x K) := hx
    clear h h' hσ hx hl
    go_enter Tryd.func36, Tryd.ntmps36
    go_wp2_with fail
    refine HE.out.mono ?_
    rintro e w1 ⟨rfl, hO⟩
    have H1 : Hid (Own w0 w1 _) := hO
    clear hO HE
    go_wp2
    go_ret
    rw [HV.out]
    exact ⟨rfl, (RSto.mk HX.out (H1.out.alloc _)).rstoK (Nat.le_succ K)⟩
  | true =>
    obtain ⟨x, hx, h'⟩ := RSto.opn h
    obtain ⟨r, d, hr, hd, hdi, he⟩ := hx.row hσ hl
    have HV : Hid (σ.despawn id = (0, { σ.out (σ.hom id) r with S := σ.S.less id })) := by show _ = _; unfold Sto.despawn; rw [hl, hr]; rfl
    have HE : Hid (Calls _ _ _ _ _) := rent w0 w l b σ x K h' hx hσ (by omega) id hl r hr d hd
    obtain ⟨hw, h6⟩ := whr_live hσ hl
    have HFD : Hid (∀ w' l', Own w0 w' (RSX b σ.S x :: l') → Calls Tryd.prog 60 #[.pointer (some ⟨b, 0, none⟩), .int .u32 (id : Int)] w' fun e w'' => e = .returned (.pointer (some ⟨b, 1 + σ.hom id * 2, none⟩)) ∧ Fr Nobody w' w'') := by
      intro w' l' h''
      have := rfind w0 w' l' b σ x K h'' hx hσ.t (by omega) id _ hw
      rw [if_pos h6] at this
      exact this
    have HDR : Hid (∀ w', Own w0 w' (RSX b σ.S x :: l) → Calls Tryd.prog 67 #[.pointer (some ⟨b, 1 + σ.hom id * 2, none⟩), .int .u32 (id : Int)] w' fun out w'' => ∃ ao cap, out = .returned (.tuple #[.slice ao d.2.1.length cap, .int .i64 0]) ∧ Own w0 w'' (RSto b (σ.out (σ.hom id) r) K :: l)) := fun w' h'' => rdrop w0 w' l b σ K (RSto.mk hx h'') hσ (by omega) id hl r _ hr he
    have HFR : Hid (∀ w', Own w0 w' (RSto b (σ.out (σ.hom id) r) K :: l) → ∃ bs, w'.cell? ⟨b, 0, none⟩ = some (.pointer (some ⟨bs, 0, none⟩)) ∧ Calls Tryd.prog 68 #[.pointer (some ⟨bs, 0, none⟩), .int .u32 (id : Int)] w' fun e w'' => e = .returned (.int .i64 0) ∧ Own w0 w'' (RSto b { σ.out (σ.hom id) r with S := σ.S.less id } (K + 1) :: l)) := by
      intro w' h''
      obtain ⟨y, hy, h''⟩ := RSto.opn h''
      have hfr : σ.S.free id = (0, σ.S.less id) := (St.free_live hσ.s hl).1
      refine ⟨y.bs, RSX.ids w0 w' l b _ y h'', (rfree_ok w0 w' _ y.bs σ.S y.f y.ck id (RSX.iff.1 h'').two hσ.s hy.st hid (by have := hy.ck; omega)).mono ?_⟩
      rintro e w'' ⟨rfl, f', ck', hck', hst, h2⟩
      rw [hfr] at hst h2 ⊢
      refine ⟨rfl, RSto.mk (σ := { σ.out (σ.hom id) r with S := σ.S.less id }) (x := { y with f := f', ck := ck' }) ⟨hst, by have := hy.ck; simp only; omega, hy.E, fun m hm => by have := hy.len m hm; exact Nat.le_succ_of_le this⟩ (RSX.iff.2 h2.two)⟩
    clear h h' hσ hx hl hr hd he hw h6
    generalize σ.hom id = m at *
    obtain ⟨d1, d2, d3, d4⟩ := d
    simp only at HE HDR hdi
    subst hdi
    generalize d2.length = dl at *
    go_enter Tryd.func36, Tryd.ntmps36
    go_wp2_with fail
    refine HE.out.mono ?_
    rintro e w1 ⟨rfl, hO⟩
    have H1 : Hid (Own w0 (w1.alloc (.cells #[.int .u32 (d1 : Int), .slice d3 dl d4] 41)) _) := hO.alloc _
    clear hO HE
    go_wp2_with fail
    refine (HFD.out _ _ H1.out).mono ?_
    rintro e w2 ⟨rfl, hf⟩
    have H2 : Hid (Own w0 w2 _) := H1.out.quiet hf
    clear hf H1 HFD
    go_wp2_with fail
    refine (HDR.out _ H2.out).mono ?_
    rintro e w3 ⟨ao, cap, rfl, hO⟩
    obtain ⟨bs, q0, hfr⟩ := HFR.out _ hO
    have HFR1 : Hid (Calls _ _ _ _ _) := hfr
    clear hfr hO HDR H2 HFR
    go_wp2_with fail
    refine HFR1.out.mono ?_
    rintro e w4 ⟨rfl, hO⟩
    have H4 : Hid (Own w0 w4 _) := hO
    clear hO
    go_wp2
    go_ret
    rw [HV.out]
    exact ⟨rfl, H4.out⟩
end
end Go.Proofs.YtehancopmpcpmaaDoor

/-
  The document's store: Get, Set, turn, Add, Remove.
-/
namespace Go.Proofs.YtehancopmpcpmaaDoor
open Go.RowKit Go.Maps
set_option linter.unusedVariables false
set_option maxRecDepth 100000

def Sto.get (σ : Sto) (id k : Nat) : Nat × Cp := if σ.S.isLive id then tget (σ.hom id) (σ.T (σ.hom id)) id k else (7, ⟨0, 0, 0, 0⟩)
theorem insc_insw {C : List Cp} {c : Cp} (h : hasK C c.k = false) : insc C c = insw C c := by
  unfold insc insw
  congr 2
  refine List.filter_eq_self.2 (fun q hq => ?_)
  have hm : q ∈ C := (List.dropWhile_suffix _).subset hq
  simp only [ne_eq, decide_not, Bool.not_eq_eq_eq_not, Bool.not_true, decide_eq_false_iff_not]
  intro he
  have : hasK C c.k = true := (hasK_iff C c.k).2 ⟨q, hm, he⟩
  rw [h] at this; cases this
theorem hasK_hom {σ : Sto} {id r : Nat} {C : List Cp} (hσ : σ.Ok) (hl : σ.S.isLive id = true) (he : (σ.T (σ.hom id))[r]? = some (id, C)) (k : Nat) : bt (σ.hom id) k = hasK C k := by
  obtain ⟨h6, _⟩ := hσ.home hl
  obtain ⟨h1, h2⟩ := (hσ.t _ h6).ok _ (List.mem_of_getElem? he)
  simp only at h1 h2
  by_cases hk : k < 6
  · rw [← h2]; exact bt_msk C k hk
  · cases hb : bt (σ.hom id) k with
    | true => exact (hasK_bt h2 h6 hb).symm
    | false =>
      cases hh : hasK C k with
      | false => rfl
      | true =>
        obtain ⟨q, hq, hqk⟩ := (hasK_iff C k).1 hh
        have := chk_k ((lst_ok h1).2 q hq).2
        omega
theorem Sto.get_code {σ : Sto} {id : Nat} (hσ : σ.Ok) (k : Nat) : (σ.get id k).1 = if σ.S.isLive id = false then 7 else if hasK (σ.cps id) k = false then 10 else 0 := by
  unfold Sto.get
  cases hl : σ.S.isLive id with
  | false => rfl
  | true =>
    obtain ⟨r, C, hr, he, _⟩ := hσ.ent hl
    simp only [if_true, Bool.true_eq_false, if_false]
    rw [Sto.cps_of hr he, ← hasK_hom hσ hl he]
    unfold tget
    rw [hr]
    simp only
    cases bt (σ.hom id) k <;> simp
theorem Sto.get_bad {σ : Sto} {id : Nat} (hσ : σ.Ok) (k : Nat) (h : (σ.get id k).1 ≠ 0) : (σ.get id k).2 = ⟨0, 0, 0, 0⟩ := by
  unfold Sto.get at h ⊢
  split at h
  · rename_i hl
    rw [if_pos hl]
    unfold tget at h ⊢
    split at h
    · rfl
    · rename_i r hp
      split at h
      · exact absurd rfl h
      · rename_i hb; rw [if_neg hb]
  · rename_i hl
    rw [if_neg hl]

section
variable (w0 w : World) (l : List Thing) (b : Nat) (σ : Sto) (K : Nat)
theorem rfindS (h : Own w0 w (RSto b σ K :: l)) (hσ : σ.Ok) (hK : K ≤ 1000000) (id : Nat) (hl : σ.S.isLive id = true) :
    Calls Tryd.prog 60 #[.pointer (some ⟨b, 0, none⟩), .int .u32 (id : Int)] w fun e w' => e = .returned (.pointer (some ⟨b, 1 + σ.hom id * 2, none⟩)) ∧ Fr Nobody w w' := by
  obtain ⟨x, hx, h'⟩ := RSto.opn h
  obtain ⟨hw, h6⟩ := whr_live hσ hl
  have := rfind w0 w l b σ x K h' hx hσ.t hK id _ hw
  rw [if_pos h6] at this
  exact this
set_option maxHeartbeats 4000000 in
theorem rgetS (h : Own w0 w (RSto b σ K :: l)) (hσ : σ.Ok) (hK : K ≤ 1000000) (id : Nat) (k : Nat) (hk : k < 256) :
    Calls Tryd.prog 58 #[.pointer (some ⟨b, 0, none⟩), .int .u32 (id : Int), .int .u8 (k : Int)] w fun e w' => e = .returned (.tuple #[(σ.get id k).2.ag, .int .i64 ((σ.get id k).1 : Int)]) ∧ Own w0 w' (RSto b σ K :: l) := by
  obtain ⟨x, hx, h⟩ := RSto.opn h
  have HX : Hid (RXok σ x K) := hx
  have hA := (h.allocC #[.int .u8 0, .int .i32 0, .int .i32 0, .int .i32 0] 49).two
  cases hl : σ.S.isLive id with
  | false =>
    have HV : Hid (σ.get id k = (7, ⟨0, 0, 0, 0⟩)) := by show _ = _; unfold Sto.get; rw [hl]; rfl
    have HE : Hid (Calls _ _ _ _ _) := rentNo w0 _ _ b σ x K hA hx hσ (by omega) id hl
    clear h hA hσ hl hx
    go_enter Tryd.func58, Tryd.ntmps58
    go_wp2_with fail
    refine HE.out.mono ?_
    rintro e w1 ⟨rfl, hO⟩
    have hB := (hO.alloc (.cells #[.int .u32 0, .slice none 0 0] 41)).two
    have z0 := hB.cell 0
    have z1 := hB.cell 1
    have z2 := hB.cell 2
    have z3 := hB.cell 3
    simp at z0 z1 z2 z3
    have y0 := hB.froz 0
    have y1 := hB.froz 1
    have y2 := hB.froz 2
    have y3 := hB.froz 3
    have hne1 : w1.heap.size ≠ w.heap.size := by have := hO.two.lt; omega
    have hne2 : w.heap.size ≠ w1.heap.size := fun q => hne1 q.symm
    have HF : Hid (Own w0 _ _) := (((hB.setC 0 (.int .u8 0)).setC 1 (.int .i32 0)).setC 2 (.int .i32 0)).setC 3 (.int .i32 0)
    clear hO hB HE
    go_wp2
    (try simp only [Exit.inBlock, Exit.then])
    refine bodyPost_ret (v := .tuple #[.agg #[.int .u8 0, .int .i32 0, .int .i32 0, .int .i32 0], .int .i64 7]) ?_ rfl ⟨by rw [HV.out]; rfl, RSto.mk HX.out HF.out.tail⟩
    rw [results_cell_tmp rfl]
    have r0 := HF.out.cell 0
    have r1 := HF.out.cell 1
    have r2 := HF.out.cell 2
    have r3 := HF.out.cell 3
    simp at r0 r1 r2 r3
    go_simp
  | true =>
    obtain ⟨r, d, hr, hd, hdi, he⟩ := hx.row hσ hl
    obtain ⟨h6, _⟩ := hσ.home hl
    have hT := hσ.t _ h6
    have HE : Hid (Calls _ _ _ _ _) := rent w0 _ _ b σ x K hA hx hσ (by omega) id hl r hr d hd
    have hgt : ∀ kk, σ.get id kk = tget (σ.hom id) (σ.T (σ.hom id)) id kk := fun kk => by unfold Sto.get; rw [hl]; rfl
    have HG : Hid (∀ i q, d.2.1[i]? = some q → ∀ kk, q.k = kk → σ.get id kk = (0, q)) := fun i q hq kk hk => by rw [hgt]; exact tget_has hT hr he hq hk
    have HG2 : Hid (hasK d.2.1 k = false → σ.get id k = (10, ⟨0, 0, 0, 0⟩)) := fun h => by rw [hgt]; exact tget_not hT hr he h
    have hCk : ∀ q ∈ d.2.1, q.k < 256 := fun q hq => by have := chk_k ((lst_ok (hT.ok _ (List.mem_of_getElem? he)).1).2 q hq).2; omega
    have hC6 : d.2.1.length ≤ 6 := hT.c6 he
    have HCS : Hid (∀ w' l', Own w0 w' (RSX b σ.S x :: l') → Cs w' d.2.2.1 d.2.1) := fun w' l' h' => by obtain ⟨_, _, _, _, _, _, hc⟩ := RSX.ent w0 w' l' b σ x h' _ r h6 d hd; exact hc
    clear h hA hσ hl hx hr hd hdi he h6 hT hgt
    obtain ⟨d1, d2, d3, d4⟩ := d
    simp only at HE HG HG2 hCk hC6 HCS
    generalize hdl : d2.length = dl at *
    go_enter Tryd.func58, Tryd.ntmps58
    go_wp2_with fail
    refine HE.out.mono ?_
    rintro e w1 ⟨rfl, hO⟩
    have hB := (hO.allocC #[.int .u32 (d1 : Int), .slice d3 dl d4] 41)
    have e1 := hB.cell 1
    simp at e1
    have hcs := HCS.out _ _ hB.two
    have HFD : Hid (Calls _ _ _ _ _) := find_any _ d3 dl d4 d2 hdl hcs hCk (by omega) k hk
    have hne1 : w1.heap.size ≠ w.heap.size := by have := hO.two.lt; omega
    have hne2 : w.heap.size ≠ w1.heap.size := fun q => hne1 q.symm
    have HB : Hid (Own w0 _ (Cells w1.heap.size #[.int .u32 (d1 : Int), .slice d3 dl d4] 41 :: RSX b σ.S x :: Cells w.heap.size #[.int .u8 0, .int .i32 0, .int .i32 0, .int .i32 0] 49 :: l)) := hB
    clear hO hB HE hcs
    go_wp2_with fail
    refine HFD.out.mono ?_
    rintro e w2 ⟨r2, rfl, hf2, hcase⟩
    have hO := HB.out.quiet hf2
    have HC2 : Hid (Cs w2 d3 d2) := HCS.out _ _ hO.two
    have f1 := hO.cell 1
    simp at f1
    have hD := hO.three
    have z0 := hD.cell 0
    have z1 := hD.cell 1
    have z2 := hD.cell 2
    have z3 := hD.cell 3
    simp at z0 z1 z2 z3
    have y0 := hD.froz 0
    have y1 := hD.froz 1
    have y2 := hD.froz 2
    have y3 := hD.froz 3
    have H2 : Hid (Own w0 w2 _) := hD
    clear hf2 hO hD HFD HB e1
    rcases hcase with ⟨rfl, hno⟩ | ⟨i, rfl, q, hq, hqk, _⟩
    · have HV : Hid (σ.get id k = (10, ⟨0, 0, 0, 0⟩)) := HG2.out hno
      have HF : Hid (Own w0 _ _) := (((H2.out.setC 0 (.int .u8 0)).setC 1 (.int .i32 0)).setC 2 (.int .i32 0)).setC 3 (.int .i32 0)
      clear hno
      go_wp2
      (try simp only [Exit.inBlock, Exit.then])
      refine bodyPost_ret (v := .tuple #[.agg #[.int .u8 0, .int .i32 0, .int .i32 0, .int .i32 0], .int .i64 10]) ?_ rfl ⟨by rw [HV.out]; rfl, RSto.mk HX.out HF.out.tail.tail⟩
      rw [results_cell_tmp rfl]
      have r0 := HF.out.cell 0
      have r1 := HF.out.cell 1
      have r2 := HF.out.cell 2
      have r3 := HF.out.cell 3
      simp at r0 r1 r2 r3
      go_simp
    · have HV : Hid (σ.get id k = (0, q)) := HG.out i q hq k hqk
      obtain ⟨gc, oc, hac, _, x0, x1, x2, x3⟩ := HC2.out.at i q hq
      subst hac
      have hic : i < dl := by rw [← hdl]; exact (List.getElem?_eq_some_iff.1 hq).1
      have hic' : (i : Int) < (dl : Int) := by omega
      have hi0 : ¬ (i : Int) < 0 := by omega
      clear hq hdl
      obtain ⟨qk, qa, qb, qc⟩ := q
      simp only at x0 x1 x2 x3
      have HF : Hid (Own w0 _ _) := (((H2.out.setC 0 (.int .u8 (qk : Int))).setC 1 (.int .i32 qa)).setC 2 (.int .i32 qb)).setC 3 (.int .i32 qc)
      clear hqk
      go_wp2
      (try simp only [Exit.inBlock, Exit.then])
      refine bodyPost_ret (v := .tuple #[.agg #[.int .u8 (qk : Int), .int .i32 qa, .int .i32 qb, .int .i32 qc], .int .i64 0]) ?_ rfl ⟨by rw [HV.out]; rfl, RSto.mk HX.out HF.out.tail.tail⟩
      rw [results_cell_tmp rfl]
      have r0 := HF.out.cell 0
      have r1 := HF.out.cell 1
      have r2 := HF.out.cell 2
      have r3 := HF.out.cell 3
      simp at r0 r1 r2 r3
      go_simp
set_option maxHeartbeats 4000000 in
theorem rsetS (h : Own w0 w (RSto b σ K :: l)) (hσ : σ.Ok) (id : Nat) (hid : id < 4294967296) (q : Cp) (hk : q.k < 256) (hK : K < 1000000) :
    Calls Tryd.prog 31 #[.pointer (some ⟨b, 0, none⟩), .int .u32 (id : Int), q.ag] w fun e w' => e = .returned (.int .i64 (σ.set id q).1) ∧ Own w0 w' (RSto b (σ.set id q).2 K :: l) := by
  have hA := h.allocC #[.int .u8 (q.k : Int), .int .i32 q.a, .int .i32 q.b, .int .i32 q.c] 49
  have z0 := hA.cell 0
  have z1 := hA.cell 1
  have z2 := hA.cell 2
  have z3 := hA.cell 3
  simp at z0 z1 z2 z3
  have HC : Hid (Calls _ _ _ _ _) := rcheck3 (w.alloc (.cells #[.int .u8 (q.k : Int), .int .i32 q.a, .int .i32 q.b, .int .i32 q.c] 49)) q.k hk q.a q.b q.c
  have HA : Hid (Own w0 _ (Cells w.heap.size #[.int .u8 (q.k : Int), .int .i32 q.a, .int .i32 q.b, .int .i32 q.c] 49 :: RSto b σ K :: l)) := hA
  have HQ : Hid (q.chk = chk q.k (f3 q.a q.b q.c)) := rfl
  clear h hA
  unfold Cp.ag
  obtain ⟨x, hx⟩ : ∃ x, q.chk = x := ⟨_, rfl⟩
  rw [← HQ.out, hx] at HC
  by_cases hx0 : x = 0
  · subst hx0
    have HGT : Hid (∀ w', Own w0 w' (RSto b σ K :: Cells w.heap.size #[.int .u8 (q.k : Int), .int .i32 q.a, .int .i32 q.b, .int .i32 q.c] 49 :: l) → Calls Tryd.prog 58 #[.pointer (some ⟨b, 0, none⟩), .int .u32 (id : Int), .int .u8 (q.k : Int)] w' fun e w'' => e = .returned (.tuple #[(σ.get id q.k).2.ag, .int .i64 ((σ.get id q.k).1 : Int)]) ∧ Own w0 w'' (RSto b σ K :: Cells w.heap.size #[.int .u8 (q.k : Int), .int .i32 q.a, .int .i32 q.b, .int .i32 q.c] 49 :: l)) := fun w' h' => rgetS w0 w' _ b σ K h' hσ (by omega) id q.k hk
    have hcode := Sto.get_code (id := id) hσ q.k
    obtain ⟨⟨cd, y⟩, hy⟩ : ∃ p, σ.get id q.k = p := ⟨_, rfl⟩
    rw [hy] at hcode HGT
    simp only at hcode HGT
    by_cases hcd : cd = 0
    · subst hcd
      have hl : σ.S.isLive id = true := by
        cases hl : σ.S.isLive id with
        | true => rfl
        | false => rw [hl] at hcode; simp at hcode
      have hh : hasK (σ.cps id) q.k = true := by
        cases hh : hasK (σ.cps id) q.k with
        | true => rfl
        | false => rw [hl, hh] at hcode; simp at hcode
      obtain ⟨r, C, hr, he, hlC, _, h6⟩ := hσ.ent hl
      have HV : Hid (σ.set id q = (0, { σ with T := upd σ.T (σ.hom id) ((σ.T (σ.hom id)).set r (id, setc C q)) })) := by
        show _ = _
        unfold Sto.set
        rw [if_neg (by simp [hx]), if_neg (by simp [hl]), if_neg (by simp [hh]), hr, Sto.cps_of hr he]
        rfl
      rw [Sto.cps_of hr he] at hh
      have htset : tset (σ.hom id) (σ.T (σ.hom id)) id q = (0, (σ.T (σ.hom id)).set r (id, setc C q)) := by
        unfold tset
        rw [if_neg (by simp [hx]), hr]
        simp only
        rw [if_pos (by rw [hasK_hom hσ hl he]; exact hh), he]
        rfl
      have HFD : Hid (∀ w' l', Own w0 w' (RSto b σ K :: l') → Calls Tryd.prog 60 #[.pointer (some ⟨b, 0, none⟩), .int .u32 (id : Int)] w' fun e w'' => e = .returned (.pointer (some ⟨b, 1 + σ.hom id * 2, none⟩)) ∧ Fr Nobody w' w'') := fun w' l' h' => rfindS w0 w' l' b σ K h' hσ (by omega) id hl
      have HST : Hid (∀ w' l', Own w0 w' (RSto b σ K :: l') → Calls Tryd.prog 59 #[.pointer (some ⟨b, 1 + σ.hom id * 2, none⟩), .int .u32 (id : Int), q.ag] w' fun e w'' => e = .returned (.int .i64 0) ∧ Own w0 w'' (RSto b (σ.set id q).2 K :: l')) := by
        intro w' l' h'
        obtain ⟨x, hx', h'⟩ := RSto.opn h'
        have h2 := RSX.out h' h6
        rw [hx'.E _ h6] at h2
        refine (rtsetC w0 w' _ b _ _ _ _ h2 (hσ.t _ h6) id hid q hk (by have := hx'.len _ h6; omega)).mono ?_
        rintro e w'' ⟨rfl, h3⟩
        rw [htset] at h3 ⊢
        obtain ⟨v', E', hE, h4⟩ := RSX.into h6 h3
        rw [HV.out]
        refine ⟨rfl, RSto.mk (σ := { σ with T := upd σ.T (σ.hom id) ((σ.T (σ.hom id)).set r (id, setc C q)) }) (hx'.upd h6 hE ?_) h4⟩
        rw [List.length_set]; exact hx'.len _ h6
      clear hx HQ hy hr he hl hh htset hσ hlC h6 hcode
      generalize σ.hom id = m at *
      obtain ⟨qk, qa, qb, qc⟩ := q
      obtain ⟨yk, ya, yb, yc⟩ := y
      simp only [Cp.ag] at z0 z1 z2 z3 HC HGT HA hk HST ⊢
      go_enter Tryd.func31, Tryd.ntmps31
      go_wp2_with fail
      refine HC.out.mono ?_
      rintro e w1 ⟨rfl, hf⟩
      have H1 : Hid (Own w0 w1 _) := HA.out.quiet hf
      have y0 := (HA.out.quiet hf).cell 0
      simp at y0
      clear hf HC z0 z1 z2 z3 HA
      go_wp2_with fail
      refine (HGT.out _ H1.out.two).mono ?_
      rintro e w2 ⟨rfl, hO2⟩
      have hO3 := (hO2.alloc (.cells #[.int .u8 (yk : Int), .int .i32 ya, .int .i32 yb, .int .i32 yc] 49)).drew
      have u0 := hO3.two.cell 0
      have u1 := hO3.two.cell 1
      have u2 := hO3.two.cell 2
      have u3 := hO3.two.cell 3
      simp at u0 u1 u2 u3
      have H2 : Hid (Own w0 _ (RSto b σ K :: Cells w.heap.size #[.int .u8 (qk : Int), .int .i32 qa, .int .i32 qb, .int .i32 qc] 49 :: l)) := hO3
      clear hO2 hO3 H1 y0 HGT
      go_wp2_with fail
      go_region_with (first
        | (go_at_call 60
           refine (HFD.out _ _ H2.out).mono ?_
           rintro e w3 ⟨rfl, hf3⟩
           have hO3 := H2.out.quiet hf3
           have v0 := hO3.two.cell 0
           have v1 := hO3.two.cell 1
           have v2 := hO3.two.cell 2
           have v3 := hO3.two.cell 3
           simp at v0 v1 v2 v3
           have H3 : Hid (Own w0 w3 _) := hO3
           clear hO3 hf3)
        | (go_at_call 59
           refine (HST.out _ _ H3.out).mono ?_
           rintro e w4 ⟨rfl, hO4⟩
           have H4 : Hid (Own w0 w4 _) := hO4
           clear hO4))
      all_goals
        go_wp2
        go_ret
        rw [HV.out] at H4 ⊢
        exact ⟨rfl, H4.out.two.tail⟩
    · have hy0 : y = ⟨0, 0, 0, 0⟩ := by
        have := Sto.get_bad (id := id) hσ q.k (by rw [hy]; exact hcd)
        rw [hy] at this; exact this
      subst hy0
      have HV : Hid (σ.set id q = ((cd : Int), σ)) := by
        show _ = _
        unfold Sto.set
        rw [if_neg (by simp [hx])]
        split at hcode
        · rename_i hl; rw [if_pos hl, hcode]; rfl
        · rename_i hl
          rw [if_neg hl]
          split at hcode
          · rename_i hh; rw [if_pos hh, hcode]; rfl
          · exact absurd hcode hcd
      have hcd0 : ((cd : Int) != 0) = true := by rw [bne_iff_ne]; omega
      clear hx HQ hy hcode hσ
      obtain ⟨qk, qa, qb, qc⟩ := q
      simp only [Cp.ag] at z0 z1 z2 z3 HC HGT HA hk ⊢
      go_enter Tryd.func31, Tryd.ntmps31
      go_wp2_with fail
      refine HC.out.mono ?_
      rintro e w1 ⟨rfl, hf⟩
      have H1 : Hid (Own w0 w1 _) := HA.out.quiet hf
      have y0 := (HA.out.quiet hf).cell 0
      simp at y0
      clear hf HC z0 z1 z2 z3
      go_wp2_with fail
      refine (HGT.out _ H1.out.two).mono ?_
      rintro e w2 ⟨rfl, hO2⟩
      have H2 : Hid (Own w0 w2 _) := hO2
      clear hO2 H1 y0 HGT
      go_wp2
      go_ret
      rw [HV.out]
      exact ⟨rfl, (H2.out.two.tail).alloc _⟩
  · have HV : Hid (σ.set id q = ((x : Int), σ)) := by show _ = _; unfold Sto.set; rw [if_pos (by rw [hx]; exact hx0), hx]
    have hx1 : ((x : Int) != 0) = true := by simpa using hx0
    clear hx HQ hσ
    obtain ⟨qk, qa, qb, qc⟩ := q
    simp only at z0 z1 z2 z3 HC HA hk ⊢
    go_enter Tryd.func31, Tryd.ntmps31
    go_wp2_with fail
    refine HC.out.mono ?_
    rintro e w1 ⟨rfl, hf⟩
    have H1 : Hid (Own w0 w1 _) := HA.out.quiet hf
    clear hf HC z0 z1 z2 z3
    go_wp2
    go_ret
    rw [HV.out]
    exact ⟨rfl, H1.out.tail⟩
end
end Go.Proofs.YtehancopmpcpmaaDoor

/-
  The document's store: turn, Add, Remove.
-/
namespace Go.Proofs.YtehancopmpcpmaaDoor
open Go.RowKit Go.Maps
set_option linter.unusedVariables false
set_option maxRecDepth 100000

section
variable (w0 w : World) (l : List Thing) (b : Nat) (σ : Sto) (K : Nat)
end
end Go.Proofs.YtehancopmpcpmaaDoor

/-
  The document's store: Remove, List, New.
-/
namespace Go.Proofs.YtehancopmpcpmaaDoor
open Go.RowKit Go.Maps
set_option linter.unusedVariables false
set_option maxRecDepth 100000

section
variable (w0 w : World) (l : List Thing) (b : Nat) (σ : Sto) (K : Nat)
/-- the entity with that ID, as it lies in memory -/
def RX.at (x : RX) (σ : Sto) (id : Nat) : REnt := ((plc (σ.T (σ.hom id)) id).bind fun r => (x.E (σ.hom id))[r]?).getD (0, [], none, 0)
theorem RXok.at {σ : Sto} {x : RX} {K : Nat} (hx : RXok σ x K) (hσ : σ.Ok) {id : Nat} (hl : σ.S.isLive id = true) : (x.at σ id).e = (id, σ.cps id) ∧ (x.at σ id).1 = id ∧ (x.at σ id).2.1 = σ.cps id ∧ ∃ r, plc (σ.T (σ.hom id)) id = some r ∧ (x.E (σ.hom id))[r]? = some (x.at σ id) := by
  obtain ⟨r, d, hr, hd, hdi, he⟩ := hx.row hσ hl
  have e : x.at σ id = d := by unfold RX.at; rw [hr]; simp [hd]
  rw [e, Sto.cps_of hr he]
  obtain ⟨d1, d2, d3, d4⟩ := d
  simp only at hdi
  subst hdi
  exact ⟨rfl, rfl, rfl, r, hr, hd⟩
theorem RXok.atCs {σ : Sto} {x : RX} {K : Nat} (hx : RXok σ x K) (hσ : σ.Ok) {id : Nat} (hl : σ.S.isLive id = true) {w0 w3 : World} {l3 : List Thing} {b : Nat} (h3 : Own w0 w3 (RSX b σ.S x :: l3)) : Cs w3 (x.at σ id).2.2.1 (σ.cps id) := by
  obtain ⟨_, _, h2, r, _, hd⟩ := hx.at hσ hl
  obtain ⟨_, _, _, _, _, _, hc⟩ := RSX.ent w0 w3 l3 b σ x h3 _ r (hσ.home hl).1 _ hd
  rw [h2] at hc
  exact hc
theorem list_len {S : St} (hS : S.Ok) : S.list.length ≤ 1024 := by
  rw [← rl_all hS]
  have := rl_le S S.n
  have := hS.n2
  omega
set_option maxHeartbeats 4000000 in
theorem rlistS (x : RX) (h : Own w0 w (RSX b σ.S x :: l)) (hx : RXok σ x K) (hσ : σ.Ok) (hK : K ≤ 1000000) (hLV : ∀ id ∈ σ.S.list, σ.S.isLive id = true) :
    Calls Tryd.prog 28 #[.pointer (some ⟨b, 0, none⟩)] w fun e w' => ∃ ao cap, e = .returned (.slice ao σ.S.list.length cap) ∧ Own w0 w' (Row 41 2 (.slice ao σ.S.list.length cap) σ.S.list.length (cat rcells (σ.S.list.map (x.at σ))) :: RSX b σ.S x :: l) := by
  obtain ⟨i0, hi, hz0, hz1, hz2⟩ := info_parts Tryd.infoEnt
  have q0 := RSX.ids w0 w l b σ x h
  have HL : Hid (Calls Tryd.prog 56 #[.pointer (some ⟨x.bs, 0, none⟩)] w fun e w' => ∃ a c, e = .returned (.tuple #[.slice a σ.S.list.length c, .int .i64 (rr σ.S σ.S.n : Int)]) ∧ Own w0 w' (Row 38 1 (.slice a σ.S.list.length c) σ.S.list.length (irow .u32 σ.S.list) :: RSX b σ.S x :: l)) := by
    refine (rlist_ok w0 w _ x.bs σ.S x.f x.ck (RSX.iff.1 h).two hσ.s).mono ?_
    rintro e w' ⟨v, rfl, h2⟩
    obtain ⟨a, c, rfl⟩ := row_any h2.row
    exact ⟨a, c, rfl, (RSX.iff.2 h2.in23.back4).two⟩
  have hn := list_len hσ.s
  have HEN : Hid (∀ w' l' (j id : Nat), Own w0 w' (RSX b σ.S x :: l') → σ.S.list[j]? = some id → Calls Tryd.prog 57 #[.pointer (some ⟨b, 0, none⟩), .int .u32 (id : Int)] w' fun e w'' => e = .returned (.tuple #[.agg #[.int .u32 ((x.at σ id).1 : Int), .slice (x.at σ id).2.2.1 (x.at σ id).2.1.length (x.at σ id).2.2.2], .int .i64 0]) ∧ Own w0 w'' (RSX b σ.S x :: l')) := by
    intro w' l' j id h' hj
    have hl := hLV id (List.mem_of_getElem? hj)
    obtain ⟨_, _, _, r, hr, hd⟩ := hx.at hσ hl
    exact rent w0 w' l' b σ x K h' hx hσ hK id hl r hr _ hd
  clear h hx hσ hLV
  generalize rr σ.S σ.S.n = rk at *
  obtain ⟨IL, hIL⟩ : ∃ I, I = σ.S.list := ⟨_, rfl⟩
  simp only [← hIL] at HL HEN hn ⊢
  generalize hln : IL.length = n at *
  have HN : Hid (IL.length = n) := hln
  clear hln hIL
  go_enter Tryd.func28, Tryd.ntmps28
  go_wp2_with fail
  refine HL.out.mono ?_
  rintro e w1 ⟨ia, ic, rfl, hO⟩
  have H1 : Hid (Own w0 w1 _) := hO
  clear hO HL q0
  go_wp2
  go_loopw [3, 22] (fun v3 v22 wr => ∃ j : Nat, j ≤ n ∧ v22 = .int .i64 j ∧ ∃ a1 c1, v3 = .slice a1 j c1 ∧ Own w0 wr (Row 41 2 (.slice a1 j c1) j (cat rcells ((IL.map (x.at σ)).take j)) :: Row 38 1 (.slice ia n ic) n (irow .u32 IL) :: RSX b σ.S x :: l)) (fun _ v22 _ => n - (intOf v22).toNat)
  case atStart => exact ⟨0, Nat.zero_le _, rfl, none, 0, rfl, by simpa [cat] using H1.out.nilRow 41 2⟩
  case round =>
    obtain ⟨j, hj, rfl, a1, c1, rfl, hO⟩ := hrel
    have HO : Hid (Own w0 wr _) := hO
    clear H1
    by_cases hlt : j < n
    · have hlt' : (j : Int) < (n : Int) := by omega
      obtain ⟨id, hid⟩ : ∃ id, IL[j]? = some id := ⟨_, List.getElem?_eq_getElem (by rw [HN.out]; exact hlt)⟩
      obtain ⟨g, cp, hv, _⟩ := row_shape hO.two.row (by omega)
      have hia := (Value.slice.inj hv).1
      subst hia
      have c0 : wr.cell? ⟨g, j, none⟩ = some (.int .u32 (id : Int)) := by
        rw [hO.two.row.cellAt _ (by omega), getElem?_irow, hid]; rfl
      have HTK : Hid ((IL.map (x.at σ)).take (j + 1) = (IL.map (x.at σ)).take j ++ [x.at σ id]) := take_snoc _ j _ (by rw [List.getElem?_map, hid]; rfl)
      have HE : Hid (Calls _ _ _ _ _) := HEN.out wr _ j id hO.three hid
      clear hO hv hid HO
      generalize x.at σ id = d at *
      obtain ⟨d1, d2, d3, d4⟩ := d
      simp only at HE
      generalize hdl : d2.length = dl at *
      have HDL : Hid (d2.length = dl) := hdl
      clear hdl
      go_wp2_with fail
      refine HE.out.mono ?_
      rintro e w2 ⟨rfl, hO2⟩
      have hB := hO2.back3.allocC #[.int .u32 (d1 : Int), .slice d3 dl d4] 41
      have e0 := hB.cell 0
      have e1 := hB.cell 1
      simp at e0 e1
      have HB : Hid (Own w0 _ _) := hB
      clear hB hO2 HE c0
      go_wp2_with (at_builtin; refine append1_own rfl _ _ 63 rfl 41 i0 (.agg #[.int .u32 0, .slice none 0 0]) 2 32 Tryd.underlying63 hi hz0 hz1 hz2 rfl (by decide) _ _ _ rfl HB.out.two _ #[.int .u32 (d1 : Int), .slice d3 dl d4] (by simp) rfl rfl (by intro u hu; simp at hu; rcases hu with rfl | rfl <;> rfl) (by unfold maxLen; omega) (by omega) ?_)
      intro g4 c4 w4 hO4 hsz
      have H4 : Hid (Own w0 w4 (Row 41 2 (.slice (some ⟨g4, 0, none⟩) (j + 1) c4) (j + 1) (cat rcells ((IL.map (x.at σ)).take (j + 1))) :: Row 38 1 (.slice (some ⟨g, 0, none⟩) n ic) n (irow .u32 IL) :: RSX b σ.S x :: l)) := by
        show Own _ _ _
        rw [HTK.out, cat_append]
        have e2 : cat rcells [(d1, d2, d3, d4)] = [.int .u32 (d1 : Int), .slice d3 dl d4] := by
          show [Value.int .u32 (d1 : Int), Value.slice d3 d2.length d4] = _
          rw [HDL.out]
        rw [e2]; exact hO4.two.tail
      clear hO4 hsz HB e0 e1
      go_wp2
      go_roundw
      case rel => exact ⟨j + 1, by omega, by go_num, _, _, rfl, H4.out⟩
      case measure => simp [intOf]; omega
    · have hjn : j = n := by omega
      subst hjn
      have hlt' : ¬ (j : Int) < (j : Int) := by omega
      clear hO
      go_wp2
      go_ret
      refine ⟨a1, c1, rfl, ?_⟩
      have h5 := HO.out
      rw [List.take_of_length_le (by rw [List.length_map, HN.out]; exact Nat.le_refl _)] at h5
      exact h5.two.tail

theorem Own.rtabsNew (h : Own w0 w l) : Own w0 w (RTabsOn (List.range 64) (fun _ => .slice none 0 0) (fun _ => []) :: l) := by
  refine Own.ex_iff.2 ⟨(), ?_⟩
  suffices H : ∀ is : List Nat, Own w0 w (is.map (fun m => RTE ((fun _ => .slice none 0 0 : Nat → Value) m) ((fun _ => [] : Nat → List REnt) m)) ++ l) from H _
  intro is
  induction is with
  | nil => exact h
  | cons a is ih => exact RTE.iff.2 (by simpa [cat] using ih.nilRow 41 2)
def jpair (j k : Nat) : Value := if k % 2 = 0 then .int .u8 (if k / 2 < j then ((k / 2 : Nat) : Int) else 0) else .slice none 0 0
def jcells (bs j : Nat) : Array Value := (Value.pointer (some ⟨bs, 0, none⟩) :: (List.range 128).map (jpair j)).toArray
set_option maxRecDepth 100000 in
theorem jcells_zero (bs : Nat) : Tryd.zeroCells101.setIfInBounds 0 (.pointer (some ⟨bs, 0, none⟩)) = jcells bs 0 := by kernel_rfl
theorem jcells_end (bs : Nat) : jcells bs 64 = rscells bs (fun _ => .slice none 0 0) := by
  unfold jcells rscells
  have : (List.range 128).map (jpair 64) = (List.range 128).map (rpair (fun _ => .slice none 0 0)) := by
    refine List.map_congr_left (fun k hk => ?_)
    have hk' : k < 128 := by simpa using hk
    unfold jpair rpair
    by_cases e : k % 2 = 0
    · rw [if_pos e, if_pos e, if_pos (by omega)]
    · rw [if_neg e, if_neg e]
  rw [this]
theorem jcells_set (bs j : Nat) (hj : j < 64) : (jcells bs j).setIfInBounds (1 + j * 2) (.int .u8 (j : Int)) = jcells bs (j + 1) := by
  rw [show 1 + j * 2 = j * 2 + 1 by omega]
  unfold jcells
  rw [List.setIfInBounds_toArray, List.set_cons_succ]
  have : ((List.range 128).map (jpair j)).set (j * 2) (.int .u8 (j : Int)) = (List.range 128).map (jpair (j + 1)) := by
    apply List.ext_getElem?
    intro i
    rw [List.getElem?_set]
    simp only [List.length_map, List.length_range, List.getElem?_map]
    by_cases c : j * 2 = i
    · subst c
      rw [if_pos rfl, if_pos (by omega), List.getElem?_range (by omega)]
      show _ = some (jpair _ _)
      unfold jpair
      rw [if_pos (by omega), if_pos (by omega), show j * 2 / 2 = j by omega]
    · rw [if_neg c]
      by_cases d : i < 128
      · rw [List.getElem?_range d]
        show some (jpair _ _) = some (jpair _ _)
        unfold jpair
        by_cases e : i % 2 = 0
        · rw [if_pos e, if_pos e]
          by_cases g : i / 2 < j
          · rw [if_pos g, if_pos (by omega)]
          · rw [if_neg g, if_neg (by omega)]
        · rw [if_neg e, if_neg e]
      · rw [List.getElem?_eq_none (by simp; omega)]; rfl
  rw [this]
set_option maxHeartbeats 2000000 in
theorem rnewS (h : Own w0 w l) (n f : Nat) (h1 : 1 ≤ n) (h2 : n ≤ 1024) (h3 : 1 ≤ f) (h4 : f ≤ 4194303) :
    Calls Tryd.prog 22 #[.int .i64 (n : Int), .int .i64 (f : Int)] w fun e w' => ∃ b, e = .returned (.tuple #[.pointer (some ⟨b, 0, none⟩), .int .i64 0]) ∧ Own w0 w' (RSto b (Sto.new n f) 0 :: l) := by
  have HN : Hid (Calls _ _ _ _ _) := rnew_ok w0 w l n f h h1 h2 h3 (by omega)
  have HST : Hid (Stamp (St.new n f) (fun _ => 0) 0) := Stamp.new n f h1
  clear h
  go_enter Tryd.func22, Tryd.ntmps22
  go_wp2_with fail
  refine HN.out.mono ?_
  rintro e w1 ⟨bs, rfl, hO⟩
  have k := hO.allocC (jcells bs 0) 101
  rw [← jcells_zero] at k
  have HK : Hid (Own w0 _ _) := k
  clear hO k HN
  go_wp2
  go_loopw [22] (fun cv wr => ∃ j : Nat, j ≤ 64 ∧ cv = .int .i64 j ∧ Own w0 wr (Cells w1.heap.size (jcells bs j) 101 :: RSlots bs (St.new n f) (fun _ => 0) 0 :: l)) (fun cv _ => 64 - (intOf cv).toNat)
  case atStart => exact ⟨0, Nat.zero_le _, rfl, by rw [← jcells_zero]; exact HK.out⟩
  case round =>
    obtain ⟨j, hj, rfl, hO⟩ := hrel
    have HO : Hid (Own w0 wr _) := hO
    clear HK
    by_cases hlt : j < 64
    · have hlt' : (j : Int) < 64 := by omega
      have y0 := hO.froz (1 + j * 2)
      have z0 := hO.cell (1 + j * 2)
      have hz : ∃ u, (jcells bs j)[1 + j * 2]? = some (.int .u8 u) := by
        rw [show 1 + j * 2 = j * 2 + 1 by omega]
        refine ⟨0, ?_⟩
        simp only [jcells, List.getElem?_toArray, List.getElem?_cons_succ, List.getElem?_map]
        rw [List.getElem?_range (by omega)]
        show some (jpair _ _) = _
        unfold jpair
        rw [if_pos (by omega), if_neg (by omega)]
      obtain ⟨u, hu⟩ := hz
      rw [hu] at z0
      have HS : Hid (Own w0 (wr.setCell ⟨w1.heap.size, 1 + j * 2, none⟩ (.int .u8 (j : Int))) (Cells w1.heap.size (jcells bs (j + 1)) 101 :: RSlots bs (St.new n f) (fun _ => 0) 0 :: l)) := by
        have := hO.setC (1 + j * 2) (.int .u8 (j : Int))
        rw [jcells_set bs j hlt] at this
        exact this
      clear hO hu
      go_wp2
      go_roundw
      case rel => exact ⟨j + 1, by omega, by go_num, HS.out⟩
      case measure => simp [intOf]; omega
    · have hj6 : j = 64 := by omega
      subst hj6
      clear hO
      go_wp2
      go_ret2
      have h5 := HO.out
      rw [jcells_end] at h5
      refine ⟨_, rfl, RSto.mk (σ := Sto.new n f) (x := ⟨bs, fun _ => .slice none 0 0, fun _ => 0, 0, fun _ => []⟩) ⟨HST.out, Nat.le_refl _, fun m hm => rfl, fun m hm => Nat.le_refl _⟩ (RSX.iff.2 ?_)⟩
      exact (Own.rtabsNew w0 _ _ h5).back3
end
end Go.Proofs.YtehancopmpcpmaaDoor

/-
  The document's store, with entities of which it is known that they stay where they are.
-/
namespace Go.Proofs.YtehancopmpcpmaaDoor
open Go.RowKit Go.Maps
set_option linter.unusedVariables false
set_option maxRecDepth 100000

section
variable {w0 w : World} {l : List Thing} {b k K : Nat} {v : Value} {E : List REnt} {L : List Ent} {S : St} {x : RX} {σ : Sto} {is : List Nat} {vv vv' : Nat → Value} {EE EE' : Nat → List REnt}
theorem RSX.outG {G : List REnt} (h : Own w0 w (RSX b S x :: l)) (hk : k < 64) (hG : ∀ d ∈ G, d ∈ x.E k) : Own w0 w (RTaG G b (1 + k * 2) (rscells x.bs x.v) k ((x.E k).map REnt.e) :: RSlots x.bs S x.f x.ck :: RTabsOn ((List.range 64).erase k) x.v x.E :: l) := by
  have h3 := RSX.iff.1 h
  have h4 := (RTabsOn.pull (k := k) (by simpa using hk)).1 h3.three
  have h5 := RTE.iff.1 h4
  have e : (rscells x.bs x.v).setIfInBounds (1 + k * 2 + 1) (x.v k) = rscells x.bs x.v := by
    rw [rscells_set _ _ _ hk]
    congr 1
    funext i
    by_cases c : i = k
    · subst c; exact upd_same _ _ _
    · exact upd_other _ _ _ c
  refine RTaG.shut (v := x.v k) (E := x.E k) rfl hG ⟨rscells_m _ _ _ hk, by rw [rscells_size]; omega⟩ ?_
  rw [e]
  refine h5.perm ?_
  refine List.Perm.trans ?_ (List.Perm.swap _ _ _)
  refine List.Perm.cons _ ?_
  have : ((x.E k).map rrow ++ RTabsOn ((List.range 64).erase k) x.v x.E :: Cells b (rscells x.bs x.v) 101 :: RSlots x.bs S x.f x.ck :: l).Perm (Cells b (rscells x.bs x.v) 101 :: ((x.E k).map rrow ++ RTabsOn ((List.range 64).erase k) x.v x.E :: RSlots x.bs S x.f x.ck :: l)) := by
    have := List.perm_middle (a := Cells b (rscells x.bs x.v) 101) (l₁ := (x.E k).map rrow ++ [RTabsOn ((List.range 64).erase k) x.v x.E]) (l₂ := RSlots x.bs S x.f x.ck :: l)
    simpa using this
  refine this.trans (List.Perm.cons _ ((List.Perm.swap _ _ _).append_left _))
theorem RSX.intoG {G : List REnt} {bs ck : Nat} {f : Nat → Nat} (hk : k < 64) (h : Own w0 w (RTaG G b (1 + k * 2) (rscells bs vv) k L :: RSlots bs S f ck :: RTabsOn ((List.range 64).erase k) vv EE :: l)) :
    ∃ v' E', E'.map REnt.e = L ∧ (∀ d ∈ G, d ∈ E') ∧ Own w0 w (RSX b S ⟨bs, upd vv k v', f, ck, upd EE k E'⟩ :: l) := by
  obtain ⟨v', E', hE, hG, h1⟩ := RTaG.open h
  refine ⟨v', E', hE, hG, RSX.iff.2 ?_⟩
  rw [rscells_set _ _ _ hk] at h1
  have h2 : Own w0 w (RTE v' E' :: RTabsOn ((List.range 64).erase k) vv EE :: Cells b (rscells bs (upd vv k v')) 101 :: RSlots bs S f ck :: l) := by
    refine RTE.iff.2 (h1.perm ?_)
    refine (List.Perm.swap _ _ _).trans ?_
    refine List.Perm.cons _ ?_
    have := List.perm_middle (a := Cells b (rscells bs (upd vv k v')) 101) (l₁ := E'.map rrow ++ [RTabsOn ((List.range 64).erase k) vv EE]) (l₂ := RSlots bs S f ck :: l)
    have h3 : (E'.map rrow ++ RTabsOn ((List.range 64).erase k) vv EE :: Cells b (rscells bs (upd vv k v')) 101 :: RSlots bs S f ck :: l).Perm (Cells b (rscells bs (upd vv k v')) 101 :: (E'.map rrow ++ RTabsOn ((List.range 64).erase k) vv EE :: RSlots bs S f ck :: l)) := by simpa using this
    refine List.Perm.trans (List.Perm.cons _ ((List.Perm.swap _ _ _).append_left _)) h3.symm
  have e1 : RTabsOn ((List.range 64).erase k) vv EE = RTabsOn ((List.range 64).erase k) (upd vv k v') (upd EE k E') := RTabsOn.congr (fun m hm => ⟨(upd_other _ _ _ (but_mem hm)).symm, (upd_other _ _ _ (but_mem hm)).symm⟩)
  rw [e1] at h2
  have h4 : Own w0 w (RTE (upd vv k v' k) (upd EE k E' k) :: RTabsOn ((List.range 64).erase k) (upd vv k v') (upd EE k E') :: Cells b (rscells bs (upd vv k v')) 101 :: RSlots bs S f ck :: l) := by rw [upd_same, upd_same]; exact h2
  have h5 := (RTabsOn.pull (k := k) (by simpa using hk)).2 h4
  refine h5.perm ?_
  exact (List.Perm.swap _ _ _).trans ((List.Perm.swap _ _ _).cons _)
end
/-- these lie in the store -/
def KP (σ : Sto) (x : RX) (G : List REnt) : Prop := ∀ d ∈ G, σ.hom d.1 < 64 ∧ d ∈ x.E (σ.hom d.1)
def gAt (σ : Sto) (G : List REnt) (m : Nat) : List REnt := G.filter (fun d => decide (σ.hom d.1 = m))
theorem gAt_in {σ : Sto} {x : RX} {G : List REnt} (h : KP σ x G) (m : Nat) : ∀ d ∈ gAt σ G m, d ∈ x.E m := by
  intro d hd
  obtain ⟨h1, h2⟩ := List.mem_filter.1 hd
  have := (h d h1).2
  rw [of_decide_eq_true h2] at this
  exact this
theorem gAt_sub {σ : Sto} {G : List REnt} {m : Nat} {d : REnt} (hd : d ∈ gAt σ G m) : d ∈ G := (List.mem_filter.1 hd).1
theorem KP.upd {σ σ' : Sto} {x x' : RX} {G : List REnt} (h : KP σ x G) {m : Nat} {E' : List REnt} (hE : ∀ d ∈ gAt σ G m, d ∈ E') (hx : x'.E = Go.Proofs.YtehancopmpcpmaaDoor.upd x.E m E') (hh : ∀ d ∈ G, σ'.hom d.1 = σ.hom d.1) : KP σ' x' G := by
  intro d hd
  obtain ⟨h1, h2⟩ := h d hd
  rw [hh d hd, hx]
  refine ⟨h1, ?_⟩
  by_cases c : σ.hom d.1 = m
  · rw [c, upd_same]
    exact hE d (List.mem_filter.2 ⟨hd, by simp [c]⟩)
  · rw [upd_other _ _ _ c]
    exact h2
def RStG (G : List REnt) (b : Nat) (σ : Sto) (K : Nat) : Thing := Ex (fun x : RX => [Fact (RXok σ x K ∧ KP σ x G), RSX b σ.S x])
section
variable {w0 w : World} {l : List Thing} {b K : Nat} {x : RX} {σ : Sto} {G : List REnt}
theorem RStG.opn (h : Own w0 w (RStG G b σ K :: l)) : ∃ x, RXok σ x K ∧ KP σ x G ∧ Own w0 w (RSX b σ.S x :: l) := by
  obtain ⟨x, h⟩ := Own.ex_iff.1 h
  have h' : Own w0 w (Fact (RXok σ x K ∧ KP σ x G) :: RSX b σ.S x :: l) := h
  exact ⟨x, (Own.fact.1 h').1.1, (Own.fact.1 h').1.2, (Own.fact.1 h').2⟩
theorem RStG.mk (hx : RXok σ x K) (hg : KP σ x G) (h : Own w0 w (RSX b σ.S x :: l)) : Own w0 w (RStG G b σ K :: l) := Own.ex_iff.2 ⟨x, Own.fact.2 ⟨⟨hx, hg⟩, h⟩⟩
theorem RStG.less (h : Own w0 w (RStG G b σ K :: l)) : Own w0 w (RSto b σ K :: l) := by
  obtain ⟨x, hx, _, h⟩ := RStG.opn h
  exact RSto.mk hx h
theorem RStG.sub {G' : List REnt} (hs : ∀ d ∈ G', d ∈ G) (h : Own w0 w (RStG G b σ K :: l)) : Own w0 w (RStG G' b σ K :: l) := by
  obtain ⟨x, hx, hg, h⟩ := RStG.opn h
  exact RStG.mk hx (fun d hd => hg d (hs d hd)) h
theorem RStG.stoK {K' : Nat} (h : K ≤ K') (hO : Own w0 w (RStG G b σ K :: l)) : Own w0 w (RStG G b σ K' :: l) := by
  obtain ⟨x, hx, hg, h2⟩ := RStG.opn hO
  exact RStG.mk (hx.mono h) hg h2
theorem Own.stoKG {K' : Nat} (h : K ≤ K') (hO : Own w0 w (RStG G b σ K :: l)) : Own w0 w (RStG G b σ K' :: l) := RStG.stoK h hO
theorem RStG.cs (h : Own w0 w (RStG G b σ K :: l)) {d : REnt} (hd : d ∈ G) : Cs w d.2.2.1 d.2.1 := by
  obtain ⟨x, hx, hg, h⟩ := RStG.opn h
  obtain ⟨h1, h2⟩ := hg d hd
  obtain ⟨r, hr⟩ := List.mem_iff_getElem?.1 h2
  obtain ⟨_, _, _, _, _, _, hc⟩ := RSX.ent w0 w l b σ x h _ r h1 d hr
  exact hc
theorem RStG.all (hx : RXok σ x K) (hσ : σ.Ok) {L : List Nat} (hL : ∀ id ∈ L, σ.S.isLive id = true) (h : Own w0 w (RSX b σ.S x :: l)) : Own w0 w (RStG (L.map (x.at σ)) b σ K :: l) := by
  refine RStG.mk hx (fun d hd => ?_) h
  obtain ⟨id, hid, rfl⟩ := List.mem_map.1 hd
  obtain ⟨_, h1, _, r, _, h2⟩ := hx.at hσ (hL id hid)
  rw [h1]
  exact ⟨(hσ.home (hL id hid)).1, List.mem_of_getElem? h2⟩
end
end Go.Proofs.YtehancopmpcpmaaDoor
