/-
  The document's store: put, Spawn, Despawn.
-/
import Derived.Test.YtibdgdbkdnifbaaGreatDoorDgg
import Derived.Test.YtibdgdbkdnifbaaGreatDoorDe
import Derived.Test.YtibdgdbkdnifbaaGreatDoorOog
import Derived.Test.YtibdgdbkdnifbaaGreatDoorDig
import Derived.Test.YtibdgdbkdnifbaaGreatDoorSm
import Derived.Test.YtibdgdbkdnifbaaGreatDoorOig
import Derived.Test.YtibdgdbkdnifbaaGreatDoorOrg
namespace Go.Proofs.YtibdgdbkdnifbaaGreatDoor
open Go.RowKit Go.Maps
set_option linter.unusedVariables false
set_option maxRecDepth 100000

section
variable (w0 w : World) (l : List Thing) (b : Nat) (σ : Sto) (K : Nat)
set_option maxHeartbeats 2000000 in
theorem rputS (h : Own w0 w (RSto b σ K :: l)) (id : Nat) (hid : id < 4294967296) (ao : Option Addr) (len cap : Nat) (C : List Cp) (hCl : C.length = len) (hCs : ∀ w', Own w0 w' l → Cs w' ao C) (hCk : ∀ q ∈ C, q.k < 256) (hlen : len ≤ 1000000) (h0 : lst (-1) C = 0) (hT : TOk (msk C) (σ.T (msk C))) (hn : plc (σ.T (msk C)) id = none) (hK : K < 1000000) :
    Calls Tryz.prog 32 #[.pointer (some ⟨b, 0, none⟩), .int .u32 (id : Int), .slice ao len cap] w fun e w' => e = .returned (.tuple #[]) ∧ Own w0 w' (RSto b (σ.put id C) (K + 1) :: l) := by
  have h6 := msk64 C
  have H : Hid (Own w0 w.drew (RSto b σ K :: l)) := h.drew
  have HMK : Hid (Calls Tryz.prog 70 #[.slice ao len cap] w.drew fun e w'' => e = .returned (.int .u8 ((msk C : Nat) : Int)) ∧ Fr Nobody w.drew w'') := rmask_any w.drew ao len cap C hCl (hCs _ h.drew.tail) hCk hlen
  have HAD : Hid (∀ w', Own w0 w' (RSto b σ K :: l) → Calls Tryz.prog 69 #[.pointer (some ⟨b, 1 + msk C * 2, none⟩), .int .u32 (id : Int), .slice ao len cap] w' fun e w'' => e = .returned (.int .i64 0) ∧ Own w0 w'' (RSto b (σ.put id C) (K + 1) :: l)) := by
    intro w' h'
    obtain ⟨x, hx, h'⟩ := RSto.opn h'
    have h2 := RSX.out h' h6
    rw [hx.E _ h6] at h2
    have ht : tadd (msk C) (σ.T (msk C)) id C = (0, σ.T (msk C) ++ [(id, C)]) := by unfold tadd; rw [if_neg (by simp [h0]), if_neg (by simp), if_neg (by rw [hn]; simp)]
    refine (rtaddC w0 w' _ b _ _ _ _ h2 hT id hid ao len cap C hCl (fun w'' h'' => hCs _ h''.tail.tail) hCk hlen (by have := hx.len _ h6; omega)).mono ?_
    rintro e w'' ⟨rfl, h3⟩
    rw [ht] at h3 ⊢
    obtain ⟨v', E', hE, h4⟩ := RSX.into h6 h3
    refine ⟨rfl, RSto.mk (σ := σ.put id C) ((hx.mono (Nat.le_succ K)).upd h6 hE ?_) h4⟩
    have := hx.len _ h6
    simp; omega
  clear h hCs hCk h0 hT hn
  generalize msk C = m at *
  go_enter Tryz.func32, Tryz.ntmps32
  go_wp2_with fail
  have hm64 : (m : Int) < 64 := by omega
  go_region_with (first
    | (go_at_call 70
       refine HMK.out.mono ?_
       rintro e w3 ⟨rfl, hf3⟩
       have H3 : Hid (Own w0 w3 (RSto b σ K :: l)) := H.out.quiet hf3
       clear hf3)
    | (go_at_call 69
       refine (HAD.out _ H3.out).mono ?_
       rintro e w4 ⟨rfl, hO4⟩
       have H4 : Hid (Own w0 w4 _) := hO4
       clear hO4))
  all_goals
    go_wp2
    go_end0
    exact ⟨rfl, H4.out⟩
set_option maxHeartbeats 2000000 in
theorem rspawnC (h : Own w0 w (RSto b σ K :: l)) (hσ : σ.Ok)
    (ao : Option Addr) (len cap : Nat) (C : List Cp) (hCl : C.length = len) (hCs : ∀ w', Own w0 w' l → Cs w' ao C) (hCk : ∀ q ∈ C, q.k < 256) (hlen : len ≤ 1000000) (hK : K < 1000000) :
    Calls Tryz.prog 9 #[.pointer (some ⟨b, 0, none⟩), .slice ao len cap] w fun e w' => e = .returned (.tuple #[.int .u32 ((σ.spawn C).1 : Int), .int .i64 (σ.spawn C).2.1]) ∧ Own w0 w' (RSto b (σ.spawn C).2.2 (K + 1) :: l) := by
  have H : Hid (Own w0 w (RSto b σ K :: l)) := h
  have HLS : Hid (Calls _ _ _ _ _) := rlist_any w ao len cap C hCl (hCs _ h.tail) hCk hlen
  by_cases h0 : lst (-1) C = 0
  · rw [h0] at HLS
    have HTK : Hid (∀ w', Own w0 w' (RSto b σ K :: l) → ∃ bs, w'.cell? ⟨b, 0, none⟩ = some (.pointer (some ⟨bs, 0, none⟩)) ∧ Calls Tryz.prog 31 #[.pointer (some ⟨bs, 0, none⟩)] w' fun e w'' => e = .returned (.tuple #[.int .u32 (σ.S.take.1 : Int), .int .i64 σ.S.take.2.1]) ∧ Own w0 w'' (RSto b { σ with S := σ.S.take.2.2 } K :: l)) := by
      intro w' h'
      obtain ⟨x, hx, h'⟩ := RSto.opn h'
      refine ⟨x.bs, RSX.ids w0 w' l b σ x h', (rtake_ok w0 w' _ x.bs σ.S x.f x.ck (RSX.iff.1 h').two hσ.s hx.st (by have := hx.ck; omega)).mono ?_⟩
      rintro e w'' ⟨rfl, f', hf', h2⟩
      refine ⟨rfl, RSto.mk (σ := { σ with S := σ.S.take.2.2 }) (x := { x with f := f' }) ⟨hf', hx.ck, hx.E, hx.len⟩ (RSX.iff.2 h2.two)⟩
    by_cases h1 : σ.S.take.2.1 = 0
    · have HV : Hid (σ.spawn C = (σ.S.take.1, 0, Sto.put { σ with S := σ.S.take.2.2 } σ.S.take.1 C)) := by show _ = _; unfold Sto.spawn; rw [if_neg (by simp [h0]), if_neg (by simp [h1])]
      have hL := hσ.take h1
      have hli := St.live_lt hL.s hL.li
      have HPU : Hid (∀ w', Own w0 w' (RSto b { σ with S := σ.S.take.2.2 } K :: l) → Calls Tryz.prog 32 #[.pointer (some ⟨b, 0, none⟩), .int .u32 (σ.S.take.1 : Int), .slice ao len cap] w' fun e w'' => e = .returned (.tuple #[]) ∧ Own w0 w'' (RSto b (Sto.put { σ with S := σ.S.take.2.2 } σ.S.take.1 C) (K + 1) :: l)) := by
        intro w' h'
        exact rputS w0 w' l b _ K h' σ.S.take.1 hli.1 ao len cap C hCl hCs hCk hlen h0 (hL.t _ (msk64 C)) (hL.none (msk64 C)) hK
      rw [h1] at HTK
      clear h hCs hσ h0 h1 hL hli
      go_enter Tryz.func9, Tryz.ntmps9
      go_wp2_with fail
      refine HLS.out.mono ?_
      rintro e w1 ⟨rfl, hf⟩
      obtain ⟨bs, q0, htk⟩ := HTK.out _ (H.out.quiet hf)
      have HTK1 : Hid (Calls _ _ _ _ _) := htk
      clear htk hf HTK H HLS
      go_wp2_with fail
      refine HTK1.out.mono ?_
      rintro e w2 ⟨rfl, hO⟩
      have H2 : Hid (Own w0 w2 _) := hO
      clear hO HTK1
      go_wp2_with fail
      refine (HPU.out _ H2.out).mono ?_
      rintro e w3 ⟨rfl, hO⟩
      have H3 : Hid (Own w0 w3 _) := hO
      clear hO
      go_wp2
      go_ret2
      rw [HV.out]
      exact ⟨rfl, H3.out⟩
    · have HV : Hid (σ.spawn C = (0, σ.S.take.2.1, σ)) := by show _ = _; unfold Sto.spawn; rw [if_neg (by simp [h0]), if_pos (by simp [h1])]
      have HS : Hid (σ.S.take.2.2 = σ.S ∧ σ.S.take.1 = 0) := by
        show _ ∧ _
        unfold St.take at h1 ⊢
        split at h1
        · exact absurd rfl h1
        · split at h1
          · exact absurd rfl h1
          · rename_i c; simp [c]
      rw [HS.out.2] at HTK
      clear h hCs hσ h0
      generalize σ.S.take.2.1 = r at *
      have h1' : (r == (0 : Int)) = false := by simpa using h1
      go_enter Tryz.func9, Tryz.ntmps9
      go_wp2_with fail
      refine HLS.out.mono ?_
      rintro e w1 ⟨rfl, hf⟩
      obtain ⟨bs, q0, htk⟩ := HTK.out _ (H.out.quiet hf)
      have HTK1 : Hid (Calls _ _ _ _ _) := htk
      clear htk hf HTK H HLS
      go_wp2_with fail
      refine HTK1.out.mono ?_
      rintro e w2 ⟨rfl, hO⟩
      have H2 : Hid (Own w0 w2 _) := hO
      clear hO HTK1
      go_wp2
      go_ret2
      rw [HV.out]
      have h3 := H2.out
      rw [HS.out.1] at h3
      exact ⟨rfl, h3.rstoK (Nat.le_succ K)⟩
  · have HV : Hid (σ.spawn C = (0, (lst (-1) C : Int), σ)) := by show _ = _; unfold Sto.spawn; rw [if_pos h0]
    generalize lst (-1) C = r at *
    have h1' : ((r : Int) != 0) = true := by simpa using h0
    clear h hCs hσ h0
    go_enter Tryz.func9, Tryz.ntmps9
    go_wp2_with fail
    refine HLS.out.mono ?_
    rintro e w1 ⟨rfl, hf⟩
    have H1 : Hid (Own w0 w1 _) := H.out.quiet hf
    clear hf H HLS
    go_wp2
    go_ret2
    rw [HV.out]
    exact ⟨rfl, H1.out.rstoK (Nat.le_succ K)⟩
/-- the row of one that there is -/
theorem RXok.row {σ : Sto} {x : RX} {K : Nat} (hx : RXok σ x K) (hσ : σ.Ok) {id : Nat} (hl : σ.S.isLive id = true) : ∃ r d, plc (σ.T (σ.hom id)) id = some r ∧ (x.E (σ.hom id))[r]? = some d ∧ d.1 = id ∧ (σ.T (σ.hom id))[r]? = some (id, d.2.1) := by
  obtain ⟨h6, hn, r, e, hr, he, hi⟩ := hσ.home hl
  have : ((x.E (σ.hom id)).map REnt.e)[r]? = some e := by rw [hx.E _ h6]; exact he
  rw [List.getElem?_map] at this
  cases hd : (x.E (σ.hom id))[r]? with
  | none => rw [hd] at this; simp at this
  | some d =>
    rw [hd] at this
    have hde : d.e = e := Option.some.inj this
    subst hde
    have h1 : d.1 = id := hi
    refine ⟨r, d, hr, hd, h1, ?_⟩
    rw [he, ← h1]; rfl
/-- Remove of the table that has one -/
theorem rdrop (h : Own w0 w (RSto b σ K :: l)) (hσ : σ.Ok) (hK : K ≤ 1000000) (id : Nat) (hl : σ.S.isLive id = true) (r : Nat) (C : List Cp) (hr : plc (σ.T (σ.hom id)) id = some r) (he : (σ.T (σ.hom id))[r]? = some (id, C)) :
    Calls Tryz.prog 37 #[.pointer (some ⟨b, 1 + σ.hom id * 2, none⟩), .int .u32 (id : Int)] w fun out w' => ∃ ao cap, out = .returned (.tuple #[.slice ao C.length cap, .int .i64 0]) ∧ Own w0 w' (RSto b (σ.out (σ.hom id) r) K :: l) := by
  obtain ⟨h6, _⟩ := hσ.home hl
  obtain ⟨x, hx, h'⟩ := RSto.opn h
  have h2 := RSX.out h' h6
  rw [hx.E _ h6] at h2
  refine (rtremC w0 w _ b _ _ _ _ h2 (hσ.t _ h6) (by have := hx.len _ h6; omega) id r (id, C) hr he).mono ?_
  rintro out w' ⟨ao, cap, rfl, h3⟩
  obtain ⟨v', E', hE, h4⟩ := RSX.into h6 h3.tail
  refine ⟨ao, cap, rfl, RSto.mk (σ := σ.out (σ.hom id) r) (hx.upd h6 hE ?_) h4⟩
  have h5 := hx.len _ h6
  have h7 := (List.getElem?_eq_some_iff.1 he).1
  rw [length_outr _ _ h7]; omega
set_option maxHeartbeats 2000000 in
theorem rdespawnC (h : Own w0 w (RSto b σ K :: l)) (hσ : σ.Ok) (id : Nat) (hid : id < 4294967296) (hK : K < 1000000) :
    Calls Tryz.prog 11 #[.pointer (some ⟨b, 0, none⟩), .int .u32 (id : Int)] w fun e w' => e = .returned (.int .i64 (σ.despawn id).1) ∧ Own w0 w' (RSto b (σ.despawn id).2 (K + 1) :: l) := by
  cases hl : σ.S.isLive id with
  | false =>
    have HV : Hid (σ.despawn id = (7, σ)) := by show _ = _; unfold Sto.despawn; rw [hl]; rfl
    obtain ⟨x, hx, h'⟩ := RSto.opn h
    have HE : Hid (Calls _ _ _ _ _) := rentNo w0 w l b σ x K h' hx hσ (by omega) id hl
    have HX : Hid (RXok σ x K) := hx
    clear h h' hσ hx hl
    go_enter Tryz.func11, Tryz.ntmps11
    go_wp2_with fail
    refine HE.out.mono ?_
    rintro e w1 ⟨rfl, hO⟩
    have H1 : Hid (Own w0 w1 _) := hO
    clear hO HE
    go_wp2
    go_ret
    rw [HV.out]
    exact ⟨rfl, (RSto.mk HX.out (H1.out.alloc _)).rstoK (Nat.le_succ K)⟩
  | true =>
    obtain ⟨x, hx, h'⟩ := RSto.opn h
    obtain ⟨r, d, hr, hd, hdi, he⟩ := hx.row hσ hl
    have HV : Hid (σ.despawn id = (0, { σ.out (σ.hom id) r with S := σ.S.less id })) := by show _ = _; unfold Sto.despawn; rw [hl, hr]; rfl
    have HE : Hid (Calls _ _ _ _ _) := rent w0 w l b σ x K h' hx hσ (by omega) id hl r hr d hd
    obtain ⟨hw, h6⟩ := whr_live hσ hl
    have HFD : Hid (∀ w' l', Own w0 w' (RSX b σ.S x :: l') → Calls Tryz.prog 38 #[.pointer (some ⟨b, 0, none⟩), .int .u32 (id : Int)] w' fun e w'' => e = .returned (.pointer (some ⟨b, 1 + σ.hom id * 2, none⟩)) ∧ Fr Nobody w' w'') := by
      intro w' l' h''
      have := rfind w0 w' l' b σ x K h'' hx hσ.t (by omega) id _ hw
      rw [if_pos h6] at this
      exact this
    have HDR : Hid (∀ w', Own w0 w' (RSX b σ.S x :: l) → Calls Tryz.prog 37 #[.pointer (some ⟨b, 1 + σ.hom id * 2, none⟩), .int .u32 (id : Int)] w' fun out w'' => ∃ ao cap, out = .returned (.tuple #[.slice ao d.2.1.length cap, .int .i64 0]) ∧ Own w0 w'' (RSto b (σ.out (σ.hom id) r) K :: l)) := fun w' h'' => rdrop w0 w' l b σ K (RSto.mk hx h'') hσ (by omega) id hl r _ hr he
    have HFR : Hid (∀ w', Own w0 w' (RSto b (σ.out (σ.hom id) r) K :: l) → ∃ bs, w'.cell? ⟨b, 0, none⟩ = some (.pointer (some ⟨bs, 0, none⟩)) ∧ Calls Tryz.prog 39 #[.pointer (some ⟨bs, 0, none⟩), .int .u32 (id : Int)] w' fun e w'' => e = .returned (.int .i64 0) ∧ Own w0 w'' (RSto b { σ.out (σ.hom id) r with S := σ.S.less id } (K + 1) :: l)) := by
      intro w' h''
      obtain ⟨y, hy, h''⟩ := RSto.opn h''
      have hfr : σ.S.free id = (0, σ.S.less id) := (St.free_live hσ.s hl).1
      refine ⟨y.bs, RSX.ids w0 w' l b _ y h'', (rfree_ok w0 w' _ y.bs σ.S y.f y.ck id (RSX.iff.1 h'').two hσ.s hy.st hid (by have := hy.ck; omega)).mono ?_⟩
      rintro e w'' ⟨rfl, f', ck', hck', hst, h2⟩
      rw [hfr] at hst h2 ⊢
      refine ⟨rfl, RSto.mk (σ := { σ.out (σ.hom id) r with S := σ.S.less id }) (x := { y with f := f', ck := ck' }) ⟨hst, by have := hy.ck; simp only; omega, hy.E, fun m hm => by have := hy.len m hm; exact Nat.le_succ_of_le this⟩ (RSX.iff.2 h2.two)⟩
    clear h h' hσ hx hl hr hd he hw h6
    generalize σ.hom id = m at *
    obtain ⟨d1, d2, d3, d4⟩ := d
    simp only at HE HDR hdi
    subst hdi
    generalize d2.length = dl at *
    go_enter Tryz.func11, Tryz.ntmps11
    go_wp2_with fail
    refine HE.out.mono ?_
    rintro e w1 ⟨rfl, hO⟩
    have H1 : Hid (Own w0 (w1.alloc (.cells #[.int .u32 (d1 : Int), .slice d3 dl d4] 94)) _) := hO.alloc _
    clear hO HE
    go_wp2_with fail
    refine (HFD.out _ _ H1.out).mono ?_
    rintro e w2 ⟨rfl, hf⟩
    have H2 : Hid (Own w0 w2 _) := H1.out.quiet hf
    clear hf H1 HFD
    go_wp2_with fail
    refine (HDR.out _ H2.out).mono ?_
    rintro e w3 ⟨ao, cap, rfl, hO⟩
    obtain ⟨bs, q0, hfr⟩ := HFR.out _ hO
    have HFR1 : Hid (Calls _ _ _ _ _) := hfr
    clear hfr hO HDR H2 HFR
    go_wp2_with fail
    refine HFR1.out.mono ?_
    rintro e w4 ⟨rfl, hO⟩
    have H4 : Hid (Own w0 w4 _) := hO
    clear hO
    go_wp2
    go_ret
    rw [HV.out]
    exact ⟨rfl, H4.out⟩
end
end Go.Proofs.YtibdgdbkdnifbaaGreatDoor

/-
  The document's store: Get, Set, turn, Add, Remove.
-/
namespace Go.Proofs.YtibdgdbkdnifbaaGreatDoor
open Go.RowKit Go.Maps
set_option linter.unusedVariables false
set_option maxRecDepth 100000

def Sto.get (σ : Sto) (id k : Nat) : Nat × Cp := if σ.S.isLive id then tget (σ.hom id) (σ.T (σ.hom id)) id k else (7, ⟨0, 0, 0, 0⟩)
theorem insc_insw {C : List Cp} {c : Cp} (h : hasK C c.k = false) : insc C c = insw C c := by
  unfold insc insw
  congr 2
  refine List.filter_eq_self.2 (fun q hq => ?_)
  have hm : q ∈ C := (List.dropWhile_suffix _).subset hq
  simp only [ne_eq, decide_not, Bool.not_eq_eq_eq_not, Bool.not_true, decide_eq_false_iff_not]
  intro he
  have : hasK C c.k = true := (hasK_iff C c.k).2 ⟨q, hm, he⟩
  rw [h] at this; cases this
theorem hasK_hom {σ : Sto} {id r : Nat} {C : List Cp} (hσ : σ.Ok) (hl : σ.S.isLive id = true) (he : (σ.T (σ.hom id))[r]? = some (id, C)) (k : Nat) : bt (σ.hom id) k = hasK C k := by
  obtain ⟨h6, _⟩ := hσ.home hl
  obtain ⟨h1, h2⟩ := (hσ.t _ h6).ok _ (List.mem_of_getElem? he)
  simp only at h1 h2
  by_cases hk : k < 6
  · rw [← h2]; exact bt_msk C k hk
  · cases hb : bt (σ.hom id) k with
    | true => exact (hasK_bt h2 h6 hb).symm
    | false =>
      cases hh : hasK C k with
      | false => rfl
      | true =>
        obtain ⟨q, hq, hqk⟩ := (hasK_iff C k).1 hh
        have := chk_k ((lst_ok h1).2 q hq).2
        omega
theorem Sto.get_code {σ : Sto} {id : Nat} (hσ : σ.Ok) (k : Nat) : (σ.get id k).1 = if σ.S.isLive id = false then 7 else if hasK (σ.cps id) k = false then 10 else 0 := by
  unfold Sto.get
  cases hl : σ.S.isLive id with
  | false => rfl
  | true =>
    obtain ⟨r, C, hr, he, _⟩ := hσ.ent hl
    simp only [if_true, Bool.true_eq_false, if_false]
    rw [Sto.cps_of hr he, ← hasK_hom hσ hl he]
    unfold tget
    rw [hr]
    simp only
    cases bt (σ.hom id) k <;> simp
theorem Sto.get_bad {σ : Sto} {id : Nat} (hσ : σ.Ok) (k : Nat) (h : (σ.get id k).1 ≠ 0) : (σ.get id k).2 = ⟨0, 0, 0, 0⟩ := by
  unfold Sto.get at h ⊢
  split at h
  · rename_i hl
    rw [if_pos hl]
    unfold tget at h ⊢
    split at h
    · rfl
    · rename_i r hp
      split at h
      · exact absurd rfl h
      · rename_i hb; rw [if_neg hb]
  · rename_i hl
    rw [if_neg hl]

section
variable (w0 w : World) (l : List Thing) (b : Nat) (σ : Sto) (K : Nat)
theorem rfindS (h : Own w0 w (RSto b σ K :: l)) (hσ : σ.Ok) (hK : K ≤ 1000000) (id : Nat) (hl : σ.S.isLive id = true) :
    Calls Tryz.prog 38 #[.pointer (some ⟨b, 0, none⟩), .int .u32 (id : Int)] w fun e w' => e = .returned (.pointer (some ⟨b, 1 + σ.hom id * 2, none⟩)) ∧ Fr Nobody w w' := by
  obtain ⟨x, hx, h'⟩ := RSto.opn h
  obtain ⟨hw, h6⟩ := whr_live hσ hl
  have := rfind w0 w l b σ x K h' hx hσ.t hK id _ hw
  rw [if_pos h6] at this
  exact this
set_option maxHeartbeats 4000000 in
theorem rgetS (h : Own w0 w (RSto b σ K :: l)) (hσ : σ.Ok) (hK : K ≤ 1000000) (id : Nat) (k : Nat) (hk : k < 256) :
    Calls Tryz.prog 20 #[.pointer (some ⟨b, 0, none⟩), .int .u32 (id : Int), .int .u8 (k : Int)] w fun e w' => e = .returned (.tuple #[(σ.get id k).2.ag, .int .i64 ((σ.get id k).1 : Int)]) ∧ Own w0 w' (RSto b σ K :: l) := by
  obtain ⟨x, hx, h⟩ := RSto.opn h
  have HX : Hid (RXok σ x K) := hx
  have hA := (h.allocC #[.int .u8 0, .int .i32 0, .int .i32 0, .int .i32 0] 48).two
  cases hl : σ.S.isLive id with
  | false =>
    have HV : Hid (σ.get id k = (7, ⟨0, 0, 0, 0⟩)) := by show _ = _; unfold Sto.get; rw [hl]; rfl
    have HE : Hid (Calls _ _ _ _ _) := rentNo w0 _ _ b σ x K hA hx hσ (by omega) id hl
    clear h hA hσ hl hx
    go_enter Tryz.func20, Tryz.ntmps20
    go_wp2_with fail
    refine HE.out.mono ?_
    rintro e w1 ⟨rfl, hO⟩
    have hB := (hO.alloc (.cells #[.int .u32 0, .slice none 0 0] 94)).two
    have z0 := hB.cell 0
    have z1 := hB.cell 1
    have z2 := hB.cell 2
    have z3 := hB.cell 3
    simp at z0 z1 z2 z3
    have y0 := hB.froz 0
    have y1 := hB.froz 1
    have y2 := hB.froz 2
    have y3 := hB.froz 3
    have hne1 : w1.heap.size ≠ w.heap.size := by have := hO.two.lt; omega
    have hne2 : w.heap.size ≠ w1.heap.size := fun q => hne1 q.symm
    have HF : Hid (Own w0 _ _) := (((hB.setC 0 (.int .u8 0)).setC 1 (.int .i32 0)).setC 2 (.int .i32 0)).setC 3 (.int .i32 0)
    clear hO hB HE
    go_wp2
    (try simp only [Exit.inBlock, Exit.then])
    refine bodyPost_ret (v := .tuple #[.agg #[.int .u8 0, .int .i32 0, .int .i32 0, .int .i32 0], .int .i64 7]) ?_ rfl ⟨by rw [HV.out]; rfl, RSto.mk HX.out HF.out.tail⟩
    rw [results_cell_tmp rfl]
    have r0 := HF.out.cell 0
    have r1 := HF.out.cell 1
    have r2 := HF.out.cell 2
    have r3 := HF.out.cell 3
    simp at r0 r1 r2 r3
    go_simp
  | true =>
    obtain ⟨r, d, hr, hd, hdi, he⟩ := hx.row hσ hl
    obtain ⟨h6, _⟩ := hσ.home hl
    have hT := hσ.t _ h6
    have HE : Hid (Calls _ _ _ _ _) := rent w0 _ _ b σ x K hA hx hσ (by omega) id hl r hr d hd
    have hgt : ∀ kk, σ.get id kk = tget (σ.hom id) (σ.T (σ.hom id)) id kk := fun kk => by unfold Sto.get; rw [hl]; rfl
    have HG : Hid (∀ i q, d.2.1[i]? = some q → ∀ kk, q.k = kk → σ.get id kk = (0, q)) := fun i q hq kk hk => by rw [hgt]; exact tget_has hT hr he hq hk
    have HG2 : Hid (hasK d.2.1 k = false → σ.get id k = (10, ⟨0, 0, 0, 0⟩)) := fun h => by rw [hgt]; exact tget_not hT hr he h
    have hCk : ∀ q ∈ d.2.1, q.k < 256 := fun q hq => by have := chk_k ((lst_ok (hT.ok _ (List.mem_of_getElem? he)).1).2 q hq).2; omega
    have hC6 : d.2.1.length ≤ 6 := hT.c6 he
    have HCS : Hid (∀ w' l', Own w0 w' (RSX b σ.S x :: l') → Cs w' d.2.2.1 d.2.1) := fun w' l' h' => by obtain ⟨_, _, _, _, _, _, hc⟩ := RSX.ent w0 w' l' b σ x h' _ r h6 d hd; exact hc
    clear h hA hσ hl hx hr hd hdi he h6 hT hgt
    obtain ⟨d1, d2, d3, d4⟩ := d
    simp only at HE HG HG2 hCk hC6 HCS
    generalize hdl : d2.length = dl at *
    go_enter Tryz.func20, Tryz.ntmps20
    go_wp2_with fail
    refine HE.out.mono ?_
    rintro e w1 ⟨rfl, hO⟩
    have hB := (hO.allocC #[.int .u32 (d1 : Int), .slice d3 dl d4] 94)
    have e1 := hB.cell 1
    simp at e1
    have hcs := HCS.out _ _ hB.two
    have HFD : Hid (Calls _ _ _ _ _) := find_any _ d3 dl d4 d2 hdl hcs hCk (by omega) k hk
    have hne1 : w1.heap.size ≠ w.heap.size := by have := hO.two.lt; omega
    have hne2 : w.heap.size ≠ w1.heap.size := fun q => hne1 q.symm
    have HB : Hid (Own w0 _ (Cells w1.heap.size #[.int .u32 (d1 : Int), .slice d3 dl d4] 94 :: RSX b σ.S x :: Cells w.heap.size #[.int .u8 0, .int .i32 0, .int .i32 0, .int .i32 0] 48 :: l)) := hB
    clear hO hB HE hcs
    go_wp2_with fail
    refine HFD.out.mono ?_
    rintro e w2 ⟨r2, rfl, hf2, hcase⟩
    have hO := HB.out.quiet hf2
    have HC2 : Hid (Cs w2 d3 d2) := HCS.out _ _ hO.two
    have f1 := hO.cell 1
    simp at f1
    have hD := hO.three
    have z0 := hD.cell 0
    have z1 := hD.cell 1
    have z2 := hD.cell 2
    have z3 := hD.cell 3
    simp at z0 z1 z2 z3
    have y0 := hD.froz 0
    have y1 := hD.froz 1
    have y2 := hD.froz 2
    have y3 := hD.froz 3
    have H2 : Hid (Own w0 w2 _) := hD
    clear hf2 hO hD HFD HB e1
    rcases hcase with ⟨rfl, hno⟩ | ⟨i, rfl, q, hq, hqk, _⟩
    · have HV : Hid (σ.get id k = (10, ⟨0, 0, 0, 0⟩)) := HG2.out hno
      have HF : Hid (Own w0 _ _) := (((H2.out.setC 0 (.int .u8 0)).setC 1 (.int .i32 0)).setC 2 (.int .i32 0)).setC 3 (.int .i32 0)
      clear hno
      go_wp2
      (try simp only [Exit.inBlock, Exit.then])
      refine bodyPost_ret (v := .tuple #[.agg #[.int .u8 0, .int .i32 0, .int .i32 0, .int .i32 0], .int .i64 10]) ?_ rfl ⟨by rw [HV.out]; rfl, RSto.mk HX.out HF.out.tail.tail⟩
      rw [results_cell_tmp rfl]
      have r0 := HF.out.cell 0
      have r1 := HF.out.cell 1
      have r2 := HF.out.cell 2
      have r3 := HF.out.cell 3
      simp at r0 r1 r2 r3
      go_simp
    · have HV : Hid (σ.get id k = (0, q)) := HG.out i q hq k hqk
      obtain ⟨gc, oc, hac, _, x0, x1, x2, x3⟩ := HC2.out.at i q hq
      subst hac
      have hic : i < dl := by rw [← hdl]; exact (List.getElem?_eq_some_iff.1 hq).1
      have hic' : (i : Int) < (dl : Int) := by omega
      have hi0 : ¬ (i : Int) < 0 := by omega
      clear hq hdl
      obtain ⟨qk, qa, qb, qc⟩ := q
      simp only at x0 x1 x2 x3
      have HF : Hid (Own w0 _ _) := (((H2.out.setC 0 (.int .u8 (qk : Int))).setC 1 (.int .i32 qa)).setC 2 (.int .i32 qb)).setC 3 (.int .i32 qc)
      clear hqk
      go_wp2
      (try simp only [Exit.inBlock, Exit.then])
      refine bodyPost_ret (v := .tuple #[.agg #[.int .u8 (qk : Int), .int .i32 qa, .int .i32 qb, .int .i32 qc], .int .i64 0]) ?_ rfl ⟨by rw [HV.out]; rfl, RSto.mk HX.out HF.out.tail.tail⟩
      rw [results_cell_tmp rfl]
      have r0 := HF.out.cell 0
      have r1 := HF.out.cell 1
      have r2 := HF.out.cell 2
      have r3 := HF.out.cell 3
      simp at r0 r1 r2 r3
      go_simp
set_option maxHeartbeats 4000000 in
theorem rsetS (h : Own w0 w (RSto b σ K :: l)) (hσ : σ.Ok) (id : Nat) (hid : id < 4294967296) (q : Cp) (hk : q.k < 256) (hK : K < 1000000) :
    Calls Tryz.prog 14 #[.pointer (some ⟨b, 0, none⟩), .int .u32 (id : Int), q.ag] w fun e w' => e = .returned (.int .i64 (σ.set id q).1) ∧ Own w0 w' (RSto b (σ.set id q).2 K :: l) := by
  have hA := h.allocC #[.int .u8 (q.k : Int), .int .i32 q.a, .int .i32 q.b, .int .i32 q.c] 48
  have z0 := hA.cell 0
  have z1 := hA.cell 1
  have z2 := hA.cell 2
  have z3 := hA.cell 3
  simp at z0 z1 z2 z3
  have HC : Hid (Calls _ _ _ _ _) := rcheck3 (w.alloc (.cells #[.int .u8 (q.k : Int), .int .i32 q.a, .int .i32 q.b, .int .i32 q.c] 48)) q.k hk q.a q.b q.c
  have HA : Hid (Own w0 _ (Cells w.heap.size #[.int .u8 (q.k : Int), .int .i32 q.a, .int .i32 q.b, .int .i32 q.c] 48 :: RSto b σ K :: l)) := hA
  have HQ : Hid (q.chk = chk q.k (f3 q.a q.b q.c)) := rfl
  clear h hA
  unfold Cp.ag
  obtain ⟨x, hx⟩ : ∃ x, q.chk = x := ⟨_, rfl⟩
  rw [← HQ.out, hx] at HC
  by_cases hx0 : x = 0
  · subst hx0
    have HGT : Hid (∀ w', Own w0 w' (RSto b σ K :: Cells w.heap.size #[.int .u8 (q.k : Int), .int .i32 q.a, .int .i32 q.b, .int .i32 q.c] 48 :: l) → Calls Tryz.prog 20 #[.pointer (some ⟨b, 0, none⟩), .int .u32 (id : Int), .int .u8 (q.k : Int)] w' fun e w'' => e = .returned (.tuple #[(σ.get id q.k).2.ag, .int .i64 ((σ.get id q.k).1 : Int)]) ∧ Own w0 w'' (RSto b σ K :: Cells w.heap.size #[.int .u8 (q.k : Int), .int .i32 q.a, .int .i32 q.b, .int .i32 q.c] 48 :: l)) := fun w' h' => rgetS w0 w' _ b σ K h' hσ (by omega) id q.k hk
    have hcode := Sto.get_code (id := id) hσ q.k
    obtain ⟨⟨cd, y⟩, hy⟩ : ∃ p, σ.get id q.k = p := ⟨_, rfl⟩
    rw [hy] at hcode HGT
    simp only at hcode HGT
    by_cases hcd : cd = 0
    · subst hcd
      have hl : σ.S.isLive id = true := by
        cases hl : σ.S.isLive id with
        | true => rfl
        | false => rw [hl] at hcode; simp at hcode
      have hh : hasK (σ.cps id) q.k = true := by
        cases hh : hasK (σ.cps id) q.k with
        | true => rfl
        | false => rw [hl, hh] at hcode; simp at hcode
      obtain ⟨r, C, hr, he, hlC, _, h6⟩ := hσ.ent hl
      have HV : Hid (σ.set id q = (0, { σ with T := upd σ.T (σ.hom id) ((σ.T (σ.hom id)).set r (id, setc C q)) })) := by
        show _ = _
        unfold Sto.set
        rw [if_neg (by simp [hx]), if_neg (by simp [hl]), if_neg (by simp [hh]), hr, Sto.cps_of hr he]
        rfl
      rw [Sto.cps_of hr he] at hh
      have htset : tset (σ.hom id) (σ.T (σ.hom id)) id q = (0, (σ.T (σ.hom id)).set r (id, setc C q)) := by
        unfold tset
        rw [if_neg (by simp [hx]), hr]
        simp only
        rw [if_pos (by rw [hasK_hom hσ hl he]; exact hh), he]
        rfl
      have HFD : Hid (∀ w' l', Own w0 w' (RSto b σ K :: l') → Calls Tryz.prog 38 #[.pointer (some ⟨b, 0, none⟩), .int .u32 (id : Int)] w' fun e w'' => e = .returned (.pointer (some ⟨b, 1 + σ.hom id * 2, none⟩)) ∧ Fr Nobody w' w'') := fun w' l' h' => rfindS w0 w' l' b σ K h' hσ (by omega) id hl
      have HST : Hid (∀ w' l', Own w0 w' (RSto b σ K :: l') → Calls Tryz.prog 43 #[.pointer (some ⟨b, 1 + σ.hom id * 2, none⟩), .int .u32 (id : Int), q.ag] w' fun e w'' => e = .returned (.int .i64 0) ∧ Own w0 w'' (RSto b (σ.set id q).2 K :: l')) := by
        intro w' l' h'
        obtain ⟨x, hx', h'⟩ := RSto.opn h'
        have h2 := RSX.out h' h6
        rw [hx'.E _ h6] at h2
        refine (rtsetC w0 w' _ b _ _ _ _ h2 (hσ.t _ h6) id hid q hk (by have := hx'.len _ h6; omega)).mono ?_
        rintro e w'' ⟨rfl, h3⟩
        rw [htset] at h3 ⊢
        obtain ⟨v', E', hE, h4⟩ := RSX.into h6 h3
        rw [HV.out]
        refine ⟨rfl, RSto.mk (σ := { σ with T := upd σ.T (σ.hom id) ((σ.T (σ.hom id)).set r (id, setc C q)) }) (hx'.upd h6 hE ?_) h4⟩
        rw [List.length_set]; exact hx'.len _ h6
      clear hx HQ hy hr he hl hh htset hσ hlC h6 hcode
      generalize σ.hom id = m at *
      obtain ⟨qk, qa, qb, qc⟩ := q
      obtain ⟨yk, ya, yb, yc⟩ := y
      simp only [Cp.ag] at z0 z1 z2 z3 HC HGT HA hk HST ⊢
      go_enter Tryz.func14, Tryz.ntmps14
      go_wp2_with fail
      refine HC.out.mono ?_
      rintro e w1 ⟨rfl, hf⟩
      have H1 : Hid (Own w0 w1 _) := HA.out.quiet hf
      have y0 := (HA.out.quiet hf).cell 0
      simp at y0
      clear hf HC z0 z1 z2 z3 HA
      go_wp2_with fail
      refine (HGT.out _ H1.out.two).mono ?_
      rintro e w2 ⟨rfl, hO2⟩
      have hO3 := (hO2.alloc (.cells #[.int .u8 (yk : Int), .int .i32 ya, .int .i32 yb, .int .i32 yc] 48)).drew
      have u0 := hO3.two.cell 0
      have u1 := hO3.two.cell 1
      have u2 := hO3.two.cell 2
      have u3 := hO3.two.cell 3
      simp at u0 u1 u2 u3
      have H2 : Hid (Own w0 _ (RSto b σ K :: Cells w.heap.size #[.int .u8 (qk : Int), .int .i32 qa, .int .i32 qb, .int .i32 qc] 48 :: l)) := hO3
      clear hO2 hO3 H1 y0 HGT
      go_wp2_with fail
      go_region_with (first
        | (go_at_call 38
           refine (HFD.out _ _ H2.out).mono ?_
           rintro e w3 ⟨rfl, hf3⟩
           have hO3 := H2.out.quiet hf3
           have v0 := hO3.two.cell 0
           have v1 := hO3.two.cell 1
           have v2 := hO3.two.cell 2
           have v3 := hO3.two.cell 3
           simp at v0 v1 v2 v3
           have H3 : Hid (Own w0 w3 _) := hO3
           clear hO3 hf3)
        | (go_at_call 43
           refine (HST.out _ _ H3.out).mono ?_
           rintro e w4 ⟨rfl, hO4⟩
           have H4 : Hid (Own w0 w4 _) := hO4
           clear hO4))
      all_goals
        go_wp2
        go_ret
        rw [HV.out] at H4 ⊢
        exact ⟨rfl, H4.out.two.tail⟩
    · have hy0 : y = ⟨0, 0, 0, 0⟩ := by
        have := Sto.get_bad (id := id) hσ q.k (by rw [hy]; exact hcd)
        rw [hy] at this; exact this
      subst hy0
      have HV : Hid (σ.set id q = ((cd : Int), σ)) := by
        show _ = _
        unfold Sto.set
        rw [if_neg (by simp [hx])]
        split at hcode
        · rename_i hl; rw [if_pos hl, hcode]; rfl
        · rename_i hl
          rw [if_neg hl]
          split at hcode
          · rename_i hh; rw [if_pos hh, hcode]; rfl
          · exact absurd hcode hcd
      have hcd0 : ((cd : Int) != 0) = true := by rw [bne_iff_ne]; omega
      clear hx HQ hy hcode hσ
      obtain ⟨qk, qa, qb, qc⟩ := q
      simp only [Cp.ag] at z0 z1 z2 z3 HC HGT HA hk ⊢
      go_enter Tryz.func14, Tryz.ntmps14
      go_wp2_with fail
      refine HC.out.mono ?_
      rintro e w1 ⟨rfl, hf⟩
      have H1 : Hid (Own w0 w1 _) := HA.out.quiet hf
      have y0 := (HA.out.quiet hf).cell 0
      simp at y0
      clear hf HC z0 z1 z2 z3
      go_wp2_with fail
      refine (HGT.out _ H1.out.two).mono ?_
      rintro e w2 ⟨rfl, hO2⟩
      have H2 : Hid (Own w0 w2 _) := hO2
      clear hO2 H1 y0 HGT
      go_wp2
      go_ret
      rw [HV.out]
      exact ⟨rfl, (H2.out.two.tail).alloc _⟩
  · have HV : Hid (σ.set id q = ((x : Int), σ)) := by show _ = _; unfold Sto.set; rw [if_pos (by rw [hx]; exact hx0), hx]
    have hx1 : ((x : Int) != 0) = true := by simpa using hx0
    clear hx HQ hσ
    obtain ⟨qk, qa, qb, qc⟩ := q
    simp only at z0 z1 z2 z3 HC HA hk ⊢
    go_enter Tryz.func14, Tryz.ntmps14
    go_wp2_with fail
    refine HC.out.mono ?_
    rintro e w1 ⟨rfl, hf⟩
    have H1 : Hid (Own w0 w1 _) := HA.out.quiet hf
    clear hf HC z0 z1 z2 z3
    go_wp2
    go_ret
    rw [HV.out]
    exact ⟨rfl, H1.out.tail⟩
end
end Go.Proofs.YtibdgdbkdnifbaaGreatDoor

/-
  The document's store: turn, Add, Remove.
-/
namespace Go.Proofs.YtibdgdbkdnifbaaGreatDoor
open Go.RowKit Go.Maps
set_option linter.unusedVariables false
set_option maxRecDepth 100000

section
variable (w0 w : World) (l : List Thing) (b : Nat) (σ : Sto) (K : Nat)
set_option maxHeartbeats 2000000 in
theorem rturn (h : Own w0 w (RSto b σ K :: l)) (hσ : σ.Ok) (id : Nat) (hid : id < 4294967296) (hl : σ.S.isLive id = true) (ao : Option Addr) (len cap : Nat) (C : List Cp) (hCl : C.length = len) (hCs : ∀ w', Own w0 w' l → Cs w' ao C) (h0 : lst (-1) C = 0) (hlen : len ≤ 1000000) (hK : K < 1000000) :
    Calls Tryz.prog 47 #[.pointer (some ⟨b, 0, none⟩), .int .u32 (id : Int), .slice ao len cap] w fun e w' => e = .returned (.tuple #[]) ∧ Own w0 w' (RSto b (σ.turn id C) (K + 1) :: l) := by
  obtain ⟨r, D, hr, he, _, _, h6⟩ := hσ.ent hl
  have HV : Hid (σ.turn id C = (σ.out (σ.hom id) r).put id C) := by show _ = _; unfold Sto.turn; rw [hr]; rfl
  have HFD : Hid (Calls _ _ _ _ _) := rfindS w0 w l b σ K h hσ (by omega) id hl
  have HDR : Hid (∀ w', Own w0 w' (RSto b σ K :: l) → Calls Tryz.prog 37 #[.pointer (some ⟨b, 1 + σ.hom id * 2, none⟩), .int .u32 (id : Int)] w' fun out w'' => ∃ ao cap, out = .returned (.tuple #[.slice ao D.length cap, .int .i64 0]) ∧ Own w0 w'' (RSto b (σ.out (σ.hom id) r) K :: l)) := fun w' h'' => rdrop w0 w' l b σ K h'' hσ (by omega) id hl r D hr he
  have hL := hσ.out hl hr
  have hCk : ∀ q ∈ C, q.k < 256 := fun q hq => by have := chk_k ((lst_ok h0).2 q hq).2; omega
  have HPU : Hid (∀ w', Own w0 w' (RSto b (σ.out (σ.hom id) r) K :: l) → Calls Tryz.prog 32 #[.pointer (some ⟨b, 0, none⟩), .int .u32 (id : Int), .slice ao len cap] w' fun e w'' => e = .returned (.tuple #[]) ∧ Own w0 w'' (RSto b ((σ.out (σ.hom id) r).put id C) (K + 1) :: l)) := fun w' h' => rputS w0 w' l b _ K h' id hid ao len cap C hCl hCs hCk hlen h0 (hL.t _ (msk64 C)) (hL.none (msk64 C)) hK
  have H : Hid (Own w0 w _) := h
  clear h hσ hl hr he h6 hL hCk hCs
  generalize σ.hom id = m at *
  generalize D.length = dl at *
  go_enter Tryz.func47, Tryz.ntmps47
  go_wp2_with fail
  refine HFD.out.mono ?_
  rintro e w1 ⟨rfl, hf⟩
  have H1 : Hid (Own w0 w1 _) := H.out.quiet hf
  clear hf HFD H
  go_wp2_with fail
  refine (HDR.out _ H1.out).mono ?_
  rintro e w2 ⟨a2, c2, rfl, hO⟩
  have H2 : Hid (Own w0 w2 _) := hO
  clear hO H1 HDR
  go_wp2_with fail
  refine (HPU.out _ H2.out).mono ?_
  rintro e w3 ⟨rfl, hO⟩
  have H3 : Hid (Own w0 w3 _) := hO
  clear hO
  go_wp2
  go_end0
  rw [HV.out]
  exact ⟨rfl, H3.out⟩
set_option maxHeartbeats 4000000 in
theorem raddS (h : Own w0 w (RSto b σ K :: l)) (hσ : σ.Ok) (id : Nat) (hid : id < 4294967296) (q : Cp) (hk : q.k < 256) (hK : K < 1000000) :
    Calls Tryz.prog 16 #[.pointer (some ⟨b, 0, none⟩), .int .u32 (id : Int), q.ag] w fun e w' => e = .returned (.int .i64 (σ.add id q).1) ∧ Own w0 w' (RSto b (σ.add id q).2 (K + 1) :: l) := by
  have hA := h.allocC #[.int .u8 (q.k : Int), .int .i32 q.a, .int .i32 q.b, .int .i32 q.c] 48
  have z0 := hA.cell 0
  have z1 := hA.cell 1
  have z2 := hA.cell 2
  have z3 := hA.cell 3
  simp at z0 z1 z2 z3
  have HC : Hid (Calls _ _ _ _ _) := rcheck3 (w.alloc (.cells #[.int .u8 (q.k : Int), .int .i32 q.a, .int .i32 q.b, .int .i32 q.c] 48)) q.k hk q.a q.b q.c
  have HA : Hid (Own w0 _ (Cells w.heap.size #[.int .u8 (q.k : Int), .int .i32 q.a, .int .i32 q.b, .int .i32 q.c] 48 :: RSto b σ K :: l)) := hA
  have HQ : Hid (q.chk = chk q.k (f3 q.a q.b q.c)) := rfl
  clear h hA
  unfold Cp.ag
  obtain ⟨x, hx⟩ : ∃ x, q.chk = x := ⟨_, rfl⟩
  rw [← HQ.out, hx] at HC
  by_cases hx0 : x = 0
  · subst hx0
    cases hl : σ.S.isLive id with
    | false =>
      have HV : Hid (σ.add id q = (7, σ)) := by show _ = _; unfold Sto.add; rw [if_neg (by simp [hx]), if_pos hl]
      have HE : Hid (∀ w' l', Own w0 w' (RSto b σ K :: l') → Calls Tryz.prog 36 #[.pointer (some ⟨b, 0, none⟩), .int .u32 (id : Int)] w' fun e w'' => e = .returned (.tuple #[.agg #[.int .u32 0, .slice none 0 0], .int .i64 7]) ∧ Own w0 w'' (RSto b σ K :: l')) := by
        intro w' l' h'
        obtain ⟨x, hx', h'⟩ := RSto.opn h'
        refine (rentNo w0 w' l' b σ x K h' hx' hσ (by omega) id hl).mono ?_
        rintro e w'' ⟨rfl, h2⟩
        exact ⟨rfl, RSto.mk hx' h2⟩
      clear hx HQ hσ hl
      obtain ⟨qk, qa, qb, qc⟩ := q
      simp only at z0 z1 z2 z3 HC HA hk ⊢
      go_enter Tryz.func16, Tryz.ntmps16
      go_wp2_with fail
      refine HC.out.mono ?_
      rintro e w1 ⟨rfl, hf⟩
      have H1 : Hid (Own w0 w1 _) := HA.out.quiet hf
      clear hf HC z0 z1 z2 z3
      go_wp2_with fail
      refine (HE.out _ _ H1.out.two).mono ?_
      rintro e w2 ⟨rfl, hO2⟩
      have H2 : Hid (Own w0 w2 _) := hO2
      clear hO2 H1 HE
      go_wp2
      go_ret
      rw [HV.out]
      exact ⟨rfl, ((H2.out.two.tail).alloc _).rstoK (Nat.le_succ K)⟩
    | true =>
      obtain ⟨r, C, hr, he, hlC, _, h6⟩ := hσ.ent hl
      have hcps := Sto.cps_of hr he
      have hC6 : C.length ≤ 6 := (hσ.t _ h6).c6 he
      have hCk : ∀ q ∈ C, q.k < 256 := fun q hq => by have := chk_k ((lst_ok hlC).2 q hq).2; omega
      have HE : Hid (∀ w' l', Own w0 w' (RSto b σ K :: l') → Calls Tryz.prog 36 #[.pointer (some ⟨b, 0, none⟩), .int .u32 (id : Int)] w' fun e w'' => ∃ y ae ce, RXok σ y K ∧ (∀ w3 l3, Own w0 w3 (RSX b σ.S y :: l3) → Cs w3 ae C) ∧ e = .returned (.tuple #[.agg #[.int .u32 (id : Int), .slice ae C.length ce], .int .i64 0]) ∧ Own w0 w'' (RSX b σ.S y :: l')) := by
        intro w' l' h'
        obtain ⟨y, hy, h'⟩ := RSto.opn h'
        obtain ⟨r', d, hr', hd, hdi, he'⟩ := hy.row hσ hl
        have hrr : r' = r := Option.some.inj (hr'.symm.trans hr)
        subst hrr
        have hCC : d.2.1 = C := by rw [he] at he'; exact (Prod.mk.inj (Option.some.inj he')).2.symm
        refine (rent w0 w' l' b σ y K h' hy hσ (by omega) id hl r' hr d hd).mono ?_
        rintro e w'' ⟨rfl, h2⟩
        refine ⟨y, d.2.2.1, d.2.2.2, hy, fun w3 l3 h3 => ?_, by rw [hdi, hCC], h2⟩
        obtain ⟨_, _, _, _, _, _, hc⟩ := RSX.ent w0 w3 l3 b σ y h3 _ r' h6 d hd
        rw [hCC] at hc
        exact hc
      cases hh : hasK C q.k with
      | true =>
        have HV : Hid (σ.add id q = (9, σ)) := by show _ = _; unfold Sto.add; rw [if_neg (by simp [hx]), if_neg (by simp [hl]), hcps, if_pos hh]
        have HHK : Hid (hasK C q.k = true) := hh
        clear hx HQ hσ hl hr he hlC h6 hcps hh
        obtain ⟨qk, qa, qb, qc⟩ := q
        simp only at z0 z1 z2 z3 HC HA hk HHK ⊢
        generalize hcl : C.length = cl at *
        go_enter Tryz.func16, Tryz.ntmps16
        go_wp2_with fail
        refine HC.out.mono ?_
        rintro e w1 ⟨rfl, hf⟩
        have H1 : Hid (Own w0 w1 _) := HA.out.quiet hf
        clear hf HC z0 z1 z2 z3
        go_wp2_with fail
        refine (HE.out _ _ H1.out.two).mono ?_
        rintro e w2 ⟨y, ae, ce, hy, hcs, rfl, hO2⟩
        have hO3 := hO2.allocC #[.int .u32 (id : Int), .slice ae cl ce] 94
        have e1 := hO3.cell 1
        have f0 := hO3.three.cell 0
        simp at e1 f0
        have HFN : Hid (Calls _ _ _ _ _) := find_any _ ae cl ce C hcl (hcs _ _ hO3.two) hCk (by omega) qk hk
        have HY : Hid (RXok σ y K) := hy
        have H3 : Hid (Own w0 _ _) := hO3
        have hne1 : w2.heap.size ≠ w.heap.size := by have := hO2.two.lt; omega
        have hne2 : w.heap.size ≠ w2.heap.size := fun q => hne1 q.symm
        clear hO2 hO3 hcs hy H1 HE
        go_wp2_with fail
        refine HFN.out.mono ?_
        rintro e w4 ⟨r2, rfl, hf2, hcase⟩
        have H4 : Hid (Own w0 w4 _) := H3.out.quiet hf2
        clear hf2 HFN H3 e1 f0
        rcases hcase with ⟨rfl, hno⟩ | ⟨i, rfl, q, hq, hqk, _⟩
        · rw [HHK.out] at hno; cases hno
        · have hi0 : (0 : Int) ≤ (i : Int) := by omega
          clear hq hqk
          go_wp2
          go_ret
          rw [HV.out]
          exact ⟨rfl, (RSto.mk HY.out H4.out.tail.two.tail).rstoK (Nat.le_succ K)⟩
      | false =>
        have hins := insc_insw hh
        have hl2 := insw_ok hlC hx hh
        have hln := insw_len C q
        have HV : Hid (σ.add id q = (0, σ.turn id (insw C q))) := by show _ = _; unfold Sto.add; rw [if_neg (by simp [hx]), if_neg (by simp [hl]), hcps, if_neg (by simp [hh])]
        have HTU : Hid (∀ w' l' ao cap, Own w0 w' (RSto b σ K :: Row 48 4 (.slice ao (C.length + 1) cap) (C.length + 1) (ccat (insw C q)) :: l') → Calls Tryz.prog 47 #[.pointer (some ⟨b, 0, none⟩), .int .u32 (id : Int), .slice ao (C.length + 1) cap] w' fun e w'' => e = .returned (.tuple #[]) ∧ Own w0 w'' (RSto b (σ.turn id (insw C q)) (K + 1) :: Row 48 4 (.slice ao (C.length + 1) cap) (C.length + 1) (ccat (insw C q)) :: l')) := fun w' l' ao cap h' => rturn w0 w' _ b σ K h' hσ id hid hl ao _ cap (insw C q) hln (fun w'' h'' => Own.rcs h'' hln) hl2 (by omega) hK
        have HWI : Hid (∀ w' l' ae ce, Own w0 w' l' → (∀ w3, Own w0 w3 l' → Cs w3 ae C) → Calls Tryz.prog 48 #[.slice ae C.length ce, q.ag] w' fun e w'' => ∃ ao cap, e = .returned (.slice ao (C.length + 1) cap) ∧ Own w0 w'' (Row 48 4 (.slice ao (C.length + 1) cap) (C.length + 1) (ccat (insw C q)) :: l')) := by
          intro w' l' ae ce h' hc
          have := rwith_any w0 w' l' h' ae C.length ce C rfl hc hCk (by omega) q hk
          rw [hins, hln] at this
          exact this
        have HHK : Hid (hasK C q.k = false) := hh
        clear hx HQ hσ hl hr he hlC h6 hcps hh hins hl2 hln
        generalize insw C q = I at *
        obtain ⟨qk, qa, qb, qc⟩ := q
        simp only [Cp.ag] at z0 z1 z2 z3 HC HA hk HHK HWI ⊢
        generalize hcl : C.length = cl at *
        go_enter Tryz.func16, Tryz.ntmps16
        go_wp2_with fail
        refine HC.out.mono ?_
        rintro e w1 ⟨rfl, hf⟩
        have H1 : Hid (Own w0 w1 _) := HA.out.quiet hf
        clear hf HC z0 z1 z2 z3
        go_wp2_with fail
        refine (HE.out _ _ H1.out.two).mono ?_
        rintro e w2 ⟨y, ae, ce, hy, hcs, rfl, hO2⟩
        have hO3 := hO2.allocC #[.int .u32 (id : Int), .slice ae cl ce] 94
        have e1 := hO3.cell 1
        have f0 := hO3.three.cell 0
        simp at e1 f0
        have HFN : Hid (Calls _ _ _ _ _) := find_any _ ae cl ce C hcl (hcs _ _ hO3.two) hCk (by omega) qk hk
        have HY : Hid (RXok σ y K) := hy
        have HCY : Hid (∀ w3 l3, Own w0 w3 (RSX b σ.S y :: l3) → Cs w3 ae C) := hcs
        have H3 : Hid (Own w0 _ _) := hO3
        have hne1 : w2.heap.size ≠ w.heap.size := by have := hO2.two.lt; omega
        have hne2 : w.heap.size ≠ w2.heap.size := fun q => hne1 q.symm
        clear hO2 hO3 hcs hy H1 HE
        go_wp2_with fail
        refine HFN.out.mono ?_
        rintro e w4 ⟨r2, rfl, hf2, hcase⟩
        have hO4 := H3.out.quiet hf2
        have e1 := hO4.cell 1
        have f0 := hO4.three.cell 0
        have f1 := hO4.three.cell 1
        have f2 := hO4.three.cell 2
        have f3 := hO4.three.cell 3
        simp at e1 f0 f1 f2 f3
        have HWI4 : Hid (Calls _ _ _ _ _) := HWI.out w4 _ ae ce hO4 (fun w3 h3 => HCY.out _ _ h3.two)
        clear hf2 HFN H3 hO4
        rcases hcase with ⟨rfl, hno⟩ | ⟨i, rfl, q, hq, hqk, hyes⟩
        · clear hno
          go_wp2_with fail
          refine HWI4.out.mono ?_
          rintro e w5 ⟨a5, c5, rfl, hO5⟩
          have H5 : Hid (Own w0 w5 (RSto b σ K :: Row 48 4 (.slice a5 (cl + 1) c5) (cl + 1) (ccat I) :: Cells w2.heap.size #[.int .u32 (id : Int), .slice ae cl ce] 94 :: Cells w.heap.size #[.int .u8 (qk : Int), .int .i32 qa, .int .i32 qb, .int .i32 qc] 48 :: l)) := by
            exact RSto.mk HY.out hO5.three
          clear hO5 HWI4 e1 f0 f1 f2 f3
          go_wp2_with fail
          refine (HTU.out _ _ _ _ H5.out).mono ?_
          rintro e w6 ⟨rfl, hO6⟩
          have H6 : Hid (Own w0 w6 _) := hO6
          clear hO6
          go_wp2
          go_ret
          rw [HV.out]
          exact ⟨rfl, (H6.out.two.tail.two.tail).two.tail⟩
        · rw [HHK.out] at hyes; cases hyes
  · have HV : Hid (σ.add id q = ((x : Int), σ)) := by show _ = _; unfold Sto.add; rw [if_pos (by rw [hx]; exact hx0), hx]
    have hx1 : ((x : Int) != 0) = true := by simpa using hx0
    clear hx HQ hσ
    obtain ⟨qk, qa, qb, qc⟩ := q
    simp only at z0 z1 z2 z3 HC HA hk ⊢
    go_enter Tryz.func16, Tryz.ntmps16
    go_wp2_with fail
    refine HC.out.mono ?_
    rintro e w1 ⟨rfl, hf⟩
    have H1 : Hid (Own w0 w1 _) := HA.out.quiet hf
    clear hf HC z0 z1 z2 z3
    go_wp2
    go_ret
    rw [HV.out]
    exact ⟨rfl, (H1.out.tail).rstoK (Nat.le_succ K)⟩
end
end Go.Proofs.YtibdgdbkdnifbaaGreatDoor

/-
  The document's store: Remove, List, New.
-/
namespace Go.Proofs.YtibdgdbkdnifbaaGreatDoor
open Go.RowKit Go.Maps
set_option linter.unusedVariables false
set_option maxRecDepth 100000

section
variable (w0 w : World) (l : List Thing) (b : Nat) (σ : Sto) (K : Nat)
set_option maxHeartbeats 4000000 in
theorem rremoveS (h : Own w0 w (RSto b σ K :: l)) (hσ : σ.Ok) (id : Nat) (hid : id < 4294967296) (k : Nat) (hk : k < 256) (hK : K < 1000000) :
    Calls Tryz.prog 18 #[.pointer (some ⟨b, 0, none⟩), .int .u32 (id : Int), .int .u8 (k : Int)] w fun e w' => e = .returned (.int .i64 (σ.remove id k).1) ∧ Own w0 w' (RSto b (σ.remove id k).2 (K + 1) :: l) := by
  cases hl : σ.S.isLive id with
  | false =>
    have HV : Hid (σ.remove id k = (7, σ)) := by show _ = _; unfold Sto.remove; rw [if_pos hl]
    obtain ⟨x, hx, h'⟩ := RSto.opn h
    have HX : Hid (RXok σ x K) := hx
    have HE : Hid (Calls _ _ _ _ _) := rentNo w0 w l b σ x K h' hx hσ (by omega) id hl
    clear h h' hx hσ hl
    go_enter Tryz.func18, Tryz.ntmps18
    go_wp2_with fail
    refine HE.out.mono ?_
    rintro e w1 ⟨rfl, hO⟩
    have H1 : Hid (Own w0 w1 _) := hO
    clear hO HE
    go_wp2
    go_ret
    rw [HV.out]
    exact ⟨rfl, (RSto.mk HX.out (H1.out.alloc _)).rstoK (Nat.le_succ K)⟩
  | true =>
    obtain ⟨r, C, hr, he, hlC, _, h6⟩ := hσ.ent hl
    have hcps := Sto.cps_of hr he
    have hC6 : C.length ≤ 6 := (hσ.t _ h6).c6 he
    have hCk : ∀ q ∈ C, q.k < 256 := fun q hq => by have := chk_k ((lst_ok hlC).2 q hq).2; omega
    obtain ⟨y, hy, h'⟩ := RSto.opn h
    obtain ⟨r', d, hr', hd, hdi, he'⟩ := hy.row hσ hl
    have hrr : r' = r := Option.some.inj (hr'.symm.trans hr)
    subst hrr
    have hCC : d.2.1 = C := by rw [he] at he'; exact (Prod.mk.inj (Option.some.inj he')).2.symm
    have HE : Hid (Calls _ _ _ _ _) := rent w0 w l b σ y K h' hy hσ (by omega) id hl r' hr d hd
    have HCY : Hid (∀ w3 l3, Own w0 w3 (RSX b σ.S y :: l3) → Cs w3 d.2.2.1 C) := fun w3 l3 h3 => by
      obtain ⟨_, _, _, _, _, _, hc⟩ := RSX.ent w0 w3 l3 b σ y h3 _ r' h6 d hd
      rw [hCC] at hc
      exact hc
    rw [hdi, hCC] at HE
    have HY : Hid (RXok σ y K) := hy
    generalize d.2.2.1 = ae at *
    generalize d.2.2.2 = ce at *
    have hol := outk_ok hlC k
    have hoL : (outk C k).length ≤ 6 := Nat.le_trans (List.length_filter_le _ _) hC6
    have HTU : Hid (∀ w' l' ao cap, Own w0 w' (RSto b σ K :: Row 48 4 (.slice ao (outk C k).length cap) (outk C k).length (ccat (outk C k)) :: l') → Calls Tryz.prog 47 #[.pointer (some ⟨b, 0, none⟩), .int .u32 (id : Int), .slice ao (outk C k).length cap] w' fun e w'' => e = .returned (.tuple #[]) ∧ Own w0 w'' (RSto b (σ.turn id (outk C k)) (K + 1) :: Row 48 4 (.slice ao (outk C k).length cap) (outk C k).length (ccat (outk C k)) :: l')) := fun w' l' ao cap h' => rturn w0 w' _ b σ K h' hσ id hid hl ao _ cap (outk C k) rfl (fun w'' h'' => Own.rcs h'' rfl) hol (by omega) hK
    have HWO : Hid (∀ w' l', Own w0 w' l' → (∀ w3, Own w0 w3 l' → Cs w3 ae C) → Calls Tryz.prog 50 #[.slice ae C.length ce, .int .u8 (k : Int)] w' fun e w'' => ∃ ao cap, e = .returned (.slice ao (outk C k).length cap) ∧ Own w0 w'' (Row 48 4 (.slice ao (outk C k).length cap) (outk C k).length (ccat (outk C k)) :: l')) := fun w' l' h' hc => rwithout_any w0 w' l' h' ae C.length ce C rfl hc hCk (by omega) k hk
    have HVN : Hid (hasK C k = false → σ.remove id k = (10, σ)) := fun hh => by unfold Sto.remove; rw [if_neg (by simp [hl]), hcps, if_pos hh]
    have HVY : Hid (hasK C k = true → σ.remove id k = (0, σ.turn id (outk C k))) := fun hh => by unfold Sto.remove; rw [if_neg (by simp [hl]), hcps, if_neg (by simp [hh])]
    clear h h' hy hσ hl hr hr' he he' hlC h6 hcps hd hdi hCC hol
    generalize outk C k = I at *
    generalize I.length = il at *
    generalize hcl : C.length = cl at *
    go_enter Tryz.func18, Tryz.ntmps18
    go_wp2_with fail
    refine HE.out.mono ?_
    rintro e w2 ⟨rfl, hO2⟩
    have hO3 := hO2.allocC #[.int .u32 (id : Int), .slice ae cl ce] 94
    have e1 := hO3.cell 1
    simp at e1
    have HFN : Hid (Calls _ _ _ _ _) := find_any _ ae cl ce C hcl (HCY.out _ _ hO3.two) hCk (by omega) k hk
    have H3 : Hid (Own w0 _ _) := hO3
    clear hO2 hO3 HE
    go_wp2_with fail
    refine HFN.out.mono ?_
    rintro e w4 ⟨r2, rfl, hf2, hcase⟩
    have hO4 := H3.out.quiet hf2
    have e1 := hO4.cell 1
    simp at e1
    have HWO4 : Hid (Calls _ _ _ _ _) := HWO.out w4 _ hO4 (fun w3 h3 => HCY.out _ _ h3.two)
    have H4 : Hid (Own w0 w4 _) := hO4
    clear hf2 HFN H3 hO4
    rcases hcase with ⟨rfl, hno⟩ | ⟨i, rfl, q, hq, hqk, hyes⟩
    · have HV : Hid (σ.remove id k = (10, σ)) := HVN.out hno
      clear hno
      go_wp2
      go_ret
      rw [HV.out]
      exact ⟨rfl, (RSto.mk HY.out H4.out.tail).rstoK (Nat.le_succ K)⟩
    · have HV : Hid (σ.remove id k = (0, σ.turn id I)) := HVY.out hyes
      have hi0 : ¬ (i : Int) < 0 := by omega
      clear hq hqk hyes
      go_wp2_with fail
      refine HWO4.out.mono ?_
      rintro e w5 ⟨a5, c5, rfl, hO5⟩
      have H5 : Hid (Own w0 w5 (RSto b σ K :: Row 48 4 (.slice a5 il c5) il (ccat I) :: Cells w2.heap.size #[.int .u32 (id : Int), .slice ae cl ce] 94 :: l)) := RSto.mk HY.out hO5.three
      clear hO5 HWO4 e1 H4
      go_wp2_with fail
      refine (HTU.out _ _ _ _ H5.out).mono ?_
      rintro e w6 ⟨rfl, hO6⟩
      have H6 : Hid (Own w0 w6 _) := hO6
      clear hO6
      go_wp2
      go_ret
      rw [HV.out]
      exact ⟨rfl, H6.out.two.tail.two.tail⟩

/-- the entity with that ID, as it lies in memory -/
def RX.at (x : RX) (σ : Sto) (id : Nat) : REnt := ((plc (σ.T (σ.hom id)) id).bind fun r => (x.E (σ.hom id))[r]?).getD (0, [], none, 0)
theorem RXok.at {σ : Sto} {x : RX} {K : Nat} (hx : RXok σ x K) (hσ : σ.Ok) {id : Nat} (hl : σ.S.isLive id = true) : (x.at σ id).e = (id, σ.cps id) ∧ (x.at σ id).1 = id ∧ (x.at σ id).2.1 = σ.cps id ∧ ∃ r, plc (σ.T (σ.hom id)) id = some r ∧ (x.E (σ.hom id))[r]? = some (x.at σ id) := by
  obtain ⟨r, d, hr, hd, hdi, he⟩ := hx.row hσ hl
  have e : x.at σ id = d := by unfold RX.at; rw [hr]; simp [hd]
  rw [e, Sto.cps_of hr he]
  obtain ⟨d1, d2, d3, d4⟩ := d
  simp only at hdi
  subst hdi
  exact ⟨rfl, rfl, rfl, r, hr, hd⟩
theorem RXok.atCs {σ : Sto} {x : RX} {K : Nat} (hx : RXok σ x K) (hσ : σ.Ok) {id : Nat} (hl : σ.S.isLive id = true) {w0 w3 : World} {l3 : List Thing} {b : Nat} (h3 : Own w0 w3 (RSX b σ.S x :: l3)) : Cs w3 (x.at σ id).2.2.1 (σ.cps id) := by
  obtain ⟨_, _, h2, r, _, hd⟩ := hx.at hσ hl
  obtain ⟨_, _, _, _, _, _, hc⟩ := RSX.ent w0 w3 l3 b σ x h3 _ r (hσ.home hl).1 _ hd
  rw [h2] at hc
  exact hc
theorem list_len {S : St} (hS : S.Ok) : S.list.length ≤ 1024 := by
  rw [← rl_all hS]
  have := rl_le S S.n
  have := hS.n2
  omega
set_option maxHeartbeats 4000000 in
theorem rlistS (x : RX) (h : Own w0 w (RSX b σ.S x :: l)) (hx : RXok σ x K) (hσ : σ.Ok) (hK : K ≤ 1000000) (hLV : ∀ id ∈ σ.S.list, σ.S.isLive id = true) :
    Calls Tryz.prog 55 #[.pointer (some ⟨b, 0, none⟩)] w fun e w' => ∃ ao cap, e = .returned (.slice ao σ.S.list.length cap) ∧ Own w0 w' (Row 94 2 (.slice ao σ.S.list.length cap) σ.S.list.length (cat rcells (σ.S.list.map (x.at σ))) :: RSX b σ.S x :: l) := by
  obtain ⟨i0, hi, hz0, hz1, hz2⟩ := info_parts Tryz.infoEnt
  have q0 := RSX.ids w0 w l b σ x h
  have HL : Hid (Calls Tryz.prog 54 #[.pointer (some ⟨x.bs, 0, none⟩)] w fun e w' => ∃ a c, e = .returned (.tuple #[.slice a σ.S.list.length c, .int .i64 (rr σ.S σ.S.n : Int)]) ∧ Own w0 w' (Row 32 1 (.slice a σ.S.list.length c) σ.S.list.length (irow .u32 σ.S.list) :: RSX b σ.S x :: l)) := by
    refine (rlist_ok w0 w _ x.bs σ.S x.f x.ck (RSX.iff.1 h).two hσ.s).mono ?_
    rintro e w' ⟨v, rfl, h2⟩
    obtain ⟨a, c, rfl⟩ := row_any h2.row
    exact ⟨a, c, rfl, (RSX.iff.2 h2.in23.back4).two⟩
  have hn := list_len hσ.s
  have HEN : Hid (∀ w' l' (j id : Nat), Own w0 w' (RSX b σ.S x :: l') → σ.S.list[j]? = some id → Calls Tryz.prog 36 #[.pointer (some ⟨b, 0, none⟩), .int .u32 (id : Int)] w' fun e w'' => e = .returned (.tuple #[.agg #[.int .u32 ((x.at σ id).1 : Int), .slice (x.at σ id).2.2.1 (x.at σ id).2.1.length (x.at σ id).2.2.2], .int .i64 0]) ∧ Own w0 w'' (RSX b σ.S x :: l')) := by
    intro w' l' j id h' hj
    have hl := hLV id (List.mem_of_getElem? hj)
    obtain ⟨_, _, _, r, hr, hd⟩ := hx.at hσ hl
    exact rent w0 w' l' b σ x K h' hx hσ hK id hl r hr _ hd
  clear h hx hσ hLV
  generalize rr σ.S σ.S.n = rk at *
  obtain ⟨IL, hIL⟩ : ∃ I, I = σ.S.list := ⟨_, rfl⟩
  simp only [← hIL] at HL HEN hn ⊢
  generalize hln : IL.length = n at *
  have HN : Hid (IL.length = n) := hln
  clear hln hIL
  go_enter Tryz.func55, Tryz.ntmps55
  go_wp2_with fail
  refine HL.out.mono ?_
  rintro e w1 ⟨ia, ic, rfl, hO⟩
  have H1 : Hid (Own w0 w1 _) := hO
  clear hO HL q0
  go_wp2
  go_loopw [3, 22] (fun v3 v22 wr => ∃ j : Nat, j ≤ n ∧ v22 = .int .i64 j ∧ ∃ a1 c1, v3 = .slice a1 j c1 ∧ Own w0 wr (Row 94 2 (.slice a1 j c1) j (cat rcells ((IL.map (x.at σ)).take j)) :: Row 32 1 (.slice ia n ic) n (irow .u32 IL) :: RSX b σ.S x :: l)) (fun _ v22 _ => n - (intOf v22).toNat)
  case atStart => exact ⟨0, Nat.zero_le _, rfl, none, 0, rfl, by simpa [cat] using H1.out.nilRow 94 2⟩
  case round =>
    obtain ⟨j, hj, rfl, a1, c1, rfl, hO⟩ := hrel
    have HO : Hid (Own w0 wr _) := hO
    clear H1
    by_cases hlt : j < n
    · have hlt' : (j : Int) < (n : Int) := by omega
      obtain ⟨id, hid⟩ : ∃ id, IL[j]? = some id := ⟨_, List.getElem?_eq_getElem (by rw [HN.out]; exact hlt)⟩
      obtain ⟨g, cp, hv, _⟩ := row_shape hO.two.row (by omega)
      have hia := (Value.slice.inj hv).1
      subst hia
      have c0 : wr.cell? ⟨g, j, none⟩ = some (.int .u32 (id : Int)) := by
        rw [hO.two.row.cellAt _ (by omega), getElem?_irow, hid]; rfl
      have HTK : Hid ((IL.map (x.at σ)).take (j + 1) = (IL.map (x.at σ)).take j ++ [x.at σ id]) := take_snoc _ j _ (by rw [List.getElem?_map, hid]; rfl)
      have HE : Hid (Calls _ _ _ _ _) := HEN.out wr _ j id hO.three hid
      clear hO hv hid HO
      generalize x.at σ id = d at *
      obtain ⟨d1, d2, d3, d4⟩ := d
      simp only at HE
      generalize hdl : d2.length = dl at *
      have HDL : Hid (d2.length = dl) := hdl
      clear hdl
      go_wp2_with fail
      refine HE.out.mono ?_
      rintro e w2 ⟨rfl, hO2⟩
      have hB := hO2.back3.allocC #[.int .u32 (d1 : Int), .slice d3 dl d4] 94
      have e0 := hB.cell 0
      have e1 := hB.cell 1
      simp at e0 e1
      have HB : Hid (Own w0 _ _) := hB
      clear hB hO2 HE c0
      go_wp2_with (at_builtin; refine append1_own rfl _ _ 78 rfl 94 i0 (.agg #[.int .u32 0, .slice none 0 0]) 2 32 Tryz.underlying78 hi hz0 hz1 hz2 rfl (by decide) _ _ _ rfl HB.out.two _ #[.int .u32 (d1 : Int), .slice d3 dl d4] (by simp) rfl rfl (by intro u hu; simp at hu; rcases hu with rfl | rfl <;> rfl) (by unfold maxLen; omega) (by omega) ?_)
      intro g4 c4 w4 hO4 hsz
      have H4 : Hid (Own w0 w4 (Row 94 2 (.slice (some ⟨g4, 0, none⟩) (j + 1) c4) (j + 1) (cat rcells ((IL.map (x.at σ)).take (j + 1))) :: Row 32 1 (.slice (some ⟨g, 0, none⟩) n ic) n (irow .u32 IL) :: RSX b σ.S x :: l)) := by
        show Own _ _ _
        rw [HTK.out, cat_append]
        have e2 : cat rcells [(d1, d2, d3, d4)] = [.int .u32 (d1 : Int), .slice d3 dl d4] := by
          show [Value.int .u32 (d1 : Int), Value.slice d3 d2.length d4] = _
          rw [HDL.out]
        rw [e2]; exact hO4.two.tail
      clear hO4 hsz HB e0 e1
      go_wp2
      go_roundw
      case rel => exact ⟨j + 1, by omega, by go_num, _, _, rfl, H4.out⟩
      case measure => simp [intOf]; omega
    · have hjn : j = n := by omega
      subst hjn
      have hlt' : ¬ (j : Int) < (j : Int) := by omega
      clear hO
      go_wp2
      go_ret
      refine ⟨a1, c1, rfl, ?_⟩
      have h5 := HO.out
      rw [List.take_of_length_le (by rw [List.length_map, HN.out]; exact Nat.le_refl _)] at h5
      exact h5.two.tail

theorem Own.rtabsNew (h : Own w0 w l) : Own w0 w (RTabsOn (List.range 64) (fun _ => .slice none 0 0) (fun _ => []) :: l) := by
  refine Own.ex_iff.2 ⟨(), ?_⟩
  suffices H : ∀ is : List Nat, Own w0 w (is.map (fun m => RTE ((fun _ => .slice none 0 0 : Nat → Value) m) ((fun _ => [] : Nat → List REnt) m)) ++ l) from H _
  intro is
  induction is with
  | nil => exact h
  | cons a is ih => exact RTE.iff.2 (by simpa [cat] using ih.nilRow 94 2)
def jpair (j k : Nat) : Value := if k % 2 = 0 then .int .u8 (if k / 2 < j then ((k / 2 : Nat) : Int) else 0) else .slice none 0 0
def jcells (bs j : Nat) : Array Value := (Value.pointer (some ⟨bs, 0, none⟩) :: (List.range 128).map (jpair j)).toArray
set_option maxRecDepth 100000 in
theorem jcells_zero (bs : Nat) : Tryz.zeroCells83.setIfInBounds 0 (.pointer (some ⟨bs, 0, none⟩)) = jcells bs 0 := by kernel_rfl
theorem jcells_end (bs : Nat) : jcells bs 64 = rscells bs (fun _ => .slice none 0 0) := by
  unfold jcells rscells
  have : (List.range 128).map (jpair 64) = (List.range 128).map (rpair (fun _ => .slice none 0 0)) := by
    refine List.map_congr_left (fun k hk => ?_)
    have hk' : k < 128 := by simpa using hk
    unfold jpair rpair
    by_cases e : k % 2 = 0
    · rw [if_pos e, if_pos e, if_pos (by omega)]
    · rw [if_neg e, if_neg e]
  rw [this]
theorem jcells_set (bs j : Nat) (hj : j < 64) : (jcells bs j).setIfInBounds (1 + j * 2) (.int .u8 (j : Int)) = jcells bs (j + 1) := by
  rw [show 1 + j * 2 = j * 2 + 1 by omega]
  unfold jcells
  rw [List.setIfInBounds_toArray, List.set_cons_succ]
  have : ((List.range 128).map (jpair j)).set (j * 2) (.int .u8 (j : Int)) = (List.range 128).map (jpair (j + 1)) := by
    apply List.ext_getElem?
    intro i
    rw [List.getElem?_set]
    simp only [List.length_map, List.length_range, List.getElem?_map]
    by_cases c : j * 2 = i
    · subst c
      rw [if_pos rfl, if_pos (by omega), List.getElem?_range (by omega)]
      show _ = some (jpair _ _)
      unfold jpair
      rw [if_pos (by omega), if_pos (by omega), show j * 2 / 2 = j by omega]
    · rw [if_neg c]
      by_cases d : i < 128
      · rw [List.getElem?_range d]
        show some (jpair _ _) = some (jpair _ _)
        unfold jpair
        by_cases e : i % 2 = 0
        · rw [if_pos e, if_pos e]
          by_cases g : i / 2 < j
          · rw [if_pos g, if_pos (by omega)]
          · rw [if_neg g, if_neg (by omega)]
        · rw [if_neg e, if_neg e]
      · rw [List.getElem?_eq_none (by simp; omega)]; rfl
  rw [this]
set_option maxHeartbeats 2000000 in
theorem rnewS (h : Own w0 w l) (n f : Nat) (h1 : 1 ≤ n) (h2 : n ≤ 1024) (h3 : 1 ≤ f) (h4 : f ≤ 4194303) :
    Calls Tryz.prog 6 #[.int .i64 (n : Int), .int .i64 (f : Int)] w fun e w' => ∃ b, e = .returned (.tuple #[.pointer (some ⟨b, 0, none⟩), .int .i64 0]) ∧ Own w0 w' (RSto b (Sto.new n f) 0 :: l) := by
  have HN : Hid (Calls _ _ _ _ _) := rnew_ok w0 w l n f h h1 h2 h3 (by omega)
  have HST : Hid (Stamp (St.new n f) (fun _ => 0) 0) := Stamp.new n f h1
  clear h
  go_enter Tryz.func6, Tryz.ntmps6
  go_wp2_with fail
  refine HN.out.mono ?_
  rintro e w1 ⟨bs, rfl, hO⟩
  have k := hO.allocC (jcells bs 0) 83
  rw [← jcells_zero] at k
  have HK : Hid (Own w0 _ _) := k
  clear hO k HN
  go_wp2
  go_loopw [22] (fun cv wr => ∃ j : Nat, j ≤ 64 ∧ cv = .int .i64 j ∧ Own w0 wr (Cells w1.heap.size (jcells bs j) 83 :: RSlots bs (St.new n f) (fun _ => 0) 0 :: l)) (fun cv _ => 64 - (intOf cv).toNat)
  case atStart => exact ⟨0, Nat.zero_le _, rfl, by rw [← jcells_zero]; exact HK.out⟩
  case round =>
    obtain ⟨j, hj, rfl, hO⟩ := hrel
    have HO : Hid (Own w0 wr _) := hO
    clear HK
    by_cases hlt : j < 64
    · have hlt' : (j : Int) < 64 := by omega
      have y0 := hO.froz (1 + j * 2)
      have z0 := hO.cell (1 + j * 2)
      have hz : ∃ u, (jcells bs j)[1 + j * 2]? = some (.int .u8 u) := by
        rw [show 1 + j * 2 = j * 2 + 1 by omega]
        refine ⟨0, ?_⟩
        simp only [jcells, List.getElem?_toArray, List.getElem?_cons_succ, List.getElem?_map]
        rw [List.getElem?_range (by omega)]
        show some (jpair _ _) = _
        unfold jpair
        rw [if_pos (by omega), if_neg (by omega)]
      obtain ⟨u, hu⟩ := hz
      rw [hu] at z0
      have HS : Hid (Own w0 (wr.setCell ⟨w1.heap.size, 1 + j * 2, none⟩ (.int .u8 (j : Int))) (Cells w1.heap.size (jcells bs (j + 1)) 83 :: RSlots bs (St.new n f) (fun _ => 0) 0 :: l)) := by
        have := hO.setC (1 + j * 2) (.int .u8 (j : Int))
        rw [jcells_set bs j hlt] at this
        exact this
      clear hO hu
      go_wp2
      go_roundw
      case rel => exact ⟨j + 1, by omega, by go_num, HS.out⟩
      case measure => simp [intOf]; omega
    · have hj6 : j = 64 := by omega
      subst hj6
      clear hO
      go_wp2
      go_ret2
      have h5 := HO.out
      rw [jcells_end] at h5
      refine ⟨_, rfl, RSto.mk (σ := Sto.new n f) (x := ⟨bs, fun _ => .slice none 0 0, fun _ => 0, 0, fun _ => []⟩) ⟨HST.out, Nat.le_refl _, fun m hm => rfl, fun m hm => Nat.le_refl _⟩ (RSX.iff.2 ?_)⟩
      exact (Own.rtabsNew w0 _ _ h5).back3
end
end Go.Proofs.YtibdgdbkdnifbaaGreatDoor

/-
  The store's Get; how one comes from a place by a speed.
-/
namespace Go.Proofs.YtibdgdbkdnifbaaGreatDoor
open Go.RowKit Go.Maps
set_option linter.unusedVariables false
set_option maxRecDepth 100000

/-- the component of a kind that one has; nothing of it, if it has none -/
def Sto.gv (σ : Sto) (id k : Nat) : Cp := if hasK (σ.cps id) k then mkc k (fv (σ.cps id) k) else ⟨0, 0, 0, 0⟩
set_option maxHeartbeats 2000000 in
theorem sgetC (w0 w : World) (l : List Thing) (b : Nat) (σ : Sto) (K : Nat) (h : Own w0 w (Store b σ K :: l)) (hσ : σ.Ok) (id : Nat) (hid : id < 4294967296) (hl : σ.S.isLive id = true) (k : Nat) (hk : k < 256) :
    Calls Tryz.prog 19 #[.pointer (some ⟨b, 0, none⟩), .int .u32 (id : Int), .int .u8 (k : Int)] w fun e w' => e = .returned (.tuple #[(σ.gv id k).ag, .int .i64 (if hasK (σ.cps id) k then 0 else 10)]) ∧ Own w0 w' (Store b σ K :: l) := by
  obtain ⟨bs, v, p, h⟩ := h.stoX
  obtain ⟨h6, hn, _⟩ := hσ.home hl
  obtain ⟨r, C, hr, he, _⟩ := hσ.ent hl
  have hA := (h.allocC #[.int .u8 0, .int .i32 0, .int .i32 0, .int .i32 0] 48).two
  have HH : Hid (Calls _ _ _ _ _) := home_ok w0 _ _ b bs v p σ K hA hσ.s id hid hl hn h6
  obtain ⟨bt, hp⟩ := stoP h h6 he
  rw [hp, pp_some] at HH
  have HG : Hid (∀ w' l', Own w0 w' (StoX b σ K (bs, v, p) :: l') → Calls Tryz.prog 44 #[.pointer (some ⟨bt, 0, none⟩), .int .u32 (id : Int), .int .u8 (k : Int)] w' fun e w'' => e = .returned (.tuple #[(σ.gv id k).ag, .int .i64 (if hasK (σ.cps id) k then 0 else 10)]) ∧ Own w0 w'' (StoX b σ K (bs, v, p) :: l')) := fun w' l' h' => homeGet w0 w' l' b bs v p σ K hσ id hid hl bt hp h' k hk
  generalize σ.gv id k = G at *
  generalize (if hasK (σ.cps id) k then (0 : Int) else 10) = er at *
  clear h hA hσ hl he hr hp hn hid
  obtain ⟨gk, ga, gb, gc⟩ := G
  simp only [Cp.ag] at HG ⊢
  go_enter Tryz.func19, Tryz.ntmps19
  go_wp2_with fail
  refine HH.out.mono ?_
  rintro e w1 ⟨rfl, hO⟩
  have H1 : Hid (Own w0 w1 _) := hO
  clear hO HH
  go_wp2_with fail
  refine (HG.out _ _ H1.out).mono ?_
  rintro e w2 ⟨rfl, hO⟩
  have hB := hO.two
  have z0 := hB.cell 0
  have z1 := hB.cell 1
  have z2 := hB.cell 2
  have z3 := hB.cell 3
  simp at z0 z1 z2 z3
  have y0 := hB.froz 0
  have y1 := hB.froz 1
  have y2 := hB.froz 2
  have y3 := hB.froz 3
  have HF : Hid (Own w0 _ _) := (((hB.setC 0 (.int .u8 (gk : Int))).setC 1 (.int .i32 ga)).setC 2 (.int .i32 gb)).setC 3 (.int .i32 gc)
  clear hO hB HG H1
  go_wp2
  (try simp only [Exit.inBlock, Exit.then])
  refine bodyPost_ret (v := .tuple #[.agg #[.int .u8 (gk : Int), .int .i32 ga, .int .i32 gb, .int .i32 gc], .int .i64 er]) ?_ rfl ⟨rfl, HF.out.tail.xSto⟩
  rw [results_cell_tmp rfl]
  have r0 := HF.out.cell 0
  have r1 := HF.out.cell 1
  have r2 := HF.out.cell 2
  have r3 := HF.out.cell 3
  simp at r0 r1 r2 r3
  go_simp

/-- where one comes, and its speed from then on -/
def gl1 (at_ by_ : Int) : Int × Int := (max (-524288) (min (at_ + by_) 524287), if max (-524288) (min (at_ + by_) 524287) = at_ + by_ then by_ else min (-by_) 32767)
theorem gl1_in {a b : Int} (hb : -32768 ≤ b ∧ b ≤ 32767) : (-524288 ≤ (gl1 a b).1 ∧ (gl1 a b).1 ≤ 524287) ∧ (-32768 ≤ (gl1 a b).2 ∧ (gl1 a b).2 ≤ 32767) := by
  unfold gl1
  refine ⟨by simp only; omega, ?_⟩
  simp only
  split <;> omega
theorem chk_pv {k : Nat} {a b c : Int} (hk : k = 0 ∨ k = 1) (h : (⟨k, a, b, c⟩ : Cp).chk = 0) : lo k 0 ≤ a ∧ a ≤ hi k 0 ∧ lo k 1 ≤ b ∧ b ≤ hi k 1 ∧ c = 0 := by
  unfold Cp.chk chk at h
  simp only at h
  rcases hk with rfl | rfl
  all_goals
    rw [if_neg (by decide)] at h
    split at h
    · cases h
    · rename_i hs
      split at h
      · cases h
      · rename_i ho
        simp [stray, cnt, kinds, f3, List.range, List.range.loop] at hs
        simp [outside, cnt, kinds, f3, List.range, List.range.loop, lo, hi, fld] at ho
        simp [lo, hi, fld, kinds]
        omega
end Go.Proofs.YtibdgdbkdnifbaaGreatDoor

/-
  Two entities that are alike.
-/
namespace Go.Proofs.YtibdgdbkdnifbaaGreatDoor
open Go.RowKit
set_option linter.unusedVariables false
set_option maxRecDepth 100000

set_option maxHeartbeats 1000000 in
theorem sameEnt_any (w : World) (id : Nat) (a1 a2 : Option Addr) (n c1 c2 : Nat) (C : List Cp) (h1 : Cs w a1 C) (h2 : Cs w a2 C) (hn : C.length = n) (hm : n ≤ 1000000) :
    Calls Tryz.prog 57 #[.agg #[.int .u32 (id : Int), .slice a1 n c1], .agg #[.int .u32 (id : Int), .slice a2 n c2]] w fun e w' => e = .returned (.bool true) ∧ Fr Nobody w w' := by
  have HF : Hid (Fr Nobody w ((w.alloc (.cells #[.int .u32 (id : Int), .slice a1 n c1] 94)).alloc (.cells #[.int .u32 (id : Int), .slice a2 n c2] 94))) := ((Fr.refl _ _).alloc _).alloc _
  have HS : Hid (Calls _ _ _ _ _) := same_cs _ a1 a2 n c1 c2 C (h1.quiet HF.out) (h2.quiet HF.out) hn hm
  have hii : ((id : Int) == (id : Int)) = true := by simp
  clear h1 h2 hn
  go_enter Tryz.func57, Tryz.ntmps57
  go_wp2_with fail
  refine HS.out.mono ?_
  rintro e w1 ⟨rfl, hf⟩
  have H1 : Hid (Fr Nobody w w1) := HF.out.trans hf
  clear hf HS
  go_wp2
  go_ret
  exact ⟨rfl, H1.out⟩

end Go.Proofs.YtibdgdbkdnifbaaGreatDoor

/-
  No store on either side; New that can't; Get of any entity; the first component.
-/
namespace Go.Proofs.YtibdgdbkdnifbaaGreatDoor
open Go.RowKit Go.Maps
set_option linter.unusedVariables false
set_option maxRecDepth 100000

set_option maxHeartbeats 400000 in
theorem slen_nil (w : World) : Calls Tryz.prog 51 #[.pointer none] w fun e w' => e = .returned (.int .i64 0) ∧ w' = w := by
  go_enter Tryz.func51, Tryz.ntmps51
  go_wp2_with (first | (go_at_call 88; refine (sused_nil _).mono ?_; rintro e w' ⟨rfl, rfl⟩) | (go_at_call 89; refine (len_nil _).mono ?_; rintro e w' ⟨rfl, rfl⟩))
  go_ret
  exact ⟨rfl, rfl⟩
set_option maxHeartbeats 400000 in
theorem sroom_nil (w : World) : Calls Tryz.prog 52 #[.pointer none] w fun e w' => e = .returned (.int .i64 0) ∧ w' = w := by
  go_enter Tryz.func52, Tryz.ntmps52
  go_wp2_with (first | (go_at_call 88; refine (sused_nil _).mono ?_; rintro e w' ⟨rfl, rfl⟩) | (go_at_call 90; refine (room_nil _).mono ?_; rintro e w' ⟨rfl, rfl⟩))
  go_ret
  exact ⟨rfl, rfl⟩
set_option maxHeartbeats 400000 in
theorem sls_nil (w : World) : Calls Tryz.prog 53 #[.pointer none] w fun e w' => e = .returned (.slice none 0 0) ∧ w' = w := by
  go_enter Tryz.func53, Tryz.ntmps53
  go_wp2_with (first | (go_at_call 88; refine (sused_nil _).mono ?_; rintro e w' ⟨rfl, rfl⟩) | (go_at_call 91; refine (list_nil _).mono ?_; rintro e w' ⟨rfl, rfl⟩))
  go_ret
  exact ⟨rfl, rfl⟩
set_option maxHeartbeats 400000 in
theorem sgroups_nil (w : World) : Calls Tryz.prog 23 #[.pointer none] w fun e w' => e = .returned (.slice none 0 0) ∧ Fr Nobody w w' := by
  go_enter Tryz.func23, Tryz.ntmps23
  go_wp2
  go_ret
  exact ⟨rfl, Fr.refl _ _⟩
set_option maxHeartbeats 1000000 in
theorem sget_nil (w : World) (id k : Int) : Calls Tryz.prog 19 #[.pointer none, .int .u32 id, .int .u8 k] w fun e w' => e = .returned (.tuple #[.agg #[.int .u8 0, .int .i32 0, .int .i32 0, .int .i32 0], .int .i64 10]) ∧ Fr Nobody w w' := by
  go_enter Tryz.func19, Tryz.ntmps19
  go_wp2_with (go_at_call 33; refine (home_nil _ _).mono ?_; rintro e w' ⟨rfl, rfl⟩)
  (try simp only [Exit.inBlock, Exit.then])
  refine bodyPost_ret (v := .tuple #[.agg #[.int .u8 0, .int .i32 0, .int .i32 0, .int .i32 0], .int .i64 10]) ?_ rfl ⟨rfl, (Fr.refl _ _).alloc _⟩
  rw [results_cell_tmp rfl]
  go_simp
set_option maxHeartbeats 400000 in
theorem rspawn_nil (w : World) (v : Value) : Calls Tryz.prog 9 #[.pointer none, v] w fun e w' => e = .returned (.tuple #[.int .u32 0, .int .i64 10]) ∧ Fr Nobody w w' := by
  go_enter Tryz.func9, Tryz.ntmps9
  go_wp2
  go_ret2
  exact ⟨rfl, Fr.refl _ _⟩
set_option maxHeartbeats 1000000 in
theorem rent_nil (w : World) (id : Int) : Calls Tryz.prog 36 #[.pointer none, .int .u32 id] w fun e w' => e = .returned (.tuple #[.agg #[.int .u32 0, .slice none 0 0], .int .i64 10]) ∧ Fr Nobody w w' := by
  go_enter Tryz.func36, Tryz.ntmps36
  go_wp2
  (try simp only [Exit.inBlock, Exit.then])
  refine bodyPost_ret (v := .tuple #[.agg #[.int .u32 0, .slice none 0 0], .int .i64 10]) ?_ rfl ⟨rfl, (Fr.refl _ _).alloc _⟩
  rw [results_cell_tmp rfl]
  go_simp
set_option maxHeartbeats 400000 in
theorem rdespawn_nil (w : World) (id : Int) : Calls Tryz.prog 11 #[.pointer none, .int .u32 id] w fun e w' => e = .returned (.int .i64 10) ∧ Fr Nobody w w' := by
  go_enter Tryz.func11, Tryz.ntmps11
  go_wp2_with fail
  refine (rent_nil _ _).mono ?_
  rintro e w1 ⟨rfl, hf⟩
  go_wp2
  go_ret
  exact ⟨rfl, by first | exact hf | exact hf.alloc _⟩
set_option maxHeartbeats 1000000 in
theorem rget_nil (w : World) (id k : Int) : Calls Tryz.prog 20 #[.pointer none, .int .u32 id, .int .u8 k] w fun e w' => e = .returned (.tuple #[.agg #[.int .u8 0, .int .i32 0, .int .i32 0, .int .i32 0], .int .i64 10]) ∧ Fr Nobody w w' := by
  have hA := (Own.start w).allocC #[.int .u8 0, .int .i32 0, .int .i32 0, .int .i32 0] 48
  have HA : Hid (Own w _ _) := hA
  clear hA
  go_enter Tryz.func20, Tryz.ntmps20
  go_wp2_with fail
  refine (rent_nil _ _).mono ?_
  rintro e w1 ⟨rfl, hf⟩
  have hO := HA.out.quiet hf
  have hB := (hO.alloc (.cells #[.int .u32 0, .slice none 0 0] 94))
  have z0 := hB.cell 0
  have z1 := hB.cell 1
  have z2 := hB.cell 2
  have z3 := hB.cell 3
  simp at z0 z1 z2 z3
  have y0 := hB.froz 0
  have y1 := hB.froz 1
  have y2 := hB.froz 2
  have y3 := hB.froz 3
  have hne1 : w1.heap.size ≠ w.heap.size := by have := hO.lt; omega
  have hne2 : w.heap.size ≠ w1.heap.size := fun q => hne1 q.symm
  have HF : Hid (Own w _ _) := (((hB.setC 0 (.int .u8 0)).setC 1 (.int .i32 0)).setC 2 (.int .i32 0)).setC 3 (.int .i32 0)
  clear hO hB HA hf
  go_wp2
  (try simp only [Exit.inBlock, Exit.then])
  refine bodyPost_ret (v := .tuple #[.agg #[.int .u8 0, .int .i32 0, .int .i32 0, .int .i32 0], .int .i64 10]) ?_ rfl ⟨rfl, HF.out.fr⟩
  rw [results_cell_tmp rfl]
  have r0 := HF.out.cell 0
  have r1 := HF.out.cell 1
  have r2 := HF.out.cell 2
  have r3 := HF.out.cell 3
  simp at r0 r1 r2 r3
  go_simp
set_option maxHeartbeats 400000 in
theorem rset_nil (w : World) (id : Int) (k a b c : Int) : Calls Tryz.prog 14 #[.pointer none, .int .u32 id, .agg #[.int .u8 k, .int .i32 a, .int .i32 b, .int .i32 c]] w fun e w' => e = .returned (.int .i64 10) ∧ Fr Nobody w w' := by
  go_enter Tryz.func14, Tryz.ntmps14
  go_wp2
  go_ret
  exact ⟨rfl, (Fr.refl _ _).alloc _⟩
set_option maxHeartbeats 400000 in
theorem radd_nil (w : World) (id : Int) (k a b c : Int) : Calls Tryz.prog 16 #[.pointer none, .int .u32 id, .agg #[.int .u8 k, .int .i32 a, .int .i32 b, .int .i32 c]] w fun e w' => e = .returned (.int .i64 10) ∧ Fr Nobody w w' := by
  go_enter Tryz.func16, Tryz.ntmps16
  go_wp2
  go_ret
  exact ⟨rfl, (Fr.refl _ _).alloc _⟩
set_option maxHeartbeats 400000 in
theorem rremove_nil (w : World) (id k : Int) : Calls Tryz.prog 18 #[.pointer none, .int .u32 id, .int .u8 k] w fun e w' => e = .returned (.int .i64 10) ∧ Fr Nobody w w' := by
  go_enter Tryz.func18, Tryz.ntmps18
  go_wp2_with fail
  refine (rent_nil _ _).mono ?_
  rintro e w1 ⟨rfl, hf⟩
  go_wp2
  go_ret
  exact ⟨rfl, by first | exact hf | exact hf.alloc _⟩
set_option maxHeartbeats 400000 in
theorem snew_no (w : World) (n f : Int) (h : n < 1 ∨ 1024 < n ∨ f < 1 ∨ 4194303 < f) : Calls Tryz.prog 5 #[.int .i64 n, .int .i64 f] w fun e w' => e = .returned (.tuple #[.pointer none, .int .i64 1]) ∧ Fr Nobody w w' := by
  have HN : Hid (Calls _ _ _ _ _) := new_no w n f h
  clear h
  go_enter Tryz.func5, Tryz.ntmps5
  go_wp2_with fail
  refine HN.out.mono ?_
  rintro e w1 ⟨rfl, rfl⟩
  go_wp2
  go_ret2
  exact ⟨rfl, Fr.refl _ _⟩
set_option maxHeartbeats 400000 in
theorem rsnew_no (w : World) (n f : Int) (h : n < 1 ∨ 1024 < n ∨ f < 1 ∨ 4194303 < f) : Calls Tryz.prog 6 #[.int .i64 n, .int .i64 f] w fun e w' => e = .returned (.tuple #[.pointer none, .int .i64 1]) ∧ Fr Nobody w w' := by
  have HN : Hid (Calls _ _ _ _ _) := rnew_no w n f h
  clear h
  go_enter Tryz.func6, Tryz.ntmps6
  go_wp2_with fail
  refine HN.out.mono ?_
  rintro e w1 ⟨rfl, rfl⟩
  go_wp2
  go_ret2
  exact ⟨rfl, Fr.refl _ _⟩
set_option maxHeartbeats 1000000 in
theorem sgetD (w0 w : World) (l : List Thing) (b : Nat) (σ : Sto) (K : Nat) (h : Own w0 w (Store b σ K :: l)) (hσ : σ.Ok) (id : Nat) (hid : id < 4294967296) (hl : σ.S.isLive id = false) (k : Nat) :
    Calls Tryz.prog 19 #[.pointer (some ⟨b, 0, none⟩), .int .u32 (id : Int), .int .u8 (k : Int)] w fun e w' => e = .returned (.tuple #[.agg #[.int .u8 0, .int .i32 0, .int .i32 0, .int .i32 0], .int .i64 7]) ∧ Own w0 w' (Store b σ K :: l) := by
  obtain ⟨bs, v, p, h⟩ := h.stoX
  have hA := (h.allocC #[.int .u8 0, .int .i32 0, .int .i32 0, .int .i32 0] 48).two
  have HH : Hid (Calls _ _ _ _ _) := home_dead w0 _ _ b bs v p σ K hA hσ.s id hid hl
  clear h hA hσ hl hid
  go_enter Tryz.func19, Tryz.ntmps19
  go_wp2_with fail
  refine HH.out.mono ?_
  rintro e w1 ⟨rfl, hO⟩
  have hB := hO.two
  have z0 := hB.cell 0
  have z1 := hB.cell 1
  have z2 := hB.cell 2
  have z3 := hB.cell 3
  simp at z0 z1 z2 z3
  have y0 := hB.froz 0
  have y1 := hB.froz 1
  have y2 := hB.froz 2
  have y3 := hB.froz 3
  have HF : Hid (Own w0 _ _) := (((hB.setC 0 (.int .u8 0)).setC 1 (.int .i32 0)).setC 2 (.int .i32 0)).setC 3 (.int .i32 0)
  clear hO hB HH
  go_wp2
  (try simp only [Exit.inBlock, Exit.then])
  refine bodyPost_ret (v := .tuple #[.agg #[.int .u8 0, .int .i32 0, .int .i32 0, .int .i32 0], .int .i64 7]) ?_ rfl ⟨rfl, HF.out.tail.xSto⟩
  rw [results_cell_tmp rfl]
  have r0 := HF.out.cell 0
  have r1 := HF.out.cell 1
  have r2 := HF.out.cell 2
  have r3 := HF.out.cell 3
  simp at r0 r1 r2 r3
  go_simp
theorem Sto.get_gv {σ : Sto} (hσ : σ.Ok) {id : Nat} (hl : σ.S.isLive id = true) (k : Nat) : σ.get id k = (if hasK (σ.cps id) k then 0 else 10, σ.gv id k) := by
  obtain ⟨r, C, hr, he, hlC, _, h6⟩ := hσ.ent hl
  have hc := Sto.cps_of hr he
  have hg : σ.get id k = tget (σ.hom id) (σ.T (σ.hom id)) id k := by unfold Sto.get; rw [hl]; rfl
  rw [hg]
  unfold Sto.gv
  rw [hc]
  cases hh : hasK C k with
  | true =>
    obtain ⟨q, hq, hqk⟩ := (hasK_iff C k).1 hh
    obtain ⟨i, hi⟩ := List.mem_iff_getElem?.1 hq
    rw [tget_has (hσ.t _ h6) hr he hi hqk]
    simp only [if_true]
    rw [← hqk, fv_of hlC hq]
    rfl
  | false =>
    rw [tget_not (hσ.t _ h6) hr he hh]
    simp
theorem sgetA (w0 w : World) (l : List Thing) (b : Nat) (σ : Sto) (K : Nat) (h : Own w0 w (Store b σ K :: l)) (hσ : σ.Ok) (id : Nat) (hid : id < 4294967296) (k : Nat) (hk : k < 256) :
    Calls Tryz.prog 19 #[.pointer (some ⟨b, 0, none⟩), .int .u32 (id : Int), .int .u8 (k : Int)] w fun e w' => e = .returned (.tuple #[(σ.get id k).2.ag, .int .i64 ((σ.get id k).1 : Int)]) ∧ Own w0 w' (Store b σ K :: l) := by
  cases hl : σ.S.isLive id with
  | false =>
    have hg : σ.get id k = (7, ⟨0, 0, 0, 0⟩) := by unfold Sto.get; rw [hl]; rfl
    rw [hg]
    exact sgetD w0 w l b σ K h hσ id hid hl k
  | true =>
    rw [Sto.get_gv hσ hl]
    refine (sgetC w0 w l b σ K h hσ id hid hl k hk).mono ?_
    rintro e w' ⟨rfl, h2⟩
    refine ⟨?_, h2⟩
    cases hasK (σ.cps id) k <;> rfl
set_option maxHeartbeats 1000000 in
def fst1 (C : List Cp) : Cp := match C with
  | [] => ⟨0, 0, 0, 0⟩
  | q :: _ => q
set_option maxHeartbeats 400000 in
theorem first_any (w : World) (ao : Option Addr) (len cap : Nat) (C : List Cp) (hl : C.length = len) (hs : Cs w ao C) :
    Calls Tryz.prog 13 #[.slice ao len cap] w fun e w' => e = .returned (fst1 C).ag ∧ Fr Nobody w w' := by
  cases C with
  | nil =>
    have h0 : len = 0 := by rw [← hl]; rfl
    subst h0
    go_enter Tryz.func13, Tryz.ntmps13
    go_wp2
    (try simp only [Exit.inBlock, Exit.then])
    refine bodyPost_ret (v := .agg #[.int .u8 0, .int .i32 0, .int .i32 0, .int .i32 0]) ?_ rfl ⟨rfl, (Fr.refl _ _).alloc _⟩
    simp only [results]
    go_simp
  | cons q C =>
    obtain ⟨g, o, hao, _, c0, c1, c2, c3⟩ := hs.at 0 q rfl
    subst hao
    have hlen : ¬ len = 0 := by rw [← hl]; simp
    have hlen' : ((len : Int) == 0) = false := by rw [beq_eq_false_iff_ne]; omega
    have hlen2 : (0 : Int) < (len : Int) := by omega
    have hlen3 : 0 < len := by omega
    have hgw := World.block_lt_of_cell? w _ c0
    have hgn : w.heap.size ≠ g := by have := hgw; simp only at this; omega
    have hgn2 : g ≠ w.heap.size := fun e => hgn e.symm
    obtain ⟨qk, qa, qb, qc⟩ := q
    simp only [Nat.zero_mul, Nat.add_zero] at c0 c1 c2 c3
    clear hl hs
    go_enter Tryz.func13, Tryz.ntmps13
    go_wp2
    (try simp only [Exit.inBlock, Exit.then])
    refine bodyPost_ret (v := .agg #[.int .u8 (qk : Int), .int .i32 qa, .int .i32 qb, .int .i32 qc]) ?_ rfl ⟨rfl, (Fr.refl _ _).alloc _⟩
    simp only [results]
    go_simp

end Go.Proofs.YtibdgdbkdnifbaaGreatDoor

/-
  Groups, one after another; the document's tables, read.
-/
namespace Go.Proofs.YtibdgdbkdnifbaaGreatDoor
open Go.RowKit Go.Maps
set_option linter.unusedVariables false
set_option maxRecDepth 100000

theorem Sto.grs_mono (σ : Sto) {a b : Nat} (h : a ≤ b) : ∃ R, σ.grs b = σ.grs a ++ R := by
  induction h with
  | refl => exact ⟨[], by simp⟩
  | step h ih =>
    obtain ⟨R, hR⟩ := ih
    rw [Sto.grs_succ]
    split
    · exact ⟨R, hR⟩
    · exact ⟨R ++ [_], by rw [hR, List.append_assoc]⟩
theorem Sto.grs_at {σ : Sto} {k i : Nat} (hk : k < 64) (hne : σ.T k ≠ []) (hi : (σ.grs k).length = i) : (σ.grs 64)[i]? = some (k, ids (σ.T k)) ∧ (σ.grs (k + 1)).length = i + 1 := by
  obtain ⟨R, hR⟩ := σ.grs_mono (show k + 1 ≤ 64 by omega)
  rw [hR, Sto.grs_succ, if_neg hne]
  constructor
  · rw [List.append_assoc, List.getElem?_append_right (by omega), hi, Nat.sub_self]
    rfl
  · rw [List.length_append, hi]; rfl
theorem Sto.grs_end {σ : Sto} {k : Nat} (hk : k < 64) (hi : (σ.grs k).length = (σ.grs 64).length) : σ.T k = [] := by
  by_cases hne : σ.T k = []
  · exact hne
  · have := (Sto.grs_at hk hne hi).1
    have := (List.getElem?_eq_some_iff.1 this).1
    omega
theorem Sto.grs_nil {σ : Sto} {k : Nat} (h : σ.T k = []) : σ.grs (k + 1) = σ.grs k := by rw [Sto.grs_succ, if_pos h]
theorem Own.dropl {w0 w : World} : ∀ (L : List Thing) {l : List Thing}, Own w0 w (L ++ l) → Own w0 w l
  | [], _, h => h
  | _ :: L, _, h => Own.dropl L h.tail
section
variable {w0 w : World} {l : List Thing} {b : Nat} {σ : Sto} {x : RX} {K : Nat}
theorem RSX.tab (h : Own w0 w (RSX b σ.S x :: l)) (hx : RXok σ x K) (m : Nat) (hm : m < 64) : ∃ ao cap, w.cell? ⟨b, 1 + m * 2 + 1, none⟩ = some (.slice ao (σ.T m).length cap) := by
  have h3 := RSX.iff.1 h
  have q := h3.cell (1 + m * 2 + 1)
  rw [rscells_v _ _ _ hm] at q
  have h4 := RTE.iff.1 ((RTabsOn.pull (k := m) (by simpa using hm)).1 h3.three)
  obtain ⟨ao, cap, hv⟩ := row_any h4.row
  rw [hv] at q
  have hl : (σ.T m).length = (x.E m).length := by rw [← hx.E m hm, List.length_map]
  rw [hl]
  exact ⟨ao, cap, q⟩
theorem RSX.who (h : Own w0 w (RSX b σ.S x :: l)) (hx : RXok σ x K) (m : Nat) (hm : m < 64) (r id : Nat) (hr : (Go.Proofs.YtibdgdbkdnifbaaGreatDoor.ids (σ.T m))[r]? = some id) : ∃ (g cap : Nat) (dv : Option Addr × Nat × Nat), w.cell? ⟨b, 1 + m * 2 + 1, none⟩ = some (.slice (some ⟨g, 0, none⟩) (σ.T m).length cap) ∧ w.cell? ⟨g, r * 2, none⟩ = some (.int .u32 (id : Int)) ∧ w.cell? ⟨g, r * 2 + 1, none⟩ = some (.slice dv.1 dv.2.1 dv.2.2) := by
  rw [← hx.E m hm] at hr
  unfold Go.Proofs.YtibdgdbkdnifbaaGreatDoor.ids at hr
  rw [List.getElem?_map, List.getElem?_map] at hr
  obtain ⟨d, hd⟩ : ∃ d, (x.E m)[r]? = some d := by
    cases hE : (x.E m)[r]? with
    | none => rw [hE] at hr; simp at hr
    | some d => exact ⟨d, rfl⟩
  rw [hd] at hr
  simp only [Option.map_some, Option.some.injEq] at hr
  obtain ⟨g, cap, _, q0, q1, q2, _⟩ := RSX.ent w0 w l b σ x h m r hm d hd
  have hl : (σ.T m).length = (x.E m).length := by rw [← hx.E m hm, List.length_map]
  rw [hl]
  refine ⟨g, cap, (d.2.2.1, d.2.1.length, d.2.2.2), q0, ?_, q2⟩
  rw [← hr]
  exact q1
theorem rids11 (h : Own w0 w (RSX b σ.S x :: l)) (hx : RXok σ x K) (hσ : σ.S.Ok) : Calls Tryz.prog 54 #[.pointer (some ⟨x.bs, 0, none⟩)] w fun e w' => ∃ va vc, e = .returned (.tuple #[.slice va σ.S.list.length vc, .int .i64 (σ.S.room : Int)]) ∧ Own w0 w' (Row 32 1 (.slice va σ.S.list.length vc) σ.S.list.length (irow .u32 σ.S.list) :: RSX b σ.S x :: l) := by
  have h3 := RSX.iff.1 h
  have e : rr σ.S σ.S.n = σ.S.room := hx.st.room
  refine (rlist_ok w0 w _ x.bs σ.S x.f x.ck h3.two hσ).mono ?_
  rintro ee w' ⟨v, rfl, h4⟩
  obtain ⟨va, vc, rfl⟩ := row_any h4.row
  rw [e]
  refine ⟨va, vc, rfl, ?_⟩
  exact (RSX.iff.2 h4.back4.two).two
end
theorem gr_cell {w0 w : World} {l : List Thing} {G : List GrE} (h : Own w0 w (G.map GrE.row ++ l)) {i j v : Nat} {y : GrE} (hy : G[i]? = some y) (hv : y.I[j]? = some v) : ∃ g, y.ao = some ⟨g, 0, none⟩ ∧ w.cell? ⟨g, j, none⟩ = some (.int .u32 (v : Int)) := by
  obtain ⟨s, t, rfl⟩ := List.append_of_mem (List.mem_of_getElem? hy)
  rw [List.map_append, List.map_cons, List.append_assoc, List.cons_append] at h
  have h2 := h.perm List.perm_middle
  have hl := (List.getElem?_eq_some_iff.1 hv).1
  have h3 : Own w0 w (Row 32 1 (.slice y.ao y.I.length y.cap) y.I.length (irow .u32 y.I) :: _) := h2
  obtain ⟨g, cp, hg, _⟩ := row_shape h3.row (by omega)
  have ha := (Value.slice.inj hg).1
  refine ⟨g, ha, ?_⟩
  rw [ha] at h3
  rw [h3.row.cellAt _ (by omega), getElem?_irow, hv]
  rfl
theorem sgroups11 (w0 w : World) (l : List Thing) (b : Nat) (σ : Sto) (K : Nat) (h : Own w0 w (Store b σ K :: l)) (hK : K ≤ 1000000) : Calls Tryz.prog 23 #[.pointer (some ⟨b, 0, none⟩)] w fun e w' => ∃ G ra rc, e = .returned (.slice ra G.length rc) ∧ G.map GrE.is = σ.grs 64 ∧ Own w0 w' (Row 63 2 (.slice ra G.length rc) G.length (cat GrE.cs G) :: (G.map GrE.row ++ Store b σ K :: l)) := by
  obtain ⟨bs, v, p, h⟩ := h.stoX
  refine (sgroupsX w0 w l b bs v p σ K h hK).mono ?_
  rintro e w' ⟨G, ra, rc, rfl, hG, h2⟩
  refine ⟨G, ra, rc, rfl, hG, ?_⟩
  have h3 := h2.perm (show (Row 63 2 (.slice ra G.length rc) G.length (cat GrE.cs G) :: (G.map GrE.row ++ StoX b σ K (bs, v, p) :: l)).Perm (StoX b σ K (bs, v, p) :: (Row 63 2 (.slice ra G.length rc) G.length (cat GrE.cs G) :: (G.map GrE.row ++ l))) from ((List.Perm.cons _ List.perm_middle).trans (List.Perm.swap _ _ _)))
  exact h3.xSto.perm ((List.Perm.swap _ _ _).trans (List.Perm.cons _ List.perm_middle.symm))
end Go.Proofs.YtibdgdbkdnifbaaGreatDoor
