/- The document's store: put, Spawn, Despawn. -/
import Derived.Test.YtogmdoiecpihdaaGreatDoorQw20
import Derived.Test.YtogmdoiecpihdaaGreatDoorQw21
import Derived.Test.YtogmdoiecpihdaaGreatDoorQw14
import Derived.Test.YtogmdoiecpihdaaGreatDoorQw16
namespace Go.Proofs.YtogmdoiecpihdaaGreatDoor
open Go.RowKit Go.Maps
set_option linter.unusedVariables false
set_option maxHeartbeats 4000000
set_option maxRecDepth 100000
section
variable (w0 w : World) (l : List Thing) (b : Nat) (σ : Sto) (K : Nat)
theorem rputS (h : Own w0 w (RSto b σ K :: l)) (id : Nat) (hid : id < 4294967296) (ao : Option Addr) (len cap : Nat) (C : List Cp) (hCl : C.length = len) (hCs : ∀ w',Own w0 w' l → Cs w' ao C) (hCk : ∀ q ∈ C,q.k < 256) (hlen : len ≤ 1000000) (h0 : lst (-1) C = 0) (hT : TOk (msk C) (σ.T (msk C))) (hn : plc (σ.T (msk C)) id = none) (hK : K < 1000000) :
  Calls Tryz.prog 172 #[.pointer (some ⟨b,0,none⟩),.int .u32 (id : Int),.slice ao len cap] w fun e w' => e = .returned (.tuple #[]) ∧ Own w0 w' (RSto b (σ.put id C) (K + 1) :: l) := by
 have h6 := msk64 C
 have H : Hid (Own w0 w.drew (RSto b σ K :: l)) := h.drew
 have HMK : Hid (Calls Tryz.prog 218 #[.slice ao len cap] w.drew fun e w'' => e = .returned (.int .u8 ((msk C : Nat) : Int)) ∧ Fr Nobody w.drew w'') := rmask_any w.drew ao len cap C hCl (hCs _ h.drew.tail) hCk hlen
 have HAD : Hid (∀ w',Own w0 w' (RSto b σ K :: l) → Calls Tryz.prog 217 #[.pointer (some ⟨b,1 + msk C * 2,none⟩),.int .u32 (id : Int),.slice ao len cap] w' fun e w'' => e = .returned (.int .i64 0) ∧ Own w0 w'' (RSto b (σ.put id C) (K + 1) :: l)) := by
  intro w' h'
  obtain ⟨x,hx,h'⟩ := RSto.opn h'
  have h2 := RSX.out h' h6
  rw [hx.E _ h6] at h2
  have ht : tadd (msk C) (σ.T (msk C)) id C = (0,σ.T (msk C) ++ [(id,C)]) := by unfold tadd; rw [if_neg (by simp [h0]),if_neg (by simp),if_neg (by rw [hn]; simp)]
  refine (rtaddC w0 w' _ b _ _ _ _ h2 hT id hid ao len cap C hCl (fun w'' h'' => hCs _ h''.tail.tail) hCk hlen (by have := hx.len _ h6; omega)).mono ?_
  rintro e w'' ⟨rfl,h3⟩
  rw [ht] at h3 ⊢
  obtain ⟨v',E',hE,h4⟩ := RSX.into h6 h3
  refine ⟨rfl,RSto.mk (σ := σ.put id C) ((hx.mono (Nat.le_succ K)).upd h6 hE ?_) h4⟩
  have := hx.len _ h6
  simp; omega
 clear h hCs hCk h0 hT hn
 generalize msk C = m at *
 go_enter Tryz.func172,Tryz.ntmps172
 go_wp2_with fail
 have hm64 : (m : Int) < 64 := by omega
 go_region_with (first
  | (go_at_call 218
     refine HMK.out.mono ?_
     rintro e w3 ⟨rfl,hf3⟩
     have H3 : Hid (Own w0 w3 (RSto b σ K :: l)) := H.out.quiet hf3
     clear hf3)
  | (go_at_call 217
     refine (HAD.out _ H3.out).mono ?_
     rintro e w4 ⟨rfl,hO4⟩
     have H4 : Hid (Own w0 w4 _) := hO4
     clear hO4))
 all_goals
  go_wp2
  go_end0
  exact ⟨rfl,H4.out⟩
theorem rspawnC (h : Own w0 w (RSto b σ K :: l)) (hσ : σ.Ok)
  (ao : Option Addr) (len cap : Nat) (C : List Cp) (hCl : C.length = len) (hCs : ∀ w',Own w0 w' l → Cs w' ao C) (hCk : ∀ q ∈ C,q.k < 256) (hlen : len ≤ 1000000) (hK : K < 1000000) :
  Calls Tryz.prog 115 #[.pointer (some ⟨b,0,none⟩),.slice ao len cap] w fun e w' => e = .returned (.tuple #[.int .u32 ((σ.spawn C).1 : Int),.int .i64 (σ.spawn C).2.1]) ∧ Own w0 w' (RSto b (σ.spawn C).2.2 (K + 1) :: l) := by
 have H : Hid (Own w0 w (RSto b σ K :: l)) := h
 have HLS : Hid (Calls _ _ _ _ _) := rlist_any w ao len cap C hCl (hCs _ h.tail) hCk hlen
 by_cases h0 : lst (-1) C = 0
 ·rw [h0] at HLS
  have HTK : Hid (∀ w',Own w0 w' (RSto b σ K :: l) → ∃ bs,w'.cell? ⟨b,0,none⟩ = some (.pointer (some ⟨bs,0,none⟩)) ∧ Calls Tryz.prog 171 #[.pointer (some ⟨bs,0,none⟩)] w' fun e w'' => e = .returned (.tuple #[.int .u32 (σ.S.take.1 : Int),.int .i64 σ.S.take.2.1]) ∧ Own w0 w'' (RSto b { σ with S := σ.S.take.2.2 } K :: l)) := by
   intro w' h'
   obtain ⟨x,hx,h'⟩ := RSto.opn h'
   refine ⟨x.bs,RSX.ids w0 w' l b σ x h',(rtake_ok w0 w' _ x.bs σ.S x.f x.ck (RSX.iff.1 h').two hσ.s hx.st (by have := hx.ck; omega)).mono ?_⟩
   rintro e w'' ⟨rfl,f',hf',h2⟩
   refine ⟨rfl,RSto.mk (σ := { σ with S := σ.S.take.2.2 }) (x := { x with f := f' }) ⟨hf',hx.ck,hx.E,hx.len⟩ (RSX.iff.2 h2.two)⟩
  by_cases h1 : σ.S.take.2.1 = 0
  ·have HV : Hid (σ.spawn C = (σ.S.take.1,0,Sto.put { σ with S := σ.S.take.2.2 } σ.S.take.1 C)) := by show _ = _; unfold Sto.spawn; rw [if_neg (by simp [h0]),if_neg (by simp [h1])]
   have hL := hσ.take h1
   have hli := St.live_lt hL.s hL.li
   have HPU : Hid (∀ w',Own w0 w' (RSto b { σ with S := σ.S.take.2.2 } K :: l) → Calls Tryz.prog 172 #[.pointer (some ⟨b,0,none⟩),.int .u32 (σ.S.take.1 : Int),.slice ao len cap] w' fun e w'' => e = .returned (.tuple #[]) ∧ Own w0 w'' (RSto b (Sto.put { σ with S := σ.S.take.2.2 } σ.S.take.1 C) (K + 1) :: l)) := by
    intro w' h'
    exact rputS w0 w' l b _ K h' σ.S.take.1 hli.1 ao len cap C hCl hCs hCk hlen h0 (hL.t _ (msk64 C)) (hL.none (msk64 C)) hK
   rw [h1] at HTK
   clear h hCs hσ h0 h1 hL hli
   go_enter Tryz.func115,Tryz.ntmps115
   go_wp2_with fail
   refine HLS.out.mono ?_
   rintro e w1 ⟨rfl,hf⟩
   obtain ⟨bs,q0,htk⟩ := HTK.out _ (H.out.quiet hf)
   have HTK1 : Hid (Calls _ _ _ _ _) := htk
   clear htk hf HTK H HLS
   go_wp2_with fail
   refine HTK1.out.mono ?_
   rintro e w2 ⟨rfl,hO⟩
   have H2 : Hid (Own w0 w2 _) := hO
   clear hO HTK1
   go_wp2_with fail
   refine (HPU.out _ H2.out).mono ?_
   rintro e w3 ⟨rfl,hO⟩
   have H3 : Hid (Own w0 w3 _) := hO
   clear hO
   go_wp2
   go_ret2
   rw [HV.out]
   exact ⟨rfl,H3.out⟩
  ·have HV : Hid (σ.spawn C = (0,σ.S.take.2.1,σ)) := by show _ = _; unfold Sto.spawn; rw [if_neg (by simp [h0]),if_pos (by simp [h1])]
   have HS : Hid (σ.S.take.2.2 = σ.S ∧ σ.S.take.1 = 0) := by
    show _ ∧ _
    unfold St.take at h1 ⊢
    split at h1
    ·exact absurd rfl h1
    ·split at h1
     ·exact absurd rfl h1
     ·rename_i c; simp [c]
   rw [HS.out.2] at HTK
   clear h hCs hσ h0
   generalize σ.S.take.2.1 = r at *
   have h1' : (r == (0 : Int)) = false := by simpa using h1
   go_enter Tryz.func115,Tryz.ntmps115
   go_wp2_with fail
   refine HLS.out.mono ?_
   rintro e w1 ⟨rfl,hf⟩
   obtain ⟨bs,q0,htk⟩ := HTK.out _ (H.out.quiet hf)
   have HTK1 : Hid (Calls _ _ _ _ _) := htk
   clear htk hf HTK H HLS
   go_wp2_with fail
   refine HTK1.out.mono ?_
   rintro e w2 ⟨rfl,hO⟩
   have H2 : Hid (Own w0 w2 _) := hO
   clear hO HTK1
   go_wp2
   go_ret2
   rw [HV.out]
   have h3 := H2.out
   rw [HS.out.1] at h3
   exact ⟨rfl,h3.rstoK (Nat.le_succ K)⟩
 ·have HV : Hid (σ.spawn C = (0,(lst (-1) C : Int),σ)) := by show _ = _; unfold Sto.spawn; rw [if_pos h0]
  generalize lst (-1) C = r at *
  have h1' : ((r : Int) != 0) = true := by simpa using h0
  clear h hCs hσ h0
  go_enter Tryz.func115,Tryz.ntmps115
  go_wp2_with fail
  refine HLS.out.mono ?_
  rintro e w1 ⟨rfl,hf⟩
  have H1 : Hid (Own w0 w1 _) := H.out.quiet hf
  clear hf H HLS
  go_wp2
  go_ret2
  rw [HV.out]
  exact ⟨rfl,H1.out.rstoK (Nat.le_succ K)⟩
theorem RXok.row {σ : Sto} {x : RX} {K : Nat} (hx : RXok σ x K) (hσ : σ.Ok) {id : Nat} (hl : σ.S.isLive id = true) : ∃ r d,plc (σ.T (σ.hom id)) id = some r ∧ (x.E (σ.hom id))[r]? = some d ∧ d.1 = id ∧ (σ.T (σ.hom id))[r]? = some (id,d.2.1) := by
 obtain ⟨h6,hn,r,e,hr,he,hi⟩ := hσ.home hl
 have : ((x.E (σ.hom id)).map REnt.e)[r]? = some e := by rw [hx.E _ h6]; exact he
 rw [List.getElem?_map] at this
 cases hd : (x.E (σ.hom id))[r]? with
 | none => rw [hd] at this; simp at this
 | some d =>
  rw [hd] at this
  have hde : d.e = e := Option.some.inj this
  subst hde
  have h1 : d.1 = id := hi
  refine ⟨r,d,hr,hd,h1,?_⟩
  rw [he,← h1]; rfl
theorem rdrop (h : Own w0 w (RSto b σ K :: l)) (hσ : σ.Ok) (hK : K ≤ 1000000) (id : Nat) (hl : σ.S.isLive id = true) (r : Nat) (C : List Cp) (hr : plc (σ.T (σ.hom id)) id = some r) (he : (σ.T (σ.hom id))[r]? = some (id,C)) :
  Calls Tryz.prog 169 #[.pointer (some ⟨b,1 + σ.hom id * 2,none⟩),.int .u32 (id : Int)] w fun out w' => ∃ ao cap,out = .returned (.tuple #[.slice ao C.length cap,.int .i64 0]) ∧ Own w0 w' (RSto b (σ.out (σ.hom id) r) K :: l) := by
 obtain ⟨h6,_⟩ := hσ.home hl
 obtain ⟨x,hx,h'⟩ := RSto.opn h
 have h2 := RSX.out h' h6
 rw [hx.E _ h6] at h2
 refine (rtremC w0 w _ b _ _ _ _ h2 (hσ.t _ h6) (by have := hx.len _ h6; omega) id r (id,C) hr he).mono ?_
 rintro out w' ⟨ao,cap,rfl,h3⟩
 obtain ⟨v',E',hE,h4⟩ := RSX.into h6 h3.tail
 refine ⟨ao,cap,rfl,RSto.mk (σ := σ.out (σ.hom id) r) (hx.upd h6 hE ?_) h4⟩
 have h5 := hx.len _ h6
 have h7 := (List.getElem?_eq_some_iff.1 he).1
 rw [length_outr _ _ h7]; omega
theorem rdespawnC (h : Own w0 w (RSto b σ K :: l)) (hσ : σ.Ok) (id : Nat) (hid : id < 4294967296) (hK : K < 1000000) :
  Calls Tryz.prog 114 #[.pointer (some ⟨b,0,none⟩),.int .u32 (id : Int)] w fun e w' => e = .returned (.int .i64 (σ.despawn id).1) ∧ Own w0 w' (RSto b (σ.despawn id).2 (K + 1) :: l) := by
 cases hl : σ.S.isLive id with
 | false =>
  have HV : Hid (σ.despawn id = (7,σ)) := by show _ = _; unfold Sto.despawn; rw [hl]; rfl
  obtain ⟨x,hx,h'⟩ := RSto.opn h
  have HE : Hid (Calls _ _ _ _ _) := rentNo w0 w l b σ x K h' hx hσ (by omega) id hl
  have HX : Hid (RXok σ x K) := hx
  clear h h' hσ hx hl
  go_enter Tryz.func114,Tryz.ntmps114
  go_wp2_with fail
  refine HE.out.mono ?_
  rintro e w1 ⟨rfl,hO⟩
  have H1 : Hid (Own w0 w1 _) := hO
  clear hO HE
  go_wp2
  go_ret
  rw [HV.out]
  exact ⟨rfl,(RSto.mk HX.out (H1.out.alloc _)).rstoK (Nat.le_succ K)⟩
 | true =>
  obtain ⟨x,hx,h'⟩ := RSto.opn h
  obtain ⟨r,d,hr,hd,hdi,he⟩ := hx.row hσ hl
  have HV : Hid (σ.despawn id = (0,{ σ.out (σ.hom id) r with S := σ.S.less id })) := by show _ = _; unfold Sto.despawn; rw [hl,hr]; rfl
  have HE : Hid (Calls _ _ _ _ _) := rent w0 w l b σ x K h' hx hσ (by omega) id hl r hr d hd
  obtain ⟨hw,h6⟩ := whr_live hσ hl
  have HFD : Hid (∀ w' l',Own w0 w' (RSX b σ.S x :: l') → Calls Tryz.prog 163 #[.pointer (some ⟨b,0,none⟩),.int .u32 (id : Int)] w' fun e w'' => e = .returned (.pointer (some ⟨b,1 + σ.hom id * 2,none⟩)) ∧ Fr Nobody w' w'') := by
   intro w' l' h''
   have := rfind w0 w' l' b σ x K h'' hx hσ.t (by omega) id _ hw
   rw [if_pos h6] at this
   exact this
  have HDR : Hid (∀ w',Own w0 w' (RSX b σ.S x :: l) → Calls Tryz.prog 169 #[.pointer (some ⟨b,1 + σ.hom id * 2,none⟩),.int .u32 (id : Int)] w' fun out w'' => ∃ ao cap,out = .returned (.tuple #[.slice ao d.2.1.length cap,.int .i64 0]) ∧ Own w0 w'' (RSto b (σ.out (σ.hom id) r) K :: l)) := fun w' h'' => rdrop w0 w' l b σ K (RSto.mk hx h'') hσ (by omega) id hl r _ hr he
  have HFR : Hid (∀ w',Own w0 w' (RSto b (σ.out (σ.hom id) r) K :: l) → ∃ bs,w'.cell? ⟨b,0,none⟩ = some (.pointer (some ⟨bs,0,none⟩)) ∧ Calls Tryz.prog 170 #[.pointer (some ⟨bs,0,none⟩),.int .u32 (id : Int)] w' fun e w'' => e = .returned (.int .i64 0) ∧ Own w0 w'' (RSto b { σ.out (σ.hom id) r with S := σ.S.less id } (K + 1) :: l)) := by
   intro w' h''
   obtain ⟨y,hy,h''⟩ := RSto.opn h''
   have hfr : σ.S.free id = (0,σ.S.less id) := (St.free_live hσ.s hl).1
   refine ⟨y.bs,RSX.ids w0 w' l b _ y h'',(rfree_ok w0 w' _ y.bs σ.S y.f y.ck id (RSX.iff.1 h'').two hσ.s hy.st hid (by have := hy.ck; omega)).mono ?_⟩
   rintro e w'' ⟨rfl,f',ck',hck',hst,h2⟩
   rw [hfr] at hst h2 ⊢
   refine ⟨rfl,RSto.mk (σ := { σ.out (σ.hom id) r with S := σ.S.less id }) (x := { y with f := f',ck := ck' }) ⟨hst,by have := hy.ck; simp only; omega,hy.E,fun m hm => by have := hy.len m hm; exact Nat.le_succ_of_le this⟩ (RSX.iff.2 h2.two)⟩
  clear h h' hσ hx hl hr hd he hw h6
  generalize σ.hom id = m at *
  obtain ⟨d1,d2,d3,d4⟩ := d
  simp only at HE HDR hdi
  subst hdi
  generalize d2.length = dl at *
  go_enter Tryz.func114,Tryz.ntmps114
  go_wp2_with fail
  refine HE.out.mono ?_
  rintro e w1 ⟨rfl,hO⟩
  have H1 : Hid (Own w0 (w1.alloc (.cells #[.int .u32 (d1 : Int),.slice d3 dl d4] 76)) _) := hO.alloc _
  clear hO HE
  go_wp2_with fail
  refine (HFD.out _ _ H1.out).mono ?_
  rintro e w2 ⟨rfl,hf⟩
  have H2 : Hid (Own w0 w2 _) := H1.out.quiet hf
  clear hf H1 HFD
  go_wp2_with fail
  refine (HDR.out _ H2.out).mono ?_
  rintro e w3 ⟨ao,cap,rfl,hO⟩
  obtain ⟨bs,q0,hfr⟩ := HFR.out _ hO
  have HFR1 : Hid (Calls _ _ _ _ _) := hfr
  clear hfr hO HDR H2 HFR
  go_wp2_with fail
  refine HFR1.out.mono ?_
  rintro e w4 ⟨rfl,hO⟩
  have H4 : Hid (Own w0 w4 _) := hO
  clear hO
  go_wp2
  go_ret
  rw [HV.out]
  exact ⟨rfl,H4.out⟩
end
def Sto.get (σ : Sto) (id k : Nat) : Nat × Cp := if σ.S.isLive id then tget (σ.hom id) (σ.T (σ.hom id)) id k else (7,⟨0,0,0,0⟩)
theorem insc_insw {C : List Cp} {c : Cp} (h : hasK C c.k = false) : insc C c = insw C c := by
 unfold insc insw
 congr 2
 refine List.filter_eq_self.2 (fun q hq => ?_)
 have hm : q ∈ C := (List.dropWhile_suffix _).subset hq
 simp only [ne_eq,decide_not,Bool.not_eq_eq_eq_not,Bool.not_true,decide_eq_false_iff_not]
 intro he
 have : hasK C c.k = true := (hasK_iff C c.k).2 ⟨q,hm,he⟩
 rw [h] at this; cases this
theorem hasK_hom {σ : Sto} {id r : Nat} {C : List Cp} (hσ : σ.Ok) (hl : σ.S.isLive id = true) (he : (σ.T (σ.hom id))[r]? = some (id,C)) (k : Nat) : bt (σ.hom id) k = hasK C k := by
 obtain ⟨h6,_⟩ := hσ.home hl
 obtain ⟨h1,h2⟩ := (hσ.t _ h6).ok _ (List.mem_of_getElem? he)
 simp only at h1 h2
 by_cases hk : k < 6
 ·rw [← h2]; exact bt_msk C k hk
 ·cases hb : bt (σ.hom id) k with
  | true => exact (hasK_bt h2 h6 hb).symm
  | false =>
   cases hh : hasK C k with
   | false => rfl
   | true =>
    obtain ⟨q,hq,hqk⟩ := (hasK_iff C k).1 hh
    have := chk_k ((lst_ok h1).2 q hq).2
    omega
theorem Sto.get_code {σ : Sto} {id : Nat} (hσ : σ.Ok) (k : Nat) : (σ.get id k).1 = if σ.S.isLive id = false then 7 else if hasK (σ.cps id) k = false then 10 else 0 := by
 unfold Sto.get
 cases hl : σ.S.isLive id with
 | false => rfl
 | true =>
  obtain ⟨r,C,hr,he,_⟩ := hσ.ent hl
  simp only [if_true,Bool.true_eq_false,if_false]
  rw [Sto.cps_of hr he,← hasK_hom hσ hl he]
  unfold tget
  rw [hr]
  simp only
  cases bt (σ.hom id) k <;> simp
theorem Sto.get_bad {σ : Sto} {id : Nat} (hσ : σ.Ok) (k : Nat) (h : (σ.get id k).1 ≠ 0) : (σ.get id k).2 = ⟨0,0,0,0⟩ := by
 unfold Sto.get at h ⊢
 split at h
 ·rename_i hl
  rw [if_pos hl]
  unfold tget at h ⊢
  split at h
  ·rfl
  ·rename_i r hp
   split at h
   ·exact absurd rfl h
   ·rename_i hb; rw [if_neg hb]
 ·rename_i hl
  rw [if_neg hl]
section
variable (w0 w : World) (l : List Thing) (b : Nat) (σ : Sto) (K : Nat)
theorem rfindS (h : Own w0 w (RSto b σ K :: l)) (hσ : σ.Ok) (hK : K ≤ 1000000) (id : Nat) (hl : σ.S.isLive id = true) :
  Calls Tryz.prog 163 #[.pointer (some ⟨b,0,none⟩),.int .u32 (id : Int)] w fun e w' => e = .returned (.pointer (some ⟨b,1 + σ.hom id * 2,none⟩)) ∧ Fr Nobody w w' := by
 obtain ⟨x,hx,h'⟩ := RSto.opn h
 obtain ⟨hw,h6⟩ := whr_live hσ hl
 have := rfind w0 w l b σ x K h' hx hσ.t hK id _ hw
 rw [if_pos h6] at this
 exact this
theorem rgetS (h : Own w0 w (RSto b σ K :: l)) (hσ : σ.Ok) (hK : K ≤ 1000000) (id : Nat) (k : Nat) (hk : k < 256) :
  Calls Tryz.prog 167 #[.pointer (some ⟨b,0,none⟩),.int .u32 (id : Int),.int .u8 (k : Int)] w fun e w' => e = .returned (.tuple #[(σ.get id k).2.ag,.int .i64 ((σ.get id k).1 : Int)]) ∧ Own w0 w' (RSto b σ K :: l) := by
 obtain ⟨x,hx,h⟩ := RSto.opn h
 have HX : Hid (RXok σ x K) := hx
 have hA := (h.allocC #[.int .u8 0,.int .i32 0,.int .i32 0,.int .i32 0] 46).two
 cases hl : σ.S.isLive id with
 | false =>
  have HV : Hid (σ.get id k = (7,⟨0,0,0,0⟩)) := by show _ = _; unfold Sto.get; rw [hl]; rfl
  have HE : Hid (Calls _ _ _ _ _) := rentNo w0 _ _ b σ x K hA hx hσ (by omega) id hl
  clear h hA hσ hl hx
  go_enter Tryz.func167,Tryz.ntmps167
  go_wp2_with fail
  refine HE.out.mono ?_
  rintro e w1 ⟨rfl,hO⟩
  have hB := (hO.alloc (.cells #[.int .u32 0,.slice none 0 0] 76)).two
  have z0 := hB.cell 0
  have z1 := hB.cell 1
  have z2 := hB.cell 2
  have z3 := hB.cell 3
  simp at z0 z1 z2 z3
  have y0 := hB.froz 0
  have y1 := hB.froz 1
  have y2 := hB.froz 2
  have y3 := hB.froz 3
  have hne1 : w1.heap.size ≠ w.heap.size := by have := hO.two.lt; omega
  have hne2 : w.heap.size ≠ w1.heap.size := fun q => hne1 q.symm
  have HF : Hid (Own w0 _ _) := (((hB.setC 0 (.int .u8 0)).setC 1 (.int .i32 0)).setC 2 (.int .i32 0)).setC 3 (.int .i32 0)
  clear hO hB HE
  go_wp2
  (try simp only [Exit.inBlock,Exit.then])
  refine bodyPost_ret (v := .tuple #[.agg #[.int .u8 0,.int .i32 0,.int .i32 0,.int .i32 0],.int .i64 7]) ?_ rfl ⟨by rw [HV.out]; rfl,RSto.mk HX.out HF.out.tail⟩
  rw [results_cell_tmp rfl]
  have r0 := HF.out.cell 0
  have r1 := HF.out.cell 1
  have r2 := HF.out.cell 2
  have r3 := HF.out.cell 3
  simp at r0 r1 r2 r3
  go_simp
 | true =>
  obtain ⟨r,d,hr,hd,hdi,he⟩ := hx.row hσ hl
  obtain ⟨h6,_⟩ := hσ.home hl
  have hT := hσ.t _ h6
  have HE : Hid (Calls _ _ _ _ _) := rent w0 _ _ b σ x K hA hx hσ (by omega) id hl r hr d hd
  have hgt : ∀ kk,σ.get id kk = tget (σ.hom id) (σ.T (σ.hom id)) id kk := fun kk => by unfold Sto.get; rw [hl]; rfl
  have HG : Hid (∀ i q,d.2.1[i]? = some q → ∀ kk,q.k = kk → σ.get id kk = (0,q)) := fun i q hq kk hk => by rw [hgt]; exact tget_has hT hr he hq hk
  have HG2 : Hid (hasK d.2.1 k = false → σ.get id k = (10,⟨0,0,0,0⟩)) := fun h => by rw [hgt]; exact tget_not hT hr he h
  have hCk : ∀ q ∈ d.2.1,q.k < 256 := fun q hq => by have := chk_k ((lst_ok (hT.ok _ (List.mem_of_getElem? he)).1).2 q hq).2; omega
  have hC6 : d.2.1.length ≤ 6 := hT.c6 he
  have HCS : Hid (∀ w' l',Own w0 w' (RSX b σ.S x :: l') → Cs w' d.2.2.1 d.2.1) := fun w' l' h' => by obtain ⟨_,_,_,_,_,_,hc⟩ := RSX.ent w0 w' l' b σ x h' _ r h6 d hd; exact hc
  clear h hA hσ hl hx hr hd hdi he h6 hT hgt
  obtain ⟨d1,d2,d3,d4⟩ := d
  simp only at HE HG HG2 hCk hC6 HCS
  generalize hdl : d2.length = dl at *
  go_enter Tryz.func167,Tryz.ntmps167
  go_wp2_with fail
  refine HE.out.mono ?_
  rintro e w1 ⟨rfl,hO⟩
  have hB := (hO.allocC #[.int .u32 (d1 : Int),.slice d3 dl d4] 76)
  have e1 := hB.cell 1
  simp at e1
  have hcs := HCS.out _ _ hB.two
  have HFD : Hid (Calls _ _ _ _ _) := find_any _ d3 dl d4 d2 hdl hcs hCk (by omega) k hk
  have hne1 : w1.heap.size ≠ w.heap.size := by have := hO.two.lt; omega
  have hne2 : w.heap.size ≠ w1.heap.size := fun q => hne1 q.symm
  have HB : Hid (Own w0 _ (Cells w1.heap.size #[.int .u32 (d1 : Int),.slice d3 dl d4] 76 :: RSX b σ.S x :: Cells w.heap.size #[.int .u8 0,.int .i32 0,.int .i32 0,.int .i32 0] 46 :: l)) := hB
  clear hO hB HE hcs
  go_wp2_with fail
  refine HFD.out.mono ?_
  rintro e w2 ⟨r2,rfl,hf2,hcase⟩
  have hO := HB.out.quiet hf2
  have HC2 : Hid (Cs w2 d3 d2) := HCS.out _ _ hO.two
  have f1 := hO.cell 1
  simp at f1
  have hD := hO.three
  have z0 := hD.cell 0
  have z1 := hD.cell 1
  have z2 := hD.cell 2
  have z3 := hD.cell 3
  simp at z0 z1 z2 z3
  have y0 := hD.froz 0
  have y1 := hD.froz 1
  have y2 := hD.froz 2
  have y3 := hD.froz 3
  have H2 : Hid (Own w0 w2 _) := hD
  clear hf2 hO hD HFD HB e1
  rcases hcase with ⟨rfl,hno⟩ | ⟨i,rfl,q,hq,hqk,_⟩
  ·have HV : Hid (σ.get id k = (10,⟨0,0,0,0⟩)) := HG2.out hno
   have HF : Hid (Own w0 _ _) := (((H2.out.setC 0 (.int .u8 0)).setC 1 (.int .i32 0)).setC 2 (.int .i32 0)).setC 3 (.int .i32 0)
   clear hno
   go_wp2
   (try simp only [Exit.inBlock,Exit.then])
   refine bodyPost_ret (v := .tuple #[.agg #[.int .u8 0,.int .i32 0,.int .i32 0,.int .i32 0],.int .i64 10]) ?_ rfl ⟨by rw [HV.out]; rfl,RSto.mk HX.out HF.out.tail.tail⟩
   rw [results_cell_tmp rfl]
   have r0 := HF.out.cell 0
   have r1 := HF.out.cell 1
   have r2 := HF.out.cell 2
   have r3 := HF.out.cell 3
   simp at r0 r1 r2 r3
   go_simp
  ·have HV : Hid (σ.get id k = (0,q)) := HG.out i q hq k hqk
   obtain ⟨gc,oc,hac,_,x0,x1,x2,x3⟩ := HC2.out.at i q hq
   subst hac
   have hic : i < dl := by rw [← hdl]; exact (List.getElem?_eq_some_iff.1 hq).1
   have hic' : (i : Int) < (dl : Int) := by omega
   have hi0 : ¬ (i : Int) < 0 := by omega
   clear hq hdl
   obtain ⟨qk,qa,qb,qc⟩ := q
   simp only at x0 x1 x2 x3
   have HF : Hid (Own w0 _ _) := (((H2.out.setC 0 (.int .u8 (qk : Int))).setC 1 (.int .i32 qa)).setC 2 (.int .i32 qb)).setC 3 (.int .i32 qc)
   clear hqk
   go_wp2
   (try simp only [Exit.inBlock,Exit.then])
   refine bodyPost_ret (v := .tuple #[.agg #[.int .u8 (qk : Int),.int .i32 qa,.int .i32 qb,.int .i32 qc],.int .i64 0]) ?_ rfl ⟨by rw [HV.out]; rfl,RSto.mk HX.out HF.out.tail.tail⟩
   rw [results_cell_tmp rfl]
   have r0 := HF.out.cell 0
   have r1 := HF.out.cell 1
   have r2 := HF.out.cell 2
   have r3 := HF.out.cell 3
   simp at r0 r1 r2 r3
   go_simp
theorem rsetS (h : Own w0 w (RSto b σ K :: l)) (hσ : σ.Ok) (id : Nat) (hid : id < 4294967296) (q : Cp) (hk : q.k < 256) (hK : K < 1000000) :
  Calls Tryz.prog 113 #[.pointer (some ⟨b,0,none⟩),.int .u32 (id : Int),q.ag] w fun e w' => e = .returned (.int .i64 (σ.set id q).1) ∧ Own w0 w' (RSto b (σ.set id q).2 K :: l) := by
 have hA := h.allocC #[.int .u8 (q.k : Int),.int .i32 q.a,.int .i32 q.b,.int .i32 q.c] 46
 have z0 := hA.cell 0
 have z1 := hA.cell 1
 have z2 := hA.cell 2
 have z3 := hA.cell 3
 simp at z0 z1 z2 z3
 have HC : Hid (Calls _ _ _ _ _) := rcheck3 (w.alloc (.cells #[.int .u8 (q.k : Int),.int .i32 q.a,.int .i32 q.b,.int .i32 q.c] 46)) q.k hk q.a q.b q.c
 have HA : Hid (Own w0 _ (Cells w.heap.size #[.int .u8 (q.k : Int),.int .i32 q.a,.int .i32 q.b,.int .i32 q.c] 46 :: RSto b σ K :: l)) := hA
 have HQ : Hid (q.chk = chk q.k (f3 q.a q.b q.c)) := rfl
 clear h hA
 unfold Cp.ag
 obtain ⟨x,hx⟩ : ∃ x,q.chk = x := ⟨_,rfl⟩
 rw [← HQ.out,hx] at HC
 by_cases hx0 : x = 0
 ·subst hx0
  have HGT : Hid (∀ w',Own w0 w' (RSto b σ K :: Cells w.heap.size #[.int .u8 (q.k : Int),.int .i32 q.a,.int .i32 q.b,.int .i32 q.c] 46 :: l) → Calls Tryz.prog 167 #[.pointer (some ⟨b,0,none⟩),.int .u32 (id : Int),.int .u8 (q.k : Int)] w' fun e w'' => e = .returned (.tuple #[(σ.get id q.k).2.ag,.int .i64 ((σ.get id q.k).1 : Int)]) ∧ Own w0 w'' (RSto b σ K :: Cells w.heap.size #[.int .u8 (q.k : Int),.int .i32 q.a,.int .i32 q.b,.int .i32 q.c] 46 :: l)) := fun w' h' => rgetS w0 w' _ b σ K h' hσ (by omega) id q.k hk
  have hcode := Sto.get_code (id := id) hσ q.k
  obtain ⟨⟨cd,y⟩,hy⟩ : ∃ p,σ.get id q.k = p := ⟨_,rfl⟩
  rw [hy] at hcode HGT
  simp only at hcode HGT
  by_cases hcd : cd = 0
  ·subst hcd
   have hl : σ.S.isLive id = true := by
    cases hl : σ.S.isLive id with
    | true => rfl
    | false => rw [hl] at hcode; simp at hcode
   have hh : hasK (σ.cps id) q.k = true := by
    cases hh : hasK (σ.cps id) q.k with
    | true => rfl
    | false => rw [hl,hh] at hcode; simp at hcode
   obtain ⟨r,C,hr,he,hlC,_,h6⟩ := hσ.ent hl
   have HV : Hid (σ.set id q = (0,{ σ with T := upd σ.T (σ.hom id) ((σ.T (σ.hom id)).set r (id,setc C q)) })) := by
    show _ = _
    unfold Sto.set
    rw [if_neg (by simp [hx]),if_neg (by simp [hl]),if_neg (by simp [hh]),hr,Sto.cps_of hr he]
    rfl
   rw [Sto.cps_of hr he] at hh
   have htset : tset (σ.hom id) (σ.T (σ.hom id)) id q = (0,(σ.T (σ.hom id)).set r (id,setc C q)) := by
    unfold tset
    rw [if_neg (by simp [hx]),hr]
    simp only
    rw [if_pos (by rw [hasK_hom hσ hl he]; exact hh),he]
    rfl
   have HFD : Hid (∀ w' l',Own w0 w' (RSto b σ K :: l') → Calls Tryz.prog 163 #[.pointer (some ⟨b,0,none⟩),.int .u32 (id : Int)] w' fun e w'' => e = .returned (.pointer (some ⟨b,1 + σ.hom id * 2,none⟩)) ∧ Fr Nobody w' w'') := fun w' l' h' => rfindS w0 w' l' b σ K h' hσ (by omega) id hl
   have HST : Hid (∀ w' l',Own w0 w' (RSto b σ K :: l') → Calls Tryz.prog 168 #[.pointer (some ⟨b,1 + σ.hom id * 2,none⟩),.int .u32 (id : Int),q.ag] w' fun e w'' => e = .returned (.int .i64 0) ∧ Own w0 w'' (RSto b (σ.set id q).2 K :: l')) := by
    intro w' l' h'
    obtain ⟨x,hx',h'⟩ := RSto.opn h'
    have h2 := RSX.out h' h6
    rw [hx'.E _ h6] at h2
    refine (rtsetC w0 w' _ b _ _ _ _ h2 (hσ.t _ h6) id hid q hk (by have := hx'.len _ h6; omega)).mono ?_
    rintro e w'' ⟨rfl,h3⟩
    rw [htset] at h3 ⊢
    obtain ⟨v',E',hE,h4⟩ := RSX.into h6 h3
    rw [HV.out]
    refine ⟨rfl,RSto.mk (σ := { σ with T := upd σ.T (σ.hom id) ((σ.T (σ.hom id)).set r (id,setc C q)) }) (hx'.upd h6 hE ?_) h4⟩
    rw [List.length_set]; exact hx'.len _ h6
   clear hx HQ hy hr he hl hh htset hσ hlC h6 hcode
   generalize σ.hom id = m at *
   obtain ⟨qk,qa,qb,qc⟩ := q
   obtain ⟨yk,ya,yb,yc⟩ := y
   simp only [Cp.ag] at z0 z1 z2 z3 HC HGT HA hk HST ⊢
   go_enter Tryz.func113,Tryz.ntmps113
   go_wp2_with fail
   refine HC.out.mono ?_
   rintro e w1 ⟨rfl,hf⟩
   have H1 : Hid (Own w0 w1 _) := HA.out.quiet hf
   have y0 := (HA.out.quiet hf).cell 0
   simp at y0
   clear hf HC z0 z1 z2 z3 HA
   go_wp2_with fail
   refine (HGT.out _ H1.out.two).mono ?_
   rintro e w2 ⟨rfl,hO2⟩
   have hO3 := (hO2.alloc (.cells #[.int .u8 (yk : Int),.int .i32 ya,.int .i32 yb,.int .i32 yc] 46)).drew
   have u0 := hO3.two.cell 0
   have u1 := hO3.two.cell 1
   have u2 := hO3.two.cell 2
   have u3 := hO3.two.cell 3
   simp at u0 u1 u2 u3
   have H2 : Hid (Own w0 _ (RSto b σ K :: Cells w.heap.size #[.int .u8 (qk : Int),.int .i32 qa,.int .i32 qb,.int .i32 qc] 46 :: l)) := hO3
   clear hO2 hO3 H1 y0 HGT
   go_wp2_with fail
   go_region_with (first
    | (go_at_call 163
       refine (HFD.out _ _ H2.out).mono ?_
       rintro e w3 ⟨rfl,hf3⟩
       have hO3 := H2.out.quiet hf3
       have v0 := hO3.two.cell 0
       have v1 := hO3.two.cell 1
       have v2 := hO3.two.cell 2
       have v3 := hO3.two.cell 3
       simp at v0 v1 v2 v3
       have H3 : Hid (Own w0 w3 _) := hO3
       clear hO3 hf3)
    | (go_at_call 168
       refine (HST.out _ _ H3.out).mono ?_
       rintro e w4 ⟨rfl,hO4⟩
       have H4 : Hid (Own w0 w4 _) := hO4
       clear hO4))
   all_goals
    go_wp2
    go_ret
    rw [HV.out] at H4 ⊢
    exact ⟨rfl,H4.out.two.tail⟩
  ·have hy0 : y = ⟨0,0,0,0⟩ := by
    have := Sto.get_bad (id := id) hσ q.k (by rw [hy]; exact hcd)
    rw [hy] at this; exact this
   subst hy0
   have HV : Hid (σ.set id q = ((cd : Int),σ)) := by
    show _ = _
    unfold Sto.set
    rw [if_neg (by simp [hx])]
    split at hcode
    ·rename_i hl; rw [if_pos hl,hcode]; rfl
    ·rename_i hl
     rw [if_neg hl]
     split at hcode
     ·rename_i hh; rw [if_pos hh,hcode]; rfl
     ·exact absurd hcode hcd
   have hcd0 : ((cd : Int) != 0) = true := by rw [bne_iff_ne]; omega
   clear hx HQ hy hcode hσ
   obtain ⟨qk,qa,qb,qc⟩ := q
   simp only [Cp.ag] at z0 z1 z2 z3 HC HGT HA hk ⊢
   go_enter Tryz.func113,Tryz.ntmps113
   go_wp2_with fail
   refine HC.out.mono ?_
   rintro e w1 ⟨rfl,hf⟩
   have H1 : Hid (Own w0 w1 _) := HA.out.quiet hf
   have y0 := (HA.out.quiet hf).cell 0
   simp at y0
   clear hf HC z0 z1 z2 z3
   go_wp2_with fail
   refine (HGT.out _ H1.out.two).mono ?_
   rintro e w2 ⟨rfl,hO2⟩
   have H2 : Hid (Own w0 w2 _) := hO2
   clear hO2 H1 y0 HGT
   go_wp2
   go_ret
   rw [HV.out]
   exact ⟨rfl,(H2.out.two.tail).alloc _⟩
 ·have HV : Hid (σ.set id q = ((x : Int),σ)) := by show _ = _; unfold Sto.set; rw [if_pos (by rw [hx]; exact hx0),hx]
  have hx1 : ((x : Int) != 0) = true := by simpa using hx0
  clear hx HQ hσ
  obtain ⟨qk,qa,qb,qc⟩ := q
  simp only at z0 z1 z2 z3 HC HA hk ⊢
  go_enter Tryz.func113,Tryz.ntmps113
  go_wp2_with fail
  refine HC.out.mono ?_
  rintro e w1 ⟨rfl,hf⟩
  have H1 : Hid (Own w0 w1 _) := HA.out.quiet hf
  clear hf HC z0 z1 z2 z3
  go_wp2
  go_ret
  rw [HV.out]
  exact ⟨rfl,H1.out.tail⟩
end
end Go.Proofs.YtogmdoiecpihdaaGreatDoor
