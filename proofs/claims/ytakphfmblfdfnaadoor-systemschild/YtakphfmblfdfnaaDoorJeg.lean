/-
  The document's store: put, Spawn, Despawn.
-/
import Derived.Test.YtakphfmblfdfnaaDoorDgg
import Derived.Test.YtakphfmblfdfnaaDoorDe
import Derived.Test.YtakphfmblfdfnaaDoorOxg
import Derived.Test.YtakphfmblfdfnaaDoorDig
import Derived.Test.YtakphfmblfdfnaaDoorJbg
import Derived.Test.YtakphfmblfdfnaaDoorJhg
import Derived.Test.YtakphfmblfdfnaaDoorXpg
import Derived.Test.YtakphfmblfdfnaaDoorSn
import Derived.Test.YtakphfmblfdfnaaDoorUf
namespace Go.Proofs.YtakphfmblfdfnaaDoor
open Go.RowKit Go.Maps
set_option linter.unusedVariables false
set_option maxRecDepth 100000

section
variable (w0 w : World) (l : List Thing) (b : Nat) (σ : Sto) (K : Nat)
set_option maxHeartbeats 2000000 in
theorem rputS (h : Own w0 w (RSto b σ K :: l)) (id : Nat) (hid : id < 4294967296) (ao : Option Addr) (len cap : Nat) (C : List Cp) (hCl : C.length = len) (hCs : ∀ w', Own w0 w' l → Cs w' ao C) (hCk : ∀ q ∈ C, q.k < 256) (hlen : len ≤ 1000000) (h0 : lst (-1) C = 0) (hT : TOk (msk C) (σ.T (msk C))) (hn : plc (σ.T (msk C)) id = none) (hK : K < 1000000) :
    Calls Tryd.prog 34 #[.pointer (some ⟨b, 0, none⟩), .int .u32 (id : Int), .slice ao len cap] w fun e w' => e = .returned (.tuple #[]) ∧ Own w0 w' (RSto b (σ.put id C) (K + 1) :: l) := by
  have h6 := msk64 C
  have H : Hid (Own w0 w.drew (RSto b σ K :: l)) := h.drew
  have HMK : Hid (Calls Tryd.prog 55 #[.slice ao len cap] w.drew fun e w'' => e = .returned (.int .u8 ((msk C : Nat) : Int)) ∧ Fr Nobody w.drew w'') := rmask_any w.drew ao len cap C hCl (hCs _ h.drew.tail) hCk hlen
  have HAD : Hid (∀ w', Own w0 w' (RSto b σ K :: l) → Calls Tryd.prog 54 #[.pointer (some ⟨b, 1 + msk C * 2, none⟩), .int .u32 (id : Int), .slice ao len cap] w' fun e w'' => e = .returned (.int .i64 0) ∧ Own w0 w'' (RSto b (σ.put id C) (K + 1) :: l)) := by
    intro w' h'
    obtain ⟨x, hx, h'⟩ := RSto.opn h'
    have h2 := RSX.out h' h6
    rw [hx.E _ h6] at h2
    have ht : tadd (msk C) (σ.T (msk C)) id C = (0, σ.T (msk C) ++ [(id, C)]) := by unfold tadd; rw [if_neg (by simp [h0]), if_neg (by simp), if_neg (by rw [hn]; simp)]
    refine (rtaddC w0 w' _ b _ _ _ _ h2 hT id hid ao len cap C hCl (fun w'' h'' => hCs _ h''.tail.tail) hCk hlen (by have := hx.len _ h6; omega)).mono ?_
    rintro e w'' ⟨rfl, h3⟩
    rw [ht] at h3 ⊢
    obtain ⟨v', E', hE, h4⟩ := RSX.into h6 h3
    refine ⟨rfl, RSto.mk (σ := σ.put id C) ((hx.mono (Nat.le_succ K)).upd h6 hE ?_) h4⟩
    have := hx.len _ h6
    simp; omega
  clear h hCs hCk h0 hT hn
  generalize msk C = m at *
  go_enter Tryd.func34, Tryd.ntmps34
  go_wp2_with fail
  have hm64 : (m : Int) < 64 := by omega
  go_region_with (first
    | (go_at_call 55
       refine HMK.out.mono ?_
       rintro e w3 ⟨rfl, hf3⟩
       have H3 : Hid (Own w0 w3 (RSto b σ K :: l)) := H.out.quiet hf3
       clear hf3)
    | (go_at_call 54
       refine (HAD.out _ H3.out).mono ?_
       rintro e w4 ⟨rfl, hO4⟩
       have H4 : Hid (Own w0 w4 _) := hO4
       clear hO4))
  all_goals
    go_wp2
    go_end0
    exact ⟨rfl, H4.out⟩
set_option maxHeartbeats 2000000 in
theorem rspawnC (h : Own w0 w (RSto b σ K :: l)) (hσ : σ.Ok)
    (ao : Option Addr) (len cap : Nat) (C : List Cp) (hCl : C.length = len) (hCs : ∀ w', Own w0 w' l → Cs w' ao C) (hCk : ∀ q ∈ C, q.k < 256) (hlen : len ≤ 1000000) (hK : K < 1000000) :
    Calls Tryd.prog 21 #[.pointer (some ⟨b, 0, none⟩), .slice ao len cap] w fun e w' => e = .returned (.tuple #[.int .u32 ((σ.spawn C).1 : Int), .int .i64 (σ.spawn C).2.1]) ∧ Own w0 w' (RSto b (σ.spawn C).2.2 (K + 1) :: l) := by
  have H : Hid (Own w0 w (RSto b σ K :: l)) := h
  have HLS : Hid (Calls _ _ _ _ _) := rlist_any w ao len cap C hCl (hCs _ h.tail) hCk hlen
  by_cases h0 : lst (-1) C = 0
  · rw [h0] at HLS
    have HTK : Hid (∀ w', Own w0 w' (RSto b σ K :: l) → ∃ bs, w'.cell? ⟨b, 0, none⟩ = some (.pointer (some ⟨bs, 0, none⟩)) ∧ Calls Tryd.prog 33 #[.pointer (some ⟨bs, 0, none⟩)] w' fun e w'' => e = .returned (.tuple #[.int .u32 (σ.S.take.1 : Int), .int .i64 σ.S.take.2.1]) ∧ Own w0 w'' (RSto b { σ with S := σ.S.take.2.2 } K :: l)) := by
      intro w' h'
      obtain ⟨x, hx, h'⟩ := RSto.opn h'
      refine ⟨x.bs, RSX.ids w0 w' l b σ x h', (rtake_ok w0 w' _ x.bs σ.S x.f x.ck (RSX.iff.1 h').two hσ.s hx.st (by have := hx.ck; omega)).mono ?_⟩
      rintro e w'' ⟨rfl, f', hf', h2⟩
      refine ⟨rfl, RSto.mk (σ := { σ with S := σ.S.take.2.2 }) (x := { x with f := f' }) ⟨hf', hx.ck, hx.E, hx.len⟩ (RSX.iff.2 h2.two)⟩
    by_cases h1 : σ.S.take.2.1 = 0
    · have HV : Hid (σ.spawn C = (σ.S.take.1, 0, Sto.put { σ with S := σ.S.take.2.2 } σ.S.take.1 C)) := by show _ = _; unfold Sto.spawn; rw [if_neg (by simp [h0]), if_neg (by simp [h1])]
      have hL := hσ.take h1
      have hli := St.live_lt hL.s hL.li
      have HPU : Hid (∀ w', Own w0 w' (RSto b { σ with S := σ.S.take.2.2 } K :: l) → Calls Tryd.prog 34 #[.pointer (some ⟨b, 0, none⟩), .int .u32 (σ.S.take.1 : Int), .slice ao len cap] w' fun e w'' => e = .returned (.tuple #[]) ∧ Own w0 w'' (RSto b (Sto.put { σ with S := σ.S.take.2.2 } σ.S.take.1 C) (K + 1) :: l)) := by
        intro w' h'
        exact rputS w0 w' l b _ K h' σ.S.take.1 hli.1 ao len cap C hCl hCs hCk hlen h0 (hL.t _ (msk64 C)) (hL.none (msk64 C)) hK
      rw [h1] at HTK
      clear h hCs hσ h0 h1 hL hli
      go_enter Tryd.func21, Tryd.ntmps21
      go_wp2_with fail
      refine HLS.out.mono ?_
      rintro e w1 ⟨rfl, hf⟩
      obtain ⟨bs, q0, htk⟩ := HTK.out _ (H.out.quiet hf)
      have HTK1 : Hid (Calls _ _ _ _ _) := htk
      clear htk hf HTK H HLS
      go_wp2_with fail
      refine HTK1.out.mono ?_
      rintro e w2 ⟨rfl, hO⟩
      have H2 : Hid (Own w0 w2 _) := hO
      clear hO HTK1
      go_wp2_with fail
      refine (HPU.out _ H2.out).mono ?_
      rintro e w3 ⟨rfl, hO⟩
      have H3 : Hid (Own w0 w3 _) := hO
      clear hO
      go_wp2
      go_ret2
      rw [HV.out]
      exact ⟨rfl, H3.out⟩
    · have HV : Hid (σ.spawn C = (0, σ.S.take.2.1, σ)) := by show _ = _; unfold Sto.spawn; rw [if_neg (by simp [h0]), if_pos (by simp [h1])]
      have HS : Hid (σ.S.take.2.2 = σ.S ∧ σ.S.take.1 = 0) := by
        show _ ∧ _
        unfold St.take at h1 ⊢
        split at h1
        · exact absurd rfl h1
        · split at h1
          · exact absurd rfl h1
          · rename_i c; simp [c]
      rw [HS.out.2] at HTK
      clear h hCs hσ h0
      generalize σ.S.take.2.1 = r at *
      have h1' : (r == (0 : Int)) = false := by simpa using h1
      go_enter Tryd.func21, Tryd.ntmps21
      go_wp2_with fail
      refine HLS.out.mono ?_
      rintro e w1 ⟨rfl, hf⟩
      obtain ⟨bs, q0, htk⟩ := HTK.out _ (H.out.quiet hf)
      have HTK1 : Hid (Calls _ _ _ _ _) := htk
      clear htk hf HTK H HLS
      go_wp2_with fail
      refine HTK1.out.mono ?_
      rintro e w2 ⟨rfl, hO⟩
      have H2 : Hid (Own w0 w2 _) := hO
      clear hO HTK1
      go_wp2
      go_ret2
      rw [HV.out]
      have h3 := H2.out
      rw [HS.out.1] at h3
      exact ⟨rfl, h3.rstoK (Nat.le_succ K)⟩
  · have HV : Hid (σ.spawn C = (0, (lst (-1) C : Int), σ)) := by show _ = _; unfold Sto.spawn; rw [if_pos h0]
    generalize lst (-1) C = r at *
    have h1' : ((r : Int) != 0) = true := by simpa using h0
    clear h hCs hσ h0
    go_enter Tryd.func21, Tryd.ntmps21
    go_wp2_with fail
    refine HLS.out.mono ?_
    rintro e w1 ⟨rfl, hf⟩
    have H1 : Hid (Own w0 w1 _) := H.out.quiet hf
    clear hf H HLS
    go_wp2
    go_ret2
    rw [HV.out]
    exact ⟨rfl, H1.out.rstoK (Nat.le_succ K)⟩
/-- the row of one that there is -/
theorem RXok.row {σ : Sto} {x : RX} {K : Nat} (hx : RXok σ x K) (hσ : σ.Ok) {id : Nat} (hl : σ.S.isLive id = true) : ∃ r d, plc (σ.T (σ.hom id)) id = some r ∧ (x.E (σ.hom id))[r]? = some d ∧ d.1 = id ∧ (σ.T (σ.hom id))[r]? = some (id, d.2.1) := by
  obtain ⟨h6, hn, r, e, hr, he, hi⟩ := hσ.home hl
  have : ((x.E (σ.hom id)).map REnt.e)[r]? = some e := by rw [hx.E _ h6]; exact he
  rw [List.getElem?_map] at this
  cases hd : (x.E (σ.hom id))[r]? with
  | none => rw [hd] at this; simp at this
  | some d =>
    rw [hd] at this
    have hde : d.e = e := Option.some.inj this
    subst hde
    have h1 : d.1 = id := hi
    refine ⟨r, d, hr, hd, h1, ?_⟩
    rw [he, ← h1]; rfl
end
end Go.Proofs.YtakphfmblfdfnaaDoor

/-
  The document's store: Get, Set, turn, Add, Remove.
-/
namespace Go.Proofs.YtakphfmblfdfnaaDoor
open Go.RowKit Go.Maps
set_option linter.unusedVariables false
set_option maxRecDepth 100000

def Sto.get (σ : Sto) (id k : Nat) : Nat × Cp := if σ.S.isLive id then tget (σ.hom id) (σ.T (σ.hom id)) id k else (7, ⟨0, 0, 0, 0⟩)
theorem insc_insw {C : List Cp} {c : Cp} (h : hasK C c.k = false) : insc C c = insw C c := by
  unfold insc insw
  congr 2
  refine List.filter_eq_self.2 (fun q hq => ?_)
  have hm : q ∈ C := (List.dropWhile_suffix _).subset hq
  simp only [ne_eq, decide_not, Bool.not_eq_eq_eq_not, Bool.not_true, decide_eq_false_iff_not]
  intro he
  have : hasK C c.k = true := (hasK_iff C c.k).2 ⟨q, hm, he⟩
  rw [h] at this; cases this
theorem hasK_hom {σ : Sto} {id r : Nat} {C : List Cp} (hσ : σ.Ok) (hl : σ.S.isLive id = true) (he : (σ.T (σ.hom id))[r]? = some (id, C)) (k : Nat) : bt (σ.hom id) k = hasK C k := by
  obtain ⟨h6, _⟩ := hσ.home hl
  obtain ⟨h1, h2⟩ := (hσ.t _ h6).ok _ (List.mem_of_getElem? he)
  simp only at h1 h2
  by_cases hk : k < 6
  · rw [← h2]; exact bt_msk C k hk
  · cases hb : bt (σ.hom id) k with
    | true => exact (hasK_bt h2 h6 hb).symm
    | false =>
      cases hh : hasK C k with
      | false => rfl
      | true =>
        obtain ⟨q, hq, hqk⟩ := (hasK_iff C k).1 hh
        have := chk_k ((lst_ok h1).2 q hq).2
        omega
theorem Sto.get_code {σ : Sto} {id : Nat} (hσ : σ.Ok) (k : Nat) : (σ.get id k).1 = if σ.S.isLive id = false then 7 else if hasK (σ.cps id) k = false then 10 else 0 := by
  unfold Sto.get
  cases hl : σ.S.isLive id with
  | false => rfl
  | true =>
    obtain ⟨r, C, hr, he, _⟩ := hσ.ent hl
    simp only [if_true, Bool.true_eq_false, if_false]
    rw [Sto.cps_of hr he, ← hasK_hom hσ hl he]
    unfold tget
    rw [hr]
    simp only
    cases bt (σ.hom id) k <;> simp
theorem Sto.get_bad {σ : Sto} {id : Nat} (hσ : σ.Ok) (k : Nat) (h : (σ.get id k).1 ≠ 0) : (σ.get id k).2 = ⟨0, 0, 0, 0⟩ := by
  unfold Sto.get at h ⊢
  split at h
  · rename_i hl
    rw [if_pos hl]
    unfold tget at h ⊢
    split at h
    · rfl
    · rename_i r hp
      split at h
      · exact absurd rfl h
      · rename_i hb; rw [if_neg hb]
  · rename_i hl
    rw [if_neg hl]

section
variable (w0 w : World) (l : List Thing) (b : Nat) (σ : Sto) (K : Nat)
end
end Go.Proofs.YtakphfmblfdfnaaDoor

/-
  The document's store: turn, Add, Remove.
-/
namespace Go.Proofs.YtakphfmblfdfnaaDoor
open Go.RowKit Go.Maps
set_option linter.unusedVariables false
set_option maxRecDepth 100000

section
variable (w0 w : World) (l : List Thing) (b : Nat) (σ : Sto) (K : Nat)
end
end Go.Proofs.YtakphfmblfdfnaaDoor

/-
  The document's store: Remove, List, New.
-/
namespace Go.Proofs.YtakphfmblfdfnaaDoor
open Go.RowKit Go.Maps
set_option linter.unusedVariables false
set_option maxRecDepth 100000

section
variable (w0 w : World) (l : List Thing) (b : Nat) (σ : Sto) (K : Nat)
/-- the entity with that ID, as it lies in memory -/
def RX.at (x : RX) (σ : Sto) (id : Nat) : REnt := ((plc (σ.T (σ.hom id)) id).bind fun r => (x.E (σ.hom id))[r]?).getD (0, [], none, 0)
theorem RXok.at {σ : Sto} {x : RX} {K : Nat} (hx : RXok σ x K) (hσ : σ.Ok) {id : Nat} (hl : σ.S.isLive id = true) : (x.at σ id).e = (id, σ.cps id) ∧ (x.at σ id).1 = id ∧ (x.at σ id).2.1 = σ.cps id ∧ ∃ r, plc (σ.T (σ.hom id)) id = some r ∧ (x.E (σ.hom id))[r]? = some (x.at σ id) := by
  obtain ⟨r, d, hr, hd, hdi, he⟩ := hx.row hσ hl
  have e : x.at σ id = d := by unfold RX.at; rw [hr]; simp [hd]
  rw [e, Sto.cps_of hr he]
  obtain ⟨d1, d2, d3, d4⟩ := d
  simp only at hdi
  subst hdi
  exact ⟨rfl, rfl, rfl, r, hr, hd⟩
theorem RXok.atCs {σ : Sto} {x : RX} {K : Nat} (hx : RXok σ x K) (hσ : σ.Ok) {id : Nat} (hl : σ.S.isLive id = true) {w0 w3 : World} {l3 : List Thing} {b : Nat} (h3 : Own w0 w3 (RSX b σ.S x :: l3)) : Cs w3 (x.at σ id).2.2.1 (σ.cps id) := by
  obtain ⟨_, _, h2, r, _, hd⟩ := hx.at hσ hl
  obtain ⟨_, _, _, _, _, _, hc⟩ := RSX.ent w0 w3 l3 b σ x h3 _ r (hσ.home hl).1 _ hd
  rw [h2] at hc
  exact hc
theorem list_len {S : St} (hS : S.Ok) : S.list.length ≤ 1024 := by
  rw [← rl_all hS]
  have := rl_le S S.n
  have := hS.n2
  omega
theorem Own.rtabsNew (h : Own w0 w l) : Own w0 w (RTabsOn (List.range 64) (fun _ => .slice none 0 0) (fun _ => []) :: l) := by
  refine Own.ex_iff.2 ⟨(), ?_⟩
  suffices H : ∀ is : List Nat, Own w0 w (is.map (fun m => RTE ((fun _ => .slice none 0 0 : Nat → Value) m) ((fun _ => [] : Nat → List REnt) m)) ++ l) from H _
  intro is
  induction is with
  | nil => exact h
  | cons a is ih => exact RTE.iff.2 (by simpa [cat] using ih.nilRow 123 2)
def jpair (j k : Nat) : Value := if k % 2 = 0 then .int .u8 (if k / 2 < j then ((k / 2 : Nat) : Int) else 0) else .slice none 0 0
def jcells (bs j : Nat) : Array Value := (Value.pointer (some ⟨bs, 0, none⟩) :: (List.range 128).map (jpair j)).toArray
set_option maxRecDepth 100000 in
theorem jcells_zero (bs : Nat) : Tryd.zeroCells85.setIfInBounds 0 (.pointer (some ⟨bs, 0, none⟩)) = jcells bs 0 := by kernel_rfl
theorem jcells_end (bs : Nat) : jcells bs 64 = rscells bs (fun _ => .slice none 0 0) := by
  unfold jcells rscells
  have : (List.range 128).map (jpair 64) = (List.range 128).map (rpair (fun _ => .slice none 0 0)) := by
    refine List.map_congr_left (fun k hk => ?_)
    have hk' : k < 128 := by simpa using hk
    unfold jpair rpair
    by_cases e : k % 2 = 0
    · rw [if_pos e, if_pos e, if_pos (by omega)]
    · rw [if_neg e, if_neg e]
  rw [this]
theorem jcells_set (bs j : Nat) (hj : j < 64) : (jcells bs j).setIfInBounds (1 + j * 2) (.int .u8 (j : Int)) = jcells bs (j + 1) := by
  rw [show 1 + j * 2 = j * 2 + 1 by omega]
  unfold jcells
  rw [List.setIfInBounds_toArray, List.set_cons_succ]
  have : ((List.range 128).map (jpair j)).set (j * 2) (.int .u8 (j : Int)) = (List.range 128).map (jpair (j + 1)) := by
    apply List.ext_getElem?
    intro i
    rw [List.getElem?_set]
    simp only [List.length_map, List.length_range, List.getElem?_map]
    by_cases c : j * 2 = i
    · subst c
      rw [if_pos rfl, if_pos (by omega), List.getElem?_range (by omega)]
      show _ = some (jpair _ _)
      unfold jpair
      rw [if_pos (by omega), if_pos (by omega), show j * 2 / 2 = j by omega]
    · rw [if_neg c]
      by_cases d : i < 128
      · rw [List.getElem?_range d]
        show some (jpair _ _) = some (jpair _ _)
        unfold jpair
        by_cases e : i % 2 = 0
        · rw [if_pos e, if_pos e]
          by_cases g : i / 2 < j
          · rw [if_pos g, if_pos (by omega)]
          · rw [if_neg g, if_neg (by omega)]
        · rw [if_neg e, if_neg e]
      · rw [List.getElem?_eq_none (by simp; omega)]; rfl
  rw [this]
set_option maxHeartbeats 2000000 in
theorem rnewS (h : Own w0 w l) (n f : Nat) (h1 : 1 ≤ n) (h2 : n ≤ 1024) (h3 : 1 ≤ f) (h4 : f ≤ 4194303) :
    Calls Tryd.prog 18 #[.int .i64 (n : Int), .int .i64 (f : Int)] w fun e w' => ∃ b, e = .returned (.tuple #[.pointer (some ⟨b, 0, none⟩), .int .i64 0]) ∧ Own w0 w' (RSto b (Sto.new n f) 0 :: l) := by
  have HN : Hid (Calls _ _ _ _ _) := rnew_ok w0 w l n f h h1 h2 h3 (by omega)
  have HST : Hid (Stamp (St.new n f) (fun _ => 0) 0) := Stamp.new n f h1
  clear h
  go_enter Tryd.func18, Tryd.ntmps18
  go_wp2_with fail
  refine HN.out.mono ?_
  rintro e w1 ⟨bs, rfl, hO⟩
  have k := hO.allocC (jcells bs 0) 85
  rw [← jcells_zero] at k
  have HK : Hid (Own w0 _ _) := k
  clear hO k HN
  go_wp2
  go_loopw [22] (fun cv wr => ∃ j : Nat, j ≤ 64 ∧ cv = .int .i64 j ∧ Own w0 wr (Cells w1.heap.size (jcells bs j) 85 :: RSlots bs (St.new n f) (fun _ => 0) 0 :: l)) (fun cv _ => 64 - (intOf cv).toNat)
  case atStart => exact ⟨0, Nat.zero_le _, rfl, by rw [← jcells_zero]; exact HK.out⟩
  case round =>
    obtain ⟨j, hj, rfl, hO⟩ := hrel
    have HO : Hid (Own w0 wr _) := hO
    clear HK
    by_cases hlt : j < 64
    · have hlt' : (j : Int) < 64 := by omega
      have y0 := hO.froz (1 + j * 2)
      have z0 := hO.cell (1 + j * 2)
      have hz : ∃ u, (jcells bs j)[1 + j * 2]? = some (.int .u8 u) := by
        rw [show 1 + j * 2 = j * 2 + 1 by omega]
        refine ⟨0, ?_⟩
        simp only [jcells, List.getElem?_toArray, List.getElem?_cons_succ, List.getElem?_map]
        rw [List.getElem?_range (by omega)]
        show some (jpair _ _) = _
        unfold jpair
        rw [if_pos (by omega), if_neg (by omega)]
      obtain ⟨u, hu⟩ := hz
      rw [hu] at z0
      have HS : Hid (Own w0 (wr.setCell ⟨w1.heap.size, 1 + j * 2, none⟩ (.int .u8 (j : Int))) (Cells w1.heap.size (jcells bs (j + 1)) 85 :: RSlots bs (St.new n f) (fun _ => 0) 0 :: l)) := by
        have := hO.setC (1 + j * 2) (.int .u8 (j : Int))
        rw [jcells_set bs j hlt] at this
        exact this
      clear hO hu
      go_wp2
      go_roundw
      case rel => exact ⟨j + 1, by omega, by go_num, HS.out⟩
      case measure => simp [intOf]; omega
    · have hj6 : j = 64 := by omega
      subst hj6
      clear hO
      go_wp2
      go_ret2
      have h5 := HO.out
      rw [jcells_end] at h5
      refine ⟨_, rfl, RSto.mk (σ := Sto.new n f) (x := ⟨bs, fun _ => .slice none 0 0, fun _ => 0, 0, fun _ => []⟩) ⟨HST.out, Nat.le_refl _, fun m hm => rfl, fun m hm => Nat.le_refl _⟩ (RSX.iff.2 ?_)⟩
      exact (Own.rtabsNew w0 _ _ h5).back3
end
end Go.Proofs.YtakphfmblfdfnaaDoor

/-
  Entities that are made in a store and in the document's: fill of layer 14.
-/
namespace Go.Proofs.YtakphfmblfdfnaaDoor
open Go.RowKit Go.Maps
set_option linter.unusedVariables false
set_option maxRecDepth 100000

/-- the components of one that is made -/
structure LsE where
  C : List Cp
  ao : Option Addr
  cap : Nat
def Lss (w : World) (ao : Option Addr) (L : List LsE) : Prop := (L = [] ∨ ∃ g o, ao = some ⟨g, o, none⟩ ∧ ∀ (j : Nat) x, L[j]? = some x → w.cell? ⟨g, o + j, none⟩ = some (.slice x.ao x.C.length x.cap)) ∧ ∀ x ∈ L, Cs w x.ao x.C
theorem Lss.at {w : World} {ao : Option Addr} {L : List LsE} (h : Lss w ao L) (j : Nat) (x : LsE) (hx : L[j]? = some x) : ∃ g o, ao = some ⟨g, o, none⟩ ∧ w.cell? ⟨g, o + j, none⟩ = some (.slice x.ao x.C.length x.cap) := by
  rcases h.1 with h | ⟨g, o, ha, hc⟩
  · subst h; simp at hx
  · exact ⟨g, o, ha, hc j x hx⟩
theorem Lss.quiet {w w' : World} {ao : Option Addr} {L : List LsE} (h : Lss w ao L) (hf : Fr Nobody w w') : Lss w' ao L := by
  refine ⟨?_, fun x hx => (h.2 x hx).quiet hf⟩
  rcases h.1 with h | ⟨g, o, ha, hc⟩
  · exact .inl h
  · refine .inr ⟨g, o, ha, fun j x hx => ?_⟩
    have h0 := hc j x hx
    exact (hf.cell (p := ⟨g, o + j, none⟩) (World.block_lt_of_cell? w _ h0) (fun h => h)).trans h0
def lstep (σ : Sto) (x : LsE) : Sto := (σ.spawn (x.C.take 20)).2.2
def fillL (k : Nat) (Q : List LsE) : Sto := (Q.take 50).foldl lstep (Sto.new k 1)
theorem lfold_ok (L : List LsE) (σ : Sto) (h : σ.Ok) : (L.foldl lstep σ).Ok := by
  induction L generalizing σ with
  | nil => exact h
  | cons x L ih => exact ih _ (Sto.spawn_ok h _)
theorem newk_ok {k : Nat} (h1 : 1 ≤ k) (h2 : k ≤ 40) : (Sto.new k 1).Ok := Sto.new_ok k 1 h1 (by omega) (by decide) (by decide)
theorem fillL_ok {k : Nat} (h1 : 1 ≤ k) (h2 : k ≤ 40) (Q : List LsE) : (fillL k Q).Ok := lfold_ok _ _ (newk_ok h1 h2)
theorem Own.rcs3 {w0 w : World} {l : List Thing} {ao : Option Addr} {cap n : Nat} {L : List Cp} (h : Own w0 w (Row 24 4 (.slice ao n cap) n (ccat L) :: l)) (hn : L.length = n) : Cs w ao L := Own.cs (h.view (by decide)) hn
set_option maxHeartbeats 4000000 in
theorem fillL_go (w0 w : World) (l : List Thing) (h : Own w0 w l) (ht : Tab w0) (m : Nat) (hm : m < 256) (ao : Option Addr) (n cap : Nat) (Q : List LsE) (hn : Q.length = n) (hn6 : n ≤ 9223372036854775807) (hQ : ∀ w', Own w0 w' l → Lss w' ao Q) (hw : ∀ x ∈ Q, x.C.length ≤ x.cap ∧ x.cap ≤ 9223372036854775807 ∧ ∀ q ∈ x.C, q.k < 256) :
    Calls Tryd.prog 10 #[.int .u8 (m : Int), .slice ao n cap] w fun e w' => ∃ b bx, e = .returned (.tuple #[.pointer (some ⟨b, 0, none⟩), .pointer (some ⟨bx, 0, none⟩)]) ∧ Own w0 w' (Store b (fillL (1 + m % 40) Q) 50 :: RSto bx (fillL (1 + m % 40) Q) 50 :: l) := by
  have HN : Hid (Q.length = n) := hn
  have HQ : Hid (∀ w', Own w0 w' l → Lss w' ao Q) := hQ
  have HW : Hid (∀ x ∈ Q, x.C.length ≤ x.cap ∧ x.cap ≤ 9223372036854775807 ∧ ∀ q ∈ x.C, q.k < 256) := hw
  have HT : Hid (Tab w0) := ht
  obtain ⟨r, hr⟩ : ∃ r, r = m % 40 := ⟨_, rfl⟩
  have hr40 : r < 40 := by omega
  have hmr : (m : Int) % 40 = (r : Int) := by omega
  rw [← hr]
  have HS1 : Hid (Calls Tryd.prog 17 #[.int .i64 (1 + (r : Int)), .int .i64 1] w fun e w'' => ∃ b, e = .returned (.tuple #[.pointer (some ⟨b, 0, none⟩), .int .i64 0]) ∧ Own w0 w'' (Store b (Sto.new (1 + r) 1) 0 :: l)) := by
    have := snew w0 w l (1 + r) 1 h (by omega) (by omega) (by decide) (by decide)
    rw [show ((1 + r : Nat) : Int) = 1 + (r : Int) by omega] at this
    exact this
  have HS2 : Hid (∀ w' l', Own w0 w' l' → Calls Tryd.prog 18 #[.int .i64 (1 + (r : Int)), .int .i64 1] w' fun e w'' => ∃ b, e = .returned (.tuple #[.pointer (some ⟨b, 0, none⟩), .int .i64 0]) ∧ Own w0 w'' (RSto b (Sto.new (1 + r) 1) 0 :: l')) := fun w' l' h' => by
    have := rnewS w0 w' l' h' (1 + r) 1 (by omega) (by omega) (by decide) (by decide)
    rw [show ((1 + r : Nat) : Int) = 1 + (r : Int) by omega] at this
    exact this
  have HOK : Hid (∀ j, ((Q.take j).foldl lstep (Sto.new (1 + r) 1)).Ok) := fun j => lfold_ok _ _ (newk_ok (by omega) (by omega))
  clear h hn hQ hw ht hr
  go_enter Tryd.func10, Tryd.ntmps10
  go_wp2_with fail
  refine HS1.out.mono ?_
  rintro e w1 ⟨b, rfl, hO1⟩
  have H1 : Hid (Own w0 w1 _) := hO1
  clear hO1 HS1
  go_wp2_with fail
  refine (HS2.out _ _ H1.out).mono ?_
  rintro e w2 ⟨bx, rfl, hO2⟩
  have H2 : Hid (Own w0 w2 (Store b (Sto.new (1 + r) 1) 0 :: RSto bx (Sto.new (1 + r) 1) 0 :: l)) := hO2.two
  clear hO2 HS2 H1
  go_wp2
  go_loopw [29] (fun jv wr => ∃ j : Nat, j ≤ n ∧ j ≤ 50 ∧ jv = .int .i64 j ∧ Own w0 wr (Store b ((Q.take j).foldl lstep (Sto.new (1 + r) 1)) j :: RSto bx ((Q.take j).foldl lstep (Sto.new (1 + r) 1)) j :: l)) (fun jv _ => n - (intOf jv).toNat)
  case atStart => exact ⟨0, Nat.zero_le _, Nat.zero_le _, rfl, by simpa using H2.out⟩
  case round =>
    obtain ⟨j, hj, hj5, rfl, hO⟩ := hrel
    clear H2
    have hok := HOK.out j
    have HO : Hid (Own w0 wr _) := hO
    have HEND : Hid (j = n ∨ j = 50 → Own w0 wr (Store b (fillL (1 + r) Q) 50 :: RSto bx (fillL (1 + r) Q) 50 :: l)) := by
      intro hor
      have e : (Q.take j).foldl lstep (Sto.new (1 + r) 1) = fillL (1 + r) Q := by
        unfold fillL
        rcases hor with q | q
        · rw [List.take_of_length_le (by rw [HN.out]; omega), List.take_of_length_le (by rw [HN.out]; omega)]
        · rw [q]
      have h9 := HO.out
      rw [e] at h9
      exact (Own.rstoK (K' := 50) hj5 (h9.stoK (K' := 50) hj5).two).two
    by_cases hlt : j < n
    · have hlt' : (j : Int) < (n : Int) := by omega
      obtain ⟨x, hx⟩ : ∃ x, Q[j]? = some x := ⟨_, List.getElem?_eq_getElem (by rw [HN.out]; exact hlt)⟩
      obtain ⟨g, off, hao, c0⟩ := (HQ.out wr hO.tail.tail).at j x hx
      subst hao
      by_cases h50 : j < 50
      · have h50' : ¬ (50 : Int) ≤ (j : Int) := by omega
        obtain ⟨hw1, hw2, hCk⟩ := HW.out x (List.mem_of_getElem? hx)
        obtain ⟨k, hk⟩ : ∃ k, k = min x.C.length 20 := ⟨_, rfl⟩
        have hmin : min (x.C.length : Int) 20 = (k : Int) := by omega
        have hk1 : k ≤ x.C.length := by omega
        have hk2 : k ≤ x.cap := by omega
        have hk20 : k ≤ 20 := by omega
        have hkC : (x.C.take 20).length = k := by rw [List.length_take, hk, Nat.min_comm]
        have hCk2 : ∀ q ∈ x.C.take 20, q.k < 256 := fun q hq => hCk q (List.mem_of_mem_take hq)
        have hCS : ∀ w', Own w0 w' l → Cs w' x.ao (x.C.take 20) := fun w' h' => ((HQ.out w' h').2 x (List.mem_of_getElem? hx)).take 20
        have HFJ : Hid ((Q.take (j + 1)).foldl lstep (Sto.new (1 + r) 1) = (((Q.take j).foldl lstep (Sto.new (1 + r) 1)).spawn (x.C.take 20)).2.2) := by
          show _ = _
          rw [List.take_add_one, hx]
          simp only [Option.toList_some, List.foldl_append, List.foldl_cons, List.foldl_nil]
          rfl
        generalize (Q.take j).foldl lstep (Sto.new (1 + r) 1) = σ at *
        have HTW : Hid (Calls _ _ _ _ _) := twin_any w0 wr _ hO x.ao k x.cap (x.C.take 20) hkC (hCS _ hO.tail.tail) (by omega)
        have HSP : Hid (∀ w' a2 c2, Own w0 w' (Row 24 4 (.slice a2 k c2) k (ccat (x.C.take 20)) :: Store b σ j :: RSto bx σ j :: l) → Calls Tryd.prog 19 #[.pointer (some ⟨b, 0, none⟩), .slice a2 k c2] w' fun e w'' => e = .returned (.tuple #[.int .u32 ((σ.spawn (x.C.take 20)).1 : Int), .int .i64 (σ.spawn (x.C.take 20)).2.1]) ∧ Own w0 w'' (Store b (σ.spawn (x.C.take 20)).2.2 (j + 1) :: RSto bx σ j :: l)) := by
          intro w' a2 c2 h'
          refine (spawnC w0 w' _ b σ j HT.out h'.two hok a2 k c2 (x.C.take 20) hkC (fun w'' h'' => Own.rcs3 h'' hkC) hCk2 (by omega) (by omega)).mono ?_
          rintro e w'' ⟨rfl, h2⟩
          exact ⟨rfl, h2.two.tail⟩
        have HRS : Hid (∀ w', Own w0 w' (Store b (σ.spawn (x.C.take 20)).2.2 (j + 1) :: RSto bx σ j :: l) → Calls Tryd.prog 21 #[.pointer (some ⟨bx, 0, none⟩), .slice x.ao k x.cap] w' fun e w'' => e = .returned (.tuple #[.int .u32 ((σ.spawn (x.C.take 20)).1 : Int), .int .i64 (σ.spawn (x.C.take 20)).2.1]) ∧ Own w0 w'' (Store b (σ.spawn (x.C.take 20)).2.2 (j + 1) :: RSto bx (σ.spawn (x.C.take 20)).2.2 (j + 1) :: l)) := by
          intro w' h'
          refine (rspawnC w0 w' _ bx σ j h'.two hok x.ao k x.cap (x.C.take 20) hkC (fun w'' h'' => hCS _ h''.tail) hCk2 (by omega) (by omega)).mono ?_
          rintro e w'' ⟨rfl, h2⟩
          exact ⟨rfl, h2.two⟩
        clear hO hx hCk hCk2 hCS hkC hk hok HEND HO
        generalize σ.spawn (x.C.take 20) = sp at *
        obtain ⟨sid, ser, σ2⟩ := sp
        obtain ⟨xC, xa, xc⟩ := x
        simp only at c0 hmin hk1 hk2 hw1 hw2 HTW HSP HRS HFJ
        generalize xC.length = xl at *
        go_wp2_with fail
        refine HTW.out.mono ?_
        rintro e w3 ⟨a2, c2, rfl, hO3⟩
        have HSP3 : Hid (Calls _ _ _ _ _) := HSP.out _ _ _ hO3
        clear hO3 HTW HSP c0
        go_wp2_with fail
        refine HSP3.out.mono ?_
        rintro e w4 ⟨rfl, hO4⟩
        have HRS4 : Hid (Calls _ _ _ _ _) := HRS.out _ hO4
        clear hO4 HSP3 HRS
        go_wp2_with fail
        refine HRS4.out.mono ?_
        rintro e w5 ⟨rfl, hO5⟩
        have H5 : Hid (Own w0 w5 _) := hO5
        clear hO5 HRS4
        go_wp2
        go_roundw
        case rel => exact ⟨j + 1, by omega, by omega, by go_num, by rw [HFJ.out]; exact H5.out⟩
        case measure => simp [intOf]; omega
      · have h50' : (50 : Int) ≤ (j : Int) := by omega
        have H9 : Hid (Own w0 wr _) := HEND.out (.inr (by omega))
        obtain ⟨xC, xa, xc⟩ := x
        simp only at c0
        clear hO HO HEND hx hok
        go_wp2
        go_ret2
        exact ⟨b, bx, rfl, H9.out⟩
    · have hlt' : ¬ (j : Int) < (n : Int) := by omega
      have H9 : Hid (Own w0 wr _) := HEND.out (.inl (by omega))
      clear hO HO HEND hok
      go_wp2
      go_ret2
      exact ⟨b, bx, rfl, H9.out⟩
end Go.Proofs.YtakphfmblfdfnaaDoor

/-
  The document's examples of systems.
-/
namespace Go.Proofs.YtakphfmblfdfnaaDoor
open Go.RowKit Go.Maps
set_option linter.unusedVariables false
set_option maxRecDepth 100000

theorem nums_cell1 {w0 w : World} {l : List Thing} {B : Nat} {cs : Array Value} {t : TypeId} (h : Own w0 w (Cells B cs t :: l)) (X : List Nat) (c : Nat) (hX : ∀ (j x : Nat), X[j]? = some x → cs[j]? = some (Value.int .u32 (x : Int))) : Nums .u32 w (.slice (some ⟨B, 0, none⟩) X.length c) X :=
  ⟨_, c, rfl, .inr ⟨B, 0, rfl, fun j x hx => by rw [Nat.zero_add, h.cell, hX j x hx]⟩⟩
theorem cs_cell1 {w0 w : World} {l : List Thing} {B : Nat} {cs : Array Value} {t : TypeId} (h : Own w0 w (Cells B cs t :: l)) (C : List Cp) (hX : ∀ (j : Nat) q, C[j]? = some q → cs[j * 4]? = some (.int .u8 (q.k : Int)) ∧ cs[j * 4 + 1]? = some (.int .i32 q.a) ∧ cs[j * 4 + 2]? = some (.int .i32 q.b) ∧ cs[j * 4 + 3]? = some (.int .i32 q.c)) : Cs w (some ⟨B, 0, none⟩) C := by
  refine .inr ⟨B, 0, rfl, fun j q hq => ?_⟩
  obtain ⟨h0, h1, h2, h3⟩ := hX j q hq
  rw [Nat.zero_add]
  exact ⟨by rw [h.cell, h0], by rw [h.cell, h1], by rw [h.cell, h2], by rw [h.cell, h3]⟩
def aP : Cp := ⟨0, 524280, 0, 0⟩
def aV : Cp := ⟨1, 16, -1, 0⟩
def aL : Cp := ⟨2, 0, 0, 0⟩
def q14 (a1 a2 : Option Addr) : List LsE := [⟨[aP, aV], a1, 2⟩, ⟨[aL], a2, 1⟩]
theorem q14_is (a1 a2 : Option Addr) : fillL 10 (q14 a1 a2) = fillL 10 (q14 none none) := rfl
def s14 : Sto := fillL 10 (q14 none none)
def m14 : Sto := (s14.mvs (s14.find 3 0)).1
def g14 : Sto := (m14.ags (m14.find 4 0)).1
theorem s14_m : (s14.mvs (s14.find 3 0)).2 = [1024] := by kernel_rfl
theorem m14_g : (m14.ags (m14.find 4 0)).2 = [1025] := by kernel_rfl
theorem g14_l : g14.S.isLive 1024 = true := by kernel_rfl
theorem g14_0 : hasK (g14.cps 1024) 0 = true ∧ g14.gv 1024 0 = ⟨0, 524287, -1, 0⟩ := ⟨by kernel_rfl, by kernel_rfl⟩
theorem g14_1 : hasK (g14.cps 1024) 1 = true ∧ g14.gv 1024 1 = ⟨1, -16, -1, 0⟩ := ⟨by kernel_rfl, by kernel_rfl⟩
theorem s14_ok : s14.Ok := fillL_ok (by decide) (by decide) _
theorem m14_ok : m14.Ok := (Sto.mvs_inv s14_ok _).1
theorem g14_ok : g14.Ok := (Sto.ags_inv m14_ok _ (find_nodup m14_ok 4 0) (fun x hx => (mem_find m14_ok hx).1)).1
set_option maxHeartbeats 4000000 in
theorem awake14 (w : World) (ht : Tab w) : Calls Tryd.prog 4 #[] w fun e w' => e = .returned (.bool true) ∧ Fr Nobody w w' := by
  have HT : Hid (Tab w) := ht
  clear ht
  go_enter Tryd.func4, Tryd.ntmps4
  go_wp2_with fail
  have hW := (((Own.start w).allocC #[.int .u8 0, .int .i32 524280, .int .i32 0, .int .i32 0, .int .u8 1, .int .i32 16, .int .i32 (-1), .int .i32 0] 24).allocC #[.int .u8 2, .int .i32 0, .int .i32 0, .int .i32 0] 24).allocC #[.slice (some ⟨w.heap.size, 0, none⟩) 2 2, .slice (some ⟨w.heap.size + 1, 0, none⟩) 1 1] 27
  simp only [World.size_alloc] at hW
  obtain ⟨W0, hW0⟩ : ∃ W0, W0 = ((w.alloc (.cells #[.int .u8 0, .int .i32 524280, .int .i32 0, .int .i32 0, .int .u8 1, .int .i32 16, .int .i32 (-1), .int .i32 0] 24)).alloc (.cells #[.int .u8 2, .int .i32 0, .int .i32 0, .int .i32 0] 24)).alloc (.cells #[.slice (some ⟨w.heap.size, 0, none⟩) 2 2, .slice (some ⟨w.heap.size + 1, 0, none⟩) 1 1] 27) := ⟨_, rfl⟩
  rw [← hW0] at hW ⊢
  have k1 := cs_cell1 hW.three [aP, aV] (fun j q hq => by
    match j, hq with
    | 0, hq => cases hq; exact ⟨rfl, rfl, rfl, rfl⟩
    | 1, hq => cases hq; exact ⟨rfl, rfl, rfl, rfl⟩
    | n + 2, hq => simp at hq)
  have k2 := cs_cell1 hW.two [aL] (fun j q hq => by
    match j, hq with
    | 0, hq => cases hq; exact ⟨rfl, rfl, rfl, rfl⟩
    | n + 1, hq => simp at hq)
  have hMk : Lss W0 (some ⟨w.heap.size + 1 + 1, 0, none⟩) (q14 (some ⟨w.heap.size, 0, none⟩) (some ⟨w.heap.size + 1, 0, none⟩)) := by
    refine ⟨.inr ⟨_, 0, rfl, fun j x hx => ?_⟩, fun x hx => ?_⟩
    · match j, hx with
      | 0, hx => cases hx; rw [hW.cell]; rfl
      | 1, hx => cases hx; rw [hW.cell]; rfl
      | n + 2, hx => simp [q14] at hx
    · simp [q14] at hx
      rcases hx with rfl | rfl
      · exact k1
      · exact k2
  have HFW : Hid (Fr Nobody w W0) := hW.fr
  have HT0 : Hid (Tab W0) := HT.out.quiet HFW.out
  have HFL : Hid (Calls _ _ _ _ _) := fillL_go W0 W0 [] (Own.start W0) HT0.out 9 (by decide) _ 2 2 _ rfl (by decide) (fun w' h' => hMk.quiet h'.fr) (by
    intro x hx
    simp [q14] at hx
    rcases hx with rfl | rfl
    · exact ⟨by simp, by simp, by simp [aP, aV]⟩
    · exact ⟨by simp, by simp, by simp [aL]⟩)
  rw [show fillL (1 + 9 % 40) (q14 (some ⟨w.heap.size, 0, none⟩) (some ⟨w.heap.size + 1, 0, none⟩)) = s14 from rfl] at HFL
  clear hW k1 k2 hMk hW0 HT
  refine HFL.out.mono ?_
  rintro e w1 ⟨b, bx, rfl, hO1⟩
  have HW1 : Hid (Calls _ _ _ _ _) := move_ok W0 w1 _ b s14 50 HT0.out hO1 s14_ok (by decide)
  rw [s14_m] at HW1
  rw [show (s14.mvs (s14.find 3 0)).1 = m14 from rfl] at HW1
  clear hO1 HFL
  go_wp2_with fail
  refine HW1.out.mono ?_
  rintro e w2 ⟨ra, rc, rfl, hO2⟩
  have hB2 := hO2.allocC #[.int .u32 1024] 42
  have HM1 : Hid (Calls _ _ _ _ _) := same_ok _ (.slice ra 1 rc) (.slice (some ⟨w2.heap.size, 0, none⟩) 1 1) [1024] (Own.nums (X := [1024]) hB2.two) (nums_cell1 hB2 [1024] 1 (fun j x hx => by
    match j, hx with
    | 0, hx => cases hx; rfl
    | n + 1, hx => simp at hx)) (by decide)
  have HB2 : Hid (Own W0 _ _) := hB2.tail.tail
  clear hO2 hB2 HW1
  simp only [List.length_cons, List.length_nil, Nat.zero_add]
  go_wp2_with fail
  refine HM1.out.mono ?_
  rintro e w3 ⟨rfl, hf⟩
  have HW2 : Hid (Calls _ _ _ _ _) := age_ok W0 w3 _ b m14 50 HT0.out (HB2.out.quiet hf) m14_ok (by decide)
  rw [m14_g] at HW2
  rw [show (m14.ags (m14.find 4 0)).1 = g14 from rfl] at HW2
  clear hf HM1 HB2
  go_wp2_with fail
  refine HW2.out.mono ?_
  rintro e w4 ⟨ra, rc, rfl, hO4⟩
  have hB4 := hO4.allocC #[.int .u32 1025] 42
  have HM2 : Hid (Calls _ _ _ _ _) := same_ok _ (.slice ra 1 rc) (.slice (some ⟨w4.heap.size, 0, none⟩) 1 1) [1025] (Own.nums (X := [1025]) hB4.two) (nums_cell1 hB4 [1025] 1 (fun j x hx => by
    match j, hx with
    | 0, hx => cases hx; rfl
    | n + 1, hx => simp at hx)) (by decide)
  have HB4 : Hid (Own W0 _ _) := hB4.tail.tail
  clear hO4 hB4 HW2
  simp only [List.length_cons, List.length_nil, Nat.zero_add]
  go_wp2_with fail
  refine HM2.out.mono ?_
  rintro e w5 ⟨rfl, hf⟩
  have HG0 : Hid (Calls _ _ _ _ _) := sgetC W0 w5 _ b g14 _ (HB4.out.quiet hf) g14_ok 1024 (by decide) g14_l 0 (by decide)
  rw [g14_0.1, g14_0.2] at HG0
  have HG1 : Hid (∀ w' l', Own W0 w' (Store b g14 (50 + 1) :: l') → Calls Tryd.prog 14 #[.pointer (some ⟨b, 0, none⟩), .int .u32 1024, .int .u8 1] w' fun e w'' => e = .returned (.tuple #[.agg #[.int .u8 1, .int .i32 (-16), .int .i32 (-1), .int .i32 0], .int .i64 0]) ∧ Own W0 w'' (Store b g14 (50 + 1) :: l')) := fun w' l' h' => by
    have := sgetC W0 w' l' b g14 _ h' g14_ok 1024 (by decide) g14_l 1 (by decide)
    rw [g14_1.1, g14_1.2] at this
    exact this
  clear hf HM2 HB4
  go_wp2_with fail
  refine HG0.out.mono ?_
  rintro e w6 ⟨rfl, hO6⟩
  simp only [Cp.ag]
  have h6 := hO6.allocC #[.int .u8 0, .int .i32 524287, .int .i32 (-1), .int .i32 0] 24
  have HG2 : Hid (Calls _ _ _ _ _) := HG1.out _ _ h6.two
  clear hO6 h6 HG0 HG1
  go_wp2_with fail
  refine HG2.out.mono ?_
  rintro e w7 ⟨rfl, hO7⟩
  have x1 := hO7.two.cell 1
  have x2 := hO7.two.cell 2
  have x3 := hO7.two.cell 3
  have xl := hO7.two.lt
  simp at x1 x2 x3
  have H8 : Hid (Own W0 _ _) := hO7.allocC #[.int .u8 1, .int .i32 (-16), .int .i32 (-1), .int .i32 0] 24
  have eqa := eq_a3 9998
  clear hO7 HG2
  go_wp2
  go_ret
  exact ⟨rfl, HFW.out.trans H8.out.fr⟩
end Go.Proofs.YtakphfmblfdfnaaDoor

/-
  What is bred, in the program and in the document.
-/
namespace Go.Proofs.YtakphfmblfdfnaaDoor
open Go.RowKit Go.Maps
set_option linter.unusedVariables false
set_option maxRecDepth 100000

/-- what one with such a shape begets at a place -/
def chl (s : Int) (at_ : Cp) (odd : Bool) : List Cp := [at_, ⟨1, if odd then -(64 * (s + 1)) else 64 * (s + 1), 32 * (s + 1), 0⟩, ⟨2, 30 + 10 * s, 0, 0⟩, ⟨3, s, 100, 1 + s⟩]
theorem chl_rest : ∀ s : Fin 16, ∀ odd : Bool, (⟨1, if odd then -(64 * ((s.1 : Int) + 1)) else 64 * ((s.1 : Int) + 1), 32 * ((s.1 : Int) + 1), 0⟩ : Cp).chk = 0 ∧ (⟨2, 30 + 10 * (s.1 : Int), 0, 0⟩ : Cp).chk = 0 ∧ (⟨3, (s.1 : Int), 100, 1 + (s.1 : Int)⟩ : Cp).chk = 0 := by decide
theorem chl_ok (s : Nat) (hs : s < 16) (at_ : Cp) (hk : at_.k = 0) (hc : at_.chk = 0) (odd : Bool) : lst (-1) (chl (s : Int) at_ odd) = 0 := by
  obtain ⟨h1, h2, h3⟩ := chl_rest ⟨s, hs⟩ odd
  rw [lst_iff]
  unfold chl
  refine ⟨?_, ?_⟩
  · simp [List.pairwise_cons, hk]
  · intro q hq
    simp at hq
    rcases hq with rfl | rfl | rfl | rfl
    · exact hc
    · exact h1
    · exact h2
    · exact h3
theorem cs16 {w0 w : World} {l : List Thing} {B : Nat} {cs : Array Value} {t : TypeId} (h : Own w0 w (Cells B cs t :: l)) (C : List Cp) (hX : ∀ (j : Nat) q, C[j]? = some q → cs[j * 4]? = some (.int .u8 (q.k : Int)) ∧ cs[j * 4 + 1]? = some (.int .i32 q.a) ∧ cs[j * 4 + 2]? = some (.int .i32 q.b) ∧ cs[j * 4 + 3]? = some (.int .i32 q.c)) : Cs w (some ⟨B, 0, none⟩) C := by
  refine .inr ⟨B, 0, rfl, fun j q hq => ?_⟩
  obtain ⟨h0, h1, h2, h3⟩ := hX j q hq
  rw [Nat.zero_add]
  exact ⟨by rw [h.cell, h0], by rw [h.cell, h1], by rw [h.cell, h2], by rw [h.cell, h3]⟩
def c16 (k a b c dx s : Int) : Array Value := #[.int .u8 k, .int .i32 a, .int .i32 b, .int .i32 c, .int .u8 1, .int .i32 dx, .int .i32 (32 * (s + 1)), .int .i32 0, .int .u8 2, .int .i32 (30 + 10 * s), .int .i32 0, .int .i32 0, .int .u8 3, .int .i32 s, .int .i32 100, .int .i32 (1 + s)]
theorem c16_at {w0 w : World} {l : List Thing} {B : Nat} {t : TypeId} {k : Nat} {a b c s : Int} {odd : Bool} (h : Own w0 w (Cells B (c16 (k : Int) a b c (if odd then -(64 * (s + 1)) else 64 * (s + 1)) s) t :: l)) : Cs w (some ⟨B, 0, none⟩) (chl s ⟨k, a, b, c⟩ odd) := by
  refine cs16 h _ (fun j q hq => ?_)
  match j, hq with
  | 0, hq => cases hq; exact ⟨rfl, rfl, rfl, rfl⟩
  | 1, hq => cases hq; exact ⟨rfl, rfl, rfl, rfl⟩
  | 2, hq => cases hq; exact ⟨rfl, rfl, rfl, rfl⟩
  | 3, hq => cases hq; exact ⟨rfl, rfl, rfl, rfl⟩
  | n + 4, hq => simp [chl] at hq
set_option maxHeartbeats 1000000 in
theorem child_ok (w0 w : World) (l : List Thing) (h : Own w0 w l) (kc : Nat) (ce cl : Int) (s : Int) (h0 : 0 ≤ s) (h1 : s < 16) (k : Nat) (a b c : Int) (odd : Bool) :
    Calls Tryd.prog 6 #[.agg #[.int .u8 (kc : Int), .int .i32 ce, .int .i32 cl, .int .i32 s], .agg #[.int .u8 (k : Int), .int .i32 a, .int .i32 b, .int .i32 c], .bool odd] w fun e w' => ∃ g, e = .returned (.slice (some ⟨g, 0, none⟩) 4 4) ∧ Own w0 w' (Cells g (c16 (k : Int) a b c (if odd then -(64 * (s + 1)) else 64 * (s + 1)) s) 24 :: l) := by
  have H := ((h.allocC #[.int .u8 (kc : Int), .int .i32 ce, .int .i32 cl, .int .i32 s] 24).allocC #[.int .u8 (k : Int), .int .i32 a, .int .i32 b, .int .i32 c] 24).allocC (c16 (k : Int) a b c (if odd then -(64 * (s + 1)) else 64 * (s + 1)) s) 24
  simp only [World.size_alloc] at H
  have HH : Hid (Own w0 _ _) := H
  clear H h
  cases odd with
  | true =>
    simp only [if_true] at HH ⊢
    unfold c16 at HH
    go_enter Tryd.func6, Tryd.ntmps6
    go_wp2
    go_ret
    exact ⟨_, rfl, HH.out.two.tail.two.tail⟩
  | false =>
    simp only [Bool.false_eq_true, if_false] at HH ⊢
    unfold c16 at HH
    go_enter Tryd.func6, Tryd.ntmps6
    go_wp2
    go_ret
    exact ⟨_, rfl, HH.out.two.tail.two.tail⟩
set_option maxHeartbeats 1000000 in
theorem rchild_ok (w0 w : World) (l : List Thing) (h : Own w0 w l) (s : Int) (h0 : 0 ≤ s) (h1 : s < 16) (k : Nat) (a b c : Int) (odd : Bool) :
    Calls Tryd.prog 8 #[.int .i32 s, .agg #[.int .u8 (k : Int), .int .i32 a, .int .i32 b, .int .i32 c], .bool odd] w fun e w' => ∃ g, e = .returned (.slice (some ⟨g, 0, none⟩) 4 4) ∧ Own w0 w' (Cells g (c16 (k : Int) a b c (if odd then -(64 * (s + 1)) else 64 * (s + 1)) s) 24 :: l) := by
  have H := ((h).allocC #[.int .u8 (k : Int), .int .i32 a, .int .i32 b, .int .i32 c] 24).allocC (c16 (k : Int) a b c (if odd then -(64 * (s + 1)) else 64 * (s + 1)) s) 24
  simp only [World.size_alloc] at H
  have HH : Hid (Own w0 _ _) := H
  clear H h
  cases odd with
  | true =>
    simp only [if_true] at HH ⊢
    unfold c16 at HH
    go_enter Tryd.func8, Tryd.ntmps8
    go_wp2
    go_ret
    exact ⟨_, rfl, HH.out.two.tail⟩
  | false =>
    simp only [Bool.false_eq_true, if_false] at HH ⊢
    unfold c16 at HH
    go_enter Tryd.func8, Tryd.ntmps8
    go_wp2
    go_ret
    exact ⟨_, rfl, HH.out.two.tail⟩
end Go.Proofs.YtakphfmblfdfnaaDoor
