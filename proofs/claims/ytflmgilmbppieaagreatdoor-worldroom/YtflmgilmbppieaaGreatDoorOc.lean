/-
  A store's put and pull.
-/
import Derived.Test.YtflmgilmbppieaaGreatDoorOb
import Derived.Test.YtflmgilmbppieaaGreatDoorUg
namespace Go.Proofs.YtflmgilmbppieaaGreatDoor
open Go.RowKit Go.Maps
set_option linter.unusedVariables false

theorem tadd_put {m : Nat} {L : List Ent} {id : Nat} {C : List Cp} (h1 : lst (-1) C = 0) (h2 : msk C = m) (h3 : plc L id = none) : tadd m L id C = (0, L ++ [(id, C)]) := by
  unfold tadd; rw [if_neg (by simp [h1]), if_neg (by simp [h2]), if_neg (by rw [h3]; simp)]
theorem Own.stoBX {w0 w : World} {l : List Thing} {b bs : Nat} {v : Value} {p : Nat → Option Nat} {σ : Sto} {K K' m bt c : Nat} {L : List Ent} (h : Own w0 w (Table bt m L c :: StoB b σ K (bs, v, p) m :: l)) (hm : m < 64) (hp : p m = some bt) (hK : K ≤ K') (hc : c ≤ K') (hL : L ≠ []) (hl : L.length ≤ K') : Own w0 w (StoX b { σ with T := upd σ.T m L } K' (bs, v, p) :: l) := by
  have e : upd p m (some bt) = p := by
    funext j
    unfold upd
    split
    · rename_i q; rw [q, hp]
    · rfl
  have h2 := h.tabShut hc hL hl
  rw [← e] at h2
  have := h2.stoI hm hK
  rw [e] at this
  exact this

set_option maxHeartbeats 1000000 in
set_option maxRecDepth 100000 in
theorem put_ok (w0 w : World) (l : List Thing) (b bs : Nat) (v : Value) (p : Nat → Option Nat) (σ : Sto) (K : Nat) (ht : Tab w0) (h : Own w0 w (StoX b σ K (bs, v, p) :: l)) (id : Nat) (hid : id < 4294967296) (hm : id % 1024 < σ.mks.length)
    (ao : Option Addr) (len cap : Nat) (C : List Cp) (hCl : C.length = len) (hCs : ∀ w', Own w0 w' l → Cs w' ao C) (hCk : ∀ q ∈ C, q.k < 256) (hlen : len ≤ 1000000) (hC : lst (-1) C = 0) (hT : TOk (msk C) (σ.T (msk C))) (hp : plc (σ.T (msk C)) id = none) (hK : K < 1000000) :
    Calls Tryz.prog 213 #[.pointer (some ⟨b, 0, none⟩), .int .u32 (id : Int), .slice ao len cap] w fun e w' => e = .returned (.tuple #[]) ∧ Own w0 w' (Store b (σ.put id C) (K + 1) :: l) := by
  have H : Hid (Own w0 w (StoX b σ K (bs, v, p) :: l)) := h
  have h6 : msk C < 64 := hT.m64
  obtain ⟨g, cp, rfl, _, _, _⟩ := stoMk h (id % 1024) hm
  have HCs : Hid (∀ w', Own w0 w' l → Cs w' ao C) := hCs
  have HMK : Hid (Calls _ _ _ _ _) := mask_any w ao len cap C hCl (hCs _ h.tail) hCk hlen
  have HSL : Hid (∀ w', Calls Tryz.prog 144 #[.int .u32 (id : Int)] w' fun e w'' => e = .returned (.int .i64 ((id % 1024 : Nat) : Int)) ∧ w'' = w') := fun w' => slot_any id w' hid
  have HC4 : Hid (∀ w' p', Own w0 w' (StoX b { σ with T := upd σ.T (msk C) (σ.T (msk C) ++ [(id, C)]) } (K + 1) (bs, .slice (some ⟨g, 0, none⟩) σ.mks.length cp, p') :: l) → w'.cell? ⟨b, 1, none⟩ = some (.slice (some ⟨g, 0, none⟩) σ.mks.length cp) ∧ (∃ u, w'.cell? ⟨g, id % 1024, none⟩ = some u) ∧ w'.frozen? ⟨g, id % 1024, none⟩ = false) := by
    intro w' p' h'
    obtain ⟨g', cp', he, q1, q2, _⟩ := stoMk h' (id % 1024) hm
    cases he
    exact ⟨(stoCells h').2.1, ⟨_, q1⟩, q2⟩
  have HFIN : Hid (∀ w' p', Own w0 w' (StoX b { σ with T := upd σ.T (msk C) (σ.T (msk C) ++ [(id, C)]) } (K + 1) (bs, .slice (some ⟨g, 0, none⟩) σ.mks.length cp, p') :: l) → Own w0 (w'.setCell ⟨g, id % 1024, none⟩ (.int .u8 ((msk C : Nat) : Int))) (Store b (σ.put id C) (K + 1) :: l)) := fun w' p' h' => (Own.stoMset (σ := { σ with T := upd σ.T (msk C) (σ.T (msk C) ++ [(id, C)]) }) h' (id % 1024) (msk C)).xSto
  have HADD : Hid (∀ w' l' bt c, Own w0 w' (Table bt (msk C) (σ.T (msk C)) c :: l') → (∀ w'', Own w0 w'' l' → Cs w'' ao C) → (σ.T (msk C)).length ≤ 1000000 → c ≤ 1000000 → Calls Tryz.prog 246 #[.pointer (some ⟨bt, 0, none⟩), .int .u32 (id : Int), .slice ao len cap] w' fun e w'' => e = .returned (.int .i64 0) ∧ Own w0 w'' (Table bt (msk C) (σ.T (msk C) ++ [(id, C)]) (c + 1) :: l')) := by
    intro w' l' bt c h' hc' hl' hcc
    have := taddC w0 w' l' bt (msk C) (σ.T (msk C)) c ht h' hT id hid ao len cap C hCl hc' hCk hlen hl' hcc
    rw [tadd_put hC rfl hp] at this
    exact this
  have HNEW : Hid (∀ w' l', Own w0 w' l' → Calls Tryz.prog 245 #[.int .u8 ((msk C : Nat) : Int)] w' fun e w'' => ∃ bt, e = .returned (.tuple #[.pointer (some ⟨bt, 0, none⟩), .int .i64 0]) ∧ Own w0 w'' (Table bt (msk C) [] 0 :: l')) := fun w' l' h' => tnew w0 w' l' (msk C) h' h6
  have qt := (stoCells h).2.2 _ h6
  have h6' : ((msk C : Nat) : Int) < 64 := by omega
  have hm' : ((id % 1024 : Nat) : Int) < (σ.mks.length : Int) := by omega
  cases hpm : p (msk C) with
  | none =>
    obtain ⟨hTe, hB⟩ := h.stoN h6 hpm
    have HB : Hid (∀ w', Fr Nobody w w' → Own w0 w' (StoB b σ K (bs, .slice (some ⟨g, 0, none⟩) σ.mks.length cp, p) (msk C) :: l)) := fun w' hf => hB.quiet hf
    have HTE : Hid (σ.T (msk C) = []) := hTe
    have HTL : Hid ((σ.T (msk C)).length ≤ 1000000) := by show _ ≤ _; rw [hTe]; simp
    have HTL2 : Hid ((σ.T (msk C)).length ≤ K) := by show _ ≤ _; rw [hTe]; simp
    have HPM : Hid (p (msk C) = none) := hpm
    clear qt
    clear h hB hTe hT hp hC hCs hCk hid hlen hCl hpm
    generalize msk C = m at *
    generalize id % 1024 = s at *
    go_enter Tryz.func213, Tryz.ntmps213
    go_wp2_with fail
    refine HMK.out.mono ?_
    rintro e w1 ⟨rfl, hf⟩
    have hB1 := HB.out _ hf
    have HB1 : Hid (Own w0 w1 _) := hB1
    have qt1 := (hB1.stoBcell m h6).1
    rw [HPM.out, pp_none] at qt1
    clear hB1 hf HMK HB
    go_wp2_with fail
    go_region_with (
      go_at_call 245
      refine (HNEW.out _ _ HB1.out.drew).mono ?_
      rintro e w2 ⟨bt, rfl, hO⟩
      have qz := hO.two.stoBcell m h6
      rw [HPM.out, pp_none] at qz
      obtain ⟨qc, qz⟩ := qz
      have HO3 : Hid (Own w0 (w2.setCell ⟨b, 2 + m, none⟩ (.pointer (some ⟨bt, 0, none⟩))) (Table bt m (σ.T m) 0 :: StoB b σ K (bs, .slice (some ⟨g, 0, none⟩) σ.mks.length cp, upd p m (some bt)) m :: l)) := by rw [HTE.out]; exact (hO.two.stoBset h6 (some bt)).two
      clear hO)
    all_goals
      have qp := (HO3.out.two.stoBcell m h6).1
      rw [upd_same, pp_some] at qp
      generalize hw3 : (w2.setCell ⟨b, 2 + m, none⟩ (.pointer (some ⟨bt, 0, none⟩))) = w3 at *
      clear hw3 qc qz qt1 HB1
      go_wp2_with fail
      refine (HADD.out _ _ bt 0 HO3.out (fun w'' h'' => HCs.out _ h''.tail) HTL.out (by omega)).mono ?_
      rintro e w4 ⟨rfl, hO4⟩
      have hX := hO4.stoBX h6 (upd_same _ _ _) (Nat.le_succ K) (by omega) (by simp) (by have := HTL2.out; simp; omega)
      have HX : Hid (Own w0 w4 _) := hX
      obtain ⟨q1, ⟨u, qu⟩, qf⟩ := HC4.out _ _ hX
      clear hO4 hX qp HADD HNEW
      go_wp2_with fail
      go_region_with (
        go_at_call 144
        refine (HSL.out _).mono ?_
        rintro e w' ⟨rfl, rfl⟩)
      all_goals
        go_wp2
        go_end0
        exact ⟨rfl, HFIN.out _ _ HX.out.drew⟩
  | some bt =>
    obtain ⟨c, hcK, hTne, hTl, hB⟩ := h.stoB h6 hpm
    have HB : Hid (∀ w', Fr Nobody w w' → Own w0 w' (Table bt (msk C) (σ.T (msk C)) c :: StoB b σ K (bs, .slice (some ⟨g, 0, none⟩) σ.mks.length cp, p) (msk C) :: l)) := fun w' hf => hB.quiet hf
    have HTL : Hid ((σ.T (msk C)).length ≤ 1000000) := by show _ ≤ _; omega
    have HTL2 : Hid ((σ.T (msk C)).length ≤ K) := hTl
    have HPM : Hid (p (msk C) = some bt) := hpm
    clear qt
    clear h hB hT hp hC hCs hCk hid hlen hCl hpm hTl hTne
    generalize msk C = m at *
    generalize id % 1024 = s at *
    go_enter Tryz.func213, Tryz.ntmps213
    go_wp2_with fail
    refine HMK.out.mono ?_
    rintro e w1 ⟨rfl, hf⟩
    have hB1 := HB.out _ hf
    have HB1 : Hid (Own w0 w1 _) := hB1
    have qt1 := (hB1.two.stoBcell m h6).1
    rw [HPM.out, pp_some] at qt1
    clear hB1 hf HMK HB
    go_wp2_with fail
    refine (HADD.out _ _ bt c HB1.out (fun w'' h'' => HCs.out _ h''.tail) HTL.out (by omega)).mono ?_
    rintro e w4 ⟨rfl, hO4⟩
    have hX := hO4.stoBX h6 HPM.out (Nat.le_succ K) (by omega) (by simp) (by have := HTL2.out; simp; omega)
    have HX : Hid (Own w0 w4 _) := hX
    obtain ⟨q1, ⟨u, qu⟩, qf⟩ := HC4.out _ _ hX
    clear hO4 hX qt1 HADD HNEW
    go_wp2_with fail
    go_region_with (
      go_at_call 144
      refine (HSL.out _).mono ?_
      rintro e w' ⟨rfl, rfl⟩)
    all_goals
      go_wp2
      go_end0
      exact ⟨rfl, HFIN.out _ _ HX.out.drew⟩
end Go.Proofs.YtflmgilmbppieaaGreatDoor
