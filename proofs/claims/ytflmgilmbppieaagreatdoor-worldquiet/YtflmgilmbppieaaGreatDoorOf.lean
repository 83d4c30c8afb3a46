/-
  A store's Spawn, Despawn and New.
-/
import Derived.Test.YtflmgilmbppieaaGreatDoorOe
namespace Go.Proofs.YtflmgilmbppieaaGreatDoor
open Go.RowKit Go.Maps
set_option linter.unusedVariables false

theorem Own.stoK {w0 w : World} {l : List Thing} {b : Nat} {σ : Sto} {K K' : Nat} (hK : K ≤ K') (h : Own w0 w (Store b σ K :: l)) : Own w0 w (Store b σ K' :: l) := by
  obtain ⟨bs, v, p, h⟩ := h.stoX
  exact (Own.stoS (TabsOn.mono hK h.stoO.four).back4).xSto
def Sto.spawn (σ : Sto) (C : List Cp) : Nat × Int × Sto :=
  if lst (-1) C ≠ 0 then (0, (lst (-1) C : Int), σ) else if σ.S.take.2.1 ≠ 0 then (0, σ.S.take.2.1, σ) else (σ.S.take.1, 0, Sto.put { σ with S := σ.S.take.2.2 } σ.S.take.1 C)
theorem Sto.spawn_ok {σ : Sto} (h : σ.Ok) (C : List Cp) : (σ.spawn C).2.2.Ok := by
  unfold Sto.spawn
  split
  · exact h
  · rename_i h0
    split
    · exact h
    · rename_i h1
      exact (h.take (by simpa using h1)).put (by simpa using h0)
/-- what goes -/
def Sto.despawn (σ : Sto) (id : Nat) : Int × Sto :=
  if σ.S.isLive id then (0, { σ.out (σ.hom id) ((plc (σ.T (σ.hom id)) id).getD 0) with S := σ.S.less id }) else (7, σ)
theorem Sto.despawn_ok {σ : Sto} (h : σ.Ok) (id : Nat) : (σ.despawn id).2.Ok := by
  unfold Sto.despawn
  split
  · rename_i hl
    obtain ⟨_, _, r, e, hr, _⟩ := h.home hl
    rw [hr]
    exact (h.out hl hr).free
  · exact h

set_option maxHeartbeats 1000000 in
set_option maxRecDepth 100000 in
theorem spawnC (w0 w : World) (l : List Thing) (b : Nat) (σ : Sto) (K : Nat) (ht : Tab w0) (h : Own w0 w (Store b σ K :: l)) (hσ : σ.Ok)
    (ao : Option Addr) (len cap : Nat) (C : List Cp) (hCl : C.length = len) (hCs : ∀ w', Own w0 w' l → Cs w' ao C) (hCk : ∀ q ∈ C, q.k < 256) (hlen : len ≤ 1000000) (hK : K < 1000000) :
    Calls Tryz.prog 176 #[.pointer (some ⟨b, 0, none⟩), .slice ao len cap] w fun e w' => e = .returned (.tuple #[.int .u32 ((σ.spawn C).1 : Int), .int .i64 (σ.spawn C).2.1]) ∧ Own w0 w' (Store b (σ.spawn C).2.2 (K + 1) :: l) := by
  have H : Hid (Own w0 w (Store b σ K :: l)) := h
  have HLS : Hid (Calls _ _ _ _ _) := list_any w (ht.quiet h.fr) ao len cap C hCl (hCs _ h.tail) hCk hlen
  by_cases h0 : lst (-1) C = 0
  · rw [h0] at HLS
    have HTK : Hid (∀ w', Own w0 w' (Store b σ K :: l) → ∃ bs, w'.cell? ⟨b, 0, none⟩ = some (.pointer (some ⟨bs, 0, none⟩)) ∧ Calls Tryz.prog 212 #[.pointer (some ⟨bs, 0, none⟩)] w' fun e w'' => e = .returned (.tuple #[.int .u32 (σ.S.take.1 : Int), .int .i64 σ.S.take.2.1]) ∧ Own w0 w'' (Store b { σ with S := σ.S.take.2.2 } K :: l)) := by
      intro w' h'
      obtain ⟨bs, v, p, h'⟩ := h'.stoX
      refine ⟨bs, (stoCells h').1, (take_ok w0 w' _ bs σ.S h'.stoO.two hσ.s).mono ?_⟩
      rintro e w'' ⟨rfl, h2⟩
      exact ⟨rfl, (Own.stoS (σ := { σ with S := σ.S.take.2.2 }) h2.two).xSto⟩
    by_cases h1 : σ.S.take.2.1 = 0
    · have HV : Hid (σ.spawn C = (σ.S.take.1, 0, Sto.put { σ with S := σ.S.take.2.2 } σ.S.take.1 C)) := by show _ = _; unfold Sto.spawn; rw [if_neg (by simp [h0]), if_neg (by simp [h1])]
      have hL := hσ.take h1
      have hli := St.live_lt hL.s hL.li
      have HPU : Hid (∀ w', Own w0 w' (Store b { σ with S := σ.S.take.2.2 } K :: l) → Calls Tryz.prog 213 #[.pointer (some ⟨b, 0, none⟩), .int .u32 (σ.S.take.1 : Int), .slice ao len cap] w' fun e w'' => e = .returned (.tuple #[]) ∧ Own w0 w'' (Store b (Sto.put { σ with S := σ.S.take.2.2 } σ.S.take.1 C) (K + 1) :: l)) := by
        intro w' h'
        obtain ⟨bs, v, p, h'⟩ := h'.stoX
        exact put_ok w0 w' l b bs v p _ K ht h' σ.S.take.1 hli.1 (by rw [hL.ml]; exact hli.2) ao len cap C hCl hCs hCk hlen h0 (hL.t _ (msk64 C)) (hL.none (msk64 C)) hK
      rw [h1] at HTK
      clear h hCs hσ h0 h1 hL hli
      go_enter Tryz.func176, Tryz.ntmps176
      go_wp2_with fail
      refine HLS.out.mono ?_
      rintro e w1 ⟨rfl, hf⟩
      obtain ⟨bs, q0, htk⟩ := HTK.out _ (H.out.quiet hf)
      have HTK1 : Hid (Calls _ _ _ _ _) := htk
      clear htk hf HTK H HLS
      go_wp2_with fail
      refine HTK1.out.mono ?_
      rintro e w2 ⟨rfl, hO⟩
      have H2 : Hid (Own w0 w2 _) := hO
      clear hO HTK1
      go_wp2_with fail
      refine (HPU.out _ H2.out).mono ?_
      rintro e w3 ⟨rfl, hO⟩
      have H3 : Hid (Own w0 w3 _) := hO
      clear hO
      go_wp2
      go_ret2
      rw [HV.out]
      exact ⟨rfl, H3.out⟩
    · have HV : Hid (σ.spawn C = (0, σ.S.take.2.1, σ)) := by show _ = _; unfold Sto.spawn; rw [if_neg (by simp [h0]), if_pos (by simp [h1])]
      have HS : Hid (σ.S.take.2.2 = σ.S) := by
        show _ = _
        unfold St.take at h1 ⊢
        split at h1
        · exact absurd rfl h1
        · split at h1
          · exact absurd rfl h1
          · rename_i c; simp [c]
      clear h hCs hσ h0
      generalize σ.S.take.2.1 = r at *
      have h1' : (r == (0 : Int)) = false := by simpa using h1
      go_enter Tryz.func176, Tryz.ntmps176
      go_wp2_with fail
      refine HLS.out.mono ?_
      rintro e w1 ⟨rfl, hf⟩
      obtain ⟨bs, q0, htk⟩ := HTK.out _ (H.out.quiet hf)
      have HTK1 : Hid (Calls _ _ _ _ _) := htk
      clear htk hf HTK H HLS
      go_wp2_with fail
      refine HTK1.out.mono ?_
      rintro e w2 ⟨rfl, hO⟩
      rw [HS.out] at hO
      have H2 : Hid (Own w0 w2 _) := hO
      clear hO HTK1
      go_wp2
      go_ret2
      rw [HV.out]
      exact ⟨rfl, H2.out.stoK (Nat.le_succ K)⟩
  · have HV : Hid (σ.spawn C = (0, (lst (-1) C : Int), σ)) := by show _ = _; unfold Sto.spawn; rw [if_pos h0]
    clear h hCs hσ
    generalize lst (-1) C = r at *
    have h1' : ((r : Int) == (0 : Int)) = false := by simp; omega
    go_enter Tryz.func176, Tryz.ntmps176
    go_wp2_with fail
    refine HLS.out.mono ?_
    rintro e w1 ⟨rfl, hf⟩
    have H1 : Hid (Own w0 w1 (Store b σ K :: l)) := H.out.quiet hf
    clear hf H HLS
    go_wp2
    go_ret2
    rw [HV.out]
    exact ⟨rfl, H1.out.stoK (Nat.le_succ K)⟩
end Go.Proofs.YtflmgilmbppieaaGreatDoor
