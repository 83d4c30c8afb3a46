/-
  A store's pull.
-/
import Derived.Test.YtflmgilmbppieaaGreatDoorOc
import Derived.Test.YtflmgilmbppieaaGreatDoorOd
import Derived.Test.YtflmgilmbppieaaGreatDoorUh
namespace Go.Proofs.YtflmgilmbppieaaGreatDoor
open Go.RowKit Go.Maps
set_option linter.unusedVariables false

set_option maxHeartbeats 1000000 in
set_option maxRecDepth 100000 in
theorem pull_ok (w0 w : World) (l : List Thing) (b bs : Nat) (v : Value) (p : Nat → Option Nat) (σ : Sto) (K : Nat) (h : Own w0 w (StoX b σ K (bs, v, p) :: l)) (m : Nat) (hm : m < 64) (pt : Option Nat) (hp : p m = pt) (hT : TOk m (σ.T m)) (id : Nat) (hid : id < 4294967296) (r : Nat) (e : Ent) (hr : plc (σ.T m) id = some r) (he : (σ.T m)[r]? = some e) (hK : K < 1000000) :
    Calls Tryz.prog 172 #[.pointer (some ⟨b, 0, none⟩), .pointer (pp pt), .int .u32 (id : Int)] w fun out w' => ∃ ao cap, out = .returned (.slice ao e.2.length cap) ∧ Own w0 w' (Row 46 4 (.slice ao e.2.length cap) e.2.length (ccat e.2) :: Store b (σ.out m r) (K + 1) :: l) := by
  cases pt with
  | none => exact absurd (h.stoN hm hp).1 (fun q => by rw [q] at he; simp at he)
  | some bt =>
  rw [pp_some]
  obtain ⟨c, hc, hne, hlen, hO⟩ := h.stoB hm hp
  have HR : Hid (Calls _ _ _ _ _) := tremC w0 w _ bt m (σ.T m) c hO hT id hid r e hr he (by omega) (by omega)
  have hrl := (List.getElem?_eq_some_iff.1 he).1
  have hol : (outr (σ.T m) r).length = (σ.T m).length - 1 := length_outr _ _ hrl
  have HE : Hid (∀ w' l', Own w0 w' (Table bt m (outr (σ.T m) r) (c + 1) :: StoB b σ K (bs, v, p) m :: l') → outr (σ.T m) r ≠ [] → Own w0 w' (Store b (σ.out m r) (K + 1) :: l')) := fun w' l' h' hn => (h'.stoBX hm hp (by omega) (by omega) hn (by omega)).xSto
  have HZ : Hid (∀ w' l', Own w0 w' (StoB b σ K (bs, v, upd p m none) m :: l') → outr (σ.T m) r = [] → Own w0 w' (Store b (σ.out m r) (K + 1) :: l')) := fun w' l' h' hn => ((h'.tabEmpty hn).stoI hm (by omega)).xSto
  have HLN : Hid (∀ w' l', Own w0 w' (Table bt m (outr (σ.T m) r) (c + 1) :: l') → Calls Tryz.prog 210 #[.pointer (some ⟨bt, 0, none⟩)] w' fun e w'' => e = .returned (.int .i64 ((outr (σ.T m) r).length : Int)) ∧ w'' = w') := fun w' l' h' => by have := tlen w0 w' l' bt m _ _ _ _ h'; rw [length_ids] at this; exact this
  have HMM : Hid (∀ w' l', Own w0 w' (Table bt m (outr (σ.T m) r) (c + 1) :: l') → Calls Tryz.prog 211 #[.pointer (some ⟨bt, 0, none⟩)] w' fun e w'' => e = .returned (.int .u8 (m : Int)) ∧ w'' = w') := fun w' l' h' => tmask w0 w' l' bt m _ _ _ _ h'
  clear h hO hT hr he hrl hol hlen hne hid hc hK
  generalize outr (σ.T m) r = L2 at *
  generalize e.2 = C at *
  have hm' : (m : Int) < 64 := by omega
  by_cases hz : L2 = []
  · subst hz
    go_enter Tryz.func172, Tryz.ntmps172
    go_wp2_with fail
    refine HR.out.mono ?_
    rintro out w1 ⟨ao, cap, rfl, hO⟩
    have H1 : Hid (Own w0 w1 (Table bt m [] (c + 1) :: Row 46 4 (.slice ao C.length cap) C.length (ccat C) :: StoB b σ K (bs, v, p) m :: l)) := hO.two
    clear hO HR
    go_wp2_with fail
    refine (HLN.out _ _ H1.out).mono ?_
    rintro out w2 ⟨rfl, rfl⟩
    simp only [List.length_nil]
    obtain ⟨qc, qz⟩ := H1.out.three.stoBcell m hm
    have HS : Hid (∀ w', Own w0 w' (StoB b σ K (bs, v, p) m :: Table bt m [] (c + 1) :: Row 46 4 (.slice ao C.length cap) C.length (ccat C) :: l) → Own w0 (w'.setCell ⟨b, 2 + m, none⟩ (.pointer none)) (Row 46 4 (.slice ao C.length cap) C.length (ccat C) :: Store b (σ.out m r) (K + 1) :: l)) := fun w' h' => (HZ.out _ _ (h'.stoBset hm none).two.tail (by trivial)).two
    go_wp2_with fail
    go_region_with (
      go_at_call 211
      refine (HMM.out _ _ H1.out.drew).mono ?_
      rintro e w3 ⟨rfl, rfl⟩)
    all_goals
      go_wp2
      go_ret
      exact ⟨ao, cap, rfl, HS.out _ H1.out.three.drew⟩
  · have hz' : ¬ ((L2.length : Nat) : Int) = 0 := by
      intro q
      exact hz (List.eq_nil_of_length_eq_zero (by omega))
    have HNZ : Hid (L2 ≠ []) := hz
    clear hz
    go_enter Tryz.func172, Tryz.ntmps172
    go_wp2_with fail
    refine HR.out.mono ?_
    rintro out w1 ⟨ao, cap, rfl, hO⟩
    have H1 : Hid (Own w0 w1 (Table bt m L2 (c + 1) :: Row 46 4 (.slice ao C.length cap) C.length (ccat C) :: StoB b σ K (bs, v, p) m :: l)) := hO.two
    clear hO HR
    go_wp2_with fail
    refine (HLN.out _ _ H1.out).mono ?_
    rintro out w2 ⟨rfl, rfl⟩
    go_wp2
    go_ret
    exact ⟨ao, cap, rfl, (HE.out _ _ H1.out.in23 HNZ.out).two⟩
end Go.Proofs.YtflmgilmbppieaaGreatDoor
