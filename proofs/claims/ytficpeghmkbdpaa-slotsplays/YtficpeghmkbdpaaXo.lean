/-
  Same of two lists of IDs; the document's Free and Take of slots.
-/
import Derived.Test.YtficpeghmkbdpaaXn
namespace Go.Proofs.Ytficpeghmkbdpaa
open Go.RowKit
set_option linter.unusedVariables false

/-- a slice that can be read: these numbers -/
def Nums (k : IntKind) (w : World) (v : Value) (X : List Nat) : Prop := ∃ ao cap, v = .slice ao X.length cap ∧ (X = [] ∨ ∃ g o, ao = some ⟨g, o, none⟩ ∧ ∀ (j x : Nat), X[j]? = some x → w.cell? ⟨g, o + j, none⟩ = some (.int k (x : Int)))
theorem Own.nums {w0 w : World} {l : List Thing} {e : TypeId} {k : IntKind} {v : Value} {X : List Nat} (h : Own w0 w (Row e 1 v X.length (irow k X) :: l)) : Nums k w v X := by
  have r := h.row
  obtain ⟨ao, cap, rfl⟩ := row_any r
  refine ⟨ao, cap, rfl, ?_⟩
  by_cases h0 : X.length = 0
  · exact .inl (List.eq_nil_of_length_eq_zero h0)
  · right
    obtain ⟨g, c, he, _⟩ := row_shape r (by omega)
    cases he
    refine ⟨g, 0, rfl, fun j x hx => ?_⟩
    have hj := (List.getElem?_eq_some_iff.1 hx).1
    rw [Nat.zero_add, r.cellAt _ (by omega), getElem?_irow, hx]; rfl
theorem Nums.quiet {k : IntKind} {w w' : World} {v : Value} {X : List Nat} (h : Nums k w v X) (hf : Fr Nobody w w') : Nums k w' v X := by
  obtain ⟨ao, cap, rfl, h⟩ := h
  refine ⟨ao, cap, rfl, ?_⟩
  rcases h with h | ⟨g, o, ha, hc⟩
  · exact .inl h
  · refine .inr ⟨g, o, ha, fun j x hx => ?_⟩
    have h1 := hc j x hx
    exact (hf.cell (p := ⟨g, o + j, none⟩) (World.block_lt_of_cell? w _ h1) id).trans h1

set_option maxHeartbeats 1000000 in
set_option maxRecDepth 100000 in
theorem same_ok (w : World) (v1 v2 : Value) (X : List Nat) (h1 : Nums .u32 w v1 X) (h2 : Nums .u32 w v2 X) (hX : X.length ≤ 100000000) :
    Calls Try.prog 25 #[v1, v2] w fun e w' => e = .returned (.bool true) ∧ Fr Nobody w w' := by
  obtain ⟨a1, c1, rfl, h1⟩ := h1
  obtain ⟨a2, c2, rfl, h2⟩ := h2
  obtain ⟨n, hn⟩ : ∃ n, n = X.length := ⟨_, rfl⟩
  rw [← hn] at hX ⊢
  have HN : Hid (n = X.length) := hn
  have H1 : Hid (X = [] ∨ ∃ g o, a1 = some ⟨g, o, none⟩ ∧ ∀ (j x : Nat), X[j]? = some x → w.cell? ⟨g, o + j, none⟩ = some (.int .u32 (x : Int))) := h1
  have H2 : Hid (X = [] ∨ ∃ g o, a2 = some ⟨g, o, none⟩ ∧ ∀ (j x : Nat), X[j]? = some x → w.cell? ⟨g, o + j, none⟩ = some (.int .u32 (x : Int))) := h2
  clear h1 h2 hn
  have hne : ((n : Int) != (n : Int)) = false := by simp
  go_enter Try.func25, Try.ntmps25
  go_wp2
  clear hne
  go_loopw [13] (fun cc wr => ∃ k : Nat, k ≤ n ∧ cc = .int .i64 k ∧ Fr Nobody w wr) (fun cc _ => n - (intOf cc).toNat)
  case atStart => exact ⟨0, Nat.zero_le _, rfl, Fr.refl _ _⟩
  case round =>
    obtain ⟨k, hk, rfl, hf⟩ := hrel
    have HF : Hid (Fr Nobody w wr) := hf
    clear hf
    by_cases hlt : k < n
    · obtain ⟨x, hx⟩ : ∃ x, X[k]? = some x := ⟨_, List.getElem?_eq_getElem (by rw [← HN.out]; exact hlt)⟩
      obtain ⟨g1, o1, rfl, d1⟩ : ∃ g o, a1 = some ⟨g, o, none⟩ ∧ wr.cell? ⟨g, o + k, none⟩ = some (.int .u32 (x : Int)) := by
        rcases H1.out with h | ⟨g, o, ha, hc⟩
        · rw [h] at hx; simp at hx
        · have h1 := hc k x hx
          exact ⟨g, o, ha, (HF.out.cell (p := ⟨g, o + k, none⟩) (World.block_lt_of_cell? w _ h1) id).trans h1⟩
      obtain ⟨g2, o2, rfl, d2⟩ : ∃ g o, a2 = some ⟨g, o, none⟩ ∧ wr.cell? ⟨g, o + k, none⟩ = some (.int .u32 (x : Int)) := by
        rcases H2.out with h | ⟨g, o, ha, hc⟩
        · rw [h] at hx; simp at hx
        · have h1 := hc k x hx
          exact ⟨g, o, ha, (HF.out.cell (p := ⟨g, o + k, none⟩) (World.block_lt_of_cell? w _ h1) id).trans h1⟩
      clear hx
      have hxx : ((x : Int) != (x : Int)) = false := by simp
      go_wp2
      go_quiet (fail)
      go_wp2
      go_roundw
      case rel => exact ⟨k + 1, by omega, by go_num, HF.out.drewN _⟩
      case measure => simp [intOf]; omega
    · go_wp2
      go_ret
      exact ⟨rfl, HF.out⟩

theorem flat_set3 (n : Nat) (g g' : Nat → Nat → Value) (j : Nat) (h : ∀ a b, a ≠ j → g' a b = g a b) : flat 3 n g' = (((flat 3 n g).set (j * 3) (g' j 0)).set (j * 3 + 1) (g' j 1)).set (j * 3 + 2) (g' j 2) := by
  have e1 := flat_set 3 n g (fun a b => if a = j ∧ b = 0 then g' j 0 else g a b) j 0 (by decide) (by decide) (fun a b _ _ hn => by simp only [if_neg hn])
  have e2 := flat_set 3 n (fun a b => if a = j ∧ b = 0 then g' j 0 else g a b) (fun a b => if a = j ∧ b ≤ 1 then g' j b else g a b) j 1 (by decide) (by decide) (fun a b _ _ hn => by
    by_cases c : a = j
    · subst c
      by_cases c0 : b = 0
      · subst c0; simp
      · simp only [true_and] at hn ⊢; rw [if_neg (by omega), if_neg c0]
    · simp [c])
  have e3 := flat_set 3 n (fun a b => if a = j ∧ b ≤ 1 then g' j b else g a b) g' j 2 (by decide) (by decide) (fun a b _ hb hn => by
    by_cases c : a = j
    · subst c
      simp only [true_and] at hn ⊢; rw [if_pos (by omega)]
    · simp [c, h a b c])
  rw [e3, e2, e1]
  simp

theorem one_less (S : St) (f : Nat → Nat) (id m : Nat) (hm : m = id % 1024) (hus : m < S.used.length) : flat 3 S.n (one (S.less id) f) = (flat 3 S.n (one S f)).set (m * 3 + 1) (.bool false) := by
  have e1 : one (S.less id) f m 1 = .bool false := by simp only [one, St.less]; rw [← hm, getD_set_same _ _ _ _ hus]; rfl
  rw [← e1]
  refine flat_set 3 S.n (one S f) (one (S.less id) f) m 1 (by decide) (by decide) ?_
  intro a b _ _ hn
  unfold one
  by_cases c0 : b = 0
  · subst c0; rfl
  · by_cases c1 : b = 1
    · subst c1; simp only [St.less]; rw [getD_set_other _ _ _ _ _ (by rw [← hm]; exact fun q => hn ⟨q, rfl⟩)]
    · rw [if_neg c0, if_neg c1, if_neg c0, if_neg c1]
theorem one_upd (S : St) (n : Nat) (f : Nat → Nat) (m x : Nat) : flat 3 n (one S (upd f m x)) = (flat 3 n (one S f)).set (m * 3 + 2) (.int .i64 (x : Int)) := by
  have e1 : one S (upd f m x) m 2 = .int .i64 (x : Int) := by unfold one; rw [if_neg (by decide), if_neg (by decide), upd_same]
  rw [← e1]
  refine flat_set 3 n (one S f) (one S (upd f m x)) m 2 (by decide) (by decide) ?_
  intro a b _ hb hn
  unfold one
  by_cases c0 : b = 0
  · rw [if_pos c0, if_pos c0]
  · by_cases c1 : b = 1
    · rw [if_neg c0, if_pos c1, if_neg c0, if_pos c1]
    · rw [if_neg c0, if_neg c1, if_neg c0, if_neg c1, upd_other _ _ _ _ (fun q => hn ⟨q, by omega⟩)]

set_option maxHeartbeats 2000000 in
set_option maxRecDepth 100000 in
theorem rfree_ok (w0 w : World) (l : List Thing) (c : Nat) (S : St) (f : Nat → Nat) (ck id : Nat) (h : Own w0 w (RSlots c S f ck :: l)) (hS : S.Ok) (hT : Stamp S f ck) (hid : id < 4294967296) (hck : ck ≤ 1000000) :
    Calls Try.prog 21 #[.pointer (some ⟨c, 0, none⟩), .int .u32 (id : Int)] w fun e w' => e = .returned (.int .i64 (S.free id).1) ∧ ∃ f' ck', ck' ≤ ck + 1 ∧ Stamp (S.free id).2 f' ck' ∧ Own w0 w' (RSlots c (S.free id).2 f' ck' :: l) := by
  have HL := rlive_ok w0 w l c S f ck id h hS hid
  have hn := hS.n2
  unfold St.free
  by_cases hlive : S.isLive id = true
  · rw [if_pos hlive]
    rw [hlive] at HL
    have hle := hT.less hS hlive
    obtain ⟨hu, hx⟩ := (S.isLive_iff hS id).1 hlive
    have hlu : id % 1024 < S.n := by have := (List.getElem?_eq_some_iff.1 hx).1; have := hS.le; omega
    have hus : id % 1024 < S.used.length := (List.getElem?_eq_some_iff.1 hu).1
    obtain ⟨m, hm⟩ : ∃ m, m = id % 1024 := ⟨_, rfl⟩
    obtain ⟨gg, hgg⟩ : ∃ gg : Int, gg = ((id / 1024 : Nat) : Int) := ⟨_, rfl⟩
    rw [← hm] at hlu hus hle
    have HLV : Hid (Calls _ _ _ _ _) := HL
    have HX : Hid (S.last.getD m 0 = id) := by rw [hm]; exact getD_some hx
    have HU : Hid (S.used.getD m false = true) := by rw [hm]; exact getD_some hu
    have H1 : Hid (flat 3 S.n (one (S.less id) f) = (flat 3 S.n (one S f)).set (m * 3 + 1) (.bool false)) := one_less S f id m hm hus
    have HSl : Hid (∀ w', Calls Try.prog 13 #[.int .u32 (id : Int)] w' fun e w'' => e = .returned (.int .i64 (m : Int)) ∧ w'' = w') := by intro w'; have := rslot_any id w' hid; rw [← hm] at this; exact this
    have hlu' : (m : Int) < (S.n : Int) := by omega
    by_cases hg : id / 1024 < 4194303
    · have hg' : gg < 4194303 := by omega
      have HST : Hid (Stamp (S.less id) (upd f m (ck + 1)) (ck + 1)) := hle.1 hg
      have HGG : Hid (gg = ((id / 1024 : Nat) : Int)) := hgg
      clear HL hle hlive hT h hu hx hS hg hgg hm hus
      go_enter Try.func21, Try.ntmps21
      go_wp2_with fail
      refine HLV.out.mono ?_
      rintro e w1 ⟨rfl, hO⟩
      obtain ⟨⟨g, cp⟩, hO⟩ := Own.ex_iff.1 hO
      have q1 := hO.cell 1
      have q2 := hO.cell 2
      have z2 := hO.froz 2
      have d := hO.ne
      have hgc : g ≠ c := fun q => d (by rw [q]; rfl)
      have p0 : w1.cell? ⟨g, m * 3, none⟩ = some (.int .i64 gg) := by
        have := hO.two.fcell m 0 hlu (by decide) (m * 3) (by omega)
        rw [this, HGG.out]; unfold one; rw [if_pos rfl, HX.out]
      have p1 : w1.cell? ⟨g, m * 3 + 1, none⟩ = some (.bool (S.used.getD m false)) := hO.two.fcell m 1 hlu (by decide) (m * 3 + 1) (by omega)
      have p2 : w1.cell? ⟨g, m * 3 + 2, none⟩ = some (.int .i64 (f m : Int)) := hO.two.fcell m 2 hlu (by decide) (m * 3 + 2) (by omega)
      have y1 : w1.frozen? ⟨g, m * 3 + 1, none⟩ = false := hO.two.ffroz _
      have y2 : w1.frozen? ⟨g, m * 3 + 2, none⟩ = false := hO.two.ffroz _
      simp at q1 q2
      rw [HU.out] at p1
      have HO : Hid (Own w0 w1 _) := hO
      clear hO d HLV
      go_wp2_with (first | (go_at_call 13; refine (HSl.out _).mono ?_; rintro e w' ⟨rfl, hw⟩; subst hw))
      go_region
      go_wp2
      go_ret
      refine ⟨rfl, upd f m (ck + 1), ck + 1, Nat.le_refl _, HST.out, Own.ex_iff.2 ⟨(g, cp), ?_⟩⟩
      have k := ((((HO.out.two.setR (m * 3 + 1) (.bool false)).two.setC 2 (.int .i64 ((ck : Int) + 1))).two.setR (m * 3 + 2) (.int .i64 ((ck : Int) + 1))).two)
      have e2 := one_upd (S.less id) S.n f m (ck + 1)
      rw [H1.out] at e2
      show Own w0 _ (Cells c #[.int .i64 (S.first : Int), .slice (some ⟨g, 0, none⟩) S.n cp, .int .i64 ((ck + 1 : Nat) : Int)] 92 :: Row 95 3 (.slice (some ⟨g, 0, none⟩) S.n cp) S.n (flat 3 S.n (one (S.less id) (upd f m (ck + 1)))) :: l)
      rw [e2]
      first | exact k.drew | exact k
    · have hg' : ¬ gg < 4194303 := by omega
      have HST : Hid (Stamp (S.less id) f ck) := hle.2 hg
      have HGG : Hid (gg = ((id / 1024 : Nat) : Int)) := hgg
      clear HL hle hlive hT h hu hx hS hg hgg hm hus
      go_enter Try.func21, Try.ntmps21
      go_wp2_with fail
      refine HLV.out.mono ?_
      rintro e w1 ⟨rfl, hO⟩
      obtain ⟨⟨g, cp⟩, hO⟩ := Own.ex_iff.1 hO
      have q1 := hO.cell 1
      have d := hO.ne
      have hgc : g ≠ c := fun q => d (by rw [q]; rfl)
      have p0 : w1.cell? ⟨g, m * 3, none⟩ = some (.int .i64 gg) := by
        have := hO.two.fcell m 0 hlu (by decide) (m * 3) (by omega)
        rw [this, HGG.out]; unfold one; rw [if_pos rfl, HX.out]
      have p1 : w1.cell? ⟨g, m * 3 + 1, none⟩ = some (.bool (S.used.getD m false)) := hO.two.fcell m 1 hlu (by decide) (m * 3 + 1) (by omega)
      have y1 : w1.frozen? ⟨g, m * 3 + 1, none⟩ = false := hO.two.ffroz _
      simp at q1
      rw [HU.out] at p1
      have HO : Hid (Own w0 w1 _) := hO
      clear hO d HLV
      go_wp2_with (first | (go_at_call 13; refine (HSl.out _).mono ?_; rintro e w' ⟨rfl, hw⟩; subst hw))
      go_ret
      refine ⟨rfl, f, ck, Nat.le_succ _, HST.out, Own.ex_iff.2 ⟨(g, cp), ?_⟩⟩
      have k := (HO.out.two.setR (m * 3 + 1) (.bool false)).two
      show Own w0 _ (Cells c #[.int .i64 (S.first : Int), .slice (some ⟨g, 0, none⟩) S.n cp, .int .i64 (ck : Int)] 92 :: Row 95 3 (.slice (some ⟨g, 0, none⟩) S.n cp) S.n (flat 3 S.n (one (S.less id) f)) :: l)
      rw [H1.out]
      exact k
  · rw [if_neg hlive]
    have hlive' : S.isLive id = false := by simpa using hlive
    rw [hlive'] at HL
    have HLV : Hid (Calls _ _ _ _ _) := HL
    have HT : Hid (Stamp S f ck) := hT
    clear HL hlive hlive' h hT hS
    go_enter Try.func21, Try.ntmps21
    go_wp2_with fail
    refine HLV.out.mono ?_
    rintro e w1 ⟨rfl, hO⟩
    have HO : Hid (Own w0 w1 _) := hO
    clear hO HLV
    go_wp2
    go_ret
    exact ⟨rfl, f, ck, Nat.le_succ _, HT.out, HO.out⟩
set_option maxHeartbeats 400000 in
theorem rfree_nil (w : World) (id : Int) : Calls Try.prog 21 #[.pointer none, .int .u32 id] w fun e w' => e = .returned (.int .i64 10) ∧ w' = w := by
  go_enter Try.func21, Try.ntmps21
  go_wp2
  go_ret
  exact ⟨rfl, rfl⟩
end Go.Proofs.Ytficpeghmkbdpaa
