/-
  The document's Take of slots.
-/
import Derived.Test.YtficpeghmkbdpaaXo
namespace Go.Proofs.Ytficpeghmkbdpaa
open Go.RowKit
set_option linter.unusedVariables false

theorem one_again (S : St) (f : Nat → Nat) (j x : Nat) (hx : S.last[j]? = some x) (hu : j < S.used.length) : flat 3 S.n (one (S.again j) (upd f j 0)) = (((flat 3 S.n (one S f)).set (j * 3) (.int .i64 ((x / 1024 + 1 : Nat) : Int))).set (j * 3 + 1) (.bool true)).set (j * 3 + 2) (.int .i64 0) := by
  have hl := (List.getElem?_eq_some_iff.1 hx).1
  rw [flat_set3 S.n (one S f) (one (S.again j) (upd f j 0)) j ?_]
  · have e0 : one (S.again j) (upd f j 0) j 0 = .int .i64 ((x / 1024 + 1 : Nat) : Int) := by
      simp only [one, St.again]; rw [getD_set_same _ _ _ _ hl, getD_some hx, if_pos trivial]
      rw [Nat.add_div_right x (by decide)]
    have e1 : one (S.again j) (upd f j 0) j 1 = .bool true := by simp only [one, St.again]; rw [getD_set_same _ _ _ _ hu]; rfl
    have e2 : one (S.again j) (upd f j 0) j 2 = .int .i64 0 := by unfold one; rw [if_neg (by decide), if_neg (by decide), upd_same]; rfl
    rw [e0, e1, e2]
  · intro a b hab
    simp only [one, St.again]
    rw [getD_set_other _ _ _ _ _ hab, getD_set_other _ _ _ _ _ hab, upd_other _ _ _ _ hab]
theorem one_more (S : St) (f : Nat → Nat) (hul : S.used.length = S.last.length) (hf1 : S.last.length < 1024) (hf : f S.last.length = 0) : flat 3 S.n (one S.more f) = (((flat 3 S.n (one S f)).set (S.last.length * 3) (.int .i64 (S.first : Int))).set (S.last.length * 3 + 1) (.bool true)).set (S.last.length * 3 + 2) (.int .i64 0) := by
  rw [flat_set3 S.n (one S f) (one S.more f) S.last.length ?_]
  · have e0 : one S.more f S.last.length 0 = .int .i64 (S.first : Int) := by
      simp only [one, St.more]; rw [getD_snoc_same, if_pos trivial]
      rw [show (S.first * 1024 + S.last.length) / 1024 = S.first by omega]
    have e1 : one S.more f S.last.length 1 = .bool true := by
      simp only [one, St.more]
      have : (S.used ++ [true]).getD S.last.length false = true := by rw [← hul]; exact getD_snoc_same _ _ _
      rw [this]; rfl
    have e2 : one S.more f S.last.length 2 = .int .i64 0 := by unfold one; rw [if_neg (by decide), if_neg (by decide), hf]; rfl
    rw [e0, e1, e2]
  · intro a b hab
    simp only [one, St.more]
    rw [getD_snoc_other _ _ _ _ hab, getD_snoc_other _ _ _ _ (by rw [hul]; exact hab)]

/-- which slot was freed last, as far as k -/
def Best (f : Nat → Nat) (k : Nat) (b : Int) : Prop := (b = -1 ∧ ∀ i, i < k → f i = 0) ∨ ∃ j : Nat, j < k ∧ b = (j : Int) ∧ 0 < f j ∧ ∀ i, i < k → f i ≤ f j

set_option maxHeartbeats 4000000 in
set_option maxRecDepth 100000 in
theorem rtake_ok (w0 w : World) (l : List Thing) (c : Nat) (S : St) (f : Nat → Nat) (ck : Nat) (h : Own w0 w (RSlots c S f ck :: l)) (hS : S.Ok) (hT : Stamp S f ck) (hck : ck ≤ 1000000) :
    Calls Try.prog 19 #[.pointer (some ⟨c, 0, none⟩)] w fun e w' => e = .returned (.tuple #[.int .u32 (S.take.1 : Int), .int .i64 S.take.2.1]) ∧ ∃ f', Stamp S.take.2.2 f' ck ∧ Own w0 w' (RSlots c S.take.2.2 f' ck :: l) := by
  obtain ⟨⟨g, cp⟩, h⟩ := Own.ex_iff.1 h
  have q1 := h.cell 1
  have hn := hS.n2
  have hd := h.ne
  have hgc : g ≠ c := fun q => hd (by rw [q]; rfl)
  simp at q1
  have H : Hid (Own w0 w (Cells c #[.int .i64 (S.first : Int), .slice (some ⟨g, 0, none⟩) S.n cp, .int .i64 (ck : Int)] 92 :: Row 95 3 (.slice (some ⟨g, 0, none⟩) S.n cp) S.n (flat 3 S.n (one S f)) :: l)) := h
  have HS : Hid (S.Ok ∧ Stamp S f ck) := ⟨hS, hT⟩
  have HLE : Hid (∀ i, (f i : Int) ≤ 1000000) := fun i => by have := hT.le i; omega
  clear h hS hT hd
  go_enter Try.func19, Try.ntmps19
  go_wp2
  go_loopw [4, 16] (fun bv cc wr => ∃ (k : Nat) (b : Int), k ≤ S.n ∧ cc = .int .i64 k ∧ bv = .int .i64 b ∧ Best f k b ∧ Own w0 wr (Cells c #[.int .i64 (S.first : Int), .slice (some ⟨g, 0, none⟩) S.n cp, .int .i64 (ck : Int)] 92 :: Row 95 3 (.slice (some ⟨g, 0, none⟩) S.n cp) S.n (flat 3 S.n (one S f)) :: l)) (fun _ cc _ => S.n - (intOf cc).toNat)
  case atStart => exact ⟨0, -1, Nat.zero_le _, rfl, rfl, .inl ⟨rfl, fun i hi => by omega⟩, H.out⟩
  case round =>
    obtain ⟨k, b, hk, rfl, rfl, hB, hO⟩ := hrel
    clear H q1
    by_cases hlt : k < S.n
    · have q1 := hO.cell 1
      simp at q1
      have c0 : wr.cell? ⟨g, k * 3, none⟩ = some (.int .i64 ((S.last.getD k 0 / 1024 : Nat) : Int)) := hO.two.fcell k 0 hlt (by decide) _ (by omega)
      have c1 : wr.cell? ⟨g, k * 3 + 1, none⟩ = some (.bool (S.used.getD k false)) := hO.two.fcell k 1 hlt (by decide) _ (by omega)
      have c2 : wr.cell? ⟨g, k * 3 + 2, none⟩ = some (.int .i64 (f k : Int)) := hO.two.fcell k 2 hlt (by decide) _ (by omega)
      have hcl := hO.lt
      have hgl := World.block_lt_of_cell? wr _ c0
      have HO : Hid (Own w0 wr _) := hO
      rcases hB with ⟨rfl, hz⟩ | ⟨j, hj, rfl, hp, hm⟩
      · by_cases hfk : f k = 0
        · have HB : Hid (Best f (k + 1) (-1)) := .inl ⟨rfl, fun i hi => by by_cases e : i = k; rw [e]; exact hfk; exact hz i (by omega)⟩
          rw [hfk] at c2
          clear hO hz hfk
          generalize S.used.getD k false = u at *
          generalize S.last.getD k 0 / 1024 = gn at *
          go_wp2
          go_quiet (fail)
          go_wp2
          go_roundw
          case rel => exact ⟨k + 1, -1, by omega, by go_num, rfl, HB.out, (HO.out.alloc _).drewN _⟩
          case measure => simp [intOf]; omega
        · have HB : Hid (Best f (k + 1) (k : Int)) := .inr ⟨k, by omega, rfl, by omega, fun i hi => by by_cases e : i = k; rw [e]; exact Nat.le_refl _; rw [hz i (by omega)]; omega⟩
          have hfk' : (0 : Int) < (f k : Int) := by omega
          have hdd : 0 < f k := by omega
          clear hO hz hfk
          generalize f k = fk at *
          generalize S.used.getD k false = u at *
          generalize S.last.getD k 0 / 1024 = gn at *
          go_wp2
          go_quiet (fail)
          go_wp2
          go_roundw
          case rel => exact ⟨k + 1, k, by omega, by go_num, rfl, HB.out, (HO.out.alloc _).drewN _⟩
          case measure => simp [intOf]; omega
      · have d2 : wr.cell? ⟨g, j * 3 + 2, none⟩ = some (.int .i64 (f j : Int)) := hO.two.fcell j 2 (by omega) (by decide) _ (by omega)
        by_cases hfk : f k = 0
        · have HB : Hid (Best f (k + 1) (j : Int)) := .inr ⟨j, by omega, rfl, hp, fun i hi => by by_cases e : i = k; rw [e, hfk]; exact Nat.zero_le _; exact hm i (by omega)⟩
          rw [hfk] at c2
          clear hO hm hfk
          generalize S.used.getD k false = u at *
          generalize S.last.getD k 0 / 1024 = gn at *
          go_wp2
          go_quiet (fail)
          go_wp2
          go_roundw
          case rel => exact ⟨k + 1, j, by omega, by go_num, rfl, HB.out, (HO.out.alloc _).drewN _⟩
          case measure => simp [intOf]; omega
        · have hfk' : (0 : Int) < (f k : Int) := by omega
          have hdd : 0 < f k := by omega
          by_cases hgt : f j < f k
          · have HB : Hid (Best f (k + 1) (k : Int)) := .inr ⟨k, by omega, rfl, by omega, fun i hi => by by_cases e : i = k; rw [e]; exact Nat.le_refl _; have := hm i (by omega); omega⟩
            have hgt' : (f j : Int) < (f k : Int) := by omega
            have hjn : (j : Int) < (S.n : Int) := by omega
            clear hO hm hfk hp
            generalize f k = fk at *
            generalize f j = fj at *
            generalize S.used.getD k false = u at *
            generalize S.last.getD k 0 / 1024 = gn at *
            go_wp2
            go_quiet (fail)
            go_wp2
            go_roundw
            case rel => exact ⟨k + 1, k, by omega, by go_num, rfl, HB.out, (HO.out.alloc _).drewN _⟩
            case measure => simp [intOf]; omega
          · have HB : Hid (Best f (k + 1) (j : Int)) := .inr ⟨j, by omega, rfl, hp, fun i hi => by by_cases e : i = k; rw [e]; omega; exact hm i (by omega)⟩
            have hgt' : decide ((f j : Int) < (f k : Int)) = false := by simp; omega
            have hjn : (j : Int) < (S.n : Int) := by omega
            clear hO hm hfk hp
            generalize f k = fk at *
            generalize f j = fj at *
            generalize S.used.getD k false = u at *
            generalize S.last.getD k 0 / 1024 = gn at *
            go_wp2
            go_quiet (fail)
            go_wp2
            go_roundw
            case rel => exact ⟨k + 1, j, by omega, by go_num, rfl, HB.out, (HO.out.alloc _).drewN _⟩
            case measure => simp [intOf]; omega
    · have ek : k = S.n := by omega
      subst ek
      have q0 := hO.cell 0
      have q1 := hO.cell 1
      simp at q0 q1
      have hcl := hO.lt
      have HO : Hid (Own w0 wr _) := hO
      clear hO
      cases hf : S.freed.getLast? with
      | some j =>
        obtain ⟨hp, hmx, hinj⟩ := HS.out.2.last HS.out.1 hf
        have e := dropLast_of _ _ hf
        have hjm : j ∈ S.freed := by rw [e]; simp
        obtain ⟨hu, x, hx, hgx⟩ := HS.out.1.fr j hjm
        have HTK : Hid (S.take = (x + 1024, 0, S.again j)) := S.take_again hf hx
        have hid := HS.out.1.id j x hx
        have hjn : j < S.n := by have := HS.out.1.lt hjm; have := HS.out.1.le; omega
        have hb : b = (j : Int) := by
          rcases hB with ⟨_, hz⟩ | ⟨i, hi, hb, _, hm⟩
          · have := hz j hjn; omega
          · have h1 := hm j hjn
            have h2 := hmx i
            rw [hb, hinj i (by omega)]
        subst hb
        have HST : Hid (Stamp (S.again j) (upd f j 0) ck) := HS.out.2.again HS.out.1 hf
        have HON : Hid (flat 3 S.n (one (S.again j) (upd f j 0)) = (((flat 3 S.n (one S f)).set (j * 3) (.int .i64 ((x / 1024 + 1 : Nat) : Int))).set (j * 3 + 1) (.bool true)).set (j * 3 + 2) (.int .i64 0)) := one_again S f j x hx (by rw [HS.out.1.ul]; exact HS.out.1.lt hjm)
        have HX : Hid (S.last.getD j 0 = x) := getD_some hx
        have c0 : wr.cell? ⟨g, j * 3, none⟩ = some (.int .i64 ((x / 1024 : Nat) : Int)) := by
          have := HO.out.two.fcell j 0 hjn (by decide) (j * 3) (by omega)
          rw [this]; unfold one; rw [if_pos rfl, HX.out]
        have c1 : wr.cell? ⟨g, j * 3 + 1, none⟩ = some (.bool (S.used.getD j false)) := HO.out.two.fcell j 1 hjn (by decide) _ (by omega)
        have c2 : wr.cell? ⟨g, j * 3 + 2, none⟩ = some (.int .i64 (f j : Int)) := HO.out.two.fcell j 2 hjn (by decide) _ (by omega)
        have y0 : wr.frozen? ⟨g, j * 3, none⟩ = false := HO.out.two.ffroz _
        have y1 : wr.frozen? ⟨g, j * 3 + 1, none⟩ = false := HO.out.two.ffroz _
        have y2 : wr.frozen? ⟨g, j * 3 + 2, none⟩ = false := HO.out.two.ffroz _
        have hjn' : (j : Int) < (S.n : Int) := by omega
        obtain ⟨gn, hgn⟩ : ∃ gn, gn = x / 1024 := ⟨_, rfl⟩
        have hg1 : 1 ≤ gn := by omega
        have HM : Hid (∀ w', Calls Try.prog 10 #[.int .i64 (j : Int), .int .i64 ((gn + 1 : Nat) : Int)] w' fun e w'' => e = .returned (.tuple #[.int .u32 ((x + 1024 : Nat) : Int), .int .i64 0]) ∧ w'' = w') := by
          intro w'
          have := rmake_yes j (gn + 1) w' (by omega) (by omega) (by omega)
          rw [show (gn + 1) * 1024 + j = x + 1024 by omega] at this; exact this
        have hne1 : (((gn : Int) + 1) == 1) = false := by simp; omega
        have hgm : (gn : Int) < 4194303 := by omega
        rw [← hgn] at c0 HON
        clear hp hmx hinj e hjm hu hx hgx hid hB hf hgn hg1
        go_wp2
        go_loopw [4, 7] (fun bv iv wr2 => bv = .int .i64 (j : Int) ∧ iv = .int .i64 0 ∧ wr2 = wr) (fun _ _ _ => 0)
        case atStart => exact ⟨rfl, rfl, rfl⟩
        case round =>
          obtain ⟨rfl, rfl, hw⟩ := hrel
          subst hw
          have hjb : decide ((j : Int) < 0) = false := by simp
          go_wp2_with (first | (go_at_call 10; refine (HM.out _).mono ?_; rintro e w' ⟨rfl, hw⟩; subst hw))
          go_ret2
          rw [HTK.out]
          refine ⟨rfl, upd f j 0, HST.out, Own.ex_iff.2 ⟨(g, cp), ?_⟩⟩
          have k := ((((HO.out.two.setR (j * 3) (.int .i64 ((gn : Int) + 1))).setR (j * 3 + 1) (.bool true)).setR (j * 3 + 2) (.int .i64 0)).two)
          show Own w0 _ (Cells c #[.int .i64 (S.first : Int), .slice (some ⟨g, 0, none⟩) S.n cp, .int .i64 (ck : Int)] 92 :: Row 95 3 (.slice (some ⟨g, 0, none⟩) S.n cp) S.n (flat 3 S.n (one (S.again j) (upd f j 0))) :: l)
          rw [HON.out]
          exact k
      | none =>
        have hf' : S.freed = [] := List.getLast?_eq_none_iff.1 hf
        have hz0 := HS.out.2.none hf'
        have hb : b = -1 := by
          rcases hB with ⟨hb, _⟩ | ⟨i, hi, hb, hp, _⟩
          · exact hb
          · have := hz0 i; omega
        subst hb
        have hle := HS.out.1.le
        obtain ⟨ll, hll⟩ : ∃ ll, ll = S.last.length := ⟨_, rfl⟩
        have HLL : Hid (ll = S.last.length) := hll
        rw [← hll] at hle
        have HF : Hid (S.freed = [] ∧ ∀ i, f i = 0) := ⟨hf', hz0⟩
        clear hB hf hf' hz0 hll
        go_wp2
        go_loopw [4, 7] (fun bv iv wr2 => wr2 = wr ∧ ∃ i : Nat, iv = .int .i64 i ∧ i ≤ S.n ∧ ((bv = .int .i64 (-1) ∧ i ≤ ll) ∨ (bv = .int .i64 ll ∧ i = ll + 1))) (fun _ iv _ => S.n - (intOf iv).toNat)
        case atStart => exact ⟨rfl, 0, rfl, Nat.zero_le _, .inl ⟨rfl, Nat.zero_le _⟩⟩
        case round =>
          obtain ⟨hw, i, rfl, hin, hcase⟩ := hrel
          subst hw
          rcases hcase with ⟨rfl, hil⟩ | ⟨rfl, rfl⟩
          · by_cases hlt : i < S.n
            · have c0 : World.cell? _ ⟨g, i * 3, none⟩ = some (.int .i64 ((S.last.getD i 0 / 1024 : Nat) : Int)) := HO.out.two.fcell i 0 hlt (by decide) _ (by omega)
              have hlt' : (i : Int) < (S.n : Int) := by omega
              by_cases hi2 : i < ll
              · obtain ⟨x, hx⟩ : ∃ x, S.last[i]? = some x := ⟨_, List.getElem?_eq_getElem (by rw [← HLL.out]; exact hi2)⟩
                have hid := HS.out.1.id i x hx
                rw [getD_some hx] at c0
                obtain ⟨gn, hgn⟩ : ∃ gn, gn = x / 1024 := ⟨_, rfl⟩
                rw [← hgn] at c0
                have hgz : ((gn : Int) == 0) = false := by simp; omega
                have hgz2 : ¬ gn = 0 := by omega
                clear hx hid hgn
                go_wp2
                go_roundw
                case rel => exact ⟨by first | rfl | trivial, i + 1, by go_num, by omega, .inl ⟨rfl, by omega⟩⟩
                case measure => simp [intOf]; omega
              · have EI : Hid (i = ll) := by show i = ll; omega
                rw [getD_none (by rw [← HLL.out]; omega), Nat.zero_div, Int.natCast_zero] at c0
                go_wp2
                go_roundw
                case rel => exact ⟨by first | rfl | trivial, i + 1, by go_num, by omega, .inr ⟨by rw [EI.out], by rw [EI.out]⟩⟩
                case measure => simp [intOf]; omega
            · have HTK : Hid (S.take = (0, 8, S)) := S.take_full HF.out.1 (by rw [← HLL.out]; omega)
              have hd : decide ((i : Int) < (S.n : Int)) = false := by simp; omega
              go_wp2
              go_ret2
              rw [HTK.out]
              exact ⟨rfl, f, HS.out.2, Own.ex_iff.2 ⟨(g, cp), HO.out⟩⟩
          · have hl : S.last.length < S.n := by rw [← HLL.out]; omega
            have hll : ll < S.n := by omega
            have HTK : Hid (S.take = (S.first * 1024 + ll, 0, S.more)) := by rw [HLL.out]; exact S.take_new HF.out.1 hl
            have HST : Hid (Stamp S.more f ck) := HS.out.2.more HS.out.1 hl
            have hf1 := HS.out.1.f1
            have hf2 : (S.first : Int) ≤ 4194303 := by have := HS.out.1.f2; omega
            have HON : Hid (flat 3 S.n (one S.more f) = (((flat 3 S.n (one S f)).set (ll * 3) (.int .i64 (S.first : Int))).set (ll * 3 + 1) (.bool true)).set (ll * 3 + 2) (.int .i64 0)) := by
              rw [HLL.out]; exact one_more S f HS.out.1.ul (by omega) (HF.out.2 _)
            have c0 : World.cell? _ ⟨g, ll * 3, none⟩ = some (.int .i64 ((S.last.getD ll 0 / 1024 : Nat) : Int)) := HO.out.two.fcell ll 0 hll (by decide) _ (by omega)
            rw [getD_none (by rw [← HLL.out]; omega), Nat.zero_div, Int.natCast_zero] at c0
            have c1 : World.cell? _ ⟨g, ll * 3 + 1, none⟩ = some (.bool (S.used.getD ll false)) := HO.out.two.fcell ll 1 hll (by decide) _ (by omega)
            have c2 : World.cell? _ ⟨g, ll * 3 + 2, none⟩ = some (.int .i64 (f ll : Int)) := HO.out.two.fcell ll 2 hll (by decide) _ (by omega)
            have y0 := HO.out.two.ffroz (ll * 3)
            have y1 := HO.out.two.ffroz (ll * 3 + 1)
            have y2 := HO.out.two.ffroz (ll * 3 + 2)
            have hll' : (ll : Int) < (S.n : Int) := by omega
            have hlb : decide ((ll : Int) < 0) = false := by simp
            have HM : Hid (∀ w', Calls Try.prog 10 #[.int .i64 (ll : Int), .int .i64 (S.first : Int)] w' fun e w'' => e = .returned (.tuple #[.int .u32 ((S.first * 1024 + ll : Nat) : Int), .int .i64 0]) ∧ w'' = w') := fun w' => rmake_yes ll S.first w' (by omega) hf1 hf2
            go_wp2_with (first | (go_at_call 10; refine (HM.out _).mono ?_; rintro e w' ⟨rfl, hw⟩; subst hw))
            go_ret2
            rw [HTK.out]
            refine ⟨rfl, f, HST.out, Own.ex_iff.2 ⟨(g, cp), ?_⟩⟩
            have k := ((((HO.out.two.setR (ll * 3) (.int .i64 (S.first : Int))).setR (ll * 3 + 1) (.bool true)).setR (ll * 3 + 2) (.int .i64 0)).two)
            show Own w0 _ (Cells c #[.int .i64 (S.first : Int), .slice (some ⟨g, 0, none⟩) S.n cp, .int .i64 (ck : Int)] 92 :: Row 95 3 (.slice (some ⟨g, 0, none⟩) S.n cp) S.n (flat 3 S.n (one S.more f)) :: l)
            rw [HON.out]
            exact k
set_option maxHeartbeats 400000 in
theorem rtake_nil (w : World) : Calls Try.prog 19 #[.pointer none] w fun e w' => e = .returned (.tuple #[.int .u32 0, .int .i64 10]) ∧ w' = w := by
  go_enter Try.func19, Try.ntmps19
  go_wp2
  go_ret2
  exact ⟨rfl, rfl⟩
end Go.Proofs.Ytficpeghmkbdpaa
