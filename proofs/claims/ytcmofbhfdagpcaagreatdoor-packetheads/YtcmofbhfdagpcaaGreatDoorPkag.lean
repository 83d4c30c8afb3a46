/-
  Writers as things: New, Put, Len, Bytes; PutVar and PutIn of package nums.
-/
import Derived.Test.YtcmofbhfdagpcaaGreatDoorNeg
namespace Go.Proofs.YtcmofbhfdagpcaaGreatDoor
open Go.RowKit
set_option linter.unusedVariables false
set_option maxRecDepth 100000

/-- a writer: its block and its bytes' -/
def WrT (b : Nat) (L : List Bool) : Thing where
  is := fun w A => ∃ g, Wr 0 w b g L ∧ ∀ j, A j ↔ At b g j
  lt := by
    rintro w A j ⟨g, h, hA⟩ a
    rcases (hA j).1 a with rfl | e
    · exact h.lt
    · exact h.glt j e.symm
  keep := by
    rintro w w' A B ⟨g, h, hA⟩ hf hn
    exact ⟨g, h.keep hf (hn b ((hA b).2 (.inl rfl))) (fun k hk => hn k ((hA k).2 (.inr hk.symm))), hA⟩
theorem Own.wr {w0 w : World} {l : List Thing} {b : Nat} {L : List Bool} (h : Own w0 w (WrT b L :: l)) : ∃ g, Wr 0 w b g L ∧ ∀ (w' : World) (g' : Option Nat) (L' : List Bool), Wr 0 w' b g' L' → Step w b g w' g' → Own w0 w' (WrT b L' :: l) := by
  obtain ⟨A, ⟨g, hw, hA⟩, hlo, act⟩ := h.act
  refine ⟨g, hw, fun w' g' L' hw' hs => act w' (WrT b L') (At b g') ⟨g', hw', fun _ => Iff.rfl⟩ (hs.fr.mono (fun k _ hk => (hA k).2 hk)) (fun k hk => ?_)⟩
  rcases hk with rfl | hk
  · exact .inl ((hA _).2 (.inl rfl))
  · rcases hs.row with e | ⟨j, e, hj⟩
    · exact .inl ((hA k).2 (.inr (hk.trans e)))
    · rw [e] at hk; cases hk; exact .inr hj
theorem new_own (w0 w : World) (l : List Thing) (h : Own w0 w l) : Calls Tryz.prog 11 #[] w fun e w' => ∃ b, e = .returned (.pointer (some ⟨b, 0, none⟩)) ∧ Own w0 w' (WrT b [] :: l) := by
  refine (new_ow w w (Fr.refl _ _)).mono ?_
  rintro e w' ⟨b, rfl, hb, g, hw, hf⟩
  refine ⟨b, rfl, h.new (WrT b []) (At b g) ⟨g, hw.mono (Nat.zero_le _), fun _ => Iff.rfl⟩ hf (fun k hk => ?_)⟩
  exact hw.lowAt k hk
theorem len_own (w0 w : World) (l : List Thing) (b : Nat) (L : List Bool) (h : Own w0 w (WrT b L :: l)) : Calls Tryz.prog 72 #[.pointer (some ⟨b, 0, none⟩)] w fun e w' => e = .returned (.int .i64 (L.length : Int)) ∧ Own w0 w' (WrT b L :: l) := by
  obtain ⟨g, hw, k⟩ := h.wr
  refine (len_any 0 w b g L hw).mono ?_
  rintro e w' ⟨rfl, rfl⟩
  exact ⟨rfl, h⟩
theorem putW_own (w0 w : World) (l : List Thing) (b : Nat) (L : List Bool) (v n : Nat) (x y : Int) (hx : x = (v : Int)) (hy : y = (n : Int)) (h : Own w0 w (WrT b L :: l)) (hn : n ≤ 64) (hv : v < 2 ^ n) (hv2 : v < 18446744073709551616) (hl : L.length + n ≤ 1048576) :
    Calls Tryz.prog 46 #[.pointer (some ⟨b, 0, none⟩), .int .u64 x, .int .i64 y] w fun e w' => e = .returned (.int .i64 0) ∧ Own w0 w' (WrT b (L ++ bitsN n v) :: l) := by
  subst hx hy
  obtain ⟨g, hw, k⟩ := h.wr
  refine (put_ok 0 w b g L v n hw hn hv hv2 hl).mono ?_
  rintro e w' ⟨rfl, g', hw', hs⟩
  exact ⟨rfl, k w' g' _ hw' hs⟩
set_option maxHeartbeats 1000000 in
theorem putVarW (w0 w : World) (l : List Thing) (b : Nat) (L : List Bool) (v : Nat) (h : Own w0 w (WrT b L :: l)) (hv : v < 18446744073709551616) (hl : L.length + 5 * grp v ≤ 1048576) :
    Calls Tryz.prog 45 #[.pointer (some ⟨b, 0, none⟩), .int .u64 v] w fun e w' => e = .returned (.int .i64 0) ∧ Own w0 w' (WrT b (L ++ var v) :: l) := by
  have hg := grp_bd v hv
  have H : Hid (Own w0 w (WrT b L :: l)) := h
  have HV : Hid (var v = varTo v (grp v) (grp v)) := rfl
  clear h
  have hgr := groups_any v w hv
  generalize var v = vv at *
  generalize grp v = n at *
  go_enter Tryz.func45, Tryz.ntmps45
  go_wp2_with fail
  refine hgr.mono ?_
  clear hgr
  rintro e w' ⟨rfl, rfl⟩
  go_wp2_with fail
  refine (len_own w0 _ l b L H.out).mono ?_
  rintro e w1 ⟨rfl, hW⟩
  have H1 : Hid (Own w0 w1 (WrT b L :: l)) := hW
  clear hW H
  have hlong : ¬ (1048576 : Int) - (L.length : Int) < (n : Int) * 5 := by omega
  go_wp2
  clear hlong
  go_loopw [22] (fun c wr => ∃ k : Nat, k ≤ n ∧ c = .int .i64 k ∧ Own w0 wr (WrT b (L ++ varTo v n k) :: l)) (fun c _ => n - (intOf c).toNat)
  case atStart => exact ⟨0, Nat.zero_le _, rfl, by simpa [varTo] using H1.out⟩
  case round =>
    obtain ⟨k, hk, rfl, hW⟩ := hrel
    by_cases hlt : k < n
    · by_cases hlast : k + 1 < n
      · have hla : (k : Int) < (n : Int) - 1 := by omega
        go_wp2_with fail
        refine (putW_own w0 wr l b _ (grpAt v n k) 5 _ 5 (by rw [grpAt, if_pos hlast]; exact more_val v k) rfl hW (by decide) (grpAt_lt v n k) (Nat.lt_trans (grpAt_lt v n k) (by decide)) (by rw [List.length_append, length_varTo]; omega)).mono ?_
        rintro e w2 ⟨rfl, hW2⟩
        have H2 : Hid (Own w0 w2 (WrT b (L ++ varTo v n (k + 1)) :: l)) := by rw [varTo, ← List.append_assoc]; exact hW2
        clear hW hW2 H1
        go_wp2
        go_roundw
        case rel => exact ⟨k + 1, by omega, by go_num, H2.out⟩
        case measure => simp [intOf]; omega
      · have hla : ¬ (k : Int) < (n : Int) - 1 := by omega
        go_wp2_with fail
        refine (putW_own w0 wr l b _ (grpAt v n k) 5 _ 5 (by rw [grpAt, if_neg hlast]; exact part_val v k) rfl hW (by decide) (grpAt_lt v n k) (Nat.lt_trans (grpAt_lt v n k) (by decide)) (by rw [List.length_append, length_varTo]; omega)).mono ?_
        rintro e w2 ⟨rfl, hW2⟩
        have H2 : Hid (Own w0 w2 (WrT b (L ++ varTo v n (k + 1)) :: l)) := by rw [varTo, ← List.append_assoc]; exact hW2
        clear hW hW2 H1
        go_wp2
        go_roundw
        case rel => exact ⟨k + 1, by omega, by go_num, H2.out⟩
        case measure => simp [intOf]; omega
    · go_wp2
      go_ret
      have e : k = n := by omega
      subst e
      exact ⟨rfl, by rw [HV.out]; exact hW⟩


set_option maxHeartbeats 400000 in
theorem putInW (w0 w : World) (l : List Thing) (b : Nat) (L : List Bool) (n lo hi : Int) (d : Nat) (hd : n = lo + (d : Int)) (h : Own w0 w (WrT b L :: l)) (h0 : -9223372036854775808 ≤ lo) (h1 : hi ≤ 9223372036854775807) (ha : lo ≤ n) (hb : n ≤ hi) (hl : L.length + 64 ≤ 1048576) :
    Calls Tryz.prog 44 #[.pointer (some ⟨b, 0, none⟩), .int .i64 n, .int .i64 lo, .int .i64 hi] w fun e w' => e = .returned (.int .i64 0) ∧ Own w0 w' (WrT b (L ++ bitsN (wid lo hi) d) :: l) := by
  have hle : lo ≤ hi := by omega
  have H : Hid (Own w0 w (WrT b L :: l)) := h
  have ed : (n - lo).toNat = d := by omega
  have HI : Hid (d < 2 ^ wid lo hi) := ed ▸ in_lt n lo hi h0 h1 ha hb
  have HW : Hid (wid lo hi ≤ 64) := wid_le lo hi h0 h1
  have G1 : Hid _ := fun w => span_any lo n d w h0 (by omega) hd
  have G2 : Hid _ := fun w => width_any lo hi w h0 h1 (by omega) (by omega)
  have hdl : d < 18446744073709551616 := by omega
  clear h hd ed
  generalize wid lo hi = m at *
  go_enter Tryz.func44, Tryz.ntmps44
  go_wp2_with fail
  refine (G1.out _).mono ?_
  rintro e w' ⟨rfl, rfl⟩
  go_wp2_with fail
  refine (G2.out _).mono ?_
  rintro e w' ⟨rfl, rfl⟩
  go_wp2_with fail
  refine (putW_own w0 _ l b L d m _ _ rfl rfl H.out HW.out HI.out hdl (by have := HW.out; omega)).mono ?_
  rintro e w1 ⟨rfl, hW⟩
  go_wp2
  go_ret
  exact ⟨rfl, hW⟩


theorem bytesW (w0 w : World) (l : List Thing) (b : Nat) (L : List Bool) (h : Own w0 w (WrT b L :: l)) (hl : L.length ≤ 1048576) :
    Calls Tryz.prog 15 #[.pointer (some ⟨b, 0, none⟩)] w fun e w' => ∃ v', e = .returned v' ∧ Own w0 w' (Row 5 1 v' (nb L.length) (vrow (pack L)) :: WrT b L :: l) := by
  obtain ⟨g, hw, k⟩ := h.wr
  refine (bytes_any 0 w b g L hw hl).mono ?_
  rintro e w' ⟨v', rfl, hr, hf, hk⟩
  exact ⟨v', rfl, h.new (Row 5 1 v' (nb L.length) (vrow (pack L))) (fun k => v'.ownBlock = some k) ⟨hr, fun _ => Iff.rfl⟩ hf hk⟩
end Go.Proofs.YtcmofbhfdagpcaaGreatDoor
