/-
  Out of several boxes, some of them nil, things come from the first that has any, till none has: MailFirst returns true, whatever its arguments, and changes nothing that was there.
-/
import Derived.Test.YtijhbgkfffnioaaMh
import Derived.Deep.RegionWith
import Derived.Lib.MinMax
import Derived.ProofKit
import Derived.OpenShut
import Derived.ShutString
import Derived.ChangeOld
namespace Go.Proofs.Ytijhbgkfffnioaa
open Go.ChangeShapes Go.WideShapes Go.ChangeAt Go.RowKit Go.Conc
set_option linter.unusedVariables false

theorem own : ownKnob Try.prog.godebug = none := by kernel_rfl
theorem Try.infoInt : (Try.prog.info? 3).map (fun i => (i.zero, i.size, i.bytes)) = some (some (.int .i64 0), 1, 8) := by kernel_rfl
theorem Try.infoPB : (Try.prog.info? 43).map (fun i => (i.zero, i.size, i.bytes)) = some (some (.pointer none), 1, 8) := by kernel_rfl
/-- a slice of numbers that came in within a slice -/
def SlIs (W : World) (cs : List Value) (q : List Int) : Prop := ∃ ao len cap, cs = [.slice ao len cap] ∧ q.length = len ∧ len ≤ cap ∧ cap ≤ maxLen ∧ Ints .i64 W ao q
theorem cellsSl : Try.prog.cellsOf 52 = 1 := by kernel_rfl
theorem sl_is {H : Type} {enc : TypeId × Value → H} {W : World} (fuel : Nat) (cs : List Value) (x : DataW H × List MemPlace)
    (h : DataW.trod enc Try.prog W 0 (fun _ => true) true fuel 52 cs = some x) : ∃ q, SlIs W cs q := by
  rcases open_ints Try.underlying52 Try.underlying2 (by kernel_rfl) h with ⟨hcs, _⟩ | ⟨a, l, c, zs, hcs, _, hl, hm, hz, _, hcell, hwz⟩
  · exact ⟨[], none, 0, 0, hcs, rfl, Nat.le_refl _, Nat.zero_le _, .inl rfl⟩
  · have hr : IsRow .i64 W (some a) l c zs := .inr ⟨a, rfl, hl, hm, by simpa using hz, hcell, hwz⟩
    exact ⟨zs.take l, some a, l, c, hcs, hr.ints.1, hl, hm, hr.ints.2.2.1⟩
def IsSls (w : World) (ao : Option Addr) (len cap : Nat) (Q : List (List Int)) : Prop := Q.length = len ∧ len ≤ cap ∧ cap ≤ maxLen ∧ RowsAt (SlIs w) 1 w ao Q
set_option maxRecDepth 100000 in
theorem open_ops {H : Type} {enc : TypeId × Value → H} {W : World} {base : Nat} {ao : Option Addr} {len cap : Nat} {d : DataW H} {p : List MemPlace}
    (hv : Value.okWide Try.prog W .any base 62 (.slice ao len cap)) (h : DataW.Trod enc Try.prog W 0 (fun _ => true) true 62 (.slice ao len cap) d p) : ∃ Q, IsSls W ao len cap Q :=
  open_rows 1 Try.underlying62 cellsSl (by decide) (SlIs W) (fun fuel cs x hx => sl_is fuel cs x hx) h
theorem sl_at {W w : World} {ao : Option Addr} {Q : List (List Int)} (h : RowsAt (SlIs W) 1 w ao Q) (k : Nat) (q : List Int) (hk : Q[k]? = some q) : ∃ g o, ao = some ⟨g, o, none⟩ ∧ ∃ a len cap, w.cell? ⟨g, o + k, none⟩ = some (.slice a len cap) ∧ q.length = len ∧ len ≤ cap ∧ cap ≤ maxLen ∧ Ints .i64 W a q := by
  rcases h with h | ⟨g, o, ha, hc⟩
  · subst h; simp at hk
  · obtain ⟨cs, ⟨a, len, cap, h1, h2⟩, _, h3⟩ := hc k q hk
    have := h3 0 (by decide)
    rw [h1] at this
    exact ⟨g, o, ha, a, len, cap, by simpa using this, h2⟩
/-- places, as numbers -/
def irow2 (F : List (Nat × Int)) : List Value := F.map fun p => Value.int .i64 (p.1 : Int)
def prs (k : Nat) (L : List Int) : List (Nat × Int) := L.map fun v => (k, v)
def vals (F : List (Nat × Int)) : List Int := F.map fun p => p.2
theorem irow2_at (F : List (Nat × Int)) (k : Nat) (a : Nat × Int) (h : F[k]? = some a) : (irow2 F)[k]? = some (.int .i64 (a.1 : Int)) := by simp [irow2, h]
theorem vals_at (F : List (Nat × Int)) (k : Nat) (a : Nat × Int) (h : F[k]? = some a) : (lrow (vals F))[k]? = some (.int .i64 a.2) := by simp [lrow, vals, h]

set_option maxHeartbeats 8000000 in
set_option maxRecDepth 100000 in
theorem mailFirst_fr (w : World) (ao1 : Option Addr) (len1 cap1 : Nat) (Z : List (List Int)) (ao2 : Option Addr) (len2 cap2 : Nat) (T : List Bool) (hlc1 : len1 ≤ cap1) (hmax1 : cap1 ≤ maxLen) (hmax2 : len2 ≤ maxLen) (hZl : Z.length = len1) (hZa : RowsAt (SlIs w) 1 w ao1 Z) (hTl : T.length = len2) (hTa : RowsAt BoolIs 1 w ao2 T) :
    Calls Try.prog 5 #[.slice ao1 len1 cap1, .slice ao2 len2 cap2] w fun e w' => e = .returned (.bool true) ∧ Fr Nobody w w' := by
  unfold maxLen at hmax1 hmax2
  obtain ⟨i0, hi, hz0, hz1, hz2⟩ := info_parts Try.infoI64
  obtain ⟨i1, hi1, hy0, hy1, hy2⟩ := info_parts Try.infoInt
  obtain ⟨i2, hi2, hx0, hx1, hx2⟩ := info_parts Try.infoPB
  obtain ⟨n, hn⟩ : ∃ n, n = min len1 10 := ⟨_, rfl⟩
  have hmin : min (len1 : Int) 10 = (n : Int) := by omega
  have hn1 : n ≤ 10 := by omega
  have hn2 : n ≤ len1 := by omega
  have HZ : Hid (Z.length = len1 ∧ RowsAt (SlIs w) 1 w ao1 Z ∧ T.length = len2 ∧ RowsAt BoolIs 1 w ao2 T) := ⟨hZl, hZa, hTl, hTa⟩
  clear hZl hZa hTl hTa hn
  go_enter Try.func5, Try.ntmps5
  go_wp2_with fail
  refine (awake9 w w [] (Own.start _)).mono ?_
  rintro e w1 ⟨rfl, hO⟩
  have H1 : Hid (Own w w1 [Row 2 1 (.slice none 0 0) 0 [], Row 3 1 (.slice none 0 0) 0 [], Row 43 1 (.slice none 0 0) 0 []]) := ((hO.nilRow 43 1).nilRow 3 1).nilRow 2 1
  clear hO
  go_wp2_with fail
  go_loopw [5, 6, 7, 31] (fun bv wv av c wr => ∃ k : Nat, k ≤ n ∧ c = .int .i64 k ∧ ∃ E : List Eb, E.length = k ∧ (∀ e ∈ E, okE e) ∧ (flatF 0 E).length ≤ 20 * k ∧ ∃ m, (flatF 0 E).length = m ∧ ∃ ab cb, bv = .slice ab k cb ∧ ∃ aw cw, wv = .slice aw m cw ∧ ∃ aa ca, av = .slice aa m ca ∧
      Own w wr (Row 2 1 (.slice aw m cw) m (lrow (vals (flatF 0 E))) :: Row 3 1 (.slice aa m ca) m (irow2 (flatF 0 E)) :: Row 43 1 (.slice ab k cb) k (prow E) :: things E)) (fun _ _ _ c _ => n - (intOf c).toNat)
  case atStart => exact ⟨0, Nat.zero_le _, rfl, [], rfl, fun e he => by simp at he, by simp [flatF], 0, rfl, none, 0, rfl, none, 0, rfl, none, 0, rfl, H1.out⟩
  case round =>
    obtain ⟨k, hk, rfl, E, hEk, hok, hF, m, hm, ab, cb, rfl, aw, cw, rfl, aa, ca, rfl, hO⟩ := hrel
    have HE : Hid (E.length = k ∧ (∀ e ∈ E, okE e) ∧ (flatF 0 E).length = m) := ⟨hEk, hok, hm⟩
    have hm2 : m ≤ 20 * k := by omega
    have HO : Hid (Own w wr (Row 2 1 (.slice aw m cw) m (lrow (vals (flatF 0 E))) :: Row 3 1 (.slice aa m ca) m (irow2 (flatF 0 E)) :: Row 43 1 (.slice ab k cb) k (prow E) :: things E)) := hO
    clear hEk hok hF hm hO H1
    by_cases hlt : k < n
    · obtain ⟨q, hq⟩ : ∃ q, Z[k]? = some q := ⟨_, List.getElem?_eq_getElem (by rw [HZ.out.1]; omega)⟩
      obtain ⟨g, o0, hao, ax, lx, cx, c0, hql, hlx, hcx, hqi⟩ := sl_at (HZ.out.2.1.quiet HO.out.fr) k q hq
      subst hao
      have hlt' : (k : Int) < (n : Int) := by omega
      unfold maxLen at hcx
      obtain ⟨nx, hnx⟩ : ∃ nx, nx = min lx 20 := ⟨_, rfl⟩
      have hminx : min (lx : Int) 20 = (nx : Int) := by omega
      have hnx1 : nx ≤ 20 := by omega
      have hnx2 : nx ≤ lx := by omega
      obtain ⟨X, hX⟩ : ∃ X, X = q.take nx := ⟨_, rfl⟩
      have HX : Hid (X.length = nx ∧ Ints .i64 w ax X) := by
        refine ⟨by rw [hX, List.length_take]; omega, ?_⟩
        rw [hX]
        rcases hqi with h | ⟨g, o, ha, hc⟩
        · exact .inl (by rw [h]; simp)
        · refine .inr ⟨g, o, ha, fun j x hx => hc j x ?_⟩
          rw [List.getElem?_take] at hx
          split at hx
          · exact hx
          · cases hx
      clear hq hql hqi hX hnx
      have hgap : (∃ g2 o2, ao2 = some ⟨g2, o2, none⟩ ∧ k < len2 ∧ wr.cell? ⟨g2, o2 + k, none⟩ = some (.bool true)) ∨ (∃ g2 o2, ao2 = some ⟨g2, o2, none⟩ ∧ k < len2 ∧ wr.cell? ⟨g2, o2 + k, none⟩ = some (.bool false)) ∨ ¬ k < len2 := by
        by_cases hk2 : k < len2
        · obtain ⟨tb, htb⟩ : ∃ tb, T[k]? = some tb := ⟨_, List.getElem?_eq_getElem (by rw [HZ.out.2.2.1]; exact hk2)⟩
          obtain ⟨g2, o2, hao2, ct⟩ := bool_at (HZ.out.2.2.2.quiet HO.out.fr) k tb htb
          cases tb
          · exact .inr (.inl ⟨g2, o2, hao2, hk2, ct⟩)
          · exact .inl ⟨g2, o2, hao2, hk2, ct⟩
        · exact .inr (.inr hk2)
      rcases hgap with ⟨g2, o2, rfl, hk2, ct⟩ | hgap
      · have hk2' : (k : Int) < (len2 : Int) := by omega
        have HF1 : Hid (flatF 0 (E ++ [(none, [])]) = flatF 0 E) := by show _ = _; rw [flatF_snoc]; simp
        go_wp2_with (at_builtin; refine append1_own rfl _ _ 64 rfl 43 i2 (.pointer none) 1 8 Try.underlying64 hi2 hx0 hx1 hx2 rfl (by decide) _ _ _ rfl HO.out.three _ #[.pointer none] (by simp) rfl rfl (one_ptr _) (by unfold maxLen; omega) (by omega) ?_)
        intro g4 c4 w4 hO4 hsz4
        have H4 : Hid (Own w w4 (Row 2 1 (.slice aw m cw) m (lrow (vals (flatF 0 E))) :: Row 3 1 (.slice aa m ca) m (irow2 (flatF 0 E)) :: Row 43 1 (.slice (some ⟨g4, 0, none⟩) (k + 1) c4) (k + 1) (prow (E ++ [(none, [])])) :: things (E ++ [(none, [])]))) := by
          have h1 := Own.sink (P := Emp) (l := Row 43 1 (.slice (some ⟨g4, 0, none⟩) (k + 1) c4) (k + 1) (prow E ++ [.pointer none]) :: Row 2 1 (.slice aw m cw) m (lrow (vals (flatF 0 E))) :: Row 3 1 (.slice aa m ca) m (irow2 (flatF 0 E)) :: things E) (m := []) (by rw [List.append_nil]; exact hO4.emp)
          have h2 := Own.back3 h1
          show Own _ _ _
          simpa [prow, things, pval, bxE] using h2
        have HK : Hid ((E ++ [((none : Option Nat), ([] : List Int))]).length = k + 1 ∧ ∀ e ∈ E ++ [((none : Option Nat), ([] : List Int))], okE e) := ⟨by rw [List.length_append, HE.out.1]; rfl, fun e he => by
          rcases List.mem_append.1 he with h | h
          · exact HE.out.2.1 e h
          · simp at h; subst h; exact fun _ => rfl⟩
        clear hO4 HO hsz4 ct c0
        go_wp2
        go_roundw
        case rel => exact ⟨k + 1, by omega, by go_num, E ++ [(none, [])], HK.out.1, HK.out.2, by rw [HF1.out, HE.out.2.2]; omega, m, by rw [HF1.out]; exact HE.out.2.2, _, _, rfl, _, _, rfl, _, _, rfl, by rw [HF1.out]; exact H4.out⟩
        case measure => simp [intOf]; omega
      · rcases hgap with ⟨g2, o2, rfl, hk2, ct⟩ | hk2
        all_goals
          first | (have hk2' : (k : Int) < (len2 : Int) := by omega) | (have hk2' : ¬ (k : Int) < (len2 : Int) := by omega)
          go_wp2_with fail
          refine (mnew w wr _ 20 HO.out (by decide) (by decide)).mono ?_
          rintro e w4 ⟨b, rfl, hO4⟩
          have H4 : Hid (Own w w4 (Row 2 1 (.slice aw m cw) m (lrow (vals (flatF 0 E))) :: Row 3 1 (.slice aa m ca) m (irow2 (flatF 0 E)) :: Bx b 20 [] :: Row 43 1 (.slice ab k cb) k (prow E) :: things E)) := hO4.back3
          clear hO4 HO c0
          go_wp2_with fail
          go_loopw [6, 7, 62] (fun wv av c2 wr2 => ∃ j : Nat, j ≤ nx ∧ c2 = .int .i64 j ∧ ∃ aw' cw' aa' ca', wv = .slice aw' (m + j) cw' ∧ av = .slice aa' (m + j) ca' ∧ Own w wr2 (Row 2 1 (.slice aw' (m + j) cw') (m + j) (lrow (vals (flatF 0 E ++ prs k (X.take j)))) :: Row 3 1 (.slice aa' (m + j) ca') (m + j) (irow2 (flatF 0 E ++ prs k (X.take j))) :: Bx b 20 (X.take j) :: Row 43 1 (.slice ab k cb) k (prow E) :: things E)) (fun _ _ c2 _ => nx - (intOf c2).toNat)
          case atStart => exact ⟨0, Nat.zero_le _, rfl, _, _, _, _, rfl, rfl, by simpa [prs] using H4.out⟩
          case round =>
            obtain ⟨j, hj, rfl, aw', cw', aa', ca', rfl, rfl, hO5⟩ := hrel
            have H5 : Hid (Own w _ (Row 2 1 (.slice aw' (m + j) cw') (m + j) (lrow (vals (flatF 0 E ++ prs k (X.take j)))) :: Row 3 1 (.slice aa' (m + j) ca') (m + j) (irow2 (flatF 0 E ++ prs k (X.take j))) :: Bx b 20 (X.take j) :: Row 43 1 (.slice ab k cb) k (prow E) :: things E)) := hO5
            clear hO5 H4
            by_cases hjx : j < nx
            · obtain ⟨x, hx⟩ : ∃ x, X[j]? = some x := ⟨_, List.getElem?_eq_getElem (by rw [HX.out.1]; exact hjx)⟩
              obtain ⟨gx, ox, hax, cxx⟩ := int_at (HX.out.2.quiet H5.out.fr) j x hx
              subst hax
              have hjx' : (j : Int) < (nx : Int) := by omega
              have HXT : Hid (X.take (j + 1) = X.take j ++ [x]) := by show _ = _; rw [List.take_add_one, hx]; rfl
              have HLT : Hid ((X.take j).length < 20) := by show _ < _; rw [List.length_take]; omega
              clear hx
              go_wp2_with fail
              refine (mput_room w _ _ b 20 (X.take j) x H5.out.three HLT.out).mono ?_
              rintro e w6 ⟨rfl, hO6⟩
              have H6 : Hid (Own w w6 (Bx b 20 (X.take (j + 1)) :: Row 2 1 (.slice aw' (m + j) cw') (m + j) (lrow (vals (flatF 0 E ++ prs k (X.take j)))) :: Row 3 1 (.slice aa' (m + j) ca') (m + j) (irow2 (flatF 0 E ++ prs k (X.take j))) :: Row 43 1 (.slice ab k cb) k (prow E) :: things E)) := by
                show Own _ _ _
                rw [HXT.out]; exact hO6
              clear hO6 H5 cxx
              go_wp2_with (at_builtin; refine append1_own rfl _ _ 52 rfl 2 i0 (.int .i64 0) 1 8 Try.underlying52 hi hz0 hz1 hz2 rfl (by decide) _ _ _ rfl H6.out.two _ #[.int .i64 x] (by simp) rfl rfl (one_int _ _) (by unfold maxLen; omega) (by omega) ?_)
              intro g7 c7 w7 hO7 hsz7
              have H7 : Hid (Own w w7 (Row 2 1 (.slice (some ⟨g7, 0, none⟩) (m + j + 1) c7) (m + j + 1) (lrow (vals (flatF 0 E ++ prs k (X.take (j + 1))))) :: Bx b 20 (X.take (j + 1)) :: Row 3 1 (.slice aa' (m + j) ca') (m + j) (irow2 (flatF 0 E ++ prs k (X.take j))) :: Row 43 1 (.slice ab k cb) k (prow E) :: things E)) := by
                show Own _ _ _
                have e1 : lrow (vals (flatF 0 E ++ prs k (X.take (j + 1)))) = lrow (vals (flatF 0 E ++ prs k (X.take j))) ++ [.int .i64 x] := by rw [HXT.out]; simp [lrow, vals, prs]
                rw [e1]; exact hO7
              clear hO7 H6 hsz7
              go_wp2_with (at_builtin; refine append1_own rfl _ _ 65 rfl 3 i1 (.int .i64 0) 1 8 Try.underlying65 hi1 hy0 hy1 hy2 rfl (by decide) _ _ _ rfl H7.out.three _ #[.int .i64 (k : Int)] (by simp) rfl rfl (one_int _ _) (by unfold maxLen; omega) (by omega) ?_)
              intro g8 c8 w8 hO8 hsz8
              have H8 : Hid (Own w w8 (Row 2 1 (.slice (some ⟨g7, 0, none⟩) (m + j + 1) c7) (m + j + 1) (lrow (vals (flatF 0 E ++ prs k (X.take (j + 1))))) :: Row 3 1 (.slice (some ⟨g8, 0, none⟩) (m + j + 1) c8) (m + j + 1) (irow2 (flatF 0 E ++ prs k (X.take (j + 1)))) :: Bx b 20 (X.take (j + 1)) :: Row 43 1 (.slice ab k cb) k (prow E) :: things E)) := by
                show Own _ _ _
                have e1 : irow2 (flatF 0 E ++ prs k (X.take (j + 1))) = irow2 (flatF 0 E ++ prs k (X.take j)) ++ [.int .i64 (k : Int)] := by rw [HXT.out]; simp [irow2, prs]
                rw [e1]; exact hO8.two
              clear hO8 H7 hsz8
              go_wp2
              go_roundw
              case rel => exact ⟨j + 1, by omega, by go_num, _, _, _, _, rfl, rfl, H8.out⟩
              case measure => simp [intOf]; omega
            · have hjn : j = nx := by omega
              subst hjn
              have hjx' : ¬ (j : Int) < (j : Int) := by omega
              have HXX : Hid (X.take j = X) := List.take_of_length_le (by rw [HX.out.1]; exact Nat.le_refl _)
              have HFE : Hid (flatF 0 (E ++ [(some b, X)]) = flatF 0 E ++ prs k X) := by show _ = _; rw [flatF_snoc, HE.out.1, Nat.zero_add]; rfl
              go_wp2_with (at_builtin; refine append1_own rfl _ _ 64 rfl 43 i2 (.pointer none) 1 8 Try.underlying64 hi2 hx0 hx1 hx2 rfl (by decide) _ _ _ rfl H5.out.four _ #[.pointer (some ⟨b, 0, none⟩)] (by simp) rfl rfl (one_ptr _) (by unfold maxLen; omega) (by omega) ?_)
              intro g9 c9 w9 hO9 hsz9
              have H9 : Hid (Own w w9 (Row 2 1 (.slice aw' (m + j) cw') (m + j) (lrow (vals (flatF 0 (E ++ [(some b, X)])))) :: Row 3 1 (.slice aa' (m + j) ca') (m + j) (irow2 (flatF 0 (E ++ [(some b, X)]))) :: Row 43 1 (.slice (some ⟨g9, 0, none⟩) (k + 1) c9) (k + 1) (prow (E ++ [(some b, X)])) :: things (E ++ [(some b, X)]))) := by
                show Own _ _ _
                have h0 := hO9.four
                rw [HXX.out] at h0
                rw [HFE.out]
                have h1 := Own.sink (P := Bx b 20 X) (l := Row 43 1 (.slice (some ⟨g9, 0, none⟩) (k + 1) c9) (k + 1) (prow E ++ [.pointer (some ⟨b, 0, none⟩)]) :: Row 2 1 (.slice aw' (m + j) cw') (m + j) (lrow (vals (flatF 0 E ++ prs k X))) :: Row 3 1 (.slice aa' (m + j) ca') (m + j) (irow2 (flatF 0 E ++ prs k X)) :: things E) (m := []) (by rw [List.append_nil]; exact h0)
                have h2 := Own.back3 h1
                simpa [prow, things, pval, bxE] using h2
              have HK : Hid ((E ++ [(some b, X)]).length = k + 1 ∧ (∀ e ∈ E ++ [(some b, X)], okE e) ∧ (flatF 0 (E ++ [(some b, X)])).length = m + j) := ⟨by rw [List.length_append, HE.out.1]; rfl, fun e he => by
                rcases List.mem_append.1 he with h | h
                · exact HE.out.2.1 e h
                · simp at h; subst h; exact (fun q => by cases q), by rw [HFE.out, List.length_append, HE.out.2.2, prs, List.length_map, HX.out.1]⟩
              clear hO9 H5 hsz9
              go_wp2
              go_roundw
              case rel => exact ⟨k + 1, by omega, by go_num, E ++ [(some b, X)], HK.out.1, HK.out.2.1, by rw [HK.out.2.2]; omega, m + j, HK.out.2.2, _, _, rfl, _, _, rfl, _, _, rfl, H9.out⟩
              case measure => simp [intOf]; omega
    · have hkn : k = n := by omega
      subst hkn
      have hlt' : ¬ (k : Int) < (k : Int) := by omega
      obtain ⟨F, hF⟩ : ∃ F, F = flatF 0 E := ⟨_, rfl⟩
      obtain ⟨R, hR⟩ : ∃ R, R = prow E := ⟨_, rfl⟩
      have HF : Hid (F.length = m ∧ F = flatF 0 E ∧ R = prow E) := ⟨by rw [hF]; exact HE.out.2.2, hF, hR⟩
      have H2 : Hid (Own w wr (Row 43 1 (.slice ab k cb) k R :: (things E ++ [Row 2 1 (.slice aw m cw) m (lrow (vals F)), Row 3 1 (.slice aa m ca) m (irow2 F)]))) := by
        rw [hF, hR]
        exact Own.turn (A := [Row 2 1 (.slice aw m cw) m (lrow (vals (flatF 0 E))), Row 3 1 (.slice aa m ca) m (irow2 (flatF 0 E))]) HO.out.three
      clear HO hF hR
      go_wp2
      go_loopw [86] (fun c2 wr2 => ∃ i : Nat, i ≤ m ∧ c2 = .int .i64 i ∧ ∃ E' : List Eb, E'.length = k ∧ (∀ e ∈ E', okE e) ∧ prow E' = R ∧ flatF 0 E' = F.drop i ∧ Own w wr2 (Row 43 1 (.slice ab k cb) k R :: (things E' ++ [Row 2 1 (.slice aw m cw) m (lrow (vals F)), Row 3 1 (.slice aa m ca) m (irow2 F)]))) (fun c2 _ => m - (intOf c2).toNat)
      case atStart => exact ⟨0, Nat.zero_le _, rfl, E, HE.out.1, HE.out.2.1, HF.out.2.2.symm, by rw [HF.out.2.1]; rfl, H2.out⟩
      case round =>
        obtain ⟨i, hi', rfl, E', e1, e2, e3, e4, hO5⟩ := hrel
        have H5 : Hid (Own w _ (Row 43 1 (.slice ab k cb) k R :: (things E' ++ [Row 2 1 (.slice aw m cw) m (lrow (vals F)), Row 3 1 (.slice aa m ca) m (irow2 F)]))) := hO5
        have HE' : Hid (E'.length = k ∧ (∀ e ∈ E', okE e) ∧ prow E' = R ∧ flatF 0 E' = F.drop i) := ⟨e1, e2, e3, e4⟩
        clear H2 e1 e2 e3 e4
        by_cases him : i < m
        · obtain ⟨a, ha⟩ : ∃ a, F[i]? = some a := ⟨_, List.getElem?_eq_getElem (by rw [HF.out.1]; exact him)⟩
          have hdr : flatF 0 E' = a :: F.drop (i + 1) := by
            have hh := List.getElem?_eq_some_iff.1 ha
            rw [HE'.out.2.2.2, List.drop_eq_getElem_cons hh.1, hh.2]
          obtain ⟨j, p, v, M, f1, f2, f3, f4⟩ := flatF_cons hdr
          rw [Nat.zero_add] at f2
          subst f2
          have hW := (Own.turn hO5).two
          obtain ⟨gw, cw2, hvw, _⟩ := row_shape hW.row (by omega)
          have hgw := (Value.slice.inj hvw).1
          have hA := (Own.turn hO5).three
          obtain ⟨ga, ca2, hva, _⟩ := row_shape hA.row (by omega)
          have hga := (Value.slice.inj hva).1
          subst hgw hga
          have dw := hW.row.cellAt i (by omega)
          rw [vals_at F i _ ha] at dw
          have HA : Hid ((irow2 F)[i]? = some (.int .i64 (j : Int))) := irow2_at F i _ ha
          have him' : (i : Int) < (m : Int) := by omega
          have HC : Hid (Calls _ _ _ _ _) := first_at w _ _ _ k cb E' HE'.out.1 (by omega) HE'.out.2.1 j p v M f1 f3 (by rw [HE'.out.2.2.1]; exact hO5)
          have hjk : j < k := by rw [← HE'.out.1]; exact (List.getElem?_eq_some_iff.1 f1).1
          have HN : Hid ((E'.set j (p, M)).length = k ∧ (∀ e ∈ E'.set j (p, M), okE e) ∧ prow (E'.set j (p, M)) = R ∧ flatF 0 (E'.set j (p, M)) = F.drop (i + 1)) := by
            refine ⟨by rw [List.length_set]; exact HE'.out.1, fun e he => ?_, by rw [prow_set E' j p _ M f1]; exact HE'.out.2.2.1, f4⟩
            rcases List.mem_or_eq_of_mem_set he with h | h
            · exact HE'.out.2.1 e h
            · subst h
              intro hp
              have := HE'.out.2.1 _ (List.mem_of_getElem? f1) hp
              cases this
          clear hdr f1 f3 f4 ha hW hA hvw hva hO5
          have hvv : (v != v) = false := by simp
          have hjj : ((j : Int) != (j : Int)) = false := by simp
          go_wp2_with fail
          refine HC.out.mono ?_
          rintro e w6 ⟨rfl, hO6⟩
          have da := (Own.turn hO6).three.row.cellAt i (by omega)
          rw [HA.out] at da
          have H6 : Hid (Own w w6 (Row 43 1 (.slice ab k cb) k R :: (things (E'.set j (p, M)) ++ [Row 2 1 (.slice (some ⟨gw, 0, none⟩) m cw) m (lrow (vals F)), Row 3 1 (.slice (some ⟨ga, 0, none⟩) m ca) m (irow2 F)]))) := by
            rw [HE'.out.2.2.1] at hO6; exact hO6
          clear hO6 H5 HC dw
          go_wp2
          go_roundw
          case rel => exact ⟨i + 1, by omega, by go_num, E'.set j (p, M), HN.out.1, HN.out.2.1, HN.out.2.2.1, HN.out.2.2.2, H6.out⟩
          case measure => simp [intOf]; omega
        · have him' : ¬ (i : Int) < (m : Int) := by omega
          have hnil : flatF 0 E' = [] := by rw [HE'.out.2.2.2]; exact List.drop_eq_nil_of_le (by rw [HF.out.1]; omega)
          have HC : Hid (Calls _ _ _ _ _) := first_no w _ _ _ k cb E' HE'.out.1 (by omega) (flatF_nil hnil) (by rw [HE'.out.2.2.1]; exact hO5)
          clear hnil hO5
          go_wp2_with fail
          refine HC.out.mono ?_
          rintro e w6 ⟨rfl, hO6⟩
          have H6 : Hid (Fr Nobody w w6) := hO6.fr
          clear hO6 HC
          go_wp2
          go_ret
          exact ⟨rfl, H6.out⟩

theorem mailFirst_walk (w : World) (a1 : Option Addr) (len1 cap1 : Nat) (z1 : List (List Int)) (w1 : IsSls w a1 len1 cap1 z1) (a2 : Option Addr) (len2 cap2 : Nat) (z2 : List Bool) (w2 : IsBools w a2 len2 cap2 z2) :
    Calls Try.prog 5 #[.slice a1 len1 cap1, .slice a2 len2 cap2] w fun e w' => e = .returned (.bool true) ∧ Below w.heap.size w w' := by
  obtain ⟨h1, h2, h3, h4⟩ := w1
  obtain ⟨t1, t2, t3, t4⟩ := w2
  exact (mailFirst_fr w a1 len1 cap1 _ a2 len2 cap2 z2 h2 h3 (by omega) h1 h4 t1 t4).mono fun e w' ⟨h, f⟩ => ⟨h, f.below (Nat.le_refl _) (fun _ _ h => h)⟩
theorem laidOut : laidOutB Try.prog = true := by kernel_rfl

set_option maxRecDepth 100000 in
theorem mailFirst_lifted (os : Os) (started : os.Started) (H : Type) (enc : TypeId × Value → H) :
    ReturnsInHanded {} Try.checked os 5 .any (Rows.mailFirstSpec.pre6 enc Try.prog Try.f5 Rows.mailFirstRow.domain false) (Rows.mailFirstSpec.post enc Try.prog Try.f5 false true false false) := by
  refine returnsInHanded_of_change (C := Try.checked) own started (by kernel_rfl) Try.func5
    (ChangeSpec.witness6 (enc := enc) (C := Try.checked) false ⟨#[], #[.slice none 0 0, .slice none 0 0], []⟩ 8 (by kernel_rfl) (by kernel_rfl) (by kernel_rfl) (by kernel_rfl)) ?_
  intro W base args ds gs before hval0 hW hcnd _
  have hval : ∀ (j : Nat) t v, Try.f5.params[j]? = some t → args[j]? = some v → Value.okWide Try.prog W .any base t v := hval0
  have hW' := hW
  obtain ⟨p, q, hA0, hV, rfl, hfz, hnd⟩ := hW
  have hA : DataW.TrodAll enc Try.prog W 0 (fun _ => true) true Try.f5.params.toList args.toList ds p := hA0
  rw [Try.params5] at hA hval
  obtain ⟨v0, vs0, d0, ds0, p0, q0, hargs, rfl, rfl, h0, r0⟩ := trodAll_cons hA
  obtain ⟨v1, vs1, d1, ds1, p1, q1, rfl, rfl, rfl, h1, r1⟩ := trodAll_cons r0
  obtain ⟨rfl, rfl, rfl⟩ := trodAll_nil r1
  obtain rfl : args = #[v0, v1] := by cases args; simp_all
  obtain ⟨rfl, rfl⟩ := trodVars_none hV
  obtain ⟨a0, len0, cap0, rfl⟩ := okWide_slice Try.underlying62 (hval 0 62 v0 rfl rfl)
  have k0 := h0
  have lt0 : ∀ x ∈ p0, x.block < W.heap.size := by obtain ⟨m, hm⟩ := k0; exact DataW.trod_lt m _ _ _ hm
  obtain ⟨z0, w0⟩ := open_ops (hval 0 62 _ rfl rfl) h0
  obtain ⟨a1, len1, cap1, rfl⟩ := okWide_slice Try.underlying63 (hval 1 63 v1 rfl rfl)
  have k1 := h1
  have lt1 : ∀ x ∈ p1, x.block < W.heap.size := by obtain ⟨m, hm⟩ := k1; exact DataW.trod_lt m _ _ _ hm
  obtain ⟨z1, w1⟩ := open_bools (hval 1 63 _ rfl rfl) h1
  clear hA0 hval0
  refine (mailFirst_walk W a0 len0 cap0 z0 w0 a1 len1 cap1 z1 w1).mono fun e W' ⟨he, bel⟩ => ?_
  subst he
  exact ⟨_, rfl, _, _, _, [], _, [], hW', trodAll_mk1 (shut_bool Try.underlying4 _), (trodAll_cons_mk (Below.trod laidOut (by kernel_rfl) (of_decide_eq_true (by kernel_rfl)) k0 bel lt0) (trodAll_cons_mk (Below.trod laidOut (by kernel_rfl) (of_decide_eq_true (by kernel_rfl)) k1 bel lt1) trodAll_mk0)), rfl, bel.frame _, fun h => by cases h⟩

theorem mailFirst_holds : Rows.MailFirstSaid :=
  OpenClaim.holds_of_wide 5 Try.f5 rfl rfl rfl rfl rfl rfl rfl ⟨rfl, rfl, rfl, rfl, rfl⟩ rfl rfl rfl rfl rfl (by kernel_rfl) Try.func5 (by kernel_rfl)
    (of_decide_eq_true (by kernel_rfl)) (by unfold Func.isWrapper; first | (rw [if_pos (by decide +kernel)]; kernel_rfl) | (rw [if_neg (by decide +kernel)]; exact ⟨rfl, rfl⟩))
    (fun os started H enc _ => mailFirst_lifted os started H enc)

end Go.Proofs.Ytijhbgkfffnioaa
