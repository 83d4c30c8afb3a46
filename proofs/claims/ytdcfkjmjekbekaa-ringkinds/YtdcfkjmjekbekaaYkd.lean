/-
  Package ring at pairs: New, Put.
-/
import Derived.Test.YtdcfkjmjekbekaaYke
import Derived.Deep.AppendLies
import Derived.Laws.ResultCell
namespace Go.Proofs.Ytdcfkjmjekbekaa
open Go.RowKit
set_option linter.unusedVariables false

theorem run1_own {P : Program} {w0 w : World} {l : List Thing} (t ty e : TypeId) (i : TypeInfo) (z : Value) (size bytes : Nat) (ht : P.underlying t = some (.slice e)) (hi : P.info? e = some i) (hz : i.zero = some z)
    (hsize : i.size = size) (hby : i.bytes = bytes) (hzs : z.cells.size = size) (hsz : 0 < size) (v : Value) (n : Nat) (xs : List Value) (h : Own w0 w (Row e size v n xs :: l)) (cs : Array Value) (hl : cs.size = size) (h1 : ∀ u ∈ cs.toList, u.oneCell' = true) (h63 : n + 1 ≤ maxLen) (hbytes : (n + 1) * bytes ≤ 140737488355328) :
    ∃ g cap w', (Builtin.append_ #[t, t] ty #[v, .slice (some ⟨w.heap.size, 0, none⟩) 1 1]).run P (w.alloc (.cells cs e)) = .ok (.slice (some ⟨g, 0, none⟩) (n + 1) cap) w' ∧ Own w0 w' (Row e size (.slice (some ⟨g, 0, none⟩) (n + 1) cap) (n + 1) (xs ++ cs.toList) :: l) := by
  have h' := h.alloc (.cells cs e)
  obtain ⟨g, cap, w', hr, ho, hg, hat, hlt⟩ := run_append_lies (P := P) (w := w.alloc (.cells cs e)) t ty 0 e i z size bytes ht hi hz hsize hby hzs hsz v n xs h'.row ⟨w.heap.size, 0, none⟩ 1 1 cs.toList (by simp [hl]) (cells_new w cs e _ rfl) h1 (by decide) h63 hbytes (Nat.zero_le _) _ rfl
  refine ⟨g, cap, w', hr, h'.grow ho hg (fun k hk => ?_)⟩
  have hk' : k = g := by simp [Value.ownBlock] at hk; exact hk.symm
  subst hk'
  rcases hat with q | q
  · exact .inl q
  · exact .inr (by rw [q]; exact Nat.le_refl _)
def eld (e : Nat × (Int × Bool)) : List Value := [.int .u32 (e.1 : Int), .int .i32 e.2.1, .bool e.2.2]
theorem eld_len (e : Nat × (Int × Bool)) : (eld e).length = 3 := rfl
theorem eld_one (e : Nat × (Int × Bool)) : ∀ u ∈ eld e, u.oneCell' = true := by
  intro u hu
  simp [eld] at hu
  rcases hu with rfl | rfl | rfl <;> rfl
theorem Try.infoHd : (Try.prog.info? 55).map (fun i => (i.zero, i.size, i.bytes)) = some (some (.agg #[.int .u32 0, .int .i32 0, .bool false]), 3, 12) := by kernel_rfl
/-- a ring at block b -/
def Ringd (b k : Nat) (L : List (Nat × (Int × Bool))) : Thing := Ex (fun v : Value => [Cells b #[.int .i64 (k : Int), v] 50, Row 55 3 v L.length (cat eld L)])

set_option maxHeartbeats 400000 in
theorem newd (w0 w : World) (l : List Thing) (k : Nat) (h : Own w0 w l) (h1 : 1 ≤ k) (h2 : k ≤ 64) :
    Calls Try.prog 5 #[.int .i64 (k : Int)] w fun e w' => ∃ b, e = .returned (.tuple #[.pointer (some ⟨b, 0, none⟩), .int .i64 0]) ∧ Own w0 w' (Ringd b k [] :: l) := by
  have H : Hid (Own w0 w l) := h
  clear h
  go_enter Try.func5, Try.ntmps5
  go_wp2
  go_ret2
  refine ⟨_, rfl, Own.ex_iff.2 ⟨.slice none 0 0, ?_⟩⟩
  exact ((H.out.allocC #[.int .i64 (k : Int), .slice none 0 0] 50).nilRow 55 3).two
set_option maxHeartbeats 400000 in
theorem newnod (w : World) (k : Int) (h : k < 1 ∨ 64 < k) : Calls Try.prog 5 #[.int .i64 k] w fun e w' => e = .returned (.tuple #[.pointer none, .int .i64 1]) ∧ w' = w := by
  by_cases c : k < 1
  · go_enter Try.func5, Try.ntmps5
    go_wp2
    go_ret2
    exact ⟨rfl, rfl⟩
  · have c2 : 64 < k := by omega
    go_enter Try.func5, Try.ntmps5
    go_wp2
    go_ret2
    exact ⟨rfl, rfl⟩

theorem rcelld {w0 w : World} {l : List Thing} {g n cap : Nat} {L : List (Nat × (Int × Bool))} (h : Own w0 w (Row 55 3 (.slice (some ⟨g, 0, none⟩) n cap) L.length (cat eld L) :: l)) (hn : n = L.length) (i : Nat) (e : Nat × (Int × Bool)) (he : L[i]? = some e) :
    w.cell? ⟨g, i * 3, none⟩ = some (.int .u32 (e.1 : Int)) ∧ w.cell? ⟨g, i * 3 + 1, none⟩ = some (.int .i32 e.2.1) ∧ w.cell? ⟨g, i * 3 + 2, none⟩ = some (.bool e.2.2) := by
  subst hn
  have hi := (List.getElem?_eq_some_iff.1 he).1
  refine ⟨?_, ?_, ?_⟩
  · rw [h.row.cellAt _ (by omega)]
    exact (cat_at eld 3 eld_len L i 0 e he (by decide)).trans rfl
  · rw [h.row.cellAt _ (by omega)]
    exact (cat_at eld 3 eld_len L i 1 e he (by decide)).trans rfl
  · rw [h.row.cellAt _ (by omega)]
    exact (cat_at eld 3 eld_len L i 2 e he (by decide)).trans rfl

set_option maxHeartbeats 1000000 in
set_option maxRecDepth 100000 in
theorem putd (w0 w : World) (l : List Thing) (b k : Nat) (L : List (Nat × (Int × Bool))) (t : Nat) (x : (Int × Bool)) (h : Own w0 w (Ringd b k L :: l)) (hR : ROk k L) (ht : t < 4294967296) (hroom : L.length < k) :
    Calls Try.prog 7 #[.pointer (some ⟨b, 0, none⟩), .int .u32 (t : Int), (.agg #[.int .i32 x.1, .bool x.2])] w fun e w' => e = .returned (.int .i64 (rput k L t x).1) ∧ Own w0 w' (Ringd b k (rput k L t x).2 :: l) := by
  have hbw : b < w.heap.size := by
    obtain ⟨v, h⟩ := Own.ex_iff.1 h
    exact h.lt
  have hbn : b ≠ w.heap.size := by omega
  have hbn' : w.heap.size ≠ b := by omega
  have hbn1 : b ≠ w.heap.size + 1 := by omega
  have hbn2 : w.heap.size + 1 ≠ b := by omega
  have hbw1 : b < w.heap.size + 1 := by omega
  have hP := h.allocC #[.int .i32 x.1, .bool x.2] 30
  have p0 := hP.cell 0
  have p1 := hP.cell 1
  simp at p0 p1
  have p0f := hP.froz 0
  replace h := hP.two
  clear hP
  have H0 : Hid (Own w0 (w.alloc (.cells #[.int .i32 x.1, .bool x.2] 30)) (Ringd b k L :: Cells w.heap.size #[.int .i32 x.1, .bool x.2] 30 :: l)) := h
  obtain ⟨v, h⟩ := Own.ex_iff.1 h
  have q0 := h.cell 0
  have q1 := h.cell 1
  simp at q0 q1
  obtain ⟨ao, cap, rfl⟩ := row_any h.two.row
  have hk := hR.k2
  have hle := hR.le
  obtain ⟨i0, hi, hz0, hz1, hz2⟩ := info_parts Try.infoHd
  have H : Hid (Own w0 (w.alloc (.cells #[.int .i32 x.1, .bool x.2] 30)) (Cells b #[.int .i64 (k : Int), .slice ao L.length cap] 50 :: Row 55 3 (.slice ao L.length cap) L.length (cat eld L) :: Cells w.heap.size #[.int .i32 x.1, .bool x.2] 30 :: l)) := h
  have HR : Hid (ROk k L) := hR
  clear h hR
  by_cases hst : ∃ e, L.getLast? = some e ∧ t ≤ e.1
  · have HP : Hid (rput k L t x = (12, L)) := by unfold rput; exact if_pos hst
    obtain ⟨e, he, hte⟩ := hst
    have hlen : 0 < L.length := by
      cases L with
      | nil => simp at he
      | cons a L => simp
    obtain ⟨g, cap', hv, _⟩ := row_shape H.out.two.row hlen
    cases hv
    rw [List.getLast?_eq_getElem?] at he
    obtain ⟨c0, _⟩ := rcelld H.out.two rfl (L.length - 1) e he
    have hlen' : (0 : Int) < (L.length : Int) := by omega
    have hte' : (t : Int) ≤ (e.1 : Int) := by omega
    have he2 := HR.out.lt e (List.mem_of_getElem? he)
    have hte2 := hte
    generalize e.1 = et at *
    have hidx : ((L.length : Int) - 1) = ((L.length - 1 : Nat) : Int) := by omega
    have hidl : L.length - 1 < L.length := by omega
    clear he
    generalize hm : L.length - 1 = m at *
    clear hm
    generalize hln : L.length = ln at *
    go_enter Try.func7, Try.ntmps7
    go_wp2
    go_ret
    rw [HP.out]
    exact ⟨rfl, H0.out.two.tail⟩
  · obtain ⟨M, hM⟩ : ∃ M, M = L ++ [(t, x)] := ⟨_, rfl⟩
    have HM : Hid (M.length = L.length + 1 ∧ cat eld M = cat eld L ++ [.int .u32 (t : Int), .int .i32 x.1, .bool x.2]) := ⟨by rw [hM]; simp, by rw [hM, cat_append]; rfl⟩
    have HP : Hid (rput k L t x = (0, if k < L.length + 1 then M.drop 1 else M)) := by unfold rput; rw [hM]; exact if_neg hst
    have hcase : L.length = 0 ∨ (0 < L.length ∧ ∃ g e et, ao = some ⟨g, 0, none⟩ ∧ L[L.length - 1]? = some e ∧ et = e.1 ∧ et < t ∧ (w.alloc (.cells #[.int .i32 x.1, .bool x.2] 30)).cell? ⟨g, (L.length - 1) * 3, none⟩ = some (.int .u32 (et : Int))) := by
      rcases Nat.eq_zero_or_pos L.length with c | c
      · exact .inl c
      · right
        obtain ⟨g, cap', hv, _⟩ := row_shape H.out.two.row c
        have hg := (Value.slice.inj hv).1
        subst hg
        obtain ⟨e, he⟩ : ∃ e, L[L.length - 1]? = some e := ⟨_, List.getElem?_eq_getElem (by omega)⟩
        refine ⟨c, g, e, e.1, rfl, he, rfl, ?_, (rcelld H.out.two rfl _ e he).1⟩
        rcases Nat.lt_or_ge e.1 t with q | q
        · exact q
        · exact absurd ⟨e, by rw [List.getLast?_eq_getElem?]; exact he, q⟩ hst
    clear hst hM
    have hfin : Hid (∀ g' c' w1, Own w0 w1 (Row 55 3 (.slice (some ⟨g', 0, none⟩) (L.length + 1) c') (L.length + 1) (cat eld L ++ [.int .u32 (t : Int), .int .i32 x.1, .bool x.2]) :: Cells b #[.int .i64 (k : Int), .slice ao L.length cap] 50 :: Cells w.heap.size #[.int .i32 x.1, .bool x.2] 30 :: l) → Own w0 (w1.setCell ⟨b, 1, none⟩ (.slice (some ⟨g', 0, none⟩) (L.length + 1) c')) (Ringd b k M :: Cells w.heap.size #[.int .i32 x.1, .bool x.2] 30 :: l)) := by
      intro g' c' w1 hO
      refine Own.ex_iff.2 ⟨.slice (some ⟨g', 0, none⟩) (L.length + 1) c', ?_⟩
      rw [HM.out.1, HM.out.2]
      exact hO.two.setC 1 _
    have hML : Hid (M.length = L.length + 1) := HM.out.1
    rcases hcase with hl0 | ⟨hlen, g, e, et, rfl, he, het, hlt, c0⟩
    · have hd0 : decide ((0 : Int) < (L.length : Int)) = false := decide_eq_false (by omega)
      have hd1 : ¬ (0 : Int) < (L.length : Int) := by omega
      have hkk : ¬ (k : Int) < (L.length : Int) + 1 := by have := HR.out.k1; omega
      have HIF : Hid ((if k < L.length + 1 then M.drop 1 else M) = M) := if_neg (by omega)
      have hl1 : ¬ 0 < L.length := by omega
      have hkn : ¬ k < L.length + 1 := by omega
      clear hl0
      generalize L.length = ln at *
      obtain ⟨g', c', w1, hrun, hO⟩ := run1_own (P := Try.prog) 48 48 55 i0 (.agg #[.int .u32 0, .int .i32 0, .bool false]) 3 12 Try.underlying48 hi hz0 hz1 hz2 rfl (by decide) _ ln _ H.out.two.drew #[.int .u32 (t : Int), .int .i32 x.1, .bool x.2] rfl (by intro u hu; simp at hu; rcases hu with rfl | rfl | rfl <;> rfl) (by unfold maxLen; omega) (by omega)
      have hszz : (w.alloc (.cells #[.int .i32 x.1, .bool x.2] 30)).drew.heap.size = w.heap.size + 1 := by simp [World.drew]
      rw [hszz] at hrun
      have HRUN : Hid _ := hrun
      clear hrun hszz
      go_enter Try.func7, Try.ntmps7
      have b0 := hO.three.cell 0
      have b1 := hO.three.cell 1
      simp at b0 b1
      have HF : Hid (Own w0 (w1.setCell ⟨b, 1, none⟩ (.slice (some ⟨g', 0, none⟩) (ln + 1) c')) (Ringd b k M :: Cells w.heap.size #[.int .i32 x.1, .bool x.2] 30 :: l)) := hfin.out g' c' w1 hO
      have k0 := hO.two.cell 0
      have k1 := hO.two.cell 1
      have z1 := hO.two.froz 1
      simp at k0 k1
      clear hO H
      go_wp2_with fail
      go_region_law (refine step_run (by rfl) (.tmp 34) (.tmp 38) 48 48 48 (by rfl) (by rfl) (.slice ao ln cap) (.slice (some ⟨w.heap.size + 1, 0, none⟩) 1 1) (.slice (some ⟨g', 0, none⟩) (ln + 1) c') w1 (by simp [Act.eval]) (by simp [Act.eval]) HRUN.out ?_)
      all_goals
        go_wp2
        go_region
        go_wp2
        go_ret
        rw [HP.out]
        exact ⟨rfl, by rw [HIF.out]; exact HF.out.drew.two.tail⟩
    · have hlen' : (0 : Int) < (L.length : Int) := by omega
      have hte' : decide ((t : Int) ≤ (et : Int)) = false := by simp; omega
      have hte2 : ¬ t ≤ et := by omega
      have hidx : ((L.length : Int) - 1) = ((L.length - 1 : Nat) : Int) := by omega
      have hidl : L.length - 1 < L.length := by omega
      have het2 : et < 4294967296 := by rw [het]; exact HR.out.lt e (List.mem_of_getElem? he)
      clear he het
      by_cases hfull : k < L.length + 1
      · exact absurd hfull (by omega)
      · have hkk : ¬ (k : Int) < (L.length : Int) + 1 := by omega
        have HIF : Hid ((if k < L.length + 1 then M.drop 1 else M) = M) := if_neg hfull
        generalize hm : L.length - 1 = m at *
        clear hm
        generalize L.length = ln at *
        obtain ⟨g', c', w1, hrun, hO⟩ := run1_own (P := Try.prog) 48 48 55 i0 (.agg #[.int .u32 0, .int .i32 0, .bool false]) 3 12 Try.underlying48 hi hz0 hz1 hz2 rfl (by decide) _ ln _ H.out.two.drew #[.int .u32 (t : Int), .int .i32 x.1, .bool x.2] rfl (by intro u hu; simp at hu; rcases hu with rfl | rfl | rfl <;> rfl) (by unfold maxLen; omega) (by omega)
        have hszz : (w.alloc (.cells #[.int .i32 x.1, .bool x.2] 30)).drew.heap.size = w.heap.size + 1 := by simp [World.drew]
        rw [hszz] at hrun
        have HRUN : Hid _ := hrun
        clear hrun hszz
        go_enter Try.func7, Try.ntmps7
        have b0 := hO.three.cell 0
        have b1 := hO.three.cell 1
        simp at b0 b1
        have HF : Hid (Own w0 (w1.setCell ⟨b, 1, none⟩ (.slice (some ⟨g', 0, none⟩) (ln + 1) c')) (Ringd b k M :: Cells w.heap.size #[.int .i32 x.1, .bool x.2] 30 :: l)) := hfin.out g' c' w1 hO
        have k0 := hO.two.cell 0
        have k1 := hO.two.cell 1
        have z1 := hO.two.froz 1
        simp at k0 k1
        clear hO H
        go_wp2_with fail
        go_region_law (refine step_run (by rfl) (.tmp 34) (.tmp 38) 48 48 48 (by rfl) (by rfl) (.slice (some ⟨g, 0, none⟩) ln cap) (.slice (some ⟨w.heap.size + 1, 0, none⟩) 1 1) (.slice (some ⟨g', 0, none⟩) (ln + 1) c') w1 (by simp [Act.eval]) (by simp [Act.eval]) HRUN.out ?_)
        all_goals
          go_wp2
          go_region
          go_wp2
          go_ret
          rw [HP.out]
          exact ⟨rfl, by rw [HIF.out]; exact HF.out.drew.two.tail⟩
set_option maxHeartbeats 1000000 in
set_option maxRecDepth 100000 in
theorem belowd (w0 w : World) (l : List Thing) (b k : Nat) (L : List (Nat × (Int × Bool))) (t : Nat) (h : Own w0 w (Ringd b k L :: l)) (hL : L.length ≤ 1000) (hLt : ∀ e ∈ L, e.1 < 4294967296) :
    Calls Try.prog 17 #[.pointer (some ⟨b, 0, none⟩), .int .u32 (t : Int)] w fun e w' => e = .returned (.int .i64 (below t L : Int)) ∧ Own w0 w' (Ringd b k L :: l) := by
  obtain ⟨v, h⟩ := Own.ex_iff.1 h
  obtain ⟨ao, cap, rfl⟩ := row_any h.two.row
  have H : Hid (Own w0 w (Cells b #[.int .i64 (k : Int), .slice ao L.length cap] 50 :: Row 55 3 (.slice ao L.length cap) L.length (cat eld L) :: l)) := h
  have hbl := below_le t L
  have HLT : Hid (∀ e ∈ L, e.1 < 4294967296) := hLt
  clear h hLt
  go_enter Try.func17, Try.ntmps17
  go_wp2
  go_loopw [5] (fun c wr => ∃ n : Nat, n ≤ below t L ∧ c = .int .i64 n ∧ Own w0 wr (Cells b #[.int .i64 (k : Int), .slice ao L.length cap] 50 :: Row 55 3 (.slice ao L.length cap) L.length (cat eld L) :: l)) (fun c _ => L.length - (intOf c).toNat)
  case atStart => exact ⟨0, Nat.zero_le _, rfl, H.out⟩
  case round =>
    obtain ⟨n, hn, rfl, hO⟩ := hrel
    have q1 := hO.cell 1
    simp at q1
    have HO : Hid (Own w0 wr _) := hO
    clear H
    by_cases hlt : n < L.length
    · obtain ⟨e, he⟩ : ∃ e, L[n]? = some e := ⟨_, List.getElem?_eq_getElem hlt⟩
      obtain ⟨g, cap', hv, _⟩ := row_shape hO.two.row (by omega)
      have hg := (Value.slice.inj hv).1
      subst hg
      obtain ⟨c0, _⟩ := rcelld hO.two rfl n e he
      have he2 := HLT.out e (List.mem_of_getElem? he)
      have hlt' : (n : Int) < (L.length : Int) := by omega
      clear hO hv
      by_cases hb : n < below t L
      · have het := below_lt t L n e hb he
        have het' : (e.1 : Int) < (t : Int) := by omega
        clear he
        generalize e.1 = et at *
        generalize below t L = bl at *
        generalize L.length = ln at *
        go_wp2
        go_roundw
        case rel => exact ⟨n + 1, by omega, by go_num, HO.out⟩
        case measure => simp [intOf]; omega
      · have hnb : n = below t L := by omega
        have het : t ≤ e.1 := below_at t L e (by rw [← hnb]; exact he)
        have HNB : Hid (n = below t L) := hnb
        have het' : decide ((e.1 : Int) < (t : Int)) = false := decide_eq_false (by omega)
        have het2 : ¬ e.1 < t := by omega
        clear he hnb hb
        generalize e.1 = et at *
        go_wp2
        go_ret
        exact ⟨by rw [← HNB.out]; rfl, Own.ex_iff.2 ⟨_, HO.out⟩⟩
    · have HNB : Hid (n = below t L) := by show n = below t L; omega
      have hd : decide ((n : Int) < (L.length : Int)) = false := decide_eq_false (by omega)
      clear hO
      go_wp2
      go_ret
      exact ⟨by rw [← HNB.out]; rfl, Own.ex_iff.2 ⟨_, HO.out⟩⟩

set_option maxHeartbeats 1000000 in
set_option maxRecDepth 100000 in
theorem getd (w0 w : World) (l : List Thing) (b k : Nat) (L : List (Nat × (Int × Bool))) (t : Nat) (h : Own w0 w (Ringd b k L :: l)) (hR : ROk k L) (x : (Int × Bool)) (hx : rget L t = some x) :
    Calls Try.prog 9 #[.pointer (some ⟨b, 0, none⟩), .int .u32 (t : Int)] w fun e w' => e = .returned (.tuple #[.agg #[.int .i32 x.1, .bool x.2], .bool true]) ∧ Own w0 w' (Ringd b k L :: l) := by
  have hk := hR.k2
  have hle := hR.le
  have HX : Hid (rget L t = some x) := hx
  have HB : Hid (Calls _ _ _ _ _) := belowd w0 ((w.alloc (.cells #[.int .i32 0, .bool false] 30)).alloc (.cells #[.int .i32 0, .bool false] 30)) (Cells w.heap.size #[.int .i32 0, .bool false] 30 :: l) b k L t (((h.allocC _ _).two).alloc _) (by omega) hR.lt
  have HLT : Hid (∀ e ∈ L, e.1 < 4294967296) := hR.lt
  have hbl := below_le t L
  clear h hR hx
  go_enter Try.func9, Try.ntmps9
  go_wp2_with fail
  refine HB.out.mono ?_
  rintro e w1 ⟨rfl, hO⟩
  obtain ⟨v, hO⟩ := Own.ex_iff.1 hO
  obtain ⟨ao, cap, rfl⟩ := row_any hO.two.row
  have q1 := hO.cell 1
  simp at q1
  have p0 := hO.three.cell 0
  have p1 := hO.three.cell 1
  simp at p0 p1
  have y0 := hO.three.froz 0
  have y1 := hO.three.froz 1
  have H1 : Hid (Own w0 w1 (Cells b #[.int .i64 (k : Int), .slice ao L.length cap] 50 :: Row 55 3 (.slice ao L.length cap) L.length (cat eld L) :: Cells w.heap.size #[.int .i32 0, .bool false] 30 :: l)) := hO
  have HF : Hid (Own w0 ((w1.setCell ⟨w.heap.size, 0, none⟩ (.int .i32 x.1)).setCell ⟨w.heap.size, 1, none⟩ (.bool x.2)) (Cells w.heap.size #[.int .i32 x.1, .bool x.2] 30 :: Ringd b k L :: l)) := by
    have := ((hO.three.setC 0 (.int .i32 x.1)).setC 1 (.bool x.2)).back3
    exact (Own.ex2.2 ⟨.slice ao L.length cap, this.three⟩)
  clear hO HB
  by_cases hlt : below t L < L.length
  · obtain ⟨e, he⟩ : ∃ e, L[below t L]? = some e := ⟨_, List.getElem?_eq_getElem hlt⟩
    obtain ⟨g, cap', hv, _⟩ := row_shape H1.out.two.row (by omega)
    have hg := (Value.slice.inj hv).1
    subst hg
    obtain ⟨c0, c1, c2⟩ := rcelld H1.out.two rfl (below t L) e he
    have hgw : g ≠ w.heap.size := by
      have := H1.out.three.in23.ne
      intro q; rw [q] at this; simp [Value.ownBlock] at this
    have hgw' : w.heap.size ≠ g := fun q => hgw q.symm
    have he2 := HLT.out e (List.mem_of_getElem? he)
    have hne : ((below t L : Int) == (L.length : Int)) = false := by rw [beq_eq_false_iff_ne]; omega
    have hlt' : (below t L : Int) < (L.length : Int) := by omega
    by_cases het : e.1 = t
    · have HG : Hid (e.2 = x) := by
        have := HX.out
        unfold rget at this; rw [he] at this
        have h2 : (if e.1 = t then some e.2 else none) = some x := this
        rw [if_pos het] at h2; exact Option.some.inj h2
      have hq : ((e.1 : Int) != (t : Int)) = false := by rw [het]; simp
      rw [het] at c0
      rw [HG.out] at c1 c2
      have hq2 : ((t : Int) != (t : Int)) = false := by simp
      clear he het hv H1 HG
      generalize below t L = bl at *
      generalize L.length = ln at *
      go_wp2
      (try simp only [Exit.inBlock, Exit.then])
      refine bodyPost_ret (v := .tuple #[.agg #[.int .i32 x.1, .bool x.2], .bool true]) ?_ rfl ⟨rfl, HF.out.tail⟩
      rw [results_cell_tmp rfl]
      have r0 := HF.out.cell 0
      have r1 := HF.out.cell 1
      simp at r0 r1
      go_simp
    · exfalso
      have h2 := HX.out
      unfold rget at h2; rw [he] at h2
      have h3 : (if e.1 = t then some e.2 else none) = some x := h2
      rw [if_neg het] at h3; cases h3
  · exfalso
    have heq : below t L = L.length := by omega
    have h2 := HX.out
    unfold rget at h2; rw [heq, List.getElem?_eq_none (Nat.le_refl _)] at h2
    cases h2
end Go.Proofs.Ytdcfkjmjekbekaa
