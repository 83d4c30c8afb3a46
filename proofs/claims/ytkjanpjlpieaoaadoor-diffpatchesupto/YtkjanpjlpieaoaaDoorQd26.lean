/-
  Deltas held against each other: the program's same, the document's Same.
-/
import Derived.Test.YtkjanpjlpieaoaaDoorQd24
import Derived.Test.YtkjanpjlpieaoaaDoorQd05
import Derived.Shelf.SlSortCmp.WholeK
namespace Go.Proofs.YtkjanpjlpieaoaaDoor
open Go.RowKit
set_option linter.unusedVariables false
set_option maxRecDepth 100000

set_option maxHeartbeats 4000000 in
theorem equalChs_any (w : World) (a1 a2 : Option Addr) (n1 n2 c1 c2 : Nat) (L M : List ChE) (h1 : ChsAt w a1 L) (h2 : ChsAt w a2 M) (hn1 : L.length = n1) (hn2 : M.length = n2) (hz1 : L.length + hsz L ≤ 1000000) (hz2 : M.length + hsz M ≤ 1000000) (hl1 : ∀ x ∈ L, x.lost < 256) (hl2 : ∀ x ∈ M, x.lost < 256) :
    Calls Tryd.prog 39 #[.slice a1 n1 c1, .slice a2 n2 c2, .func (.func 40) #[] #[]] w fun e w' => e = .returned (.bool (decide (chv L = chv M))) ∧ Fr Nobody w w' := by
  have hm1 : n1 ≤ 2097152 := by omega
  have HZ : Hid ((∀ x ∈ L, x.N.length + x.S.length ≤ 1000000 ∧ x.lost < 256) ∧ ∀ x ∈ M, x.N.length + x.S.length ≤ 1000000 ∧ x.lost < 256) := ⟨fun x hx => ⟨by have := hsz_mem hx; omega, hl1 x hx⟩, fun x hx => ⟨by have := hsz_mem hx; omega, hl2 x hx⟩⟩
  have hlL := chv_len L
  have hlM := chv_len M
  by_cases hne : n1 = n2
  · have H1 : Hid (ChsAt w a1 L ∧ ChsAt w a2 M ∧ L.length = n1 ∧ M.length = n1) := ⟨h1, h2, hn1, by rw [hn2, hne]⟩
    have HLL : Hid ((chv L).length ≤ n1 ∧ (chv M).length ≤ n1) := ⟨by omega, by omega⟩
    rw [← hne]
    clear h1 h2 hn1 hn2 hne hz1 hz2 hlL hlM hl1 hl2
    have hne' : ((n1 : Int) != (n1 : Int)) = false := by simp
    go_enter Tryd.func39, Tryd.ntmps39
    go_wp2
    clear hne'
    go_loopw [17] (fun cc wr => ∃ k : Nat, k ≤ n1 ∧ cc = .int .i64 k ∧ Fr Nobody w wr ∧ (chv L).take k = (chv M).take k) (fun cc _ => n1 - (intOf cc).toNat)
    case atStart => exact ⟨0, Nat.zero_le _, rfl, Fr.refl _ _, by simp⟩
    case round =>
      obtain ⟨k, hk, rfl, hf, heq⟩ := hrel
      have HF : Hid (Fr Nobody w wr) := hf
      have HE : Hid ((chv L).take k = (chv M).take k) := heq
      clear hf heq
      by_cases hlt : k < n1
      · obtain ⟨x, hx⟩ : ∃ x, L[k]? = some x := ⟨_, List.getElem?_eq_getElem (by rw [H1.out.2.2.1]; exact hlt)⟩
        obtain ⟨y, hy⟩ : ∃ y, M[k]? = some y := ⟨_, List.getElem?_eq_getElem (by rw [H1.out.2.2.2]; exact hlt)⟩
        obtain ⟨g1, o1, hg1, ⟨r0, r1, r2, r3⟩, k1, k1'⟩ := (H1.out.1.quiet HF.out).at hx
        obtain ⟨g2, o2, hg2, ⟨s0, s1, s2, s3⟩, k2, k2'⟩ := (H1.out.2.1.quiet HF.out).at hy
        subst hg1 hg2
        have hb1 : g1 < wr.heap.size := World.block_lt_of_cell? wr _ r0
        have hb2 : g2 < wr.heap.size := World.block_lt_of_cell? wr _ s0
        have hb3 : wr.heap.size ≠ g1 := by omega
        have hb4 : wr.heap.size ≠ g2 := by omega
        have hlt' : (k : Int) < (n1 : Int) := by omega
        obtain ⟨r, hr⟩ : ∃ r, decide (x.v = y.v) = r := ⟨_, rfl⟩
        have hal : Fr Nobody wr ((wr.alloc (.cells #[.int .u32 (x.id : Int), .int .u8 (x.lost : Int), .slice x.na x.N.length x.nc, .slice x.sa x.S.length x.sc] 51)).alloc (.cells #[.int .u32 (y.id : Int), .int .u8 (y.lost : Int), .slice y.na y.N.length y.nc, .slice y.sa y.S.length y.sc] 51)) := ((Fr.refl _ _).alloc _).alloc _
        have hzx := HZ.out.1 x (List.mem_of_getElem? hx)
        have hzy := HZ.out.2 y (List.mem_of_getElem? hy)
        have CS : Hid (Calls _ _ _ _ _) := sameCh_any _ x y (k1.quiet hal) (k1'.quiet hal) (k2.quiet hal) (k2'.quiet hal) hzx.1 hzy.1 hzx.2 hzy.2
        rw [hr] at CS
        have HF1 : Hid (Fr Nobody w _) := HF.out.trans hal
        have HXY : Hid ((chv L)[k]? = some x.v ∧ (chv M)[k]? = some y.v) := ⟨chv_at hx, chv_at hy⟩
        have HR : Hid (decide (x.v = y.v) = r) := hr
        clear hx hy hr k1 k2 k1' k2' hal
        have hxl := hzx.2
        have hyl := hzy.2
        clear hzx hzy
        generalize x.v = xv at *
        generalize y.v = yv at *
        obtain ⟨xi, xl, xN, xna, xnc, xS, xsa, xsc⟩ := x
        obtain ⟨yi, yl, yN, yna, ync, yS, ysa, ysc⟩ := y
        simp only at r0 r1 r2 r3 s0 s1 s2 s3 CS HF1 hxl hyl
        generalize xN.length = xnl at *
        generalize xS.length = xsl at *
        generalize yN.length = ynl at *
        generalize yS.length = ysl at *
        go_wp2_with fail
        refine CS.out.mono ?_
        rintro e w' ⟨rfl, hf2⟩
        have HF2 : Hid (Fr Nobody w w') := HF1.out.trans hf2
        clear r0 r1 r2 r3 s0 s1 s2 s3 CS hf2 hb1 hb2 hb3 hb4
        cases r
        · have HN : Hid (decide (chv L = chv M) = false) := take_ne HXY.out.1 HXY.out.2 HR.out
          go_wp2
          go_ret
          exact ⟨by rw [HN.out]; rfl, HF2.out⟩
        · have HN : Hid ((chv L).take (k + 1) = (chv M).take (k + 1)) := take_eq HXY.out.1 HXY.out.2 HR.out HE.out
          go_wp2
          go_roundw
          case rel => exact ⟨k + 1, by omega, by go_num, HF2.out, HN.out⟩
          case measure => simp [intOf]; omega
      · have hlt' : ¬ (k : Int) < (n1 : Int) := by omega
        have HN : Hid (decide (chv L = chv M) = true) := take_all (by have := HLL.out.1; omega) (by have := HLL.out.2; omega) HE.out
        go_wp2
        go_ret
        exact ⟨by rw [HN.out]; rfl, HF.out⟩
  · have HN : Hid (decide (chv L = chv M) = false) := len_ne (by omega)
    have hne' : ((n1 : Int) != (n2 : Int)) = true := by rw [bne_iff_ne]; omega
    clear h1 h2 hn1 hn2 hne hlL hlM hz1 hz2
    go_enter Tryd.func39, Tryd.ntmps39
    go_wp2
    go_ret
    exact ⟨by rw [HN.out]; rfl, Fr.refl _ _⟩
/-- a delta that can be read -/
structure DlAt (w : World) (d : DlE) : Prop where
  g : Nums .u32 w (.slice d.ga d.G.length d.gc) d.G
  m : EntsAt w d.ma d.M
  h : ChsAt w d.ha d.H
theorem DlAt.quiet {w w' : World} {d : DlE} (h : DlAt w d) (hf : Fr Nobody w w') : DlAt w' d := ⟨h.g.quiet hf, h.m.quiet hf, h.h.quiet hf⟩
/-- not too much of it -/
structure DlIn (d : DlE) : Prop where
  g : d.G.length ≤ 1000000
  m : esz d.M ≤ 1000000
  h : d.H.length + hsz d.H ≤ 1000000
  l : ∀ x ∈ d.H, x.lost < 256
theorem dl_dec (a b : DlE) : decide (a.v = b.v) = (decide (a.G = b.G) && decide (evs a.M = evs b.M) && decide (chv a.H = chv b.H)) := by
  unfold DlE.v chv
  rw [Bool.eq_iff_iff]
  simp
  constructor
  · rintro ⟨a, b, c⟩; exact ⟨⟨a, b⟩, c⟩
  · rintro ⟨⟨a, b⟩, c⟩; exact ⟨a, b, c⟩
theorem hrows_in {H : List ChE} {x : ChE} (hx : x ∈ H) : ∃ A B, hrows H = A ++ (x.nrow :: x.srow :: B) := by
  obtain ⟨L1, L2, rfl⟩ := List.append_of_mem hx
  exact ⟨hrows L1, hrows L2, by simp [hrows, ChE.rows]⟩
theorem Own.dlAt {w0 w : World} {d : DlE} {l : List Thing} (h : Own w0 w (d.things ++ l)) : DlAt w d := by
  have h1 : Own w0 w (grow1 d.G d.ga d.gc :: EntsT d.ma d.mc d.M :: hrow1 d.H d.ha d.hc :: (hrows d.H ++ l)) := h
  refine ⟨Own.nums h1, h1.two.entsAt, ?_, fun x hx => ?_⟩
  · have hr := h1.three.row
    rcases Nat.eq_zero_or_pos d.H.length with h0 | h0
    · exact .inl (List.eq_nil_of_length_eq_zero h0)
    · obtain ⟨g, cp, hv, _⟩ := row_shape hr h0
      refine .inr ⟨g, 0, (Value.slice.inj hv).1, fun j x hx => ?_⟩
      have hva := (Value.slice.inj hv).1
      rw [hva] at hr
      have hj := (List.getElem?_eq_some_iff.1 hx).1
      rw [Nat.zero_add, hr.cellAt _ (by omega), hr.cellAt _ (by omega), hr.cellAt _ (by omega), hr.cellAt _ (by omega)]
      exact ⟨cat_at ChE.cs 4 (fun _ => rfl) d.H j 0 x hx (by decide), cat_at ChE.cs 4 (fun _ => rfl) d.H j 1 x hx (by decide), cat_at ChE.cs 4 (fun _ => rfl) d.H j 2 x hx (by decide), cat_at ChE.cs 4 (fun _ => rfl) d.H j 3 x hx (by decide)⟩
  · obtain ⟨A, B, e⟩ := hrows_in hx
    have h2 := h1.tail.tail.tail
    rw [e, List.append_assoc] at h2
    have h3 : Own w0 w (x.nrow :: x.srow :: (B ++ l)) := h2.dropA
    exact ⟨Own.cs (h3.view (by decide)) rfl, Own.cs (h3.two.view (by decide)) rfl⟩
set_option maxHeartbeats 4000000 in
theorem same_any (w : World) (a b : DlE) (ha : DlAt w a) (hb : DlAt w b) (hia : DlIn a) (hib : DlIn b) :
    Calls Tryd.prog 17 #[.agg a.vs, .agg b.vs] w fun e w' => e = .returned (.bool (decide (a.v = b.v))) ∧ Fr Nobody w w' := by
  have hal : Fr Nobody w ((w.alloc (.cells a.vs 26)).alloc (.cells b.vs 26)) := ((Fr.refl _ _).alloc _).alloc _
  have hO := ((Own.start w).allocC a.vs 26).allocC b.vs 26
  have e1 : (w.alloc (.cells a.vs 26)).heap.size = w.heap.size + 1 := by simp
  rw [e1] at hO
  have HG : Hid (Calls _ _ _ _ _) := eqIds_p _ a.ga b.ga a.G.length b.G.length a.gc b.gc a.G b.G (ha.g.quiet hal) (hb.g.quiet hal) (by have := hia.g; omega) (by have := hib.g; omega)
  have HM : Hid (∀ W, Fr Nobody w W → Calls Tryd.prog 38 #[.slice a.ma a.M.length a.mc, .slice b.ma b.M.length b.mc] W fun e w' => e = .returned (.bool (decide (evs a.M = evs b.M))) ∧ Fr Nobody W w') := fun W hW => snapSame_any W a.ma b.ma a.M.length b.M.length a.mc b.mc a.M b.M (ha.m.quiet hW) (hb.m.quiet hW) rfl rfl (by have := hia.m; omega) (by have := hib.m; omega)
  have HH : Hid (∀ W, Fr Nobody w W → Calls Tryd.prog 39 #[.slice a.ha a.H.length a.hc, .slice b.ha b.H.length b.hc, .func (.func 40) #[] #[]] W fun e w' => e = .returned (.bool (decide (chv a.H = chv b.H))) ∧ Fr Nobody W w') := fun W hW => equalChs_any W a.ha b.ha a.H.length b.H.length a.hc b.hc a.H b.H (ha.h.quiet hW) (hb.h.quiet hW) rfl rfl hia.h hib.h hia.l hib.l
  rw [dl_dec]
  have HAL : Hid (Fr Nobody w _) := hal
  have HO : Hid (Own w _ _) := hO
  clear ha hb hia hib hal hO e1
  generalize decide (a.G = b.G) = r0 at *
  generalize decide (evs a.M = evs b.M) = r1 at *
  generalize decide (chv a.H = chv b.H) = r2 at *
  obtain ⟨aG, aga, agc, aM, ama, amc, aH, aha, ahc⟩ := a
  obtain ⟨bG, bga, bgc, bM, bma, bmc, bH, bha, bhc⟩ := b
  simp only [DlE.vs] at HG HM HH HAL HO ⊢
  generalize aG.length = agl at *
  generalize aM.length = aml at *
  generalize aH.length = ahl at *
  generalize bG.length = bgl at *
  generalize bM.length = bml at *
  generalize bH.length = bhl at *
  go_enter Tryd.func17, Tryd.ntmps17
  go_wp2_with fail
  refine HG.out.mono ?_
  rintro e w1 ⟨rfl, hf1⟩
  have hF1 := HAL.out.trans hf1
  have hO1 := HO.out.quiet hf1
  have u1 := hO1.cell 1
  have u2 := hO1.cell 2
  have v1 := hO1.two.cell 1
  have v2 := hO1.two.cell 2
  simp at u1 u2 v1 v2
  cases r0
  · have HF1 : Hid (Fr Nobody w w1) := hF1
    clear hF1 hf1 HG HM HH hO1 HO HAL u1 u2 v1 v2
    go_wp2
    go_ret
    exact ⟨by simp, HF1.out⟩
  · have HMM : Hid (Calls _ _ _ _ _) := HM.out w1 hF1
    have HF1 : Hid (Fr Nobody w w1) := hF1
    have HO1 : Hid (Own w w1 _) := hO1
    clear hF1 hf1 HG HM HO HAL hO1
    go_wp2_with fail
    refine HMM.out.mono ?_
    rintro e w2 ⟨rfl, hf2⟩
    have hF2 := HF1.out.trans hf2
    have hO2 := HO1.out.quiet hf2
    have x2 := hO2.cell 2
    have y2 := hO2.two.cell 2
    simp at x2 y2
    cases r1
    · have HF2 : Hid (Fr Nobody w w2) := hF2
      clear hF2 hf2 HMM HH hO2 HO1 HF1 u1 u2 v1 v2 x2 y2
      go_wp2
      go_ret
      exact ⟨by simp, HF2.out⟩
    · have HHH : Hid (Calls _ _ _ _ _) := HH.out w2 hF2
      have HF2 : Hid (Fr Nobody w w2) := hF2
      clear hF2 hf2 HMM HH hO2 HO1 HF1 u1 u2 v1 v2
      go_wp2_with fail
      refine HHH.out.mono ?_
      rintro e w3 ⟨rfl, hf3⟩
      have HF3 : Hid (Fr Nobody w w3) := HF2.out.trans hf3
      clear hf3 HHH HF2 x2 y2
      go_wp2
      go_ret
      exact ⟨by simp, HF3.out⟩
end Go.Proofs.YtkjanpjlpieaoaaDoor

/-
  Rows that the library's sort has sorted: as things.
-/
namespace Go.Proofs.YtkjanpjlpieaoaaDoor
open Go.RowKit Go.Sort Go.Shelf
set_option linter.unusedVariables false
set_option maxRecDepth 100000

section
variable {α : Type} {enc : α → List Value} {k : Nat}
theorem cat_lenK (hk : ∀ x, (enc x).length = k) (L : List α) : (cat enc L).length = L.length * k := by
  induction L with
  | nil => simp [cat]
  | cons a L ih =>
    have : cat enc (a :: L) = enc a ++ cat enc L := by simp [cat]
    rw [this, List.length_append, ih, hk, List.length_cons, Nat.succ_mul, Nat.add_comm]
variable [Inhabited α]
theorem flat_cat (hk : ∀ x, (enc x).length = k) (hk0 : 0 < k) (L : List α) : (flatK enc k L.toArray).toList = cat enc L := by
  apply List.ext_getElem?
  intro t
  by_cases ht : t < L.length * k
  · have h1 : t < (flatK enc k L.toArray).size := by rw [size_flatK]; simpa using ht
    have h2 := get_flatK enc k L.toArray t (by simpa using ht)
    have hd : t / k < L.length := Nat.div_lt_of_lt_mul (by rw [Nat.mul_comm]; exact ht)
    have hr : t % k < k := Nat.mod_lt _ hk0
    rw [Array.getElem?_toList, Array.getElem?_eq_getElem h1, ← getElem!_pos (flatK enc k L.toArray) t h1, h2]
    have e := cat_at enc k hk L (t / k) (t % k) L[t / k] (List.getElem?_eq_getElem hd) hr
    rw [Nat.mul_comm, Nat.div_add_mod] at e
    rw [e]
    have e3 : L.toArray[t / k]! = L[t / k] := by rw [getElem!_pos L.toArray (t / k) (by simpa using hd)]; simp
    rw [e3]
    have hl : t % k < (enc L[t / k]).length := by rw [hk]; exact hr
    rw [List.getElem?_eq_getElem hl, getElem!_pos (enc L[t / k]) (t % k) hl]
  · have h1 : (flatK enc k L.toArray).size ≤ t := by rw [size_flatK]; simpa using Nat.le_of_not_lt ht
    rw [Array.getElem?_toList, Array.getElem?_eq_none h1, List.getElem?_eq_none (by rw [cat_lenK hk]; omega)]
variable {w0 w : World} {l : List Thing} {e : TypeId} {g cap : Nat} {L L' : List α}
theorem Own.holdsK (hk : ∀ x, (enc x).length = k) (hk0 : 0 < k) (h : Own w0 w (Row e k (.slice (some ⟨g, 0, none⟩) L.length cap) L.length (cat enc L) :: l)) : HoldsK enc k w g 0 L.toArray := by
  intro j hj
  have hr := h.row
  have hj2 : j < L.length * k := by rw [size_flatK] at hj; simpa using hj
  refine ⟨?_, hr.frozenAt _⟩
  rw [Nat.zero_add, hr.cellAt _ hj2, ← flat_cat hk hk0, Array.getElem?_toList, Array.getElem?_eq_getElem hj, getElem!_pos _ j hj]
  rfl
theorem sort_heap (m : Nat) (d : Array α) (os : Array Obj) (j : Nat) (hj : j < w.heap.size) : (sortWorldK enc k w g 0 m d os).heap[j]? = if g = j then (w.heap[j]?).map (onCells (putCells id 0 (flatK enc k d))) else w.heap[j]? := by
  show ((w.heap.modify g (onCells (putCells id 0 (flatK enc k d)))) ++ os)[j]? = _
  rw [Array.getElem?_append_left (by simpa using hj), Array.getElem?_modify]
theorem Own.sortK (hk : ∀ x, (enc x).length = k) (hk0 : 0 < k) (h : Own w0 w (Row e k (.slice (some ⟨g, 0, none⟩) L.length cap) L.length (cat enc L) :: l)) (hl : L'.length = L.length) (m : Nat) (os : Array Obj) : Own w0 (sortWorldK enc k w g 0 m L'.toArray os) (Row e k (.slice (some ⟨g, 0, none⟩) L'.length cap) L'.length (cat enc L') :: l) := by
  obtain ⟨h1, h2⟩ := h.row
  rcases h2 with ⟨hv, _⟩ | ⟨g', cap', cur, hv, hb, hgg, hc1, hc2, hc3, hc4⟩
  · cases hv
  · obtain ⟨rfl, rfl⟩ : g' = g ∧ cap' = cap := by
      simp only [Value.slice.injEq, Option.some.injEq, Addr.mk.injEq] at hv
      exact ⟨hv.1.1.symm, hv.2.2.symm⟩
    have hlt : g' < w.heap.size := (Array.getElem?_eq_some_iff.1 hgg).1
    refine h.grow (v' := .slice (some ⟨g', 0, none⟩) L'.length cap') ⟨by rw [cat_lenK hk], .inr ⟨g', cap', putCells id 0 (flatK enc k L'.toArray) cur, rfl, Nat.zero_le _, ?_, by omega, hc2, ?_, ?_⟩⟩ ⟨rfl, rfl, rfl, ?_, ?_⟩ (fun q hq => .inl hq)
    · rw [sort_heap _ _ _ _ hlt, if_pos rfl, hgg]
      rfl
    · simp [putCells, hc3]
    · apply List.ext_getElem?
      intro t
      rw [← flat_cat hk hk0]
      by_cases ht : t < L'.length * k
      · have h1' : t < (flatK enc k L'.toArray).size := by rw [size_flatK]; simpa using ht
        have htc : t < cur.size := by
          rw [hc3]
          have : L'.length * k ≤ cap' * k := Nat.mul_le_mul_right k (by omega)
          omega
        rw [List.getElem?_take_of_lt ht, Array.getElem?_toList, Array.getElem?_toList]
        simp only [putCells, Array.getElem?_mapIdx, Array.getElem?_eq_getElem htc, Option.map_some, Nat.zero_le, true_and, Nat.zero_add, Nat.sub_zero]
        rw [if_pos h1', Array.getElem?_eq_getElem h1', getElem!_pos _ t h1']
        rfl
      · rw [List.getElem?_eq_none (by rw [List.length_take]; omega), List.getElem?_eq_none (by rw [Array.length_toList, size_flatK]; simpa using Nat.le_of_not_lt ht)]
    · show w.heap.size ≤ ((w.heap.modify g' (onCells (putCells id 0 (flatK enc k L'.toArray)))) ++ os).size
      simp
    · intro q hq hne
      rw [sort_heap _ _ _ _ hq, if_neg (fun e => hne (by rw [← e]; rfl))]
end
end Go.Proofs.YtkjanpjlpieaoaaDoor

