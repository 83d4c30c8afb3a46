/-
  The document's Few of a delta.
-/
import Derived.Test.YtkjanpjlpieaoaaDoorQd32
import Derived.Test.YtkjanpjlpieaoaaDoorQd17
namespace Go.Proofs.YtkjanpjlpieaoaaDoor
open Go.RowKit
set_option linter.unusedVariables false
set_option maxRecDepth 100000

theorem hsz_append (A B : List ChE) : hsz (A ++ B) = hsz A + hsz B := by
  induction A with
  | nil => simp [hsz]
  | cons x t ih => simp only [List.cons_append, hsz, ih]; omega
theorem hsz_take {L : List ChE} {j : Nat} {x : ChE} (h : L[j]? = some x) : hsz (L.take (j + 1)) = hsz (L.take j) + (x.N.length + x.S.length) := by
  rw [List.take_add_one, h, hsz_append]; simp [hsz]
theorem hsz_take_le (L : List ChE) (j : Nat) : hsz (L.take j) ≤ hsz L := by
  have := hsz_append (L.take j) (L.drop j)
  rw [List.take_append_drop] at this
  omega
def dszE (d : DlE) : Nat := d.G.length + d.H.length + hsz d.H
set_option maxHeartbeats 2000000 in
theorem rfew_any (w : World) (d : DlE) (h : DlAt w d) (hz : dszE d ≤ 1048576) (hzm : esz d.M ≤ 1048576) :
    Calls Tryd.prog 6 #[.agg d.vs] w fun e w' => e = .returned (.bool (decide (dszE d ≤ 300) && decide (esz d.M ≤ 400))) ∧ Fr Nobody w w' := by
  have hB := (Own.start w).allocC d.vs 26
  have HFW : Hid (∀ W, Fr Nobody w W → Calls Tryd.prog 5 #[.slice d.ma d.M.length d.mc] W fun e w' => e = .returned (.bool (decide (esz d.M ≤ 400))) ∧ Fr Nobody W w') := fun W hW => few_any W d.ma d.M.length d.mc d.M rfl (h.m.quiet hW) hzm
  have HCH : Hid (ChsAt w d.ha d.H) := h.h
  have HZ : Hid (dszE d = d.G.length + d.H.length + hsz d.H) := rfl
  have hz1 : d.G.length + d.H.length + hsz d.H ≤ 1048576 := hz
  clear h hz hzm
  obtain ⟨G, ga, gc, M, ma, mc, H, ha, hc⟩ := d
  unfold DlE.vs at hB ⊢
  simp only at hB HFW HCH HZ hz1 ⊢
  generalize decide (esz M ≤ 400) = r at *
  have HB : Hid (Own w _ _) := hB
  generalize hgl : G.length = gl at *
  generalize hml : M.length = ml at *
  obtain ⟨n, hn⟩ : ∃ n, H.length = n := ⟨_, rfl⟩
  have HL : Hid (H.length = n) := hn
  rw [hn] at hB hz1 HB HZ ⊢
  clear hB hgl hml hn
  go_enter Tryd.func6, Tryd.ntmps6
  go_wp2
  go_loopw [3, 16] (fun s c wr => ∃ (j m : Nat), j ≤ n ∧ c = .int .i64 j ∧ s = .int .i64 m ∧ m = gl + n + hsz (H.take j) ∧ Own w wr [Cells w.heap.size #[.slice ga gl gc, .slice ma ml mc, .slice ha n hc] 26]) (fun _ c _ => n - (intOf c).toNat)
  case atStart => exact ⟨0, gl + n, Nat.zero_le _, rfl, by go_num, by simp [hsz], HB.out⟩
  case round =>
    obtain ⟨j, m, hj, rfl, rfl, hm, hO⟩ := hrel
    have HO : Hid (Own w wr [Cells w.heap.size #[.slice ga gl gc, .slice ma ml mc, .slice ha n hc] 26]) := hO
    have HM : Hid (m = gl + n + hsz (H.take j)) := hm
    have hm2 : m ≤ 1048576 := by have := hsz_take_le H j; omega
    clear hm HB
    by_cases hlt : j < n
    · obtain ⟨x, hx⟩ : ∃ x, H[j]? = some x := ⟨_, List.getElem?_eq_getElem (by rw [HL.out]; exact hlt)⟩
      obtain ⟨g, o, hao, ⟨c0, c1, c2, c3⟩, _⟩ := (HCH.out.quiet hO.fr).at hx
      subst hao
      have HS : Hid (m + (x.N.length + x.S.length) = gl + n + hsz (H.take (j + 1))) := by show _ = _; rw [hsz_take hx, HM.out]; omega
      have hs2 : m + (x.N.length + x.S.length) ≤ 1048576 := by have := hsz_take_le H (j + 1); have := HS.out; omega
      have hlt' : (j : Int) < (n : Int) := by omega
      clear hx hO
      obtain ⟨xi, xl, xN, xna, xnc, xS, xsa, xsc⟩ := x
      simp only at c0 c1 c2 c3 HS hs2
      generalize xN.length = nl at *
      generalize xS.length = sl at *
      go_wp2
      go_roundw
      case rel => exact ⟨j + 1, m + (nl + sl), by omega, by go_num, by go_num, HS.out, HO.out.alloc _⟩
      case measure => simp [intOf]; omega
    · have hlt' : ¬ (j : Int) < (n : Int) := by omega
      have HT : Hid (dszE ⟨G, ga, gc, M, ma, mc, H, ha, hc⟩ = m) := by show _ = _; rw [HZ.out, HM.out, List.take_of_length_le (by rw [HL.out]; omega)]
      have p1 := hO.cell 1
      simp at p1
      have HW := HFW.out wr hO.fr
      clear HM hO
      by_cases h4 : m ≤ 300
      · have h4' : (m : Int) ≤ 300 := by omega
        have HD : Hid (decide (dszE ⟨G, ga, gc, M, ma, mc, H, ha, hc⟩ ≤ 300) = true) := by show _ = _; rw [HT.out]; exact decide_eq_true h4
        go_wp2_with fail
        refine HW.mono ?_
        rintro e w1 ⟨rfl, hf⟩
        have HF := HO.out.fr.trans hf
        go_wp2
        go_ret
        exact ⟨by rw [HD.out]; simp, HF⟩
      · have h4' : ¬ (m : Int) ≤ 300 := by omega
        have HD : Hid (decide (dszE ⟨G, ga, gc, M, ma, mc, H, ha, hc⟩ ≤ 300) = false) := by show _ = _; rw [HT.out]; exact decide_eq_false h4
        go_wp2
        go_ret
        exact ⟨by rw [HD.out]; simp, HO.out.fr⟩
end Go.Proofs.YtkjanpjlpieaoaaDoor

/-
  A change in the list that the document's Patch works on.
-/
namespace Go.Proofs.YtkjanpjlpieaoaaDoor
open Go.RowKit
set_option linter.unusedVariables false
set_option maxRecDepth 100000

theorem dropK_up (lost : Nat) (ks : List Nat) : ∀ (l : List Cp) {m : List Cp}, Ups l → dropK lost ks l = some m → Ups m := by
  induction ks with
  | nil => intro l m h e; simp only [dropK, Option.some.injEq] at e; rw [← e]; exact h
  | cons k ks ih =>
    intro l m h e
    unfold dropK at e
    split at e
    · exact ih l h e
    · split at e
      · exact ih _ (h.filter _) e
      · cases e
theorem putNew_up (C xs : List Cp) : ∀ (l : List Cp) {m : List Cp}, Ups l → putNew C l xs = some m → Ups m := by
  induction xs with
  | nil => intro l m h e; simp only [putNew, Option.some.injEq] at e; rw [← e]; exact h
  | cons x xs ih =>
    intro l m h e
    unfold putNew at e
    split at e
    · cases e
    · exact ih _ (insc_up h x) e
theorem putSet_up (xs : List Cp) : ∀ (l : List Cp) {m : List Cp}, Ups l → putSet l xs = some m → Ups m := by
  induction xs with
  | nil => intro l m h e; simp only [putSet, Option.some.injEq] at e; rw [← e]; exact h
  | cons x xs ih =>
    intro l m h e
    unfold putSet at e
    split at e
    · exact ih _ (insc_up h x) e
    · cases e
theorem goGone_sub (gs : List Nat) : ∀ (L : List En) {m : List En}, goGone L gs = some m → ∀ e ∈ m, e ∈ L := by
  induction gs with
  | nil => intro L m e; simp only [goGone, Option.some.injEq] at e; rw [← e]; exact fun _ h => h
  | cons g gs ih =>
    intro L m e q hq
    unfold goGone at e
    split at e
    · exact (List.mem_filter.1 (ih _ e q hq)).1
    · cases e
theorem cat_set1 {N : List EnE} {i : Nat} {y : EnE} (hy : N[i]? = some y) (z : EnE) (hid : z.id = y.id) : (cat EnE.cs N).set (i * 2 + 1) (.slice z.ao z.C.length z.cap) = cat EnE.cs (N.set i z) := by
  have hi := (List.getElem?_eq_some_iff.1 hy).1
  have hc := cut_at hy
  have e2 : N.set i z = N.take i ++ z :: N.drop (i + 1) := by rw [List.set_eq_take_append_cons_drop, if_pos hi]
  have e : cat EnE.cs N = cat EnE.cs (N.take i) ++ (EnE.cs y ++ cat EnE.cs (N.drop (i + 1))) := by
    conv => lhs; rw [hc]
    rw [cat_append]; rfl
  have hl : (cat EnE.cs (N.take i)).length = i * 2 := by rw [length_cat EnE.cs 2 (fun _ => rfl), List.length_take, Nat.min_eq_left (by omega)]
  rw [e2, e, List.set_append_right _ _ (by omega), hl, show i * 2 + 1 - i * 2 = 1 by omega, cat_append]
  congr 1
  simp [EnE.cs, cat, hid]
theorem NowI.at {w0 w : World} {X T Y : List Thing} {N : List EnE} {B g c n : Nat} (h : NowI w0 X T N B) (hn : N.length = n) (hO : Own w0 w (Row 43 2 (.slice (some ⟨g, 0, none⟩) n c) n (cat EnE.cs N) :: (Y ++ (X ++ T)))) {i : Nat} {y : EnE} (hy : N[i]? = some y) : w.cell? ⟨g, i * 2, none⟩ = some (.int .u32 (y.id : Int)) ∧ w.cell? ⟨g, i * 2 + 1, none⟩ = some (.slice y.ao y.C.length y.cap) ∧ Cs w y.ao y.C := by
  obtain ⟨g', o', e, h1, h2, h3⟩ := (hO.entsRw hn rfl (h.cs w hO.tail.dropA)).at hy
  simp only [Option.some.injEq, Addr.mk.injEq] at e
  obtain ⟨rfl, rfl, _⟩ := e
  rw [Nat.zero_add] at h1 h2
  exact ⟨h1, h2, h3⟩
theorem chgE_no {L : List En} {c : Chg} (h : fstE L c.id = none) : chgE L c = none := by unfold chgE; rw [h]
theorem chgE_bad {L : List En} {c : Chg} {e : En} (h : fstE L c.id = some e) (hn : chgC e.2 c = none) : chgE L c = none := by unfold chgE; rw [h]; simp only [hn]; rfl
theorem chgE_is {L : List En} {c : Chg} {e : En} {M : List Cp} (h : fstE L c.id = some e) (hn : chgC e.2 c = some M) : chgE L c = some (setE L c.id M) := by unfold chgE; rw [h]; simp only [hn]; rfl
theorem chgC_1 {C : List Cp} {c : Chg} (h : dropK c.lost (List.range 8) C = none) : chgC C c = none := by unfold chgC; rw [h]; rfl
theorem chgC_2 {C l : List Cp} {c : Chg} (h : dropK c.lost (List.range 8) C = some l) (h2 : putNew C l c.new = none) : chgC C c = none := by unfold chgC; rw [h, Option.bind_some, h2]; rfl
theorem chgC_3 {C l m : List Cp} {c : Chg} (h : dropK c.lost (List.range 8) C = some l) (h2 : putNew C l c.new = some m) : chgC C c = putSet m c.set := by unfold chgC; rw [h, Option.bind_some, h2, Option.bind_some]
end Go.Proofs.YtkjanpjlpieaoaaDoor

