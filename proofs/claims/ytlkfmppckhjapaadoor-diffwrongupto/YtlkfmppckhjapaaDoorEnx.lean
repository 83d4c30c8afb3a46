/-
  What a delta between two snapshots is made of.
-/
import Derived.Test.YtlkfmppckhjapaaDoorEnw
import Derived.Test.YtlkfmppckhjapaaDoorEnu
namespace Go.Proofs.YtlkfmppckhjapaaDoor
open Go.RowKit
set_option linter.unusedVariables false
set_option maxRecDepth 100000

theorem btw_mem (W N : List En) : (∀ x ∈ (btw W N).come, x ∈ N) ∧ ∀ c ∈ (btw W N).chg, ∀ q ∈ c.new, ∃ n ∈ N, q ∈ n.2 := by
  fun_induction btw W N with
  | case1 => exact ⟨(fun x hx => by cases hx), (fun c hc => by cases hc)⟩
  | case2 w ws ih => exact ih
  | case3 n ns ih =>
    refine ⟨fun x hx => ?_, fun c hc q hq => ?_⟩
    · simp only [addE] at hx
      rcases List.mem_cons.1 hx with rfl | hx
      · exact List.mem_cons_self ..
      · exact List.mem_cons_of_mem _ (ih.1 x hx)
    · obtain ⟨y, hy, h⟩ := ih.2 c hc q hq
      exact ⟨y, List.mem_cons_of_mem _ hy, h⟩
  | case4 w ws n ns h ih => exact ih
  | case5 w ws n ns h h2 ih =>
    refine ⟨fun x hx => ?_, fun c hc q hq => ?_⟩
    · simp only [addE] at hx
      rcases List.mem_cons.1 hx with rfl | hx
      · exact List.mem_cons_self ..
      · exact List.mem_cons_of_mem _ (ih.1 x hx)
    · obtain ⟨y, hy, h⟩ := ih.2 c hc q hq
      exact ⟨y, List.mem_cons_of_mem _ hy, h⟩
  | case6 w ws n ns h h2 ih =>
    refine ⟨fun x hx => List.mem_cons_of_mem _ (ih.1 x hx), fun c hc q hq => ?_⟩
    simp only [addC] at hc
    split at hc
    · obtain ⟨y, hy, h⟩ := ih.2 c hc q hq
      exact ⟨y, List.mem_cons_of_mem _ hy, h⟩
    · rcases List.mem_cons.1 hc with rfl | hc
      · exact ⟨n, List.mem_cons_self .., (List.mem_filter.1 hq).1⟩
      · obtain ⟨y, hy, h⟩ := ih.2 c hc q hq
        exact ⟨y, List.mem_cons_of_mem _ hy, h⟩
theorem EIn.iff (L : List EnE) : EIn L ↔ ∀ e ∈ evs L, e.1 < 4294967296 ∧ ∀ q ∈ e.2, q.k < 256 := by
  constructor
  · intro h e he
    obtain ⟨x, hx, rfl⟩ := List.mem_map.1 he
    exact h x hx
  · intro h x hx
    exact h (x.id, x.C) (List.mem_map.2 ⟨x, hx, rfl⟩)
theorem Own.rowCap {w0 w : World} {l : List Thing} {e : TypeId} {z : Nat} {ao : Option Addr} {cap n : Nat} {xs : List Value} (h : Own w0 w (Row e z (.slice ao n cap) n xs :: l)) : n ≤ cap ∧ cap ≤ 9223372036854775807 := by
  rcases h.row.2 with ⟨hv, h0⟩ | ⟨g, cp, cur, hv, _, _, h3, h4, _⟩
  · simp only [Value.slice.injEq] at hv
    omega
  · simp only [Value.slice.injEq] at hv
    unfold maxLen at h4
    omega
theorem dlOk_of {w0 w : World} {l : List Thing} {W N : List EnE} {d : DlE} (h : Own w0 w (d.things ++ l)) (hd : d.v = btw (evs W) (evs N)) (hIN : EIn N) (hW : esz W ≤ 30000) (hN : esz N ≤ 30000) : DlOk d := by
  obtain ⟨a, b, c, e, f⟩ := btw_sz (evs W) (evs N)
  obtain ⟨m1, m2⟩ := btw_mem (evs W) (evs N)
  have cs := come_sz (evs W) (evs N)
  rw [← hd] at a b c e f cs m1 m2
  rw [evs_len] at a b c
  rw [cszV_evs] at e cs
  have hb : (evs d.M).length ≤ N.length := b
  have hcs : cszV (evs d.M) ≤ csz N := cs
  have hc : (chv d.H).length ≤ N.length := c
  have he : hszV (chv d.H) ≤ 2 * csz N := e
  have ha : d.G.length ≤ W.length := a
  rw [evs_len] at hb
  rw [cszV_evs] at hcs
  rw [chv_len] at hc
  rw [hszV_chv] at he
  unfold esz at hW hN
  have h1 : Own w0 w (grow1 d.G d.ga d.gc :: EntsT d.ma d.mc d.M :: hrow1 d.H d.ha d.hc :: (hrows d.H ++ l)) := h
  have g1 := Own.rowCap h1
  have g2 := Own.rowCap h1.tail.tail
  have hI := (EIn.iff N).1 hIN
  refine ⟨⟨g1.1, g2.1, g1.2, g2.2⟩, (EIn.iff _).2 (fun x hx => hI x (m1 x hx)), by unfold esz; omega, by omega, fun x hx => ?_, by omega⟩
  have hxc : x.v ∈ d.v.chg := List.mem_map.2 ⟨x, hx, rfl⟩
  have h2 := f x.v hxc
  have h3 : x.v.lost = x.lost := rfl
  refine ⟨by omega, fun q hq => ?_⟩
  obtain ⟨n, hn, hq2⟩ := m2 x.v hxc q hq
  exact (hI n hn).2 q hq2
theorem dlv_of {W N : List En} (h1 : fm 0 W = 0) (h2 : fm 0 N = 0) : dcode W N = 0 ∧ dlv W N = btw W N := by
  have h : dcode W N = 0 := by unfold dcode; rw [if_neg (by simp [h1])]; exact h2
  exact ⟨h, by unfold dlv; rw [if_pos h]⟩
end Go.Proofs.YtlkfmppckhjapaaDoor
