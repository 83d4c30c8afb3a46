/-
  A copy of a delta is as good as the delta.
-/
import Derived.Test.YtkjanpjlpieaoaaDoorQd47
import Derived.Test.YtkjanpjlpieaoaaDoorQd37
import Derived.Test.YtkjanpjlpieaoaaDoorQd48
namespace Go.Proofs.YtkjanpjlpieaoaaDoor
open Go.RowKit
set_option linter.unusedVariables false
set_option maxRecDepth 100000

theorem dl_parts {a b : DlE} (h : a.v = b.v) : a.G = b.G ∧ evs a.M = evs b.M ∧ chv a.H = chv b.H := by
  unfold DlE.v at h
  simp only [Dl.mk.injEq] at h
  exact ⟨h.1, h.2.1, h.2.2⟩
theorem dlOk_tw {w0 w W : World} {l : List Thing} {d2 d : DlE} (h : Own w0 w (d2.things ++ l)) (hv : d2.v = d.v) (hd : IsDl W d) (h1 : dszE d ≤ 300) (h2 : esz d.M ≤ 400) : DlOk d2 := by
  obtain ⟨e1, e2, e3⟩ := dl_parts hv
  have e4 : esz d2.M = esz d.M := esz_evs e2
  have e5 : d2.H.length = d.H.length := by rw [← chv_len, e3, chv_len]
  have e6 : hsz d2.H = hsz d.H := by rw [← hszV_chv, e3, hszV_chv]
  have g0 : Own w0 w (grow1 d2.G d2.ga d2.gc :: EntsT d2.ma d2.mc d2.M :: hrow1 d2.H d2.ha d2.hc :: (hrows d2.H ++ l)) := h
  have g1 := Own.rowCap g0
  have g2 := Own.rowCap g0.tail.tail
  unfold dszE at h1
  refine ⟨⟨g1.1, g2.1, g1.2, g2.2⟩, EIn.of_evs e2 hd.inM, by omega, by omega, fun x hx => ?_, by rw [e1]; omega⟩
  have hx2 : x.v ∈ chv d2.H := List.mem_map.2 ⟨x, hx, rfl⟩
  rw [e3] at hx2
  obtain ⟨y, hy, hyx⟩ := List.mem_map.1 hx2
  have h3 := hd.inH y hy
  have h4 : y.lost = x.lost ∧ y.N = x.N := by
    unfold ChE.v at hyx
    simp only [Chg.mk.injEq] at hyx
    exact ⟨hyx.2.1, hyx.2.2.1⟩
  rw [h4.1, h4.2] at h3
  exact ⟨h3.1, h3.2.1⟩
theorem IsDl.dlIn {W : World} {d : DlE} (hd : IsDl W d) (h1 : dszE d ≤ 300) (h2 : esz d.M ≤ 400) : DlIn d := by
  unfold dszE at h1
  exact ⟨by omega, by omega, by omega, fun x hx => (hd.inH x hx).1⟩
end Go.Proofs.YtkjanpjlpieaoaaDoor

