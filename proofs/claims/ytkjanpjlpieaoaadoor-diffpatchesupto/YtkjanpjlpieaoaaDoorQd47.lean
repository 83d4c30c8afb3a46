/-
  Lists of entities of one's own that are written over.
-/
import Derived.Test.YtkjanpjlpieaoaaDoorQd30
import Derived.Test.YtkjanpjlpieaoaaDoorQd37
import Derived.Test.YtkjanpjlpieaoaaDoorQd26
namespace Go.Proofs.YtkjanpjlpieaoaaDoor
open Go.RowKit
set_option linter.unusedVariables false
set_option maxRecDepth 100000

theorem cat_setE (L : List EnE) (j r : Nat) (x y : EnE) (hx : L[j]? = some x) (v : Value) (hy : y.cs = x.cs.set r v) (hr : r < 2) : cat EnE.cs (L.set j y) = (cat EnE.cs L).set (j * 2 + r) v := by
  induction L generalizing j with
  | nil => simp at hx
  | cons z t ih =>
    have e1 : ∀ (A : List EnE) (q : EnE), cat EnE.cs (q :: A) = q.cs ++ cat EnE.cs A := fun _ _ => by simp [cat]
    cases j with
    | zero =>
      simp at hx
      subst hx
      rw [List.set_cons_zero, e1, e1, hy, Nat.zero_mul, Nat.zero_add, List.set_append]
      rw [if_pos (by simpa [EnE.cs] using hr)]
    | succ j =>
      have ih := ih j (by simpa using hx)
      rw [List.set_cons_succ, e1, e1, ih, List.set_append, if_neg (by simp [EnE.cs]; omega)]
      congr 2
      simp [EnE.cs]
      omega
theorem ccat_seta (C : List Cp) (k : Nat) (q : Cp) (hq : C[k]? = some q) (u : Int) : ccat (C.set k { q with a := u }) = (ccat C).set (k * 4 + 1) (.int .i32 u) := by
  induction C generalizing k with
  | nil => simp at hq
  | cons z t ih =>
    have e1 : ∀ (A : List Cp) (y : Cp), ccat (y :: A) = y.cs ++ ccat A := fun _ _ => by simp [ccat, cat]
    cases k with
    | zero =>
      simp at hq
      subst hq
      rw [List.set_cons_zero, e1, e1]
      simp [Cp.cs]
    | succ k =>
      have ih := ih k (by simpa using hq)
      rw [List.set_cons_succ, e1, e1, ih, List.set_append, if_neg (by simp [Cp.cs]; omega)]
      congr 2
      simp [Cp.cs]
      omega
theorem Own.entCp {w0 w : World} {l : List Thing} {ao : Option Addr} {cap gc : Nat} {L : List EnE} (h : Own w0 w (EntsT ao cap L :: l)) {j k : Nat} {x : EnE} {q : Cp} (hx : L[j]? = some x) (hq : x.C[k]? = some q) (hg : x.ao = some ⟨gc, 0, none⟩) (u : Int) :
    Own w0 (w.setCell ⟨gc, k * 4 + 1, none⟩ (.int .i32 u)) (EntsT ao cap (L.set j { x with C := x.C.set k { q with a := u } }) :: l) := by
  obtain ⟨_, h1⟩ := Own.ex_iff.1 h
  have hj := (List.getElem?_eq_some_iff.1 hx)
  have eL : L = L.take j ++ x :: L.drop (j + 1) := by rw [← hj.2, ← List.drop_eq_getElem_cons hj.1, List.take_append_drop]
  have eS : ∀ y, L.set j y = L.take j ++ y :: L.drop (j + 1) := fun y => by rw [List.set_eq_take_append_cons_drop, if_pos hj.1]
  have hp : ∀ y : EnE, (Row 43 2 (.slice ao L.length cap) L.length (cat EnE.cs L) :: (L.set j y).map erow ++ l).Perm (erow y :: (Row 43 2 (.slice ao L.length cap) L.length (cat EnE.cs L) :: ((L.take j).map erow ++ ((L.drop (j + 1)).map erow ++ l)))) := fun y => by
    rw [eS y]
    have e : Row 43 2 (.slice ao L.length cap) L.length (cat EnE.cs L) :: (L.take j ++ y :: L.drop (j + 1)).map erow ++ l = (Row 43 2 (.slice ao L.length cap) L.length (cat EnE.cs L) :: (L.take j).map erow) ++ erow y :: ((L.drop (j + 1)).map erow ++ l) := by simp
    rw [e]
    exact List.perm_middle
  have hself : L.set j x = L := by
    rw [eS x]; exact eL.symm
  have hp0 := hp x
  rw [hself] at hp0
  have h2 : Own w0 w (erow x :: _) := h1.perm hp0
  have h2' : Own w0 w (Row 46 4 (.slice (some ⟨gc, 0, none⟩) x.C.length x.cap) x.C.length (ccat x.C) :: (Row 43 2 (.slice ao L.length cap) L.length (cat EnE.cs L) :: ((L.take j).map erow ++ ((L.drop (j + 1)).map erow ++ l)))) := by
    have e : erow x = Row 46 4 (.slice (some ⟨gc, 0, none⟩) x.C.length x.cap) x.C.length (ccat x.C) := by unfold erow; rw [hg]
    rw [← e]; exact h2
  have h3 := Own.setR h2' (k * 4 + 1) (.int .i32 u)
  rw [← ccat_seta x.C k q hq u] at h3
  have h4 : Own w0 (w.setCell ⟨gc, k * 4 + 1, none⟩ (.int .i32 u)) (erow { x with C := x.C.set k { q with a := u } } :: (Row 43 2 (.slice ao L.length cap) L.length (cat EnE.cs L) :: ((L.take j).map erow ++ ((L.drop (j + 1)).map erow ++ l)))) := by
    unfold erow
    simp only [List.length_set, hg]
    exact h3
  have h5 := h4.perm (hp { x with C := x.C.set k { q with a := u } }).symm
  have e1 : cat EnE.cs (L.set j { x with C := x.C.set k { q with a := u } }) = cat EnE.cs L := by
    have e : ({ x with C := x.C.set k { q with a := u } } : EnE).cs = x.cs := by simp [EnE.cs]
    have e2 := cat_setE L j 0 x { x with C := x.C.set k { q with a := u } } hx (.int .u32 (x.id : Int)) (by rw [e]; simp [EnE.cs]) (by decide)
    rw [e2, Nat.add_zero]
    apply List.ext_getElem?
    intro i
    rw [List.getElem?_set]
    split
    · rename_i hij
      subst hij
      split
      · have := cat_at EnE.cs 2 (fun _ => rfl) L j 0 x hx (by decide)
        rw [Nat.add_zero] at this
        rw [this]; rfl
      · rename_i hl
        rw [List.getElem?_eq_none (Nat.le_of_not_lt hl)]
    · rfl
  have e2 : (L.set j { x with C := x.C.set k { q with a := u } }).length = L.length := by simp
  refine Own.ents ?_
  rw [e1, e2]
  exact h5
theorem Own.entRow {w0 w : World} {l : List Thing} {ao : Option Addr} {cap : Nat} {L : List EnE} (h : Own w0 w (EntsT ao cap L :: l)) {j : Nat} {x : EnE} (hx : L[j]? = some x) : w.ownsRow 0 46 4 (.slice x.ao x.C.length x.cap) x.C.length (ccat x.C) := by
  obtain ⟨_, h1⟩ := Own.ex_iff.1 h
  obtain ⟨L1, L2, rfl⟩ := List.append_of_mem (List.mem_of_getElem? hx)
  have h2 : Own w0 w (erow x :: (L1.map erow ++ (L2.map erow ++ l))) := by
    have h3 : Own w0 w ((L1 ++ x :: L2).map erow ++ l) := h1.tail
    refine h3.perm ?_
    have e : (L1 ++ x :: L2).map erow ++ l = L1.map erow ++ (erow x :: (L2.map erow ++ l)) := by simp
    rw [e]
    exact List.perm_middle
  exact h2.row
end Go.Proofs.YtkjanpjlpieaoaaDoor

/-
  Deltas that come in.
-/
namespace Go.Proofs.YtkjanpjlpieaoaaDoor
open Go.ChangeShapes Go.WideShapes Go.ChangeAt Go.RowKit Go.Deep
set_option linter.unusedVariables false
set_option maxRecDepth 100000

theorem cellsIDs : Tryd.prog.cellsOf 23 = 1 := by kernel_rfl
theorem cellsEnts : Tryd.prog.cellsOf 22 = 1 := by kernel_rfl
theorem cellsChgs : Tryd.prog.cellsOf 24 = 1 := by kernel_rfl
theorem cellsChg : Tryd.prog.cellsOf 51 = 4 := by kernel_rfl
theorem cellsDelta : Tryd.prog.cellsOf 26 = 3 := by kernel_rfl
theorem cellsU8d : Tryd.prog.cellsOf 5 = 1 := by kernel_rfl
theorem tre {β : Type} {l : List β} (h : l.length = 3) : ∃ a b c, l = [a, b, c] := by
  match l, h with
  | [a, b, c], _ => exact ⟨a, b, c, rfl⟩
theorem quat {β : Type} {l : List β} (h : l.length = 4) : ∃ a b c d, l = [a, b, c, d] := by
  match l, h with
  | [a, b, c, d], _ => exact ⟨a, b, c, d, rfl⟩
theorem oku32 {b : Int} (wb : Lit.wf (.int .u32 b) = true) : ∃ n : Nat, b = n ∧ n < 4294967296 := by
  have hb : 0 ≤ b ∧ b ≤ 4294967295 := by simpa [Lit.wf, IntKind.min, IntKind.max, IntKind.signed, IntKind.bits] using wb
  obtain ⟨bn, rfl⟩ := Int.eq_ofNat_of_zero_le hb.1
  exact ⟨bn, rfl, by omega⟩
theorem oku8 {b : Int} (wb : Lit.wf (.int .u8 b) = true) : ∃ n : Nat, b = n ∧ n < 256 := by
  have hb : 0 ≤ b ∧ b ≤ 255 := by simpa [Lit.wf, IntKind.min, IntKind.max, IntKind.signed, IntKind.bits] using wb
  obtain ⟨bn, rfl⟩ := Int.eq_ofNat_of_zero_le hb.1
  exact ⟨bn, rfl, by omega⟩
def IDI (cs : List Value) (x : Nat) : Prop := cs = [.int .u32 (x : Int)] ∧ x < 4294967296
def ChgI (W : World) (cs : List Value) (x : ChE) : Prop := cs = x.cs ∧ x.id < 4294967296 ∧ x.lost < 256 ∧ IsComps W x.na x.N.length x.nc x.N ∧ IsComps W x.sa x.S.length x.sc x.S
theorem chg_is {H : Type} {enc : TypeId × Value → H} {W : World} (fuel : Nat) (cs : List Value) (x : DataW H × List MemPlace)
    (h : DataW.trod enc Tryd.prog W 0 (fun _ => true) true fuel 51 cs = some x) : ∃ e, ChgI W cs e ∧ e.N.length + e.S.length + 1 ≤ Rows.uptoBulk x.1 := by
  obtain ⟨xs, n, _, hx, hl, hlen, hf⟩ := DataW.trod_struct Tryd.underlying51 h
  rw [cellsChg] at hl
  obtain ⟨c0, c1, c2, c3, rfl⟩ := quat hl
  obtain ⟨y0, y1, y2, y3, rfl⟩ := quat hlen
  have h0 := hf 0 _ rfl
  have h1 := hf 1 _ rfl
  have h2 := hf 2 _ rfl
  have h3 := hf 3 _ rfl
  simp [cellsEntC, cellsEntI, cellsU8d] at h0 h1 h2 h3
  obtain ⟨b, b0, _, wb⟩ := DataW.trod_int Tryd.underlying40 h0
  obtain ⟨l, l0, _, wl⟩ := DataW.trod_int Tryd.underlying5 h1
  simp at b0 l0
  subst b0 l0
  obtain ⟨bn, rfl, hb⟩ := oku32 wb
  obtain ⟨ln, rfl, hl8⟩ := oku8 wl
  obtain ⟨na, nc, N, hv2, hN, hs2⟩ := open_csB h2
  obtain ⟨sa, sc, S, hv3, hS, hs3⟩ := open_csB h3
  simp at hv2 hv3
  subst hv2 hv3
  refine ⟨⟨bn, ln, N, na, nc, S, sa, sc⟩, ⟨rfl, hb, hl8, hN, hS⟩, ?_⟩
  subst hx
  show _ ≤ Rows.uptoBulk (.agg [y0.1, y1.1, y2.1, y3.1])
  rw [bulk_agg]
  have e : Rows.uptoBulkAll [y0.1, y1.1, y2.1, y3.1] = Rows.uptoBulk y0.1 + (Rows.uptoBulk y1.1 + (Rows.uptoBulk y2.1 + (Rows.uptoBulk y3.1 + 0))) := rfl
  rw [e]
  show N.length + S.length + 1 ≤ _
  omega
/-- a delta that came in -/
structure IsDl (W : World) (d : DlE) : Prop where
  at' : DlAt W d
  cp : d.G.length ≤ d.gc ∧ d.H.length ≤ d.hc ∧ d.gc ≤ 9223372036854775807 ∧ d.hc ≤ 9223372036854775807
  inM : EIn d.M
  inH : ∀ x ∈ d.H, x.lost < 256 ∧ (∀ q ∈ x.N, q.k < 256) ∧ (∀ q ∈ x.S, q.k < 256)
def zsz (d : DlE) : Nat := d.G.length + esz d.M + (d.H.length + hsz d.H)
theorem hsz_sum (Q : List ChE) : (Q.map (fun x => x.N.length + x.S.length + 1)).sum = Q.length + hsz Q := by
  induction Q with
  | nil => rfl
  | cons x t ih => simp only [List.map_cons, List.sum_cons, List.length_cons, hsz, ih]; omega
theorem open_delta {H : Type} {enc : TypeId × Value → H} {W : World} {base : Nat} {v : Value} {d : DataW H} {p : List MemPlace}
    (hv : Value.okWide Tryd.prog W .any base 26 v) (h : DataW.Trod enc Tryd.prog W 0 (fun _ => true) true 26 v d p) :
    ∃ z : DlE, v = .agg z.vs ∧ IsDl W z ∧ zsz z ≤ Rows.uptoBulk d := by
  obtain ⟨cs, rfl, hsz, _⟩ : ∃ cs, v = .agg cs ∧ cs.size = Tryd.prog.cellsOf 26 ∧ Row.okWide Tryd.prog W .any base 26 cs := by
    simpa [Value.okWide, Tryd.underlying26] using hv
  obtain ⟨fuel, hf⟩ := h
  obtain ⟨xs, n, _, hx, hl, hlen, hf⟩ := DataW.trod_struct Tryd.underlying26 hf
  rw [cellsDelta] at hl
  obtain ⟨ls⟩ := cs
  simp [Value.cells] at hl
  obtain ⟨c0, c1, c2, rfl⟩ := tre hl
  obtain ⟨y0, y1, y2, rfl⟩ := tre hlen
  have h0 := hf 0 _ rfl
  have h1 := hf 1 _ rfl
  have h2 := hf 2 _ rfl
  simp [cellsIDs, cellsEnts, cellsChgs, Value.cells] at h0 h1 h2
  obtain ⟨ga, gl, gc, rfl⟩ : ∃ a l c, c0 = .slice a l c := by
    rcases open_slice Tryd.underlying23 h0 with ⟨hc, _⟩ | ⟨a, l, c, m, n, D, Pl, hc, _⟩
    · simp at hc; exact ⟨_, _, _, hc⟩
    · simp at hc; exact ⟨_, _, _, hc⟩
  obtain ⟨ma, ml, mc, rfl⟩ : ∃ a l c, c1 = .slice a l c := by
    rcases open_slice Tryd.underlying22 h1 with ⟨hc, _⟩ | ⟨a, l, c, m, n, D, Pl, hc, _⟩
    · simp at hc; exact ⟨_, _, _, hc⟩
    · simp at hc; exact ⟨_, _, _, hc⟩
  obtain ⟨ha, hl', hc', rfl⟩ : ∃ a l c, c2 = .slice a l c := by
    rcases open_slice Tryd.underlying24 h2 with ⟨hc, _⟩ | ⟨a, l, c, m, n, D, Pl, hc, _⟩
    · simp at hc; exact ⟨_, _, _, hc⟩
    · simp at hc; exact ⟨_, _, _, hc⟩
  obtain ⟨d0, p0⟩ := y0
  obtain ⟨d1, p1⟩ := y1
  obtain ⟨d2, p2⟩ := y2
  obtain ⟨G, g1, g2, g3, g4, g5⟩ := open_rowsB 1 Tryd.underlying23 cellsEntI (by decide) IDI (fun _ => 1) (fun fuel cs x hx => by
    obtain ⟨b, b0, _, wb⟩ := DataW.trod_int Tryd.underlying40 hx
    obtain ⟨bn, rfl, hb⟩ := oku32 wb
    exact ⟨bn, ⟨b0, hb⟩, bulk_pos _⟩) (d := d0) (p := p0) ⟨n, h0⟩
  obtain ⟨M, hM, hMz⟩ := open_ents (d := d1) (p := p1) ⟨n, h1⟩
  haveI : Inhabited ChE := ⟨⟨0, 0, [], none, 0, [], none, 0⟩⟩
  obtain ⟨C, e1, e2, e3, e4, e5⟩ := open_rowsB 4 Tryd.underlying24 cellsChg (by decide) (ChgI W) (fun x => x.N.length + x.S.length + 1) (fun fuel cs x hx => chg_is fuel cs x hx) (d := d2) (p := p2) ⟨n, h2⟩
  rw [ones_sum] at g5
  rw [hsz_sum] at e5
  obtain ⟨hM1, hM2, hM3, hM4⟩ := hM
  subst g1 e1 hM1
  have hME := IsEnts.ents (w := W) (ao := ma) (len := M.length) (cap := mc) (Q := M) ⟨rfl, hM2, hM3, hM4⟩
  have key : ∀ x ∈ C, x.id < 4294967296 ∧ x.lost < 256 ∧ IsComps W x.na x.N.length x.nc x.N ∧ IsComps W x.sa x.S.length x.sc x.S := by
    intro x hx
    obtain ⟨j, hj⟩ := List.getElem?_of_mem hx
    rcases e4 with h | ⟨g, of, ha, hc⟩
    · subst h; simp at hj
    · obtain ⟨cs, ⟨_, k1, k2, k3, k4⟩, _⟩ := hc j x hj
      exact ⟨k1, k2, k3, k4⟩
  refine ⟨⟨G, ga, gc, M, ma, mc, C, ha, hc'⟩, rfl, ⟨⟨⟨ga, gc, rfl, ?_⟩, hME.1, ?_, fun x hx => ⟨(key x hx).2.2.1.cs.1, (key x hx).2.2.2.cs.1⟩⟩, ⟨g2, e2, g3, e3⟩, hME.2, fun x hx => ⟨(key x hx).2.1, (key x hx).2.2.1.cs.2, (key x hx).2.2.2.cs.2⟩⟩, ?_⟩
  · rcases g4 with h | ⟨g, of, ha, hc⟩
    · exact .inl h
    · refine .inr ⟨g, of, ha, fun j x hj => ?_⟩
      obtain ⟨cs, ⟨rfl, _⟩, _, h3⟩ := hc j x hj
      have := h3 0 (by decide)
      simpa using this
  · rcases e4 with h | ⟨g, of, ha, hc⟩
    · exact .inl h
    · refine .inr ⟨g, of, ha, fun j x hj => ?_⟩
      obtain ⟨cs, ⟨rfl, _⟩, _, h3⟩ := hc j x hj
      exact ⟨h3 0 (by decide), h3 1 (by decide), h3 2 (by decide), h3 3 (by decide)⟩
  · simp only [Prod.mk.injEq] at hx
    rw [hx.1]
    show _ ≤ Rows.uptoBulk (.agg [d0, d1, d2])
    rw [bulk_agg]
    have e : Rows.uptoBulkAll [d0, d1, d2] = Rows.uptoBulk d0 + (Rows.uptoBulk d1 + (Rows.uptoBulk d2 + 0)) := rfl
    rw [e]
    unfold zsz
    simp only
    omega
end Go.Proofs.YtkjanpjlpieaoaaDoor

