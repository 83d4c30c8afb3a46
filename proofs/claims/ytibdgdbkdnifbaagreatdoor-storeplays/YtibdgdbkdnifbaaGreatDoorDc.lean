/-
  The document's table: Get, Set.
-/
import Derived.Test.YtibdgdbkdnifbaaGreatDoorDb
import Derived.Test.YtibdgdbkdnifbaaGreatDoorUh
namespace Go.Proofs.YtibdgdbkdnifbaaGreatDoor
open Go.RowKit Go.Maps
set_option linter.unusedVariables false
set_option maxRecDepth 100000

theorem TOk.c6 {m : Nat} {L : List Ent} (hT : TOk m L) {r : Nat} {e : Ent} (he : L[r]? = some e) : e.2.length ≤ 6 := by
  have := hT.ok e (List.mem_of_getElem? he)
  rw [← comps_of this.1 this.2, List.length_map]
  exact Nat.le_trans (List.length_filter_le _ _) (by simp)
theorem tget_has {m : Nat} {L : List Ent} (hT : TOk m L) {id r : Nat} {C : List Cp} (hp : plc L id = some r) (he : L[r]? = some (id, C)) {k i : Nat} {q : Cp} (hq : C[i]? = some q) (hqk : q.k = k) : tget m L id k = (0, q) := by
  obtain ⟨h1, h2⟩ := hT.ok _ (List.mem_of_getElem? he)
  have hm := List.mem_of_getElem? hq
  have h6 : k < 6 := by rw [← hqk]; exact chk_k ((lst_ok h1).2 q hm).2
  have hb : bt m k = true := by rw [← h2, bt_msk C k h6, hasK_iff]; exact ⟨q, hm, hqk⟩
  unfold tget
  rw [hp]
  simp only
  rw [if_pos hb, he]
  simp only [Option.map_some, Option.getD_some]
  rw [← hqk, fv_of h1 hm]
  rfl
theorem tget_not {m : Nat} {L : List Ent} (hT : TOk m L) {id r : Nat} {C : List Cp} (hp : plc L id = some r) (he : L[r]? = some (id, C)) {k : Nat} (hk : hasK C k = false) : tget m L id k = (10, ⟨0, 0, 0, 0⟩) := by
  obtain ⟨h1, h2⟩ := hT.ok _ (List.mem_of_getElem? he)
  have hb : bt m k = false := by
    cases hb : bt m k with
    | false => rfl
    | true => rw [hasK_bt h2 hT.m64 hb] at hk; cases hk
  unfold tget
  rw [hp]
  simp only
  rw [hb]
  rfl

section
variable (w0 w : World) (l : List Thing) (b o : Nat) (cur : Array Value) (m : Nat) (L : List Ent)
set_option maxHeartbeats 2000000 in
theorem rtgetC (h : Own w0 w (RTab b o cur m L :: l)) (hT : TOk m L) (hL : L.length ≤ 1000000) (id : Nat) (k : Nat) (hk : k < 256) :
    Calls Tryz.prog 83 #[.pointer (some ⟨b, o, none⟩), .int .u32 (id : Int), .int .u8 (k : Int)] w fun e w' => e = .returned (.tuple #[(tget m L id k).2.ag, .int .i64 ((tget m L id k).1 : Int)]) ∧ Own w0 w' (RTab b o cur m L :: l) := by
  have HCU : Hid (cur[o]? = some (.int .u8 (m : Int)) ∧ o + 1 < cur.size) := RTab.facts h
  have hA := h.allocC #[.int .u8 0, .int .i32 0, .int .i32 0, .int .i32 0] 48
  have z0 := hA.cell 0
  have z1 := hA.cell 1
  have z2 := hA.cell 2
  have z3 := hA.cell 3
  simp at z0 z1 z2 z3
  have y0 := hA.froz 0
  have y1 := hA.froz 1
  have y2 := hA.froz 2
  have y3 := hA.froz 3
  have HR : Hid (Calls _ _ _ _ _) := rtrow w0 _ _ b o cur m L hA.two hT.ap hL id
  have HA : Hid (Own w0 _ (Cells w.heap.size #[.int .u8 0, .int .i32 0, .int .i32 0, .int .i32 0] 48 :: RTab b o cur m L :: l)) := hA
  cases hp : plc L id with
  | none =>
    have HV : Hid (tget m L id k = (7, ⟨0, 0, 0, 0⟩)) := by show _ = _; unfold tget; rw [hp]
    rw [hp] at HR
    simp only [pl1] at HR
    clear h hA hp
    go_enter Tryz.func83, Tryz.ntmps83
    go_wp2_with fail
    refine HR.out.mono ?_
    rintro e w1 ⟨rfl, hf⟩
    have hO := HA.out.quiet hf
    have z0 := hO.cell 0
    have z1 := hO.cell 1
    have z2 := hO.cell 2
    have z3 := hO.cell 3
    simp at z0 z1 z2 z3
    have y0 := hO.froz 0
    have y1 := hO.froz 1
    have y2 := hO.froz 2
    have y3 := hO.froz 3
    have HF : Hid (Own w0 ((((w1.setCell ⟨w.heap.size, 0, none⟩ (.int .u8 0)).setCell ⟨w.heap.size, 1, none⟩ (.int .i32 0)).setCell ⟨w.heap.size, 2, none⟩ (.int .i32 0)).setCell ⟨w.heap.size, 3, none⟩ (.int .i32 0)) (Cells w.heap.size #[.int .u8 0, .int .i32 0, .int .i32 0, .int .i32 0] 48 :: RTab b o cur m L :: l)) :=
      (((hO.setC 0 (.int .u8 0)).setC 1 (.int .i32 0)).setC 2 (.int .i32 0)).setC 3 (.int .i32 0)
    clear HR hf hO
    go_wp2
    (try simp only [Exit.inBlock, Exit.then])
    refine bodyPost_ret (v := .tuple #[.agg #[.int .u8 0, .int .i32 0, .int .i32 0, .int .i32 0], .int .i64 7]) ?_ rfl ⟨by rw [HV.out]; rfl, HF.out.tail⟩
    rw [results_cell_tmp rfl]
    have r0 := HF.out.cell 0
    have r1 := HF.out.cell 1
    have r2 := HF.out.cell 2
    have r3 := HF.out.cell 3
    simp at r0 r1 r2 r3
    go_simp
  | some r =>
    obtain ⟨d, hd, hdi⟩ := (plc_some hT.ap id r).1 hp
    obtain ⟨did, C⟩ := d
    simp only at hdi
    subst hdi
    rw [hp] at HR
    simp only [pl1] at HR
    have hrL := (List.getElem?_eq_some_iff.1 hd).1
    have hr0 : ¬ (r : Int) < 0 := by omega
    have HG : Hid (∀ i q, C[i]? = some q → ∀ kk, q.k = kk → tget m L did kk = (0, q)) := fun i q hq kk hk => tget_has hT hp hd hq hk
    have HG2 : Hid (hasK C k = false → tget m L did k = (10, ⟨0, 0, 0, 0⟩)) := fun h => tget_not hT hp hd h
    have hCk : ∀ q ∈ C, q.k < 256 := fun q hq => by have := chk_k ((lst_ok (hT.ok _ (List.mem_of_getElem? hd)).1).2 q hq).2; omega
    have hC6 : C.length ≤ 6 := hT.c6 hd
    have HX : Hid (∀ w' l', Own w0 w' (RTab b o cur m L :: l') → ∃ g n cap ac cc, r < n ∧ w'.cell? ⟨b, o + 1, none⟩ = some (.slice (some ⟨g, 0, none⟩) n cap) ∧ w'.cell? ⟨g, r * 2 + 1, none⟩ = some (.slice ac C.length cc) ∧ Cs w' ac C) := by
      intro w' l' h'
      obtain ⟨v, E, hE, h'⟩ := RTab.open h'
      have hlen : E.length = L.length := by rw [← hE, List.length_map]
      obtain ⟨g, cap, rfl, _⟩ := row_shape h'.two.row (by omega)
      have q1 := h'.cell (o + 1)
      rw [tcur_at HCU.out.2] at q1
      obtain ⟨e, he⟩ : ∃ e, E[r]? = some e := ⟨_, List.getElem?_eq_getElem (by omega)⟩
      have hee : e.e = (did, C) := by
        have : (E.map REnt.e)[r]? = some e.e := by rw [List.getElem?_map, he]; rfl
        rw [hE, hd] at this
        exact (Option.some.inj this).symm
      obtain ⟨e1, e2, e3, e4⟩ := e
      have e2' : e2 = C := (Prod.mk.inj hee).2
      subst e2'
      obtain ⟨_, c1⟩ := ecell h'.two r _ he
      have hpk := Own.pick r _ he h'
      exact ⟨g, E.length, cap, e3, e4, by omega, q1, c1, Own.rcs hpk rfl⟩
    clear h hA hp hd
    go_enter Tryz.func83, Tryz.ntmps83
    go_wp2_with fail
    refine HR.out.mono ?_
    rintro e w1 ⟨rfl, hf⟩
    have hO := HA.out.quiet hf
    obtain ⟨g, n, cap, ac, cc, hrn, q1, q2, hcs⟩ := HX.out _ _ hO.two
    have hrn' : (r : Int) < (n : Int) := by omega
    have H1 : Hid (Own w0 w1 (Cells w.heap.size #[.int .u8 0, .int .i32 0, .int .i32 0, .int .i32 0] 48 :: RTab b o cur m L :: l)) := hO
    have HFD : Hid (Calls _ _ _ _ _) := find_any w1 ac C.length cc C rfl hcs hCk (by omega) k hk
    have HCS : Hid (Cs w1 ac C) := hcs
    clear HR hf hO hcs HA z0 z1 z2 z3 y0 y1 y2 y3
    generalize hcl : C.length = cl at *
    go_wp2_with fail
    refine HFD.out.mono ?_
    rintro e w2 ⟨r2, rfl, hf2, hcase⟩
    have hO := H1.out.quiet hf2
    have z0 := hO.cell 0
    have z1 := hO.cell 1
    have z2 := hO.cell 2
    have z3 := hO.cell 3
    simp at z0 z1 z2 z3
    have y0 := hO.froz 0
    have y1 := hO.froz 1
    have y2 := hO.froz 2
    have y3 := hO.froz 3
    have hb1 := World.block_lt_of_cell? w1 _ q1
    have hb2 := World.block_lt_of_cell? w1 _ q2
    have p1 := (hf2.cell (p := ⟨b, o + 1, none⟩) hb1 id).trans q1
    have p2 := (hf2.cell (p := ⟨g, r * 2 + 1, none⟩) hb2 id).trans q2
    have HC2 : Hid (Cs w2 ac C) := HCS.out.quiet hf2
    have H2 : Hid (Own w0 w2 (Cells w.heap.size #[.int .u8 0, .int .i32 0, .int .i32 0, .int .i32 0] 48 :: RTab b o cur m L :: l)) := hO
    clear hf2 hO H1 HFD q1 q2 hb1 hb2 HCS HX
    rcases hcase with ⟨rfl, hno⟩ | ⟨i, rfl, q, hq, hqk, _⟩
    · have HV : Hid (tget m L did k = (10, ⟨0, 0, 0, 0⟩)) := HG2.out hno
      have HF : Hid (Own w0 ((((w2.setCell ⟨w.heap.size, 0, none⟩ (.int .u8 0)).setCell ⟨w.heap.size, 1, none⟩ (.int .i32 0)).setCell ⟨w.heap.size, 2, none⟩ (.int .i32 0)).setCell ⟨w.heap.size, 3, none⟩ (.int .i32 0)) (Cells w.heap.size #[.int .u8 0, .int .i32 0, .int .i32 0, .int .i32 0] 48 :: RTab b o cur m L :: l)) :=
        (((H2.out.setC 0 (.int .u8 0)).setC 1 (.int .i32 0)).setC 2 (.int .i32 0)).setC 3 (.int .i32 0)
      clear hno
      go_wp2
      (try simp only [Exit.inBlock, Exit.then])
      refine bodyPost_ret (v := .tuple #[.agg #[.int .u8 0, .int .i32 0, .int .i32 0, .int .i32 0], .int .i64 10]) ?_ rfl ⟨by rw [HV.out]; rfl, HF.out.tail⟩
      rw [results_cell_tmp rfl]
      have r0 := HF.out.cell 0
      have r1 := HF.out.cell 1
      have r2 := HF.out.cell 2
      have r3 := HF.out.cell 3
      simp at r0 r1 r2 r3
      go_simp
    · have HV : Hid (tget m L did k = (0, q)) := HG.out i q hq k hqk
      obtain ⟨gc, oc, hac, _, x0, x1, x2, x3⟩ := HC2.out.at i q hq
      subst hac
      have hic : i < cl := by rw [← hcl]; exact (List.getElem?_eq_some_iff.1 hq).1
      have hic' : (i : Int) < (cl : Int) := by omega
      have hi0 : ¬ (i : Int) < 0 := by omega
      clear hq hcl
      obtain ⟨qk, qa, qb, qc⟩ := q
      simp only at x0 x1 x2 x3
      have HF : Hid (Own w0 ((((w2.setCell ⟨w.heap.size, 0, none⟩ (.int .u8 (qk : Int))).setCell ⟨w.heap.size, 1, none⟩ (.int .i32 qa)).setCell ⟨w.heap.size, 2, none⟩ (.int .i32 qb)).setCell ⟨w.heap.size, 3, none⟩ (.int .i32 qc)) (Cells w.heap.size #[.int .u8 (qk : Int), .int .i32 qa, .int .i32 qb, .int .i32 qc] 48 :: RTab b o cur m L :: l)) :=
        (((H2.out.setC 0 (.int .u8 (qk : Int))).setC 1 (.int .i32 qa)).setC 2 (.int .i32 qb)).setC 3 (.int .i32 qc)
      clear hqk
      go_wp2
      (try simp only [Exit.inBlock, Exit.then])
      refine bodyPost_ret (v := .tuple #[.agg #[.int .u8 (qk : Int), .int .i32 qa, .int .i32 qb, .int .i32 qc], .int .i64 0]) ?_ rfl ⟨by rw [HV.out]; rfl, HF.out.tail⟩
      rw [results_cell_tmp rfl]
      have r0 := HF.out.cell 0
      have r1 := HF.out.cell 1
      have r2 := HF.out.cell 2
      have r3 := HF.out.cell 3
      simp at r0 r1 r2 r3
      go_simp
end
end Go.Proofs.YtibdgdbkdnifbaaGreatDoor
