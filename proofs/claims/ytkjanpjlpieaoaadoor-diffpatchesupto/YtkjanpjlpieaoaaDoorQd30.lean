/-
  What becomes of those that were there: the walk of the program's after.
-/
import Derived.Test.YtkjanpjlpieaoaaDoorQd29
namespace Go.Proofs.YtkjanpjlpieaoaaDoor
open Go.RowKit
set_option linter.unusedVariables false
set_option maxRecDepth 100000

theorem evs_get {L M : List EnE} (h : evs L = evs M) {j : Nat} {x : EnE} (hx : L[j]? = some x) : ∃ y, M[j]? = some y ∧ y.id = x.id ∧ y.C = x.C := by
  have h1 : (evs M)[j]? = some (x.id, x.C) := by rw [← h]; exact evs_at hx
  unfold evs at h1
  rw [List.getElem?_map] at h1
  obtain ⟨y, hy, e⟩ := Option.map_eq_some_iff.1 h1
  simp only [Prod.mk.injEq] at e
  exact ⟨y, hy, e.1, e.2⟩
theorem evs_mem {L M : List EnE} (h : evs L = evs M) {x : EnE} (hx : x ∈ L) : ∃ y ∈ M, y.id = x.id ∧ y.C = x.C := by
  obtain ⟨j, hj⟩ := List.getElem?_of_mem hx
  obtain ⟨y, hy, e⟩ := evs_get h hj
  exact ⟨y, List.mem_of_getElem? hy, e⟩
theorem EIn.of_evs {L M : List EnE} (h : evs L = evs M) (hM : EIn M) : EIn L := fun x hx => by
  obtain ⟨y, hy, e1, e2⟩ := evs_mem h hx
  rw [← e1, ← e2]
  exact hM y hy
theorem csz_evs {L M : List EnE} (h : evs L = evs M) : csz L = csz M := by
  induction L generalizing M with
  | nil => cases M with
    | nil => rfl
    | cons y s => simp [evs] at h
  | cons x t ih =>
    cases M with
    | nil => simp [evs] at h
    | cons y s =>
      simp only [evs, List.map_cons, List.cons.injEq, Prod.mk.injEq] at h
      simp only [csz]
      rw [ih h.2, h.1.2]
theorem esz_evs {L M : List EnE} (h : evs L = evs M) : esz L = esz M := by
  have h1 := congrArg List.length h
  rw [evs_len, evs_len] at h1
  unfold esz
  rw [h1, csz_evs h]
theorem Own.dropB {w0 w : World} {P : Thing} {A l : List Thing} (h : Own w0 w (P :: (A ++ l))) : Own w0 w (P :: l) := by
  induction A with
  | nil => exact h
  | cons a t ih => exact ih (Own.two h).tail
theorem csz_snoc (L : List EnE) (x : EnE) : csz (L ++ [x]) = csz L + x.C.length := by rw [csz_append]; simp [csz]
theorem csz_perm {L M : List EnE} (h : L.Perm M) : csz L = csz M := by
  induction h with
  | nil => rfl
  | cons x _ ih => simp only [csz, ih]
  | swap x y l => simp only [csz]; omega
  | trans _ _ h1 h2 => exact h1.trans h2
theorem EntsAt.cells {w : World} {ao : Option Addr} {L : List EnE} (h : EntsAt w ao L) (hL : L ≠ []) : ∃ g o, ao = some ⟨g, o, none⟩ ∧ ∀ j u, (cat EnE.cs L)[j]? = some u → w.cell? ((⟨g, o, none⟩ : Addr).add j) = some u := by
  rcases h.1 with h0 | ⟨g, o, ha, hc⟩
  · exact absurd h0 hL
  · refine ⟨g, o, ha, fun j u hu => ?_⟩
    have hj := (List.getElem?_eq_some_iff.1 hu).1
    rw [length_cat EnE.cs 2 (fun _ => rfl)] at hj
    obtain ⟨q, hq⟩ : ∃ q, L[j / 2]? = some q := ⟨_, List.getElem?_eq_getElem (by omega)⟩
    have e : j = j / 2 * 2 + j % 2 := by omega
    rw [e, cat_at EnE.cs 2 (fun _ => rfl) L _ _ q hq (Nat.mod_lt _ (by decide))] at hu
    obtain ⟨h0, h1⟩ := hc _ q hq
    rw [addr_add, e]
    have c : j % 2 = 0 ∨ j % 2 = 1 := by omega
    rcases c with c | c <;> rw [c] at hu ⊢ <;> simp [EnE.cs] at hu <;> subst hu
    · exact h0
    · rw [← Nat.add_assoc]; exact h1
/-- append(l, more...) of entities -/
theorem append_en {w0 w : World} {l : List Thing} {ops : Array Oper} {rest : List Oper} {o : Oper} {a : Act} {Q : Exit → Act → World → Prop} (hgd : o.guard = none) (sx x : Operand)
    (ho : o.op = .call { callee := .builtin .append, args := #[sx, x], argTypes := #[22, 22] })
    (i : TypeInfo) (hi : Tryd.prog.info? 43 = some i) (z : Value) (hz : i.zero = some z) (hsize : i.size = 2) (hby : i.bytes = 32) (hzs : z.cells.size = 2)
    (v : Value) (n : Nat) (xs : List Value) (hs : a.eval sx = v) (ao : Option Addr) (m cap : Nat) (L : List EnE) (hx : a.eval x = .slice ao m cap) (hL : L.length = m) (hc : EntsAt w ao L) (hown : Own w0 w (Row 43 2 v n xs :: l))
    (h63 : n + m ≤ maxLen) (hbytes : (n + m) * 32 ≤ 140737488355328)
    (h : ∀ ao' cap' w', Own w0 w' (Row 43 2 (.slice ao' (n + m) cap') (n + m) (xs ++ cat EnE.cs L) :: l) → wpList Tryd.prog ops Q rest (a.put o.dst (.slice ao' (n + m) cap')) w') : wpList Tryd.prog ops Q (o :: rest) a w := by
  rcases Nat.eq_zero_or_pos m with h0 | h0
  · subst h0
    have hy : L = [] := List.eq_nil_of_length_eq_zero hL
    subst hy
    obtain ⟨va, vc, rfl⟩ := row_any hown.row
    refine wpList_plain hgd fun K hK' => ?_
    have hr := run_append_empty (P := Tryd.prog) w 0 22 o.type 43 i 2 Tryd.underlying22 hi _ n xs hown.row ao cap
    unfold Oper.wp
    simp [execOp, ho, resolve, invoke, builtin, hs, hx, hr, Result.andThen]
    exact hK' _ _ (by simpa using h va vc w (by simpa [cat] using hown))
  · obtain ⟨g, o', rfl, hcc⟩ := hc.cells (fun e => by rw [e] at hL; simp at hL; omega)
    refine append_own hgd sx x 22 ho 43 i z 2 32 Tryd.underlying22 hi hz hsize hby hzs (by decide) v n xs hs hown ⟨g, o', none⟩ m cap (cat EnE.cs L) hx (by rw [length_cat EnE.cs 2 (fun _ => rfl), hL]) hcc (one_cat EnE.cs (fun x u hu => by simp [EnE.cs] at hu; rcases hu with rfl | rfl <;> rfl) L) h0 h63 hbytes ?_
    intro g' cap' w' hO hsz
    exact h _ _ w' hO
set_option maxHeartbeats 32000000 in
theorem after_any (w0 w : World) (l : List Thing) (h : Own w0 w l) (aw : Option Addr) (n cw : Nat) (W : List EnE) (d : DlE) (hQ : ∀ w', Own w0 w' l → EntsAt w' aw W ∧ DlAt w' d) (hW : W.length = n) (hcp : d.G.length ≤ d.gc ∧ d.H.length ≤ d.hc ∧ d.gc ≤ 9223372036854775807 ∧ d.hc ≤ 9223372036854775807) (hIW : EIn W) (hIM : EIn d.M) (hzW : esz W ≤ 200000) (hzM : esz d.M ≤ 200000) (hzH : d.H.length + hsz d.H ≤ 200000) (hlo : ∀ x ∈ d.H, x.lost < 256 ∧ ∀ q ∈ x.N, q.k < 256) (hzG : d.G.length ≤ 200000) :
    Calls Tryd.prog 16 #[.slice aw n cw, .agg d.vs] w fun e w' => ∃ (ao : Option Addr) (cap : Nat) (R : List EnE), e = .returned (.slice ao R.length cap) ∧ (∃ Lq, AftR (evs W) d.G (chv d.H) Lq ∧ (evs R).Perm (Lq ++ evs d.M) ∧ (evs R).Pairwise (fun a b => a.1 ≤ b.1)) ∧ esz R ≤ esz W + esz d.M + (d.H.length + hsz d.H) ∧ EIn R ∧ Own w0 w' (EntsT ao cap R :: l) := by
  obtain ⟨iE, hiE, hE0, hE1, hE2⟩ := info3w Tryd.infoEnt
  have hB := h.allocC d.vs 26
  have HQ : Hid (∀ w', Own w0 w' l → EntsAt w' aw W ∧ DlAt w' d) := hQ
  have HW : Hid (W.length = n ∧ EIn W ∧ EIn d.M ∧ esz W ≤ 200000 ∧ esz d.M ≤ 200000 ∧ d.H.length + hsz d.H ≤ 200000 ∧ ∀ x ∈ d.H, x.lost < 256 ∧ ∀ q ∈ x.N, q.k < 256) := ⟨hW, hIW, hIM, hzW, hzM, hzH, hlo⟩
  have HB : Hid (Own w0 _ _) := hB
  have hnw : n ≤ 200000 := by unfold esz at hzW; omega
  have hlt3 : w.heap.size < (w.alloc (.cells d.vs 26)).heap.size := by simp
  have HST : Hid (AfR w0 l W d w.heap.size n 0 d.G d.ga d.gc d.H d.ha d.hc [] none 0 [] (w.alloc (.cells d.vs 26)).drew) := {
    rd := fun w' hw => ⟨(hQ w' hw).2.g, (hQ w' hw).2.h⟩
    cp := hcp
    sf := List.suffix_refl _
    gl := Nat.le_refl _
    kk := fun L2 h2 => by simpa [evs] using h2
    le := Nat.zero_le _
    sz := by simp [csz]
    inn := fun x hx => by cases hx
    src := fun x hx => by cases hx
    own := (hB.drew).nilRow _ _ }
  clear h hQ hW hIW hIM hzW hzM hzH hlo hB hcp
  unfold DlE.vs at HB HST
  unfold DlE.vs
  go_enter Tryd.func16, Tryd.ntmps16
  go_wp2
  generalize hWg : w.alloc (.cells #[.slice d.ga d.G.length d.gc, .slice d.ma d.M.length d.mc, .slice d.ha d.H.length d.hc] 26) = W0 at *
  have hwb : ∀ w', Own w0 w' l → True := fun _ _ => trivial
  have H00 : Hid (Own w0 W0 l) := HB.out.tail
  generalize hb3 : w.heap.size = b3 at *
  clear hWg hb3
  have p0 := HB.out.cell 0
  have p2 := HB.out.cell 2
  simp at p0 p2
  go_region_held3 (fun w' => w'.cell? ⟨b3, 0, none⟩ = some (.slice d.ga d.G.length d.gc) ∧ w'.cell? ⟨b3, 2, none⟩ = some (.slice d.ha d.H.length d.hc)) (go_keep) (fail)
  clear p0 p2 HB hwb
  go_wp2
  go_loopw [5, 6, 7, 16] (fun v5 v6 v7 v16 wr => ∃ (j : Nat) (G1 : List Nat) (ga : Option Addr) (gc : Nat) (H1 : List ChE) (ha : Option Addr) (hc : Nat) (L1 : List EnE) (la : Option Addr) (lc : Nat) (Y : List EnE), j ≤ n ∧ v16 = .int .i64 (j : Int) ∧ v6 = .slice ga G1.length gc ∧ v7 = .slice ha H1.length hc ∧ v5 = .slice la L1.length lc ∧ AfR w0 l W d b3 n j G1 ga gc H1 ha hc L1 la lc Y wr) (fun _ _ _ v16 _ => n - (intOf v16).toNat)
  case atStart => exact ⟨0, d.G, d.ga, d.gc, d.H, d.ha, d.hc, [], none, 0, [], Nat.zero_le _, rfl, rfl, rfl, rfl, HST.out⟩
  case round =>
    obtain ⟨j, G1, ga, gc, H1, ha, hc, L1, la, lc, Y, hj, rfl, rfl, rfl, rfl, hA⟩ := hrel
    clear HST
    have HA : Hid (AfR w0 l W d b3 n j G1 ga gc H1 ha hc L1 la lc Y wr) := hA
    have hL1 := hA.le
    have hO := hA.own
    clear hA
    by_cases hlt : j < n
    · have hlt' : (j : Int) < (n : Int) := by omega
      obtain ⟨x, hx⟩ : ∃ x, W[j]? = some x := ⟨_, List.getElem?_eq_getElem (by rw [HW.out.1]; exact hlt)⟩
      have hOl : Own w0 wr l := hO.tail.tail.dropA
      obtain ⟨g, o, haw, c0, c1, _⟩ := (HQ.out wr hOl).1.at hx
      have hxm := List.mem_of_getElem? hx
      have hxk := HW.out.2.1 x hxm
      have hxl : x.C.length ≤ 200000 := by have h1 := csz_mem hxm; have h2 := HW.out.2.2.2.1; unfold esz at h2; omega
      have hB9 := hO.allocC #[.int .u32 (x.id : Int), .slice x.ao x.C.length x.cap] 43
      have HDR : Hid ((evs W).drop j = (x.id, x.C) :: (evs W).drop (j + 1)) := by
        have := List.getElem?_eq_some_iff.1 (evs_at hx)
        show _ = _
        rw [List.drop_eq_getElem_cons this.1, this.2]
      have HCT : Hid (csz (W.take (j + 1)) = csz (W.take j) + x.C.length) := csz_take hx
      have HXC : Hid (∀ w', Own w0 w' l → Cs w' x.ao x.C) := fun w' hw => (HQ.out w' hw).1.2 x hxm
      have HXW : Hid (x ∈ W ∧ x.id < 4294967296 ∧ ∀ q ∈ x.C, q.k < 256) := ⟨hxm, hxk⟩
      have HB9 : Hid (Own w0 _ _) := hB9
      subst haw
      clear hO hx hxm hxk hB9 hOl
      have HXE : Hid (∃ y : EnE, y = x) := ⟨_, rfl⟩
      obtain ⟨xi, xa, xc, xC⟩ := x
      simp only at c0 c1 hxl HDR HCT HXC HXW HB9
      generalize hxl2 : xC.length = xl at *
      have HXL : Hid (xC.length = xl) := hxl2
      clear hxl2 HXE
      have gcp := HA.out.cp
      have ggl := HA.out.gl
      go_wp2
      generalize hWg : wr.alloc (.cells #[.int .u32 (xi : Int), .slice xa xl xc] 43) = W1 at *
      generalize wr.heap.size = b9 at *
      clear hWg c0 c1
      obtain ⟨r6, hr6⟩ : ∃ r6, decide (G1.head? = some xi) = r6 := ⟨_, rfl⟩
      go_cut [30] (fun s30 wc => s30 = .bool r6 ∧ Own w0 wc (Cells b9 #[.int .u32 (xi : Int), .slice xa xl xc] 43 :: Row 43 2 (.slice la L1.length lc) L1.length (cat EnE.cs L1) :: Cells b3 d.vs 26 :: (Y.map erow ++ l)))
      case first =>
        have s0 : ∀ f : FrOf W1, f.val.cell? ⟨b9, 0, none⟩ = some (.int .u32 (xi : Int)) := fun f => (HB9.out.quiet f.fr).cell 0
        rcases G1 with _ | ⟨g1, gt⟩
        · have hr6f : r6 = false := by rw [← hr6]; rfl
          subst hr6f
          clear hr6
          go_wp2
          refine wp_region_fr (by kernel_rfl) (by kernel_rfl) ?_
          repeat (with_reducible refine wpQuiet_step (fun K hK => ?_)
                  go_simp
                  (refine hK _ ?_; clear hK K))
          refine wpQuiet_nil ?_
          rintro w' ⟨f, rfl⟩
          have HO2 : Hid (Own w0 f.val _) := HB9.out.quiet f.fr
          generalize f.val = W2 at *
          go_wp2
          go_meet
          case rel => exact ⟨rfl, HO2.out⟩
        · have hN : ∀ w', Own w0 w' l → ∃ gg og, ga = some ⟨gg, og, none⟩ ∧ w'.cell? ⟨gg, og, none⟩ = some (.int .u32 (g1 : Int)) := fun w' hw => by
            obtain ⟨gg, og, e, hc⟩ := ((HA.out.rd w' hw).1).at (j := 0) (x := g1) rfl
            exact ⟨gg, og, e, by simpa using hc⟩
          obtain ⟨gg, og, hga, _⟩ := hN W1 HB9.out.tail.tail.tail.dropA
          subst hga
          have t0 : ∀ f : FrOf W1, f.val.cell? ⟨gg, og, none⟩ = some (.int .u32 (g1 : Int)) := fun f => by
            obtain ⟨a, b, e, hc⟩ := hN f.val (HB9.out.quiet f.fr).tail.tail.tail.dropA
            cases e; exact hc
          have hlp : (0 : Int) < ((gt.length : Int) + 1) := by omega
          clear hN
          by_cases hgx : g1 = xi
          · have hr6f : r6 = true := by rw [← hr6, hgx]; simp
            have hgx' : ((g1 : Int) == (xi : Int)) = true := by simp [hgx]
            subst hr6f
            clear hr6 hgx
            simp only [List.length_cons]
            go_wp2
            refine wp_region_fr (by kernel_rfl) (by kernel_rfl) ?_
            repeat (with_reducible refine wpQuiet_step (fun K hK => ?_)
                    go_simp
                    (refine hK _ ?_; clear hK K))
            refine wpQuiet_nil ?_
            rintro w' ⟨f, rfl⟩
            have HO2 : Hid (Own w0 f.val _) := HB9.out.quiet f.fr
            generalize f.val = W2 at *
            go_wp2
            go_meet
            case rel => exact ⟨rfl, HO2.out⟩
          · have hr6f : r6 = false := by rw [← hr6]; simp [hgx]
            have hgx' : ((g1 : Int) == (xi : Int)) = false := by rw [beq_eq_false_iff_ne]; omega
            subst hr6f
            clear hr6 hgx
            simp only [List.length_cons]
            go_wp2
            refine wp_region_fr (by kernel_rfl) (by kernel_rfl) ?_
            repeat (with_reducible refine wpQuiet_step (fun K hK => ?_)
                    go_simp
                    (refine hK _ ?_; clear hK K))
            refine wpQuiet_nil ?_
            rintro w' ⟨f, rfl⟩
            have HO2 : Hid (Own w0 f.val _) := HB9.out.quiet f.fr
            generalize f.val = W2 at *
            go_wp2
            go_meet
            case rel => exact ⟨rfl, HO2.out⟩
      case rest =>
        obtain ⟨rfl, hO2⟩ := hcut
        clear HB9
        cases r6
        · have hhd : G1.head? ≠ some xi := of_decide_eq_false hr6
          clear hr6
          have HHD : Hid (G1.head? ≠ some xi) := hhd
          clear hhd
          obtain ⟨r8, hr8⟩ : ∃ r8, decide ((chv H1).head?.map Chg.id = some xi) = r8 := ⟨_, rfl⟩
          have HO2 : Hid (Own w0 wc (Cells b9 #[.int .u32 (xi : Int), .slice xa xl xc] 43 :: Row 43 2 (.slice la L1.length lc) L1.length (cat EnE.cs L1) :: Cells b3 d.vs 26 :: (Y.map erow ++ l))) := hO2
          clear hO2
          have gcp2 := gcp.2.1
          have gcp4 := gcp.2.2.2
          have hHl : H1.length ≤ 200000 := by have h1 := HA.out.sf.length_le; have h2 := HW.out.2.2.2.2.2.1; omega
          go_wp2
          go_cut [44] (fun s44 wd => s44 = .bool r8 ∧ Own w0 wd (Cells b9 #[.int .u32 (xi : Int), .slice xa xl xc] 43 :: Row 43 2 (.slice la L1.length lc) L1.length (cat EnE.cs L1) :: Cells b3 d.vs 26 :: (Y.map erow ++ l)))
          case first =>
            have s0 : ∀ f : FrOf wc, f.val.cell? ⟨b9, 0, none⟩ = some (.int .u32 (xi : Int)) := fun f => (HO2.out.quiet f.fr).cell 0
            rcases H1 with _ | ⟨y, ht⟩
            · have hr8f : r8 = false := by rw [← hr8]; rfl
              subst hr8f
              clear hr8
              go_wp2
              refine wp_region_fr (by kernel_rfl) (by kernel_rfl) ?_
              repeat (with_reducible refine wpQuiet_step (fun K hK => ?_)
                      go_simp
                      (refine hK _ ?_; clear hK K))
              refine wpQuiet_nil ?_
              rintro w' ⟨f, rfl⟩
              have HO3 : Hid (Own w0 f.val _) := HO2.out.quiet f.fr
              generalize f.val = W3 at *
              go_wp2
              go_meet
              case rel => exact ⟨rfl, HO3.out⟩
            · have hN : ∀ w', Own w0 w' l → ∃ gg og, ha = some ⟨gg, og, none⟩ ∧ w'.cell? ⟨gg, og, none⟩ = some (.int .u32 (y.id : Int)) := fun w' hw => by
                obtain ⟨gg, og, e, hc, _⟩ := ((HA.out.rd w' hw).2).at (j := 0) (x := y) rfl
                exact ⟨gg, og, e, by simpa using hc.1⟩
              obtain ⟨gg, og, hha, _⟩ := hN wc HO2.out.tail.tail.tail.dropA
              subst hha
              have t0 : ∀ f : FrOf wc, f.val.cell? ⟨gg, og, none⟩ = some (.int .u32 (y.id : Int)) := fun f => by
                obtain ⟨a, b, e, hc⟩ := hN f.val (HO2.out.quiet f.fr).tail.tail.tail.dropA
                cases e; exact hc
              have hlp : (0 : Int) < ((ht.length : Int) + 1) := by omega
              clear hN
              have hid : (chv (y :: ht)).head?.map Chg.id = some y.id := rfl
              rw [hid] at hr8
              generalize y.id = yi at *
              by_cases hgx : yi = xi
              · have hr8f : r8 = true := by rw [← hr8, hgx]; simp
                have hgx' : ((yi : Int) == (xi : Int)) = true := by simp [hgx]
                subst hr8f
                clear hr8 hgx hid
                simp only [List.length_cons]
                go_wp2
                refine wp_region_fr (by kernel_rfl) (by kernel_rfl) ?_
                repeat (with_reducible refine wpQuiet_step (fun K hK => ?_)
                        go_simp
                        (refine hK _ ?_; clear hK K))
                refine wpQuiet_nil ?_
                rintro w' ⟨f, rfl⟩
                have HO3 : Hid (Own w0 f.val _) := HO2.out.quiet f.fr
                generalize f.val = W3 at *
                go_wp2
                go_meet
                case rel => exact ⟨rfl, HO3.out⟩
              · have hr8f : r8 = false := by rw [← hr8]; simp [hgx]
                have hgx' : ((yi : Int) == (xi : Int)) = false := by rw [beq_eq_false_iff_ne]; omega
                subst hr8f
                clear hr8 hgx hid
                simp only [List.length_cons]
                go_wp2
                refine wp_region_fr (by kernel_rfl) (by kernel_rfl) ?_
                repeat (with_reducible refine wpQuiet_step (fun K hK => ?_)
                        go_simp
                        (refine hK _ ?_; clear hK K))
                refine wpQuiet_nil ?_
                rintro w' ⟨f, rfl⟩
                have HO3 : Hid (Own w0 f.val _) := HO2.out.quiet f.fr
                generalize f.val = W3 at *
                go_wp2
                go_meet
                case rel => exact ⟨rfl, HO3.out⟩
          case rest =>
            obtain ⟨rfl, hO3⟩ := hcut
            clear HO2
            cases r8
            · have hhc : (chv H1).head?.map Chg.id ≠ some xi := of_decide_eq_false hr8
              have HKK : Hid (∀ L2, AftR ((evs W).drop (j + 1)) G1 (chv H1) L2 → AftR (evs W) d.G (chv d.H) (evs (L1 ++ [(⟨xi, xa, xc, xC⟩ : EnE)]) ++ L2)) := fun L2 h2 => by
                have e : evs (L1 ++ [(⟨xi, xa, xc, xC⟩ : EnE)]) ++ L2 = evs L1 ++ ((xi, xC) :: L2) := by simp [evs]
                rw [e]
                exact HA.out.kk _ (by rw [HDR.out]; exact aft_s HHD.out hhc h2)
              have u0 := hO3.cell 0
              have u1 := hO3.cell 1
              simp at u0 u1
              have HN : Hid (Own w0 wc _) := hO3.two
              clear hr8 hhc hO3
              go_wp2_with (at_builtin; refine append1_own rfl _ _ 22 rfl 43 iE (.agg #[.int .u32 0, .slice none 0 0]) 2 32 Tryd.underlying22 hiE hE0 hE1 hE2 rfl (by decide) _ _ _ rfl HN.out _ #[.int .u32 (xi : Int), .slice xa xl xc] (by simp) rfl rfl (by intro u hu; simp at hu; rcases hu with rfl | rfl <;> rfl) (by unfold maxLen; omega) (by omega) ?_)
              intro g6 c6 w6 hO6 hsz6
              have HL6 : Hid (L1.length + 1 = (L1 ++ [(⟨xi, xa, xc, xC⟩ : EnE)]).length) := by show _ = _; simp
              have HF : Hid (AfR w0 l W d b3 n (j + 1) G1 ga gc H1 ha hc (L1 ++ [(⟨xi, xa, xc, xC⟩ : EnE)]) (some ⟨g6, 0, none⟩) c6 Y w6) := {
                rd := HA.out.rd
                cp := HA.out.cp
                sf := HA.out.sf
                gl := HA.out.gl
                kk := HKK.out
                le := by rw [← HL6.out]; omega
                sz := by
                  have h1 := HA.out.sz
                  have h2 := HCT.out
                  have h3 := HXL.out
                  rw [csz_snoc]
                  show _ + xC.length + _ ≤ _
                  omega
                inn := fun y hy => by
                  rcases List.mem_append.1 hy with hy | hy
                  · exact HA.out.inn y hy
                  · simp at hy; rw [hy]; exact HXW.out.2
                src := fun y hy => by
                  rcases List.mem_append.1 hy with hy | hy
                  · exact HA.out.src y hy
                  · simp at hy; rw [hy]; exact .inr HXW.out.1
                own := by
                  have e2 : cat EnE.cs (L1 ++ [(⟨xi, xa, xc, xC⟩ : EnE)]) = cat EnE.cs L1 ++ [.int .u32 (xi : Int), .slice xa xl xc] := by
                    rw [cat_append]
                    congr 1
                    simp [cat, EnE.cs, HXL.out]
                  rw [← HL6.out, e2]
                  exact hO6.two.tail }
              clear hO6 hsz6 HN u0 u1
              go_wp2
              go_roundw
              case rel => exact ⟨j + 1, G1, ga, gc, H1, ha, hc, _, _, _, Y, by omega, by go_num, rfl, rfl, by rw [HL6.out], HF.out⟩
              case measure => simp [intOf]; omega
            · have hhc : (chv H1).head?.map Chg.id = some xi := of_decide_eq_true hr8
              obtain ⟨y, ht, rfl, hyi⟩ : ∃ y ht, H1 = y :: ht ∧ y.id = xi := by
                cases H1 with
                | nil => simp [chv] at hhc
                | cons y ht => exact ⟨y, ht, rfl, by simpa [chv, ChE.v] using hhc⟩
              have hymem : y ∈ d.H := HA.out.sf.subset (by simp)
              obtain ⟨hylo, hyk⟩ := HW.out.2.2.2.2.2.2 y hymem
              have hyz : y.N.length + y.S.length ≤ 200000 := by have h1 := hsz_mem hymem; have h2 := HW.out.2.2.2.2.2.1; omega
              have hR : ∀ w', Own w0 w' l → ∃ gg og, ha = some ⟨gg, og, none⟩ ∧ (w'.cell? ⟨gg, og, none⟩ = some (.int .u32 (y.id : Int)) ∧ w'.cell? ⟨gg, og + 1, none⟩ = some (.int .u8 (y.lost : Int)) ∧ w'.cell? ⟨gg, og + 2, none⟩ = some (.slice y.na y.N.length y.nc) ∧ w'.cell? ⟨gg, og + 3, none⟩ = some (.slice y.sa y.S.length y.sc)) ∧ Cs w' y.na y.N ∧ Cs w' y.sa y.S := fun w' hw => by
                obtain ⟨gg, og, e, hc, hcs⟩ := ((HA.out.rd w' hw).2).at (j := 0) (x := y) rfl
                exact ⟨gg, og, e, by simpa using hc, hcs⟩
              obtain ⟨gg, og, hha, ⟨k0, k1, k2, k3⟩, _⟩ := hR wc hO3.tail.tail.tail.dropA
              subst hha
              have HCH : Hid (Calls _ _ _ _ _) := changed_any w0 wc.drew _ hO3.drew xa xl xc xC y (fun w' hw => by
                have hw2 : Own w0 w' l := hw.tail.tail.tail.dropA
                obtain ⟨_, _, _, _, h2, h3⟩ := hR w' hw2
                exact ⟨HXC.out w' hw2, h2, h3⟩) HXL.out HXW.out.2.2 (by omega) (by omega) hylo
              have HYI : Hid (y.id = xi ∧ y.lost < 256 ∧ (∀ q ∈ y.N, q.k < 256)) := ⟨hyi, hylo, hyk⟩
              have u0 := hO3.cell 0
              have u1 := hO3.cell 1
              simp at u0 u1
              have HO3 : Hid (Own w0 wc _) := hO3
              have HTR : Hid (∀ w', Own w0 w' l → ChsAt w' (some ⟨gg, og + 4, none⟩) ht) := fun w' hw => ((HA.out.rd w' hw).2).tail
              have HCN : Hid (∀ M, ChgR xC y.v M → ∀ L2, AftR ((evs W).drop (j + 1)) G1 (chv ht) L2 → ∀ ma mc, AftR (evs W) d.G (chv d.H) (evs (L1 ++ [(⟨xi, ma, mc, M⟩ : EnE)]) ++ L2)) := fun M hM L2 h2 ma mc => by
                have e : evs (L1 ++ [(⟨xi, ma, mc, M⟩ : EnE)]) ++ L2 = evs L1 ++ ((xi, M) :: L2) := by simp [evs]
                rw [e]
                exact HA.out.kk _ (by rw [HDR.out]; exact aft_c HHD.out HYI.out.1 hM h2)
              have HML : Hid (∀ M, ChgR xC y.v M → M.length ≤ xl + y.N.length ∧ ∀ q ∈ M, q.k < 256) := fun M hM => ⟨by have := chgR_len hM; have := HXL.out; omega, chgR_k hM HXW.out.2.2 hyk⟩
              have hszy : hsz (y :: ht) = y.N.length + y.S.length + hsz ht := rfl
              have HSY : Hid (hsz (y :: ht) = y.N.length + y.S.length + hsz ht) := hszy
              clear hr8 hhc hO3 hR hymem hszy hyk hyi
              have HYV : Hid (∃ yv, yv = y.v) := ⟨_, rfl⟩
              obtain ⟨yv, hyv⟩ := HYV.out
              rw [← hyv] at HCH HCN HML
              clear hyv HYV
              obtain ⟨yi, ylo, yN, yna, ync, yS, ysa, ysc⟩ := y
              simp only at k0 k1 k2 k3 HCH hylo hyz HSY HML
              simp only [List.length_cons] at gcp2 hHl ⊢
              generalize hnl : yN.length = ynl at *
              generalize hsl : yS.length = ysl at *
              generalize hhl : ht.length = hl at *
              have HHL : Hid (ht.length = hl) := hhl
              clear hnl hsl hhl
              go_wp2
              go_cut [] (fun wd => ∃ (ma : Option Addr) (mc : Nat) (M : List Cp), ChgR xC yv M ∧ Own w0 wd (Cells b9 #[.int .u32 (xi : Int), .slice ma M.length mc] 43 :: Row 46 4 (.slice ma M.length mc) M.length (ccat M) :: Row 43 2 (.slice la L1.length lc) L1.length (cat EnE.cs L1) :: Cells b3 d.vs 26 :: (Y.map erow ++ l)))
              case first =>
                go_region_with (go_at_call 32; refine HCH.out.mono ?_; rintro e w5 ⟨ma, mc, M, rfl, hM, h5⟩; have v0 := h5.two.cell 0; have v1 := h5.two.cell 1; have v2 := h5.two.froz 1; simp at v0 v1)
                all_goals
                  go_wp2
                  go_meet
                  case rel => exact ⟨ma, mc, M, hM, by simpa using h5.two.setC 1 (.slice ma M.length mc)⟩
              case rest =>
                obtain ⟨ma, mc, M, hM, hO5⟩ := hcut
                obtain ⟨hMl, hMk⟩ := HML.out M hM
                have HM : Hid (ChgR xC yv M ∧ ∀ q ∈ M, q.k < 256) := ⟨hM, hMk⟩
                have HO5 : Hid (Own w0 wc _) := hO5
                clear HCH HO3 k0 k1 k2 k3 u0 u1 hM hMk hO5
                go_upto_region 10 with (fail)
                go_cut [7] (fun s7 wd => ∃ (ha2 : Option Addr) (hc2 : Nat), s7 = .slice ha2 hl hc2 ∧ hl ≤ hc2 ∧ hc2 ≤ 9223372036854775807 ∧ (∀ w', Own w0 w' l → ChsAt w' ha2 ht) ∧ Own w0 wd (Cells b9 #[.int .u32 (xi : Int), .slice ma M.length mc] 43 :: Row 46 4 (.slice ma M.length mc) M.length (ccat M) :: Row 43 2 (.slice la L1.length lc) L1.length (cat EnE.cs L1) :: Cells b3 d.vs 26 :: (Y.map erow ++ l)))
                case first =>
                  by_cases hk : hc = 1
                  · subst hk
                    have hhl0 : hl = 0 := by omega
                    subst hhl0
                    have HT : Hid (ht = []) := List.eq_nil_of_length_eq_zero HHL.out
                    go_wp2
                    go_meet
                    case rel => exact ⟨some ⟨gg, og, none⟩, 0, rfl, Nat.le_refl _, by omega, fun w' hw => by rw [HT.out]; exact ChsAt.nil _ _, HO5.out⟩
                  · have hk1 : 1 ≤ hc := by omega
                    go_wp2
                    go_meet
                    case rel => exact ⟨some ⟨gg, og + 4, none⟩, hc - 1, rfl, by omega, by omega, HTR.out, HO5.out⟩
                case rest =>
                  obtain ⟨ha2, hc2, rfl, hh1, hh2, hh3, hO6⟩ := hcut
                  clear HO5
                  have HH3 : Hid (∀ w', Own w0 w' l → ChsAt w' ha2 ht) := hh3
                  have u0 := hO6.cell 0
                  have u1 := hO6.cell 1
                  simp at u0 u1
                  have HN : Hid (Own w0 wc _) := hO6.three
                  clear hO6 hh3
                  generalize hml : M.length = ml at *
                  have HMM : Hid (M.length = ml) := hml
                  clear hml
                  go_wp2_with (at_builtin; refine append1_own rfl _ _ 22 rfl 43 iE (.agg #[.int .u32 0, .slice none 0 0]) 2 32 Tryd.underlying22 hiE hE0 hE1 hE2 rfl (by decide) _ _ _ rfl HN.out _ #[.int .u32 (xi : Int), .slice ma ml mc] (by simp) rfl rfl (by intro u hu; simp at hu; rcases hu with rfl | rfl <;> rfl) (by unfold maxLen; omega) (by omega) ?_)
                  intro g6 c6 w6 hO6 hsz6
                  have HL6 : Hid (L1.length + 1 = (L1 ++ [(⟨xi, ma, mc, M⟩ : EnE)]).length) := by show _ = _; simp
                  have HF : Hid (AfR w0 l W d b3 n (j + 1) G1 ga gc ht ha2 hc2 (L1 ++ [(⟨xi, ma, mc, M⟩ : EnE)]) (some ⟨g6, 0, none⟩) c6 (Y ++ [(⟨xi, ma, mc, M⟩ : EnE)]) w6) := {
                    rd := fun w' hw => ⟨(HA.out.rd w' hw).1, HH3.out w' hw⟩
                    cp := ⟨HA.out.cp.1, by rw [HHL.out]; exact hh1, HA.out.cp.2.2.1, hh2⟩
                    sf := (List.suffix_cons _ _).trans HA.out.sf
                    gl := HA.out.gl
                    kk := fun L2 h2 => HCN.out M HM.out.1 L2 h2 ma mc
                    le := by rw [← HL6.out]; omega
                    sz := by
                      have h1 := HA.out.sz
                      have h2 := HCT.out
                      have h3 := HMM.out
                      have h4 := HSY.out
                      rw [csz_snoc]
                      show _ + M.length + _ ≤ _
                      omega
                    inn := fun y hy => by
                      rcases List.mem_append.1 hy with hy | hy
                      · exact HA.out.inn y hy
                      · simp at hy; rw [hy]; exact ⟨HXW.out.2.1, HM.out.2⟩
                    src := fun y hy => by
                      rcases List.mem_append.1 hy with hy | hy
                      · rcases HA.out.src y hy with h | h
                        · exact .inl (List.mem_append.2 (.inl h))
                        · exact .inr h
                      · exact .inl (List.mem_append.2 (.inr hy))
                    own := by
                      have e2 : cat EnE.cs (L1 ++ [(⟨xi, ma, mc, M⟩ : EnE)]) = cat EnE.cs L1 ++ [.int .u32 (xi : Int), .slice ma ml mc] := by
                        rw [cat_append]
                        congr 1
                        simp [cat, EnE.cs, HMM.out]
                      have e3 : (Y ++ [(⟨xi, ma, mc, M⟩ : EnE)]).map erow ++ l = Y.map erow ++ (Row 46 4 (.slice ma ml mc) ml (ccat M) :: l) := by
                        simp [erow, HMM.out]
                      rw [← HL6.out, e2, e3]
                      have h8 := hO6.two.tail
                      exact h8.perm (List.Perm.cons _ ((List.Perm.swap _ _ _).trans (List.Perm.cons _ List.perm_middle.symm))) }
                  clear hO6 hsz6 HN u0 u1
                  go_wp2
                  go_roundw
                  case rel => exact ⟨j + 1, G1, ga, gc, ht, ha2, hc2, _, _, _, _, by omega, by go_num, rfl, by rw [HHL.out], by rw [HL6.out], HF.out⟩
                  case measure => simp [intOf]; omega
        · have hhd : G1.head? = some xi := of_decide_eq_true hr6
          obtain ⟨gt, rfl⟩ : ∃ gt, G1 = xi :: gt := by
            cases G1 with
            | nil => simp at hhd
            | cons g1 gt => simp at hhd; exact ⟨gt, by rw [hhd]⟩
          clear hr6 hhd
          obtain ⟨gg, og, hga, _⟩ := ((HA.out.rd wc hO2.tail.tail.tail.dropA).1).at (j := 0) (x := xi) rfl
          subst hga
          have HKK : Hid (∀ L2, AftR ((evs W).drop (j + 1)) gt (chv H1) L2 → AftR (evs W) d.G (chv d.H) (evs L1 ++ L2)) := fun L2 h2 => HA.out.kk L2 (by rw [HDR.out]; exact aft_g h2)
          have HO2 : Hid (Own w0 wc _) := hO2.tail
          have HSZ : Hid (csz L1 + hsz H1 ≤ csz (W.take (j + 1)) + hsz d.H) := by have := HA.out.sz; have := HCT.out; show _ ≤ _; omega
          clear hO2
          simp only [List.length_cons] at gcp ggl ⊢
          generalize hgl : gt.length = gl at *
          have HGL : Hid (gt.length = gl) := hgl
          clear hgl
          have gcp1 := gcp.1
          have gcp3 := gcp.2.2.1
          by_cases hk : gc = 1
          · subst hk
            have hgl0 : gl = 0 := by omega
            subst hgl0
            have HT : Hid (gt = []) := List.eq_nil_of_length_eq_zero HGL.out
            go_wp2
            go_roundw
            case rel => exact ⟨j + 1, gt, some ⟨gg, og, none⟩, 0, H1, ha, hc, L1, la, lc, Y, by omega, by go_num, by rw [HGL.out], rfl, rfl, { rd := fun w' hw => ⟨by rw [HT.out]; exact Nums.nil _ _ _ _, (HA.out.rd w' hw).2⟩, cp := ⟨by rw [HGL.out]; exact Nat.le_refl _, gcp.2.1, by omega, gcp.2.2.2⟩, sf := HA.out.sf, gl := by rw [HGL.out]; omega, kk := HKK.out, le := by omega, sz := HSZ.out, inn := HA.out.inn, src := HA.out.src, own := HO2.out }⟩
            case measure => simp [intOf]; omega
          · have hk1 : 1 ≤ gc := by omega
            go_wp2
            go_roundw
            case rel => exact ⟨j + 1, gt, some ⟨gg, og + 1, none⟩, gc - 1, H1, ha, hc, L1, la, lc, Y, by omega, by go_num, by rw [HGL.out], rfl, rfl, { rd := fun w' hw => ⟨((HA.out.rd w' hw).1).tail, (HA.out.rd w' hw).2⟩, cp := ⟨by rw [HGL.out]; omega, gcp.2.1, by omega, gcp.2.2.2⟩, sf := HA.out.sf, gl := by rw [HGL.out]; omega, kk := HKK.out, le := by omega, sz := HSZ.out, inn := HA.out.inn, src := HA.out.src, own := HO2.out }⟩
            case measure => simp [intOf]; omega
    · have hlt' : ¬ (j : Int) < (n : Int) := by omega
      have hjn : j = n := by omega
      have HAF : Hid (AftR (evs W) d.G (chv d.H) (evs L1)) := by
        have h1 := HA.out.kk [] (by
          rw [List.drop_eq_nil_of_le (by rw [evs_len, HW.out.1]; omega)]
          rfl)
        rw [List.append_nil] at h1
        exact h1
      have hcs : csz L1 ≤ csz W + hsz d.H := by have h1 := HA.out.sz; have h2 := csz_take_le W j; omega
      have q1 := hO.two.cell 1
      simp [DlE.vs] at q1
      have HEM : Hid (EntsAt wr d.ma d.M) := (HQ.out wr hO.tail.tail.dropA).2.m
      have HO : Hid (Own w0 wr _) := hO
      have hml : d.M.length ≤ 200000 := by have h2 := HW.out.2.2.2.2.1; unfold esz at h2; omega
      clear hO hjn
      go_wp2_with (at_builtin; refine append_en rfl _ _ rfl iE hiE _ hE0 hE1 hE2 rfl _ _ _ rfl d.ma d.M.length d.mc d.M rfl rfl HEM.out HO.out (by unfold maxLen; omega) (by omega) ?_)
      intro a6 c6 w6 hO6
      obtain ⟨L2, hL2⟩ : ∃ L2, L2 = L1 ++ d.M := ⟨_, rfl⟩
      have hL2l : L2.length = L1.length + d.M.length := by rw [hL2, List.length_append]
      have h7 : Own w0 w6 (Row 43 2 (.slice a6 L2.length c6) L2.length (cat EnE.cs L2) :: Cells b3 d.vs 26 :: (Y.map erow ++ l)) := by
        rw [hL2l, hL2, cat_append]
        exact hO6
      have HSO : Hid (Calls _ _ _ _ _) := sort_en w0 w6 _ a6 c6 L2 h7 (by omega)
      have HL2 : Hid (L2 = L1 ++ d.M ∧ L2.length = L1.length + d.M.length) := ⟨hL2, hL2l⟩
      rw [hL2l] at HSO
      clear h7 hO6 HO q1 HEM hL2l hL2
      generalize htl : L1.length + d.M.length = tl at *
      have HTL : Hid (L1.length + d.M.length = tl) := htl
      have htl4 : tl ≤ 400000 := by omega
      clear htl
      go_wp2_with fail
      refine HSO.out.mono ?_
      rintro e w7 ⟨rfl, L3, hp3, hs3, h8⟩
      have hl3 : L3.length = tl := by rw [hp3.length_eq, HL2.out.2]
      have hsz3 : esz L3 ≤ esz W + esz d.M + (d.H.length + hsz d.H) := by
        unfold esz
        rw [hl3, csz_perm hp3, HL2.out.1, csz_append]
        have h1 := HW.out.2.2.2.1
        have h2 := HW.out.2.2.2.2.1
        have h3 := HW.out.2.2.2.2.2.1
        unfold esz at h1 h2
        have h4 := HTL.out
        have h5 := HW.out.1
        omega
      have hin3 : EIn L3 := fun y hy => by
        have hy2 := hp3.subset hy
        rw [HL2.out.1] at hy2
        rcases List.mem_append.1 hy2 with hy2 | hy2
        · exact HA.out.inn y hy2
        · exact HW.out.2.2.1 y hy2
      have HCP : Hid (Calls _ _ _ _ _) := copy_any w0 w7 _ h8 a6 tl c6 L3 (fun w' hw => by
        refine ⟨?_, fun y hy => ?_⟩
        · have hr := hw.row
          rcases Nat.eq_zero_or_pos tl with h0 | h0
          · exact .inl (List.eq_nil_of_length_eq_zero (by rw [hl3]; exact h0))
          · obtain ⟨g, cp, hv, _⟩ := row_shape hr h0
            refine .inr ⟨g, 0, (Value.slice.inj hv).1, fun i y hy => ?_⟩
            have hva := (Value.slice.inj hv).1
            rw [hva] at hr
            have hi := (List.getElem?_eq_some_iff.1 hy).1
            rw [Nat.zero_add, hr.cellAt _ (by omega), hr.cellAt _ (by omega)]
            exact ⟨cat_at EnE.cs 2 (fun _ => rfl) L3 i 0 y hy (by decide), cat_at EnE.cs 2 (fun _ => rfl) L3 i 1 y hy (by decide)⟩
        · have hwl : Own w0 w' l := hw.tail.tail.dropA
          have hy2 := hp3.subset hy
          rw [HL2.out.1] at hy2
          rcases List.mem_append.1 hy2 with hy2 | hy2
          · rcases HA.out.src y hy2 with hyy | hyy
            · obtain ⟨Y1, Y2, e⟩ := List.append_of_mem hyy
              have hw3 := hw.tail.tail
              rw [e] at hw3
              have hw4 : Own w0 w' (erow y :: (Y1.map erow ++ (Y2.map erow ++ l))) := by
                refine hw3.perm ?_
                have e2 : (Y1 ++ y :: Y2).map erow ++ l = Y1.map erow ++ (erow y :: (Y2.map erow ++ l)) := by simp
                rw [e2]
                exact List.perm_middle
              exact Own.cs (hw4.view (by decide)) rfl
            · exact (HQ.out w' hwl).1.2 y hyy
          · exact (HQ.out w' hwl).2.m.2 y hy2) hl3 (by have h1 := HW.out.2.2.2.1; have h2 := HW.out.2.2.2.2.1; have h3 := HW.out.2.2.2.2.2.1; omega)
      have HR : Hid (∀ R : List EnE, evs R = evs L3 → (∃ Lq, AftR (evs W) d.G (chv d.H) Lq ∧ (evs R).Perm (Lq ++ evs d.M) ∧ (evs R).Pairwise (fun a b => a.1 ≤ b.1)) ∧ esz R ≤ esz W + esz d.M + (d.H.length + hsz d.H) ∧ EIn R) := fun R hR => by
        refine ⟨⟨evs L1, HAF.out, ?_, ?_⟩, by rw [esz_evs hR]; exact hsz3, EIn.of_evs hR hin3⟩
        · rw [hR]
          have h1 : (evs L3).Perm (evs (L1 ++ d.M)) := by
            have := hp3.map (fun x : EnE => (x.id, x.C))
            rw [HL2.out.1] at this
            exact this
          have e : evs (L1 ++ d.M) = evs L1 ++ evs d.M := by simp [evs]
          rw [e] at h1
          exact h1
        · rw [hR]
          exact List.pairwise_map.2 hs3
      clear h8 hp3 hs3 hl3 hsz3 hin3 HSO
      go_wp2_with fail
      refine HCP.out.mono ?_
      rintro e w9 ⟨a9, c9, rfl, R, hRl, hRv, h9⟩
      obtain ⟨hR1, hR2, hR3⟩ := HR.out R hRv
      have H9 : Hid ((∃ Lq, AftR (evs W) d.G (chv d.H) Lq ∧ (evs R).Perm (Lq ++ evs d.M) ∧ (evs R).Pairwise (fun a b => a.1 ≤ b.1)) ∧ esz R ≤ esz W + esz d.M + (d.H.length + hsz d.H) ∧ EIn R ∧ R.length = tl ∧ Own w0 w9 (EntsT a9 c9 R :: l)) := ⟨hR1, hR2, hR3, hRl, Own.dropB (A := Row 43 2 (.slice a6 tl c6) tl (cat EnE.cs L3) :: Cells b3 d.vs 26 :: Y.map erow) h9⟩
      clear h9 hR1 hR2 hR3 hRl hRv HCP HR
      go_wp2
      go_ret
      refine ⟨a9, c9, R, ?_, H9.out.1, H9.out.2.1, H9.out.2.2.1, H9.out.2.2.2.2⟩
      rw [H9.out.2.2.2.1]; rfl
end Go.Proofs.YtkjanpjlpieaoaaDoor

