/-
  The document's Twin of a delta.
-/
import Derived.Test.YtkjanpjlpieaoaaDoorQd17
import Derived.Test.YtkjanpjlpieaoaaDoorQd33
import Derived.Deep.CutBlock
import Derived.Deep.RegionLaw
namespace Go.Proofs.YtkjanpjlpieaoaaDoor
open Go.RowKit
set_option linter.unusedVariables false
set_option maxRecDepth 100000

theorem Nums.cells {w : World} {ao : Option Addr} {n cap : Nat} {X : List Nat} (h : Nums .u32 w (.slice ao n cap) X) : n = 0 ∨ ∃ a, ao = some a ∧ ∀ j u, (irow .u32 X)[j]? = some u → w.cell? (a.add j) = some u := by
  rcases Nat.eq_zero_or_pos n with h0 | h0
  · exact .inl h0
  · obtain ⟨x, hx⟩ : ∃ x, X[0]? = some x := ⟨_, List.getElem?_eq_getElem (by rw [h.len]; exact h0)⟩
    obtain ⟨g, o, rfl, _⟩ := h.at hx
    refine .inr ⟨_, rfl, fun j u hu => ?_⟩
    rw [getElem?_irow] at hu
    cases hj : X[j]? with
    | none => rw [hj] at hu; simp at hu
    | some y =>
      rw [hj] at hu
      simp only [Option.map_some, Option.some.injEq] at hu
      obtain ⟨g2, o2, e2, hc⟩ := h.at hj
      simp only [Option.some.injEq, Addr.mk.injEq] at e2
      obtain ⟨rfl, rfl, _⟩ := e2
      rw [addr_add, hc, hu]
theorem results_cell1 {fn : Func} {p : Tmp} {ty : TypeId} (h : fn.results = #[.cell p ty]) (tmps : Array Value) (P : Program) (w : World) : (results fn tmps).run P w = ((asAddr (tmps.getD p undef)).run P w).andThen fun a w₁ => (loadVar ty a).run P w₁ := by
  simp only [results, h]
  simp [Sem.run_bind, Result.andThen]
theorem perm_ue (C R N S : Thing) (X l : List Thing) : (C :: R :: N :: S :: (X ++ l)).Perm (C :: R :: ((X ++ [N, S]) ++ l)) := by
  have h3 := List.perm_append_comm_assoc [N, S] X l
  have e : (X ++ [N, S]) ++ l = X ++ ([N, S] ++ l) := by simp
  rw [e]
  exact (h3.cons R).cons C
theorem perm_uf (Q E R D : Thing) (A l : List Thing) : (Q :: ((A ++ [E, R]) ++ D :: l)).Perm (D :: R :: E :: Q :: (A ++ l)) := by
  have h3 := (List.perm_append_comm_assoc A [E, R, D] l).cons Q
  have e : (A ++ [E, R]) ++ D :: l = A ++ ([E, R, D] ++ l) := by simp
  rw [e]
  refine h3.trans ?_
  have h4 : ([Q, E, R, D] : List Thing).Perm [D, R, E, Q] := List.reverse_perm [D, R, E, Q]
  exact h4.append_right (A ++ l)
set_option maxHeartbeats 8000000 in
theorem rdtwin_any (w0 w : World) (l : List Thing) (h : Own w0 w l) (d : DlE) (hQ : ∀ w', Own w0 w' l → DlAt w' d) (hz : dszE d ≤ 1000000) (hzm : esz d.M ≤ 1000000) :
    Calls Tryd.prog 8 #[.agg d.vs] w fun e w' => ∃ d2 : DlE, e = .returned (.agg d2.vs) ∧ d2.v = d.v ∧ Own w0 w' (d2.things ++ l) := by
  obtain ⟨iI, hiI, hI0, hI1, hI2⟩ := info3w Tryd.infoIDk
  obtain ⟨iC, hiC, hC0, hC1, hC2⟩ := info3w Tryd.infoChg
  have hB := (h.allocC d.vs 26).allocC #[.slice none 0 0, .slice none 0 0, .slice none 0 0] 26
  have HQ : Hid (∀ w', Own w0 w' l → DlAt w' d) := hQ
  have hzG : d.G.length ≤ 1000000 := by unfold dszE at hz; omega
  have hzH : d.H.length ≤ 1000000 := by unfold dszE at hz; omega
  have HZC : Hid (∀ x ∈ d.H, x.N.length ≤ 1000000 ∧ x.S.length ≤ 1000000) := fun x hx => by have := hsz_mem hx; unfold dszE at hz; omega
  have HTS : Hid (∀ W m, Own w0 W (m ++ l) → Calls Tryd.prog 7 #[.slice d.ma d.M.length d.mc] W fun e w' => ∃ (ao : Option Addr) (cap : Nat), e = .returned (.slice ao d.M.length cap) ∧ ∃ M : List EnE, M.length = d.M.length ∧ evs M = evs d.M ∧ Own w0 w' (EntsT ao cap M :: (m ++ l))) := fun W m hW => rtwins_any w0 W _ hW d.ma d.M.length d.mc d.M (fun w' hw' => (hQ w' (Own.dropA hw')).m) rfl hzm
  have HGC : Hid (∀ W m, Own w0 W (m ++ l) → d.G.length = 0 ∨ ∃ a, d.ga = some a ∧ ∀ j u, (irow .u32 d.G)[j]? = some u → W.cell? (a.add j) = some u) := fun W m hW => (hQ W (Own.dropA hW)).g.cells
  clear h hQ hz hzm
  have e1 : (w.alloc (.cells d.vs 26)).heap.size = w.heap.size + 1 := by simp
  rw [e1] at hB
  obtain ⟨G, ga, gc, M, ma, mc, H, ha, hc⟩ := d
  unfold DlE.vs at hB ⊢
  simp only at hB hzG hzH HZC HTS HGC ⊢
  have HGL : Hid (∃ gl, G.length = gl) := ⟨_, rfl⟩
  generalize hgl : G.length = gl at *
  generalize hml : M.length = ml at *
  obtain ⟨n, hn⟩ : ∃ n, H.length = n := ⟨_, rfl⟩
  have HL : Hid (G.length = gl ∧ M.length = ml ∧ H.length = n) := ⟨hgl, hml, hn⟩
  rw [hn] at hB hzH ⊢
  have HB : Hid (Own w0 _ _) := hB
  clear hB hgl hml hn e1
  go_enter Tryd.func8, Tryd.ntmps8
  go_wp2
  generalize hWg : (w.alloc (.cells #[.slice ga gl gc, .slice ma ml mc, .slice ha n hc] 26)).alloc (.cells #[.slice none 0 0, .slice none 0 0, .slice none 0 0] 26) = W1 at *
  generalize hb2 : w.heap.size + 1 = b2 at *
  generalize w.heap.size = b1 at *
  clear hWg hb2
  have p0 := HB.out.two.cell 0
  have p1 := HB.out.two.cell 1
  simp at p0 p1
  have hlit := (HB.out.litRow #[] 40 1 0 (by decide) rfl).drew
  have v0 := hlit.three.cell 0
  have v1 := hlit.three.cell 1
  simp at v0 v1
  have HR : Hid (Own w0 _ _) := hlit
  clear hlit
  have hG1 : (irow .u32 G).length = gl * 1 := by rw [length_irow, HL.out.1, Nat.mul_one]
  have hG2 : 0 + gl ≤ maxLen := by unfold maxLen; omega
  have hG3 : (0 + gl) * 4 ≤ 140737488355328 := by omega
  have hG4 := HGC.out _ [_, _, _] HR.out
  have hr2 := ((HB.out.litRow #[] 40 1 0 (by decide) rfl).allocC #[.slice none 0 0, .slice none 0 0, .slice none 0 0] 26).drew.two
  have e2 : (W1.alloc (.cells #[] 40)).heap.size = W1.heap.size + 1 := by simp
  rw [e2] at hr2
  have HR2 : Hid (Own w0 _ _) := hr2
  clear hr2 e2
  have hG6 := HGC.out _ [_, _, _, _] HR2.out
  have hr3 := ((HB.out.allocC #[.slice none 0 0, .slice none 0 0, .slice none 0 0] 26).litRow #[] 40 1 0 (by decide) rfl).drew
  have e3 : (W1.alloc (.cells #[.slice none 0 0, .slice none 0 0, .slice none 0 0] 26)).heap.size = W1.heap.size + 1 := by simp
  rw [e3] at hr3
  have HR3 : Hid (Own w0 _ _) := hr3
  clear hr3 e3
  have hr4 := HB.out.allocC #[.slice none 0 0, .slice none 0 0, .slice none 0 0] 26
  have l4 := (Own.three hr4).cell 0
  have l5 := (Own.three hr4).cell 1
  simp at l4 l5
  clear hr4
  have hG7 := HGC.out _ [_, _, _, _] HR3.out
  have l2 := (Own.four HR3.out).cell 0
  have l3 := (Own.four HR3.out).cell 1
  simp at l2 l3
  have l0 := (Own.three HR2.out).cell 0
  have m0 := (Own.four HR2.out).cell 0
  have m1 := (Own.four HR2.out).cell 1
  simp at l0 m0 m1
  have hG5 : ∀ u ∈ irow .u32 G, u.oneCell' = true := one_irow _ _
  go_cut [3] from 6 (fun v3 wc => ∃ (b3 : Nat) (a2 : Option Addr) (c2 : Nat) (a6 : Option Addr) (c6 : Nat) (M6 : List EnE), v3 = .pointer (some ⟨b3, 0, none⟩) ∧ M6.length = ml ∧ evs M6 = evs M ∧ Own w0 wc (Cells b3 #[.slice a2 gl c2, .slice a6 ml c6, .slice none 0 0] 26 :: EntsT a6 c6 M6 :: Row 40 1 (.slice a2 gl c2) gl (irow .u32 G) :: Cells b2 #[.slice none 0 0, .slice none 0 0, .slice none 0 0] 26 :: Cells b1 #[.slice ga gl gc, .slice ma ml mc, .slice ha n hc] 26 :: l))
  case first =>
    go_region_law
      (first
        | (refine step_readW rfl _ _ 23 rfl 40 iI (.int .u32 0) 1 4 Tryd.underlying23 hiI hI0 hI1 hI2 rfl (by decide) _ _ _ rfl _ _ _ (irow .u32 G) rfl HR.out hG1 hG4 hG5 hG2 hG3 ?_
           intro g5 c5 w5 hO5
           simp only [Nat.zero_add, List.nil_append] at hO5
           have t0 := hO5.three.cell 0
           have t1 := hO5.three.cell 1
           have h5a := hO5.allocC #[.slice none 0 0, .slice none 0 0, .slice none 0 0] 26
           have k0 := (Own.four h5a).cell 0
           have k1 := (Own.four h5a).cell 1
           simp at t0 t1 k0 k1
           have H5 : Hid (Own w0 w5 _) := hO5
           have H5A : Hid (Own w0 _ _) := h5a
           clear hO5 h5a)
        | (refine step_readW rfl _ _ 23 rfl 40 iI (.int .u32 0) 1 4 Tryd.underlying23 hiI hI0 hI1 hI2 rfl (by decide) _ _ _ rfl _ _ _ (irow .u32 G) rfl HR2.out hG1 hG6 hG5 hG2 hG3 ?_
           intro g5 c5 w5 hO5
           simp only [Nat.zero_add, List.nil_append] at hO5
           have t0 := (Own.four hO5).cell 0
           have t1 := (Own.four hO5).cell 1
           simp at t0 t1
           have H5A : Hid (Own w0 _ _) := hO5.two
           clear hO5)
        | (refine step_readW rfl _ _ 23 rfl 40 iI (.int .u32 0) 1 4 Tryd.underlying23 hiI hI0 hI1 hI2 rfl (by decide) _ _ _ rfl _ _ _ (irow .u32 G) rfl HR3.out hG1 hG7 hG5 hG2 hG3 ?_
           intro g5 c5 w5 hO5
           simp only [Nat.zero_add, List.nil_append] at hO5
           have t0 := (Own.four hO5).cell 0
           have t1 := (Own.four hO5).cell 1
           simp at t0 t1
           have H5A : Hid (Own w0 _ _) := hO5.two
           clear hO5)
        | (go_simp; go_at_call 7; refine (HTS.out _ [_, _, _] H5.out).mono ?_; rintro e w6 ⟨a6, c6, rfl, M6, hM1, hM2, h6⟩; dsimp only
           have H6 : Hid (Own w0 w6 _) := h6
           have HM6 : Hid (M6.length = ml ∧ evs M6 = evs M) := ⟨hM1, hM2⟩
           clear h6 hM1 hM2)
        | (go_simp; go_at_call 7; refine (HTS.out _ [_, _, _, _] H5A.out).mono ?_; rintro e w6 ⟨a6, c6, rfl, M6, hM1, hM2, h6⟩; dsimp only
           have H6 : Hid (Own w0 w6 _) := h6
           have HM6 : Hid (M6.length = ml ∧ evs M6 = evs M) := ⟨hM1, hM2⟩
           have z0 := h6.two.cell 0
           have z1 := h6.two.cell 1
           have z2 := h6.two.cell 2
           have y0 := h6.two.froz 0
           have y1 := h6.two.froz 1
           have y2 := h6.two.froz 2
           simp at z0 z1 z2
           clear h6 hM1 hM2))
    all_goals
      go_wp2
      go_meet
      case rel =>
        first
          | (have h7 := ((H6.out.two.setC 0 (.slice g5 gl c5)).setC 1 (.slice a6 ml c6)).setC 2 (.slice none 0 0)
             simp at h7
             exact ⟨_, g5, c5, a6, c6, M6, rfl, HM6.out.1, HM6.out.2, h7⟩)
          | (have h7 := H6.out.allocC #[.slice g5 gl c5, .slice a6 ml c6, .slice none 0 0] 26
             exact ⟨_, g5, c5, a6, c6, M6, rfl, HM6.out.1, HM6.out.2, h7⟩)
          | (have h7 := (((H6.out.allocC #[.slice none 0 0, .slice none 0 0, .slice none 0 0] 26).setC 0 (.slice g5 gl c5)).setC 1 (.slice a6 ml c6)).setC 2 (.slice none 0 0)
             simp at h7
             exact ⟨_, g5, c5, a6, c6, M6, rfl, HM6.out.1, HM6.out.2, h7⟩)
  case rest =>
    obtain ⟨b3, a2, c2, a6, c6, M6, rfl, hM1, hM2, hO⟩ := hcut
    have HM6 : Hid (M6.length = ml ∧ evs M6 = evs M) := ⟨hM1, hM2⟩
    have r2 := (Own.four hO.tail).cell 2
    simp at r2
    obtain ⟨LL, hLL⟩ : ∃ LL, LL = EntsT a6 c6 M6 :: Row 40 1 (.slice a2 gl c2) gl (irow .u32 G) :: Cells b2 #[.slice none 0 0, .slice none 0 0, .slice none 0 0] 26 :: Cells b1 #[.slice ga gl gc, .slice ma ml mc, .slice ha n hc] 26 :: l := ⟨_, rfl⟩
    rw [← hLL] at hO
    have HLL : Hid (LL = _) := hLL
    have HCH : Hid (∀ w', Own w0 w' LL → ChsAt w' ha H) := fun w' hw => by
      rw [hLL] at hw
      exact (HQ.out w' hw.tail.tail.tail.tail).h
    have HO : Hid (Own w0 wc (Cells b3 #[.slice a2 gl c2, .slice a6 ml c6, .slice none 0 0] 26 :: LL)) := hO
    clear hO hLL hM1 hM2 HR HR2 HR3 v0 v1 hG1 hG2 hG3 hG4 hG5 hG6 hG7 l0 l2 l3 l4 l5 m0 m1 HB HGC HTS
    go_wp2
    go_loopw [17] (fun cc wr => ∃ (j : Nat) (H2 : List ChE) (h2a : Option Addr) (h2c : Nat), j ≤ n ∧ cc = .int .i64 (j : Int) ∧ H2.length = j ∧ H2.map ChE.v = (H.take j).map ChE.v ∧ Own w0 wr (Cells b3 #[.slice a2 gl c2, .slice a6 ml c6, .slice h2a j h2c] 26 :: Row 51 4 (.slice h2a j h2c) j (cat ChE.cs H2) :: (hrows H2 ++ LL))) (fun cc _ => n - (intOf cc).toNat)
    case atStart => exact ⟨0, [], none, 0, Nat.zero_le _, rfl, rfl, rfl, (HO.out.nilRow _ _).two⟩
    case round =>
      obtain ⟨j, H2, h2a, h2c, hj, rfl, hH2, hH2v, hO⟩ := hrel
      have HH2 : Hid (H2.length = j ∧ H2.map ChE.v = (H.take j).map ChE.v) := ⟨hH2, hH2v⟩
      clear hH2 hH2v HO r2
      by_cases hlt : j < n
      · have hlt' : (j : Int) < (n : Int) := by omega
        obtain ⟨x, hx⟩ : ∃ x, H[j]? = some x := ⟨_, List.getElem?_eq_getElem (by rw [HL.out.2.2]; exact hlt)⟩
        obtain ⟨g, o, hao, ⟨y0, y1, y2, y3⟩, -, -⟩ := (HCH.out wr hO.tail.tail.dropA).at hx
        have hxz := HZC.out x (List.mem_of_getElem? hx)
        have HX : Hid (H[j]? = some x) := hx
        have HGA : Hid (ha = some ⟨g, o, none⟩) := hao
        have HXC : Hid (∀ w', Own w0 w' LL → Cs w' x.na x.N ∧ Cs w' x.sa x.S) := fun w' hw => (HCH.out w' hw).2 x (List.mem_of_getElem? hx)
        obtain ⟨xi, xl, xN, xna, xnc, xS, xsa, xsc⟩ := x
        simp only at y0 y1 y2 y3 hxz HXC
        obtain ⟨nl, hnl⟩ : ∃ nl, nl = xN.length := ⟨_, rfl⟩
        obtain ⟨sl, hsl⟩ : ∃ sl, sl = xS.length := ⟨_, rfl⟩
        have HNS : Hid (xN.length = nl ∧ xS.length = sl) := ⟨hnl.symm, hsl.symm⟩
        rw [← hnl] at y2 hxz
        rw [← hsl] at y3 hxz
        obtain ⟨hxn, hxs⟩ := hxz
        obtain ⟨LB, hLB⟩ : ∃ LB, LB = Row 51 4 (.slice h2a j h2c) j (cat ChE.cs H2) :: (hrows H2 ++ LL) := ⟨_, rfl⟩
        rw [← hLB] at hO
        have HLB : Hid (LB = Row 51 4 (.slice h2a j h2c) j (cat ChE.cs H2) :: (hrows H2 ++ LL)) := hLB
        have HTN : Hid (∀ w' m, Own w0 w' (m ++ LB) → Calls Tryd.prog 14 #[.slice xna nl xnc] w' fun e w'' => ∃ ao' cap', e = .returned (.slice ao' nl cap') ∧ Own w0 w'' (Row 46 4 (.slice ao' nl cap') nl (ccat xN) :: (m ++ LB))) := fun w' m hw => twin_any w0 w' _ hw xna nl xnc xN HNS.out.1 (HXC.out w' (by have := hw.dropA; rw [HLB.out] at this; exact this.tail.dropA)).1 hxn
        have HTS : Hid (∀ w' m, Own w0 w' (m ++ LB) → Calls Tryd.prog 14 #[.slice xsa sl xsc] w' fun e w'' => ∃ ao' cap', e = .returned (.slice ao' sl cap') ∧ Own w0 w'' (Row 46 4 (.slice ao' sl cap') sl (ccat xS) :: (m ++ LB))) := fun w' m hw => twin_any w0 w' _ hw xsa sl xsc xS HNS.out.2 (HXC.out w' (by have := hw.dropA; rw [HLB.out] at this; exact this.tail.dropA)).2 hxs
        have hA := hO.allocC #[.int .u32 (xi : Int), .int .u8 (xl : Int), .slice xna nl xnc, .slice xsa sl xsc] 51
        have q2 := hA.cell 2
        have q3 := hA.cell 3
        simp at q2 q3
        have HA : Hid (Own w0 _ _) := hA.drew
        subst hao
        clear hO hA hx hnl hsl hLB
        go_wp2
        go_cut [] (fun wc => ∃ (an : Option Addr) (cn : Nat) (az : Option Addr) (cz : Nat), Own w0 wc (Cells wr.heap.size #[.int .u32 (xi : Int), .int .u8 (xl : Int), .slice an nl cn, .slice az sl cz] 51 :: Row 46 4 (.slice an nl cn) nl (ccat xN) :: Row 46 4 (.slice az sl cz) sl (ccat xS) :: Cells b3 #[.slice a2 gl c2, .slice a6 ml c6, .slice h2a j h2c] 26 :: LB))
        case first =>
          go_region_law
            (first
              | (go_simp; go_at_call 14; refine (HTN.out _ [_, _] HA.out).mono ?_; rintro e w5 ⟨a5, c5, rfl, h5⟩; dsimp only
                 have u2 := h5.two.cell 2
                 have u3 := h5.two.cell 3
                 simp at u2 u3
                 have H5 : Hid (Own w0 w5 _) := h5
                 clear h5)
              | (go_simp; go_at_call 14; refine (HTS.out _ [_, _, _] H5.out).mono ?_; rintro e w7 ⟨a7, c7, rfl, h7⟩; dsimp only
                 have u4 := (Own.three h7).cell 2
                 have u5 := (Own.three h7).cell 3
                 have s2 := (Own.three h7).froz 2
                 have s3 := (Own.three h7).froz 3
                 simp at u4 u5
                 have H7 : Hid (Own w0 w7 _) := h7
                 clear h7))
          all_goals
            go_wp2
            go_meet
            case rel =>
              have h8 := ((Own.three H7.out).setC 2 (.slice a5 nl c5)).setC 3 (.slice a7 sl c7)
              simp at h8
              exact ⟨a5, c5, a7, c7, h8.in23⟩
        case rest =>
          obtain ⟨an, cn, az, cz, hO⟩ := hcut
          clear HA q2 q3 y0 y1 y2 y3
          generalize wr.heap.size = b5 at *
          rw [HLB.out] at hO
          have n0 := hO.cell 0
          have n1 := hO.cell 1
          have n2 := hO.cell 2
          have n3 := hO.cell 3
          have n4 := (Own.four hO).cell 2
          simp at n0 n1 n2 n3 n4
          have HN : Hid (Own w0 _ _) := Own.l4 hO
          clear hO
          go_wp2_with (at_builtin; refine append1_own rfl _ _ 24 rfl 51 iC _ 4 56 Tryd.underlying24 hiC hC0 hC1 hC2 rfl (by decide) _ _ _ rfl HN.out _ #[.int .u32 (xi : Int), .int .u8 (xl : Int), .slice an nl cn, .slice az sl cz] (by simp) rfl rfl (by intro u hu; simp at hu; rcases hu with rfl | rfl | rfl | rfl <;> rfl) (by unfold maxLen; omega) (by omega) ?_)
          intro g8 c8 w8 hO8 hsz8
          have k2 := (Own.l4 hO8).cell 2
          have k3 := (Own.l4 hO8).froz 2
          simp at k2
          have h9 := (Own.l4 hO8).setC 2 (.slice (some ⟨g8, 0, none⟩) (j + 1) c8)
          simp at h9
          have HV2 : Hid ((H2 ++ [(⟨xi, xl, xN, an, cn, xS, az, cz⟩ : ChE)]).map ChE.v = (H.take (j + 1)).map ChE.v) := by
            show _ = _
            rw [List.map_append, HH2.out.2, List.take_add_one, HX.out]
            simp [ChE.v]
          have H9 : Hid (Own w0 (w8.setCell ⟨b3, 2, none⟩ (.slice (some ⟨g8, 0, none⟩) (j + 1) c8)) (Cells b3 #[.slice a2 gl c2, .slice a6 ml c6, .slice (some ⟨g8, 0, none⟩) (j + 1) c8] 26 :: Row 51 4 (.slice (some ⟨g8, 0, none⟩) (j + 1) c8) (j + 1) (cat ChE.cs (H2 ++ [⟨xi, xl, xN, an, cn, xS, az, cz⟩])) :: (hrows (H2 ++ [⟨xi, xl, xN, an, cn, xS, az, cz⟩]) ++ LL))) := by
            show Own _ _ _
            have e2 : cat ChE.cs (H2 ++ [⟨xi, xl, xN, an, cn, xS, az, cz⟩]) = cat ChE.cs H2 ++ [.int .u32 (xi : Int), .int .u8 (xl : Int), .slice an nl cn, .slice az sl cz] := by
              rw [cat_append]
              congr 1
              simp [cat, ChE.cs, HNS.out.1, HNS.out.2]
            have e3 : hrows (H2 ++ [⟨xi, xl, xN, an, cn, xS, az, cz⟩]) = hrows H2 ++ [Row 46 4 (.slice an nl cn) nl (ccat xN), Row 46 4 (.slice az sl cz) sl (ccat xS)] := by simp [hrows, ChE.rows, ChE.nrow, ChE.srow, HNS.out.1, HNS.out.2]
            rw [e2, e3]
            exact (h9.three.tail).perm (perm_ue _ _ _ _ _ _)
          clear hO8 hsz8 h9 HN n0 n1 n2 n3 n4
          go_wp2
          go_roundw
          case rel => exact ⟨j + 1, _, some ⟨g8, 0, none⟩, c8, by omega, by go_num, by rw [List.length_append, HH2.out.1]; rfl, HV2.out, H9.out⟩
          case measure => simp [intOf]; omega
      · have hjn : j = n := by omega
        subst hjn
        have hlt' : ¬ (j : Int) < (j : Int) := by omega
        have HV : Hid (H2.map ChE.v = H.map ChE.v) := by
          show _ = _
          rw [HH2.out.2, List.take_of_length_le (by rw [HL.out.2.2]; exact Nat.le_refl _)]
        have z0 := hO.cell 0
        have z1 := hO.cell 1
        have z2 := hO.cell 2
        rw [HLL.out] at hO
        have h1 : Own w0 wr ((Cells b3 #[.slice a2 gl c2, .slice a6 ml c6, .slice h2a j h2c] 26 :: Row 51 4 (.slice h2a j h2c) j (cat ChE.cs H2) :: (hrows H2 ++ [EntsT a6 c6 M6, Row 40 1 (.slice a2 gl c2) gl (irow .u32 G)])) ++ Cells b2 #[.slice none 0 0, .slice none 0 0, .slice none 0 0] 26 :: Cells b1 #[.slice ga gl gc, .slice ma ml mc, .slice ha j hc] 26 :: l) := by simpa using hO
        have h2 := Own.lift h1
        have y0 := h2.froz 0
        have y1 := h2.froz 1
        have y2 := h2.froz 2
        have k0 := h2.cell 0
        have k1 := h2.cell 1
        have k2 := h2.cell 2
        simp at z0 z1 z2 k0 k1 k2
        have h9 := ((h2.setC 0 (.slice a2 gl c2)).setC 1 (.slice a6 ml c6)).setC 2 (.slice h2a j h2c)
        simp only [List.setIfInBounds_toArray, List.set_cons_zero, List.set_cons_succ] at h9
        have HF : Hid (Own w0 _ _) := h9
        clear hO h1 h2 h9
        go_wp2
        (try simp only [Exit.inBlock, Exit.then])
        refine bodyPost_ret (v := .agg #[.slice a2 gl c2, .slice a6 ml c6, .slice h2a j h2c]) ?_ rfl ⟨⟨G, a2, c2, M6, a6, c6, H2, h2a, h2c⟩, ?_, ?_, ?_⟩
        · rw [results_cell1 rfl]
          have r0 := HF.out.cell 0
          have r1 := HF.out.cell 1
          have r2 := HF.out.cell 2
          simp at r0 r1 r2
          go_simp
        · show _ = Ending.returned (.agg #[.slice a2 G.length c2, .slice a6 M6.length c6, .slice h2a H2.length h2c])
          rw [HL.out.1, HM6.out.1, HH2.out.1]
        · unfold DlE.v
          simp only [HM6.out.2, HV.out]
        · have h3 := HF.out.tail.tail.perm (perm_uf _ _ _ _ _ _)
          have h4 := h3.tail
          unfold DlE.things grow1 hrow1
          simp only [HL.out.1, HH2.out.1]
          exact h4
end Go.Proofs.YtkjanpjlpieaoaaDoor

