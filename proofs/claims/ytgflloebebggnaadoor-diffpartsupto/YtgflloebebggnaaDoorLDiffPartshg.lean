/-
  Whoever a delta names it names once, as gone, as come, or as changed, and those whom it doesn't name are as they were: DiffParts returns true, whatever its arguments of bulk at most 1048576, where the table of the components lies as the program's text lays it, and changes nothing that was there.
-/
import Derived.Test.YtgflloebebggnaaDoorEobg
import Derived.Test.YtgflloebebggnaaDoorEnj
import Derived.OpenShut
import Derived.SevenTiedAt
import Derived.Deep.DeepHandedRow
import Derived.Deep.RegionLaw
namespace Go.Proofs.YtgflloebebggnaaDoor
open Go.ChangeShapes Go.WideShapes Go.ChangeAt Go.RowKit
set_option linter.unusedVariables false
set_option maxRecDepth 100000

theorem Own.giLeft {P : Program} {k : TypeId} {κ : Type} {S : Keys P k κ} {w0 w : World} {l : List Thing} {b r n sz cnt : Nat} {p : κ → Option Value} {left : κ → Prop} (h : Own w0 w (GIter S b r n sz p left cnt :: l)) : w.rangeLeft b r = cnt := by
  obtain ⟨A, ⟨B, C, ⟨⟨D, lf, hR, _⟩, _⟩, _⟩, _⟩ := h
  exact hR.left_eq
theorem FindR.fst {L : List EnE} {i : Nat} {r : Int} {e : En} (h : FindR L i r) (hu : (evs L).Pairwise (fun a b => a.1 < b.1)) (he : fstE (evs L) i = some e) : ∃ (j : Nat) (x : EnE), r = (j : Int) ∧ L[j]? = some x ∧ ((x.id, x.C) : En) = e := by
  have h2 := fstE_some he
  rcases h with ⟨_, hno⟩ | ⟨j, x, hr, hx, hxi, hno⟩
  · obtain ⟨y, hy, rfl⟩ := List.mem_map.1 h2.1
    exact absurd h2.2 (hno y hy)
  · exact ⟨j, x, hr, hx, up_eq hu (List.mem_of_getElem? (evs_at hx)) h2.1 (by rw [h2.2]; exact hxi)⟩
theorem mkSeen (w : World) : (Instr.makeMap 52 none).run Tryd.prog w = .ok (.map (some w.heap.size)) (w.alloc (.map #[] 0)) := by rfl
theorem zeroSeen (w : World) : (zeroValue 3).run Tryd.prog w = .ok (.int .i64 0) w := by rfl
def InQ (w : World) (a : Option Addr) (n c : Nat) (Q : List EnE) : Prop := Q.length = n ∧ EntsAt w a Q ∧ EIn Q ∧ esz Q ≤ 1048576 ∧ n ≤ c ∧ c ≤ 9223372036854775807
theorem IsEnts.inQ {w : World} {a : Option Addr} {n c : Nat} {Q : List EnE} (h : IsEnts w a n c Q) (hz : esz Q ≤ 1048576) : InQ w a n c Q := ⟨h.1, h.ents.1, h.ents.2, hz, h.2.1, by have := h.2.2.1; unfold maxLen at this; omega⟩
set_option maxHeartbeats 32000000 in
theorem diffParts_fr (w : World) (ht : Tab w) (a1 : Option Addr) (n1 c1 : Nat) (Q1 : List EnE) (hQ1 : InQ w a1 n1 c1 Q1) (a2 : Option Addr) (n2 c2 : Nat) (Q2 : List EnE) (hQ2 : InQ w a2 n2 c2 Q2) :
    Calls Tryd.prog 5 #[.slice a1 n1 c1, .slice a2 n2 c2] w fun e w' => e = .returned (.bool true) ∧ Fr Nobody w w' := by
  have HAW : Hid (Calls _ _ _ _ _) := awake19 w ht
  have HT : Hid (Tab w) := ht
  have HQ1 : Hid (InQ w a1 n1 c1 Q1) := hQ1
  have HQ2 : Hid (InQ w a2 n2 c2 Q2) := hQ2
  clear ht hQ1 hQ2
  go_enter Tryd.func5, Tryd.ntmps5
  go_wp2_with fail
  refine HAW.out.mono ?_
  rintro e w1 ⟨rfl, hf1⟩
  have HF1 : Hid (Fr Nobody w w1) := hf1
  have HFW : Hid (Calls _ _ _ _ _) := few_any w1 a1 n1 c1 Q1 HQ1.out.1 (HQ1.out.2.1.quiet hf1) HQ1.out.2.2.2.1
  clear hf1 HAW
  by_cases h4 : esz Q1 ≤ 400
  · rw [decide_eq_true h4] at HFW
    go_wp2_with fail
    refine HFW.out.mono ?_
    rintro e w2 ⟨rfl, hf2⟩
    have hF2 := HF1.out.trans hf2
    have HF2 : Hid (Fr Nobody w w2) := hF2
    have HFX : Hid (Calls _ _ _ _ _) := few_any w2 a2 n2 c2 Q2 HQ2.out.1 (HQ2.out.2.1.quiet hF2) HQ2.out.2.2.2.1
    clear hf2 hF2 HFW HF1
    by_cases h5 : esz Q2 ≤ 400
    · rw [decide_eq_true h5] at HFX
      go_wp2_with fail
      refine HFX.out.mono ?_
      rintro e w3 ⟨rfl, hf3⟩
      have hF3 := HF2.out.trans hf3
      have HTA : Hid (Calls _ _ _ _ _) := rtwins_any w w3 [] (Own.of_fr hF3) a1 n1 c1 Q1 (fun w' hw => HQ1.out.2.1.quiet hw.fr) HQ1.out.1 (by omega)
      clear hf3 hF3 HFX HF2
      go_wp2_with fail
      refine HTA.out.mono ?_
      rintro e w4 ⟨m1, k1, rfl, M1, hl1, hv1, h6⟩
      have HTB : Hid (Calls _ _ _ _ _) := rtwins_any w w4 _ h6 a2 n2 c2 Q2 (fun w' hw => HQ2.out.2.1.quiet hw.fr) HQ2.out.1 (by omega)
      have HV1 : Hid (M1.length = n1 ∧ evs M1 = evs Q1) := ⟨hl1, hv1⟩
      clear h6 HTA hl1 hv1
      go_wp2_with fail
      refine HTB.out.mono ?_
      rintro e w5 ⟨m2, k2, rfl, M2, hl2, hv2, h7⟩
      have q1 := h7.two.entsCap
      have q2 := h7.entsCap
      rw [HV1.out.1] at q1
      rw [hl2] at q2
      have hz1 : esz M1 ≤ 400 := by rw [esz_evs HV1.out.2]; exact h4
      have hz2 : esz M2 ≤ 400 := by rw [esz_evs hv2]; exact h5
      have hi2 : EIn M2 := EIn.of_evs hv2 HQ2.out.2.2.1
      have HDF : Hid (Calls _ _ _ _ _) := diff_any w w5 HT.out _ h7 m1 m2 n1 n2 k1 k2 M1 M2 (fun w' hw => ⟨hw.two.entsAt, hw.entsAt⟩) HV1.out.1 hl2 q1.1 q2.1 q1.2 q2.2 (EIn.of_evs HV1.out.2 HQ1.out.2.2.1) hi2 (by omega) (by omega)
      rw [HV1.out.2, hv2] at HDF
      have HSZ : Hid (esz M1 ≤ 400 ∧ esz M2 ≤ 400 ∧ EIn M2 ∧ evs M1 = evs Q1 ∧ evs M2 = evs Q2) := ⟨hz1, hz2, hi2, HV1.out.2, hv2⟩
      obtain ⟨x, hx⟩ : ∃ x, x = dcode (evs Q1) (evs Q2) := ⟨_, rfl⟩
      rw [← hx] at HDF
      have hxl : x < 4294967296 := by
        rw [hx]; unfold dcode
        split
        · exact fm_lt 0 _
        · exact fm_lt 0 _
      have HX : Hid (x = dcode (evs Q1) (evs Q2)) := hx
      clear h7 HTB hl2 hv2 q1 q2 hz1 hz2 hi2 hx HV1
      go_wp2_with fail
      refine HDF.out.mono ?_
      rintro e w6 ⟨d, rfl, hdv, h8⟩
      have h9 : Own w (w6.alloc (.cells #[.slice d.ga d.G.length d.gc, .slice d.ma d.M.length d.mc, .slice d.ha d.H.length d.hc] 29)) (Cells w6.heap.size #[.slice d.ga d.G.length d.gc, .slice d.ma d.M.length d.mc, .slice d.ha d.H.length d.hc] 29 :: (d.things ++ [EntsT m2 k2 M2, EntsT m1 k1 M1])) := h8.allocC _ _
      have p0 := h9.cell 0
      have p1 := h9.cell 1
      have p2 := h9.cell 2
      simp at p0 p1 p2
      have HO : Hid (Own w _ _) := h9
      have HDV : Hid (d.v = dlv (evs Q1) (evs Q2)) := hdv
      unfold DlE.vs
      by_cases hx0 : x = 0
      · subst hx0
        have z0 : ((0 : Int) != 0) = false := rfl
        have hdc : fm 0 (evs Q1) = 0 ∧ fm 0 (evs Q2) = 0 := by
          have h := HX.out
          unfold dcode at h
          split at h
          · rename_i h1; exact absurd h.symm h1
          · rename_i h1; exact ⟨Decidable.not_not.1 h1, h.symm⟩
        have HFM : Hid (Snap (evs Q1) ∧ Snap (evs Q2)) := ⟨Snap.of hdc.1, Snap.of hdc.2⟩
        have hdv2 : d.v = btw (evs Q1) (evs Q2) := by rw [hdv]; exact (dlv_of hdc.1 hdc.2).2
        have hok := dlOk_of (W := M1) (N := M2) h8 (by rw [hdv2, HSZ.out.2.2.2.1, HSZ.out.2.2.2.2]) HSZ.out.2.2.1 (by have := HSZ.out.1; omega) (by have := HSZ.out.2.1; omega)
        have HND : Hid ((names d.v).Nodup) := by show List.Nodup _; rw [hdv2]; exact names_nodup HFM.out.1 HFM.out.2
        have HUN : Hid (∀ x ∈ evs Q1, x.1 ∉ names d.v → fstE (evs Q2) x.1 = some x) := fun x hx hn => unnamed HFM.out.1 HFM.out.2 hx (by rw [← hdv2]; exact hn)
        have HID : Hid (∀ i ∈ names d.v, i < 4294967296) := fun i hi => by
          rw [hdv2] at hi
          obtain ⟨e, he, rfl⟩ := names_in HFM.out.1 HFM.out.2 hi
          rcases List.mem_append.1 he with he | he
          · exact ((EIn.iff Q1).1 HQ1.out.2.2.1 e he).1
          · exact ((EIn.iff Q2).1 HQ2.out.2.2.1 e he).1
        have hgl : d.G.length ≤ 100000 := hok.zg
        have HLO : Hid (∀ x ∈ d.H, x.lost < 256) := fun x hx => (hok.lo x hx).1
        have hml : d.M.length ≤ 100000 := by have := hok.zm; unfold esz at this; omega
        have hhl : d.H.length ≤ 100000 := by have := hok.zh; omega
        obtain ⟨LB, hLB⟩ : ∃ LB, LB = (Cells w6.heap.size #[.slice d.ga d.G.length d.gc, .slice d.ma d.M.length d.mc, .slice d.ha d.H.length d.hc] 29 :: (d.things ++ [EntsT m2 k2 M2, EntsT m1 k1 M1])) := ⟨_, rfl⟩
        rw [← hLB] at h9
        have hmk := mkSeen (w6.alloc (.cells #[.slice d.ga d.G.length d.gc, .slice d.ma d.M.length d.mc, .slice d.ha d.H.length d.hc] 29))
        have hm9 := Own.gmNew idK h9
        rw [← cm_nil] at hm9
        have HALL : Hid (∀ w', Own w w' LB → (w'.cell? ⟨w6.heap.size, 0, none⟩ = some (.slice d.ga d.G.length d.gc) ∧ w'.cell? ⟨w6.heap.size, 1, none⟩ = some (.slice d.ma d.M.length d.mc) ∧ w'.cell? ⟨w6.heap.size, 2, none⟩ = some (.slice d.ha d.H.length d.hc)) ∧ DlAt w' d) := fun w' hw => by
          rw [hLB] at hw
          exact ⟨⟨hw.cell 0, hw.cell 1, hw.cell 2⟩, hw.tail.dlAt⟩
        obtain ⟨r0, r1, r2⟩ := (HALL.out _ hm9.tail).1
        have hbm : (w6.alloc (.cells #[.slice d.ga d.G.length d.gc, .slice d.ma d.M.length d.mc, .slice d.ha d.H.length d.hc] 29)).heap.size = w6.heap.size + 1 := by simp
        rw [hbm] at hm9
        have HM9 : Hid (Own w _ _) := hm9
        clear h8 h9 hdv HDF hdc hdv2 hok hm9 hLB HO
        go_wp2
        clear hmk hbm p0 p1 p2 r0 r1 r2
        generalize (w6.alloc (.cells #[.slice d.ga d.G.length d.gc, .slice d.ma d.M.length d.mc, .slice d.ha d.H.length d.hc] 29)).alloc (.map #[] 0) = W8 at *
        generalize w6.heap.size + 1 = bm at *
        generalize w6.heap.size = bx at *
        obtain ⟨gl, hgl2⟩ : ∃ gl, gl = d.G.length := ⟨_, rfl⟩
        have HGL : Hid (gl = d.G.length) := hgl2
        rw [← hgl2] at HALL hgl
        rw [← hgl2]
        clear hgl2
        go_loopw [9, 45] (fun v9 cc wr => ∃ k n sz : Nat, k ≤ gl ∧ cc = .int .i64 (k : Int) ∧ n ≤ k ∧ Own w wr (GMap idK bm n sz (cm (d.G.take k)) :: LB)) (fun v9 cc _ => gl - (intOf cc).toNat)
        case atStart => exact ⟨0, 0, 0, Nat.zero_le _, rfl, Nat.le_refl _, by rw [List.take_zero]; exact HM9.out⟩
        case round =>
          obtain ⟨k, n, sz, hk, rfl, hn, hO⟩ := hrel
          by_cases hlt : k < gl
          · obtain ⟨id, hid⟩ : ∃ id, d.G[k]? = some id := ⟨_, List.getElem?_eq_getElem (by rw [← HGL.out]; exact hlt)⟩
            have hidm : id ∈ names d.v := List.mem_append_left _ (List.mem_of_getElem? hid)
            have hidl := HID.out id hidm
            obtain ⟨g, o, hga, hc⟩ := (HALL.out wr hO.tail).2.g.at hid
            have hlt' : (k : Int) < (gl : Int) := by omega
            have hcnt : (d.G.take k).count id ≤ 100000 := Nat.le_trans List.count_le_length (by rw [List.length_take]; omega)
            have hlk : (Instr.lookup 52 (.map (some bm)) (.int .u32 (id : Int)) false).run Tryd.prog wr = .ok (.int .i64 (((d.G.take k).count id : Nat) : Int)) wr := by
              rw [← cm_get]
              exact hO.gmAt Tryd.underlying52 (zeroSeen _) id hidl
            obtain ⟨w9, hup, h9⟩ := hO.gmPut Tryd.underlying52 id (.int .i64 (((d.G.take k).count id + 1 : Nat) : Int)) hidl (by unfold maxLen; omega)
            have hup : (Instr.mapUpdate 52 (.map (some bm)) (.int .u32 (id : Int)) (.int .i64 (((d.G.take k).count id : Nat) + 1 : Int))).run Tryd.prog wr = .ok () w9 := hup
            rw [cm_put] at h9
            have htk : d.G.take k ++ [id] = d.G.take (k + 1) := by rw [List.take_add_one, hid]; rfl
            rw [htk] at h9
            have H9 : Hid (Own w w9 _) := h9
            clear h9 hO hid hidm htk
            generalize (d.G.take k).count id = cn at *
            rw [hga]
            clear hga
            go_wp2
            go_roundw
            case rel => exact ⟨k + 1, n + 1, _, by omega, by go_num, by omega, H9.out⟩
            case measure => simp [intOf]; omega
          · have hk2 : k = gl := by omega
            subst hk2
            have hlt' : ¬ (k : Int) < (k : Int) := by omega
            rw [show d.G.take k = d.G from List.take_of_length_le (by rw [← HGL.out]; exact Nat.le_refl _)] at hO
            obtain ⟨r0, r1, r2⟩ := (HALL.out wr hO.tail).1
            have HO1 : Hid (Own w wr (GMap idK bm n sz (cm d.G) :: LB)) := hO
            clear hO HM9
            go_wp2
            clear r0 r1 r2
            obtain ⟨ml, hml2⟩ : ∃ ml, ml = d.M.length := ⟨_, rfl⟩
            have HML : Hid (ml = d.M.length) := hml2
            rw [← hml2] at HALL hml
            rw [← hml2]
            clear hml2
            go_loopw [11, 57] (fun v11 cc wr => ∃ j n sz : Nat, j ≤ ml ∧ cc = .int .i64 (j : Int) ∧ n ≤ k + j ∧ Own w wr (GMap idK bm n sz (cm (d.G ++ ((evs d.M).map (·.1)).take j)) :: LB)) (fun v11 cc _ => ml - (intOf cc).toNat)
            case atStart => exact ⟨0, n, sz, Nat.zero_le _, rfl, by omega, by rw [List.take_zero, List.append_nil]; exact HO1.out⟩
            case round =>
              obtain ⟨j, nB, szB, hj, rfl, hnB, hO⟩ := hrel
              by_cases hlt : j < ml
              · obtain ⟨x, hx⟩ : ∃ x, d.M[j]? = some x := ⟨_, List.getElem?_eq_getElem (by rw [← HML.out]; exact hlt)⟩
                have hxe : ((evs d.M).map (·.1))[j]? = some x.id := by rw [List.getElem?_map, evs_at hx]; rfl
                have hidm : x.id ∈ names d.v := List.mem_append_right _ (List.mem_append_left _ (List.mem_of_getElem? hxe))
                have hidl := HID.out x.id hidm
                obtain ⟨g, o, hga, hc0, hc1, _⟩ := (HALL.out wr hO.tail).2.m.at hx
                have hlt' : (j : Int) < (ml : Int) := by omega
                have hb1 : g < wr.heap.size := World.block_lt_of_cell? wr _ hc0
                have hb2 : wr.heap.size ≠ g := by omega
                have hA := (hO.allocC #[.int .u32 (x.id : Int), .slice x.ao x.C.length x.cap] 47).two
                obtain ⟨P, hP⟩ : ∃ P, P = d.G ++ ((evs d.M).map (·.1)).take j := ⟨_, rfl⟩
                rw [← hP] at hA
                have hcnt : P.count x.id ≤ 300000 := Nat.le_trans List.count_le_length (by rw [hP, List.length_append, List.length_take]; have := HGL.out; omega)
                have hlk : (Instr.lookup 52 (.map (some bm)) (.int .u32 (x.id : Int)) false).run Tryd.prog (wr.alloc (.cells #[.int .u32 (x.id : Int), .slice x.ao x.C.length x.cap] 47)) = .ok (.int .i64 ((P.count x.id : Nat) : Int)) (wr.alloc (.cells #[.int .u32 (x.id : Int), .slice x.ao x.C.length x.cap] 47)) := by
                  rw [← cm_get]
                  exact hA.gmAt Tryd.underlying52 (zeroSeen _) x.id hidl
                obtain ⟨w9, hup, h9⟩ := hA.gmPut Tryd.underlying52 x.id (.int .i64 ((P.count x.id + 1 : Nat) : Int)) hidl (by unfold maxLen; omega)
                have hup : (Instr.mapUpdate 52 (.map (some bm)) (.int .u32 (x.id : Int)) (.int .i64 ((P.count x.id : Nat) + 1 : Int))).run Tryd.prog (wr.alloc (.cells #[.int .u32 (x.id : Int), .slice x.ao x.C.length x.cap] 47)) = .ok () w9 := hup
                rw [cm_put] at h9
                have htk : P ++ [x.id] = d.G ++ ((evs d.M).map (·.1)).take (j + 1) := by rw [hP, List.take_add_one, hxe, List.append_assoc]; rfl
                rw [htk] at h9
                have H9 : Hid (Own w w9 _) := h9.two.tail
                clear h9 hO hA hxe hidm htk hx hP
                generalize P.count x.id = cn at *
                obtain ⟨xi, xa, xc, xC⟩ := x
                simp only at hc0 hc1 hlk hup hidl
                generalize xC.length = xl at *
                rw [hga]
                clear hga
                go_wp2
                go_roundw
                case rel => exact ⟨j + 1, nB + 1, _, by omega, by go_num, by omega, H9.out⟩
                case measure => simp [intOf]; omega
              · have hj2 : j = ml := by omega
                subst hj2
                have hlt' : ¬ (j : Int) < (j : Int) := by omega
                rw [show ((evs d.M).map (·.1)).take j = (evs d.M).map (·.1) from List.take_of_length_le (by rw [List.length_map, evs_len, ← HML.out]; exact Nat.le_refl _)] at hO
                obtain ⟨r0, r1, r2⟩ := (HALL.out wr hO.tail).1
                have HO2 : Hid (Own w wr (GMap idK bm nB szB (cm (d.G ++ (evs d.M).map (·.1))) :: LB)) := hO
                clear hO HO1
                go_wp2
                clear r0 r1 r2
                obtain ⟨hl, hhl2⟩ : ∃ hl, hl = d.H.length := ⟨_, rfl⟩
                have HHL : Hid (hl = d.H.length) := hhl2
                rw [← hhl2] at HALL hhl
                rw [← hhl2]
                clear hhl2
                go_loopw [13, 70] (fun v13 cc wr => ∃ i n sz : Nat, i ≤ hl ∧ cc = .int .i64 (i : Int) ∧ n ≤ k + j + i ∧ Own w wr (GMap idK bm n sz (cm ((d.G ++ (evs d.M).map (·.1)) ++ ((chv d.H).map Chg.id).take i)) :: LB)) (fun v13 cc _ => hl - (intOf cc).toNat)
                case atStart => exact ⟨0, nB, szB, Nat.zero_le _, rfl, by omega, by rw [List.take_zero, List.append_nil]; exact HO2.out⟩
                case round =>
                  obtain ⟨i, n3, sz3, hi, rfl, hn3, hO⟩ := hrel
                  by_cases hlt : i < hl
                  · obtain ⟨x, hx⟩ : ∃ x, d.H[i]? = some x := ⟨_, List.getElem?_eq_getElem (by rw [← HHL.out]; exact hlt)⟩
                    have hxe : ((chv d.H).map Chg.id)[i]? = some x.id := by rw [List.getElem?_map, chv_at hx]; rfl
                    have hidm : x.id ∈ names d.v := List.mem_append_right _ (List.mem_append_right _ (List.mem_of_getElem? hxe))
                    have hidl := HID.out x.id hidm
                    obtain ⟨g, o, hga, ⟨hc0, hc1, hc2, hc3⟩, _⟩ := (HALL.out wr hO.tail).2.h.at hx
                    have hlt' : (i : Int) < (hl : Int) := by omega
                    have hb1 : g < wr.heap.size := World.block_lt_of_cell? wr _ hc0
                    have hb2 : wr.heap.size ≠ g := by omega
                    have hlo : x.lost < 256 := HLO.out x (List.mem_of_getElem? hx)
                    have hA := (hO.allocC #[.int .u32 (x.id : Int), .int .u8 (x.lost : Int), .slice x.na x.N.length x.nc, .slice x.sa x.S.length x.sc] 54).two
                    obtain ⟨P, hP⟩ : ∃ P, P = (d.G ++ (evs d.M).map (·.1)) ++ ((chv d.H).map Chg.id).take i := ⟨_, rfl⟩
                    rw [← hP] at hA
                    have hcnt : P.count x.id ≤ 300000 := Nat.le_trans List.count_le_length (by rw [hP, List.length_append, List.length_append, List.length_take, List.length_map, evs_len]; have := HGL.out; have := HML.out; omega)
                    have hlk : (Instr.lookup 52 (.map (some bm)) (.int .u32 (x.id : Int)) false).run Tryd.prog (wr.alloc (.cells #[.int .u32 (x.id : Int), .int .u8 (x.lost : Int), .slice x.na x.N.length x.nc, .slice x.sa x.S.length x.sc] 54)) = .ok (.int .i64 ((P.count x.id : Nat) : Int)) (wr.alloc (.cells #[.int .u32 (x.id : Int), .int .u8 (x.lost : Int), .slice x.na x.N.length x.nc, .slice x.sa x.S.length x.sc] 54)) := by
                      rw [← cm_get]
                      exact hA.gmAt Tryd.underlying52 (zeroSeen _) x.id hidl
                    obtain ⟨w9, hup, h9⟩ := hA.gmPut Tryd.underlying52 x.id (.int .i64 ((P.count x.id + 1 : Nat) : Int)) hidl (by unfold maxLen; omega)
                    have hup : (Instr.mapUpdate 52 (.map (some bm)) (.int .u32 (x.id : Int)) (.int .i64 ((P.count x.id : Nat) + 1 : Int))).run Tryd.prog (wr.alloc (.cells #[.int .u32 (x.id : Int), .int .u8 (x.lost : Int), .slice x.na x.N.length x.nc, .slice x.sa x.S.length x.sc] 54)) = .ok () w9 := hup
                    rw [cm_put] at h9
                    have htk : P ++ [x.id] = (d.G ++ (evs d.M).map (·.1)) ++ ((chv d.H).map Chg.id).take (i + 1) := by rw [hP, List.take_add_one, hxe, List.append_assoc]; rfl
                    rw [htk] at h9
                    have H9 : Hid (Own w w9 _) := h9.two.tail
                    clear h9 hO hA hxe hidm htk hx hP
                    generalize P.count x.id = cn at *
                    obtain ⟨xi, xl, xN, xna, xnc, xS, xsa, xsc⟩ := x
                    simp only at hc0 hc1 hc2 hc3 hlk hup hidl hlo
                    generalize xN.length = xnl at *
                    generalize xS.length = xsl at *
                    rw [hga]
                    clear hga
                    go_wp2
                    go_roundw
                    case rel => exact ⟨i + 1, n3 + 1, _, by omega, by go_num, by omega, H9.out⟩
                    case measure => simp [intOf]; omega
                  · have hi2 : i = hl := by omega
                    subst hi2
                    have hlt' : ¬ (i : Int) < (i : Int) := by omega
                    rw [show ((chv d.H).map Chg.id).take i = (chv d.H).map Chg.id from List.take_of_length_le (by rw [List.length_map, chv_len, ← HHL.out]; exact Nat.le_refl _), List.append_assoc] at hO
                    have hO : Own w wr (GMap idK bm n3 sz3 (cm (names d.v)) :: LB) := hO
                    obtain ⟨w10, hrun, hI⟩ := hO.gmRange Tryd.underlying52
                    obtain ⟨rr, hrr⟩ : ∃ rr, rr = wr.heap.size := ⟨_, rfl⟩
                    rw [← hrr] at hrun hI
                    have HI : Hid (Own w w10 (GIter idK bm rr n3 sz3 (cm (names d.v)) _ _ :: LB)) := hI
                    clear hO hI hrr HO2
                    go_wp2
                    clear hrun
                    go_loopw [15] (fun v15 wr => ∃ (left : Nat → Prop) (cnt : Nat), Own w wr (GIter idK bm rr n3 sz3 (cm (names d.v)) left cnt :: LB)) (fun _ wr => wr.rangeLeft bm rr)
                    case atStart => exact ⟨_, _, HI.out⟩
                    case round =>
                      obtain ⟨left, cnt, hO⟩ := hrel
                      have HM0 : Hid (wr.rangeLeft bm rr = cnt) := hO.giLeft
                      clear HI
                      rcases hO.giNext 0 with ⟨h0, hall, hnx⟩ | ⟨id, v, w2, cnt', hid, hleft, hpv, hnx, hent, hltc, hO2⟩
                      · have hnx' : ∀ ty, (Instr.next (.pointer (some ⟨rr, 0, none⟩)) false ty).run Tryd.prog wr = .ok (.tuple #[.bool false]) wr := fun ty => hnx
                        have HO3 : Hid (Own w wr (GMap idK bm n3 sz3 (cm (names d.v)) :: LB)) := hO.giMap
                        clear hO h0 hall hnx HM0
                        go_wp2
                        clear hnx'
                        have hn1 : n1 ≤ 1048576 := by have h1 := HQ1.out.1; have h2 := HQ1.out.2.2.2.1; unfold esz at h2; omega
                        go_loopw [90] (fun cc wr => ∃ k : Nat, k ≤ n1 ∧ cc = .int .i64 (k : Int) ∧ Own w wr (GMap idK bm n3 sz3 (cm (names d.v)) :: LB)) (fun cc _ => n1 - (intOf cc).toNat)
                        case atStart => exact ⟨0, Nat.zero_le _, rfl, HO3.out⟩
                        case round =>
                          obtain ⟨q, hq, rfl, hO⟩ := hrel
                          clear HO3
                          by_cases hlt : q < n1
                          · obtain ⟨x, hx⟩ : ∃ x, Q1[q]? = some x := ⟨_, List.getElem?_eq_getElem (by rw [HQ1.out.1]; exact hlt)⟩
                            obtain ⟨g, o, hga, hc0, hc1, _⟩ := (HQ1.out.2.1.quiet hO.fr).at hx
                            have hlt' : (q : Int) < (n1 : Int) := by omega
                            have hb1 : g < wr.heap.size := World.block_lt_of_cell? wr _ hc0
                            have hb2 : wr.heap.size ≠ g := by omega
                            have hidl : x.id < 4294967296 := (HQ1.out.2.2.1 x (List.mem_of_getElem? hx)).1
                            have hA := (hO.allocC #[.int .u32 (x.id : Int), .slice x.ao x.C.length x.cap] 47).two
                            have HFI : Hid (Calls _ _ _ _ _) := rfindE_any (wr.alloc (.cells #[.int .u32 (x.id : Int), .slice x.ao x.C.length x.cap] 47)) a2 n2 c2 Q2 (HQ2.out.2.1.quiet hA.fr) HQ2.out.1 (by have h1 := HQ2.out.2.2.2.1; have h2 := HQ2.out.1; unfold esz at h1; omega) x.id
                            have HA : Hid (Own w _ _) := hA
                            have HX : Hid (Q1[q]? = some x) := hx
                            clear hO hA hx
                            rw [hga]
                            obtain ⟨xi, xa, xc, xC⟩ := x
                            simp only at hc0 hc1 hidl HFI HA
                            obtain ⟨xl, hxl⟩ : ∃ xl, xl = xC.length := ⟨_, rfl⟩
                            rw [← hxl] at hc1 HFI HA
                            have HXL : Hid (xl = xC.length) := hxl
                            clear hxl
                            go_wp2_with fail
                            refine HFI.out.mono ?_
                            rintro e w11 ⟨r, rfl, hfr, hf11⟩
                            have hA2 := HA.out.quiet hf11
                            have HA2 : Hid (Own w w11 _) := hA2
                            have HFR : Hid (FindR Q2 xi r) := hfr
                            have HGA : Hid (a1 = some ⟨g, o, none⟩) := hga
                            clear HFI hf11 hfr HA hc0 hc1 hga
                            generalize wr.heap.size = bx2 at *
                            have q0 : ∀ f : FrOf w11, f.val.cell? ⟨bx2, 0, none⟩ = some (.int .u32 (xi : Int)) := fun f => by
                              have := hA2.two.frCells f 0; simpa using this
                            have q1 : ∀ f : FrOf w11, f.val.cell? ⟨bx2, 1, none⟩ = some (.slice xa xl xc) := fun f => by
                              have := hA2.two.frCells f 1; simpa using this
                            have hlk : ∀ f : FrOf w11, (Instr.lookup 52 (.map (some bm)) (.int .u32 (xi : Int)) false).run Tryd.prog f.val = .ok (.int .i64 (((names d.v).count xi : Nat) : Int)) f.val := fun f => by
                              rw [← cm_get]
                              exact (hA2.quiet f.fr).gmAt Tryd.underlying52 (zeroSeen _) xi hidl
                            clear hA2 hb1 hb2
                            by_cases hnm : xi ∈ names d.v
                            · have hc1 : (names d.v).count xi = 1 := by rw [HND.out.count]; simp [hnm]
                              rw [hc1] at hlk
                              have hlk : ∀ f : FrOf w11, (Instr.lookup 52 (.map (some bm)) (.int .u32 (xi : Int)) false).run Tryd.prog f.val = .ok (.int .i64 1) f.val := hlk
                              have z1 : ((1 : Int) == 0) = false := rfl
                              clear hc1 hnm
                              go_wp2
                              refine wp_region_fr (by kernel_rfl) (by kernel_rfl) ?_
                              repeat (with_reducible refine wpQuiet_step (fun K hK => ?_)
                                      go_simp
                                      refine hK _ ?_; clear hK K)
                              refine wpQuiet_nil ?_
                              rintro w' ⟨f, rfl⟩
                              have HO4 : Hid (Own w f.val (GMap idK bm n3 sz3 (cm (names d.v)) :: LB)) := (HA2.out.quiet f.fr).two.tail
                              clear q0 q1 hlk HA2
                              go_wp2
                              go_roundw
                              case rel => exact ⟨q + 1, by omega, by go_num, HO4.out⟩
                              case measure => simp [intOf]; omega
                            · have hc1 : (names d.v).count xi = 0 := List.count_eq_zero.2 hnm
                              rw [hc1] at hlk
                              have hlk : ∀ f : FrOf w11, (Instr.lookup 52 (.map (some bm)) (.int .u32 (xi : Int)) false).run Tryd.prog f.val = .ok (.int .i64 0) f.val := hlk
                              have z1 : ((0 : Int) == 0) = true := rfl
                              obtain ⟨j, y, rfl, hy, hye⟩ := HFR.out.fst HFM.out.2.up (HUN.out (xi, xC) (List.mem_of_getElem? (evs_at HX.out)) hnm)
                              obtain ⟨g2, o2, hg2, _, _, _⟩ := (HQ2.out.2.1.quiet HA2.out.fr).at hy
                              have s0 : ∀ f : FrOf w11, f.val.cell? ⟨g2, o2 + j * 2, none⟩ = some (.int .u32 (y.id : Int)) := fun f => by
                                obtain ⟨g, o, hg, h0, h1, _⟩ := (HQ2.out.2.1.quiet (HA2.out.fr.trans f.fr)).at hy
                                rw [hg2] at hg; cases hg; exact h0
                              have s1 : ∀ f : FrOf w11, f.val.cell? ⟨g2, o2 + j * 2 + 1, none⟩ = some (.slice y.ao y.C.length y.cap) := fun f => by
                                obtain ⟨g, o, hg, h0, h1, _⟩ := (HQ2.out.2.1.quiet (HA2.out.fr.trans f.fr)).at hy
                                rw [hg2] at hg; cases hg; exact h1
                              have hjn : j < n2 := by have := (List.getElem?_eq_some_iff.1 hy).1; rw [HQ2.out.1] at this; exact this
                              have hj0 : ¬ ((j : Int) < 0) := by omega
                              have hj1 : (j : Int) < (n2 : Int) := by omega
                              have hye' : ((xi, xC) : En) = (y.id, y.C) := hye.symm
                              have CS : Hid (∀ f : FrOf w11, Calls Tryd.prog 19 #[.agg #[.int .u32 (xi : Int), .slice xa xl xc], .agg #[.int .u32 (y.id : Int), .slice y.ao y.C.length y.cap]] f.val fun e w' => e = .returned (.bool true) ∧ Fr Nobody f.val w') := fun f => by
                                rw [HXL.out, show true = decide (((xi, xC) : En) = (y.id, y.C)) from (decide_eq_true hye').symm]
                                exact eqEn_r f.val xi y.id xa y.ao xC.length y.C.length xc y.cap xC y.C ((HQ1.out.2.1.quiet (HA2.out.fr.trans f.fr)).2 _ (List.mem_of_getElem? HX.out)) ((HQ2.out.2.1.quiet (HA2.out.fr.trans f.fr)).2 y (List.mem_of_getElem? hy)) rfl rfl (by have h1 := csz_mem (List.mem_of_getElem? HX.out); have h2 := HQ1.out.2.2.2.1; unfold esz at h2; simp only at h1; omega) (by have h1 := csz_mem (List.mem_of_getElem? hy); have h2 := HQ2.out.2.2.2.1; unfold esz at h2; omega)
                              clear hc1 hnm hye hye' hy
                              obtain ⟨yi, ya, yc, yC⟩ := y
                              simp only at s0 s1 CS
                              generalize yC.length = yl at *
                              subst hg2
                              go_wp2
                              refine wp_region_fr (by kernel_rfl) (by kernel_rfl) ?_
                              repeat (with_reducible refine wpQuiet_step (fun K hK => ?_)
                                      go_simp
                                      first
                                        | (refine hK _ ?_; clear hK K)
                                        | (apply Exists.intro
                                           refine ⟨fun _ => ?_, hK _ ?_⟩
                                           (go_at_call 19; with_reducible refine Calls.fr_of (CS.out _))
                                           clear hK K))
                              refine wpQuiet_nil ?_
                              rintro w' ⟨f, rfl⟩
                              have HO4 : Hid (Own w f.val (GMap idK bm n3 sz3 (cm (names d.v)) :: LB)) := (HA2.out.quiet f.fr).two.tail
                              clear q0 q1 hlk HA2 s0 s1 CS
                              go_wp2
                              go_roundw
                              case rel => exact ⟨q + 1, by omega, by go_num, HO4.out⟩
                              case measure => simp [intOf]; omega
                          · have hq2 : q = n1 := by omega
                            subst hq2
                            have hlt' : ¬ (q : Int) < (q : Int) := by omega
                            have HF : Hid (Fr Nobody w wr) := hO.fr
                            clear hO
                            go_wp2
                            go_ret
                            exact ⟨rfl, HF.out⟩
                      · have hv1 : v = .int .i64 1 := cm_one HND.out hpv
                        subst hv1
                        have hnx' : ∀ ty, (Instr.next (.pointer (some ⟨rr, 0, none⟩)) false ty).run Tryd.prog wr = .ok (.tuple #[.bool true, .int .u32 (id : Int), .int .i64 1]) w2 := fun ty => hnx
                        have hent' : (Instr.entry (.pointer (some ⟨rr, 0, none⟩))).run Tryd.prog w2 = .ok (.tuple #[.int .u32 (id : Int), .int .i64 1]) w2 := hent
                        have HO2 : Hid (Own w w2 (GIter idK bm rr n3 sz3 (cm (names d.v)) _ cnt' :: LB)) := hO2
                        have HLT : Hid (cnt' < cnt) := hltc
                        have z1 : ((1 : Int) != 1) = false := rfl
                        clear hO hO2 hnx hent hltc hpv hid hleft
                        go_wp2
                        go_roundw
                        case rel => exact ⟨_, _, HO2.out⟩
                        case measure => rw [HM0.out, HO2.out.giLeft]; exact HLT.out
      · have hx1 : ((x : Int) != 0) = true := by simpa using hx0
        have hnil : d.v = ⟨[], [], []⟩ := by rw [hdv]; unfold dlv; rw [if_neg (by rw [← HX.out]; exact hx0)]
        have g0 : d.G = [] := congrArg Dl.gone hnil
        have g1 : evs d.M = [] := congrArg Dl.come hnil
        have g2 : chv d.H = [] := congrArg Dl.chg hnil
        have e1 : d.M.length = 0 := by rw [← evs_len, g1]; rfl
        have e2 : d.H.length = 0 := by rw [← chv_len, g2]; rfl
        have HEM : Hid (Calls _ _ _ _ _) := empty_any (w6.alloc (.cells #[.slice d.ga d.G.length d.gc, .slice d.ma d.M.length d.mc, .slice d.ha d.H.length d.hc] 29)) d (by rw [g0]; decide) (by omega) (by omega)
        rw [hnil] at HEM
        unfold DlE.vs at HEM
        clear h8 h9 hdv HDF hnil g0 g1 g2 e1 e2 hx0
        go_wp2_with fail
        refine HEM.out.mono ?_
        rintro e w7 ⟨rfl, hf7⟩
        have HF : Hid (Fr Nobody w w7) := HO.out.fr.trans hf7
        clear hf7 HEM HO p0 p1 p2
        go_wp2
        go_ret
        exact ⟨rfl, HF.out⟩
    · rw [decide_eq_false h5] at HFX
      go_wp2_with fail
      refine HFX.out.mono ?_
      rintro e w3 ⟨rfl, hf3⟩
      have HF3 : Hid (Fr Nobody w w3) := HF2.out.trans hf3
      clear hf3 HFX HF2
      go_wp2
      go_ret
      exact ⟨rfl, HF3.out⟩
  · rw [decide_eq_false h4] at HFW
    go_wp2_with fail
    refine HFW.out.mono ?_
    rintro e w2 ⟨rfl, hf2⟩
    have HF2 : Hid (Fr Nobody w w2) := HF1.out.trans hf2
    clear hf2 HFW HF1
    go_wp2
    go_ret
    exact ⟨rfl, HF2.out⟩
theorem diffParts_walk (w : World) (ht : Tab w) (a0 : Option Addr) (len0 cap0 : Nat) (z0 : List EnE) (w0 : IsEnts w a0 len0 cap0 z0) (hb0 : esz z0 ≤ 1048576) (a1 : Option Addr) (len1 cap1 : Nat) (z1 : List EnE) (w1 : IsEnts w a1 len1 cap1 z1) (hb1 : esz z1 ≤ 1048576) :
    Calls Tryd.prog 5 #[.slice a0 len0 cap0, .slice a1 len1 cap1] w fun e w' => e = .returned (.bool true) ∧ Below w.heap.size w w' := by
  refine (diffParts_fr w ht a0 len0 cap0 z0 (w0.inQ hb0) a1 len1 cap1 z1 (w1.inQ hb1)).mono ?_
  rintro e w' ⟨rfl, hf⟩
  exact ⟨rfl, hf.below (Nat.le_refl _) (fun _ _ h => h)⟩
end Go.Proofs.YtgflloebebggnaaDoor
