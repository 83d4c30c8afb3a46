/-
  A copy is the same and goes its own way, and two are the same just if each thing is: SnapCopies returns true, whatever its arguments of bulk at most 1048576, where the table of the components lies as the program's text lays it, and changes nothing that was there.
-/
import Derived.Test.YtfhfcfobgemcpaaGreatDoorSngg
import Derived.OpenShut
import Derived.SevenTiedAt
import Derived.Deep.DeepHandedRow
import Derived.Deep.RegionLaw
namespace Go.Proofs.YtfhfcfobgemcpaaGreatDoor
open Go.ChangeShapes Go.WideShapes Go.ChangeAt Go.RowKit
set_option linter.unusedVariables false
set_option maxRecDepth 100000

set_option maxHeartbeats 32000000 in
theorem snapCopies_fr (w : World) (ht : Tab w) (a1 : Option Addr) (n1 c1 : Nat) (Q1 : List EnE) (hQ1 : IsEnts w a1 n1 c1 Q1) (hz1 : esz Q1 ≤ 1048576) (a2 : Option Addr) (n2 c2 : Nat) (Q2 : List EnE) (hQ2 : IsEnts w a2 n2 c2 Q2) (hz2 : esz Q2 ≤ 1048576) :
    Calls Tryz.prog 11 #[.slice a1 n1 c1, .slice a2 n2 c2] w fun e w' => e = .returned (.bool true) ∧ Fr Nobody w w' := by
  have HAW : Hid (Calls _ _ _ _ _) := awake18 w ht
  have HE1 : Hid (Q1.length = n1 ∧ EntsAt w a1 Q1) := ⟨hQ1.1, hQ1.ents.1⟩
  have HE2 : Hid (Q2.length = n2 ∧ EntsAt w a2 Q2) := ⟨hQ2.1, hQ2.ents.1⟩
  clear ht hQ1 hQ2
  go_enter Tryz.func11, Tryz.ntmps11
  go_wp2_with fail
  refine HAW.out.mono ?_
  rintro e w1 ⟨rfl, hf1⟩
  have HF1 : Hid (Fr Nobody w w1) := hf1
  have HFW : Hid (Calls _ _ _ _ _) := few_any w1 a1 n1 c1 Q1 HE1.out.1 (HE1.out.2.quiet hf1) hz1
  clear hf1 HAW
  by_cases h4 : esz Q1 ≤ 400
  · rw [decide_eq_true h4] at HFW
    have hl1 : n1 ≤ 400 := by have := HE1.out.1; unfold esz at h4; omega
    go_wp2_with fail
    refine HFW.out.mono ?_
    rintro e w2 ⟨rfl, hf2⟩
    have hF2 := HF1.out.trans hf2
    have HF2 : Hid (Fr Nobody w w2) := hF2
    have HFV : Hid (Calls _ _ _ _ _) := few_any w2 a2 n2 c2 Q2 HE2.out.1 (HE2.out.2.quiet hF2) hz2
    clear hf2 HF1 HFW hF2
    by_cases h5 : esz Q2 ≤ 400
    · rw [decide_eq_true h5] at HFV
      have hl2 : n2 ≤ 400 := by have := HE2.out.1; unfold esz at h5; omega
      have HZ : Hid (esz Q1 ≤ 400 ∧ esz Q2 ≤ 400) := ⟨h4, h5⟩
      clear h4 h5 hz1 hz2
      go_wp2_with fail
      refine HFV.out.mono ?_
      rintro e w3 ⟨rfl, hf3⟩
      have HTW : Hid (Calls _ _ _ _ _) := rtwins_any w w3 [] (Own.of_fr (HF2.out.trans hf3)) a1 n1 c1 Q1 (fun w' hw => HE1.out.2.quiet hw.fr) HE1.out.1 (by have := HZ.out.1; omega)
      clear hf3 HF2 HFV
      go_wp2_with fail
      refine HTW.out.mono ?_
      rintro e w4 ⟨a4, c4, rfl, M, hMl, hMv, h4⟩
      have hMz : esz M ≤ 400 := by rw [esz_evs hMv]; exact HZ.out.1
      have HCP : Hid (Calls _ _ _ _ _) := copy_any w w4 _ h4 a4 n1 c4 M (fun w' hw => hw.entsAt) hMl (by omega)
      have HM : Hid (M.length = n1 ∧ evs M = evs Q1 ∧ esz M ≤ 400) := ⟨hMl, hMv, hMz⟩
      clear h4 HTW hMl hMv hMz
      go_wp2_with fail
      refine HCP.out.mono ?_
      rintro e w5 ⟨a5, c5, rfl, C, hCl, hCv, h5⟩
      have hCz : esz C ≤ 400 := by rw [esz_evs hCv]; exact HM.out.2.2
      have HC : Hid (C.length = n1 ∧ esz C ≤ 400) := ⟨hCl, hCz⟩
      have HSM : Hid (Calls _ _ _ _ _) := snapSame_any w5 a5 a4 n1 n1 c5 c4 C M h5.entsAt h5.two.entsAt hCl HM.out.1 (by omega) (by have := HM.out.2.2; omega)
      rw [decide_eq_true hCv] at HSM
      have H5 : Hid (Own w w5 [EntsT a5 c5 C, EntsT a4 c4 M]) := h5
      clear h5 HCP hCl hCv hCz
      go_wp2_with fail
      refine HSM.out.mono ?_
      rintro e w6 ⟨rfl, hf6⟩
      have h6 := H5.out.quiet hf6
      have HTB : Hid (Calls _ _ _ _ _) := rtwins_any w w6 _ h6 a2 n2 c2 Q2 (fun w' hw => HE2.out.2.quiet hw.fr) HE2.out.1 (by have := HZ.out.2; omega)
      clear h6 hf6 H5 HSM
      go_wp2_with fail
      refine HTB.out.mono ?_
      rintro e w7 ⟨a7, c7, rfl, M2, hM2l, hM2v, h7⟩
      have hM2z : esz M2 ≤ 400 := by rw [esz_evs hM2v]; exact HZ.out.2
      obtain ⟨sb, hsb⟩ : ∃ sb, decide (evs Q1 = evs Q2) = sb := ⟨_, rfl⟩
      have HS2 : Hid (Calls _ _ _ _ _) := snapSame_any w7 a4 a7 n1 n2 c4 c7 M M2 h7.three.entsAt h7.entsAt HM.out.1 hM2l (by have := HM.out.2.2; omega) (by omega)
      rw [HM.out.2.1, hM2v, hsb] at HS2
      have H7 : Hid (Own w w7 [EntsT a5 c5 C, EntsT a4 c4 M]) := h7.tail
      clear h7 HTB hM2l hM2z
      go_wp2_with fail
      refine HS2.out.mono ?_
      rintro e w8 ⟨rfl, hf8⟩
      have h8 := H7.out.quiet hf8
      have HS3 : Hid (Calls _ _ _ _ _) := sameEnts_any w8 a1 a2 n1 n2 c1 c2 Q1 Q2 (HE1.out.2.quiet h8.fr) (HE2.out.2.quiet h8.fr) HE1.out.1 HE2.out.1 (by have := HZ.out.1; omega) (by have := HZ.out.2; omega)
      rw [hsb] at HS3
      have H8 : Hid (Own w w8 [EntsT a5 c5 C, EntsT a4 c4 M]) := h8
      have hss : (sb != sb) = false := by simp
      clear h8 hf8 HS2 H7 hsb hM2v
      go_wp2_with fail
      refine HS3.out.mono ?_
      rintro e w9 ⟨rfl, hf9⟩
      have H9 : Hid (Own w w9 [EntsT a5 c5 C, EntsT a4 c4 M]) := H8.out.quiet hf9
      clear hf9 H8 HS3
      go_wp2
      clear hss
      go_loopw [39] (fun cc wr => ∃ (j : Nat) (D : List EnE), j ≤ n1 ∧ cc = .int .i64 (j : Int) ∧ D.length = n1 ∧ (∀ x ∈ D, x.C.length ≤ 400) ∧ Own w wr [EntsT a5 c5 D, EntsT a4 c4 M]) (fun cc _ => n1 - (intOf cc).toNat)
      case atStart => exact ⟨0, C, Nat.zero_le _, rfl, HC.out.1, fun x hx => by have h1 := csz_mem hx; have h2 := HC.out.2; unfold esz at h2; omega, H9.out⟩
      case round =>
        obtain ⟨j, D, hj, rfl, hDl, hDc, hO⟩ := hrel
        clear H9
        have HD : Hid (D.length = n1 ∧ ∀ x ∈ D, x.C.length ≤ 400) := ⟨hDl, hDc⟩
        clear hDl hDc
        by_cases hlt : j < n1
        · have hlt' : (j : Int) < (n1 : Int) := by omega
          obtain ⟨x, hx⟩ : ∃ x, D[j]? = some x := ⟨_, List.getElem?_eq_getElem (by rw [HD.out.1]; exact hlt)⟩
          obtain ⟨⟨g, hg, q0, q1⟩, _⟩ := hO.entAt hx
          have f0 : wr.frozen? ⟨g, j * 2, none⟩ = false := by
            obtain ⟨_, h1⟩ := Own.ex_iff.1 hO
            have hr := h1.row
            rw [hg] at hr
            exact hr.frozenAt _
          have hxc := HD.out.2 x (List.mem_of_getElem? hx)
          subst hg
          obtain ⟨z, hz⟩ : ∃ z : Int, z = ((x.id : Int) + 1) % 4294967296 := ⟨_, rfl⟩
          have hz0 : 0 ≤ z := by rw [hz]; exact Int.emod_nonneg _ (by decide)
          have hS := Own.entId hO hx z hz0
          have s1 : (wr.setCell ⟨g, j * 2, none⟩ (.int .u32 z)).cell? ⟨g, j * 2 + 1, none⟩ = some (.slice x.ao x.C.length x.cap) := by
            have hx2 : (D.set j { x with id := z.toNat })[j]? = some { x with id := z.toNat } := by
              rw [List.getElem?_set]; simp [(List.getElem?_eq_some_iff.1 hx).1]
            obtain ⟨⟨g', hg', _, h1⟩, _⟩ := hS.entAt hx2
            cases hg'
            exact h1
          have HX : Hid (D[j]? = some x) := hx
          have HZZ : Hid (z = ((x.id : Int) + 1) % 4294967296) := hz
          have HS : Hid (Own w _ _) := hS
          have HXX : Hid (∃ y : EnE, y = x) := ⟨_, rfl⟩
          clear hO hx hS
          obtain ⟨xi, xa, xc, xC⟩ := x
          simp only at q0 q1 s1 hxc HS HX HZZ hz
          generalize hxl : xC.length = cl at *
          have HXL : Hid (xC.length = cl) := hxl
          clear hxl HXX
          go_wp2
          have HS2 : Hid (Own w (wr.setCell ⟨g, j * 2, none⟩ (.int .u32 (((xi : Int) + 1) % 4294967296))) [EntsT (some ⟨g, 0, none⟩) c5 (D.set j ⟨z.toNat, xa, xc, xC⟩), EntsT a4 c4 M]) := by
            have := HS.out
            rw [HZZ.out] at this ⊢
            exact this
          have HX2 : Hid ((D.set j (⟨z.toNat, xa, xc, xC⟩ : EnE))[j]? = some ⟨z.toNat, xa, xc, xC⟩) := by
            show _ = _
            rw [List.getElem?_set]; simp [(List.getElem?_eq_some_iff.1 HX.out).1]
          have HD2 : Hid ((D.set j (⟨z.toNat, xa, xc, xC⟩ : EnE)).length = n1 ∧ ∀ y ∈ D.set j (⟨z.toNat, xa, xc, xC⟩ : EnE), y.C.length ≤ 400) := by
            refine ⟨by rw [List.length_set]; exact HD.out.1, fun y hy => ?_⟩
            rcases List.mem_or_eq_of_mem_set hy with hy | rfl
            · exact HD.out.2 y hy
            · show xC.length ≤ 400
              rw [HXL.out]; exact hxc
          generalize D.set j (⟨z.toNat, xa, xc, xC⟩ : EnE) = D2 at *
          clear HS HX HD HZZ hz hz0 q0 q1 s1 f0
          go_loopw [56] (fun cc wr2 => ∃ (i : Nat) (D' : List EnE) (x' : EnE), i ≤ cl ∧ cc = .int .i64 (i : Int) ∧ (D'.length = n1 ∧ ∀ y ∈ D', y.C.length ≤ 400) ∧ D'[j]? = some x' ∧ x'.ao = xa ∧ x'.cap = xc ∧ x'.C.length = cl ∧ Own w wr2 [EntsT (some ⟨g, 0, none⟩) c5 D', EntsT a4 c4 M]) (fun cc _ => cl - (intOf cc).toNat)
          case atStart => exact ⟨0, D2, ⟨z.toNat, xa, xc, xC⟩, Nat.zero_le _, rfl, HD2.out, HX2.out, rfl, rfl, HXL.out, HS2.out⟩
          case round =>
            obtain ⟨i, D', x', hi, rfl, hD', hx', hxa, hxc', hxl, hO2⟩ := hrel
            clear HS2 HX2 HD2
            have HD' : Hid (D'.length = n1 ∧ ∀ y ∈ D', y.C.length ≤ 400) := hD'
            have HX' : Hid (D'[j]? = some x' ∧ x'.ao = xa ∧ x'.cap = xc ∧ x'.C.length = cl) := ⟨hx', hxa, hxc', hxl⟩
            clear hD'
            by_cases hlt2 : i < cl
            · have hlt2' : (i : Int) < (cl : Int) := by omega
              have hr := hO2.entRow hx'
              obtain ⟨⟨g', hg', _, q1⟩, _⟩ := hO2.entAt hx'
              cases hg'
              rw [hxa, hxl, hxc'] at q1 hr
              obtain ⟨gc, cp, hv, _⟩ := row_shape hr (by omega)
              have hva := (Value.slice.inj hv).1
              rw [hva] at hr
              obtain ⟨q, hq⟩ : ∃ q, x'.C[i]? = some q := ⟨_, List.getElem?_eq_getElem (by rw [hxl]; exact hlt2)⟩
              have y1 : wr.cell? ⟨gc, i * 4 + 1, none⟩ = some (.int .i32 q.a) := by
                rw [hr.cellAt _ (by omega)]
                exact (ccat_at x'.C i q hq 1 (by decide)).trans rfl
              have y2 := hr.frozenAt (i * 4 + 1)
              subst hva
              have HQ : Hid (x'.C[i]? = some q) := hq
              have HO2 : Hid (Own w _ _) := hO2
              have HG : Hid (∀ u : Int, ∃ (i' : Nat) (D2 : List EnE) (x2 : EnE), i' ≤ cl ∧ Value.int .i64 ((i : Int) + 1) = .int .i64 (i' : Int) ∧ (D2.length = n1 ∧ ∀ y ∈ D2, y.C.length ≤ 400) ∧ D2[j]? = some x2 ∧ x2.ao = some ⟨gc, 0, none⟩ ∧ x2.cap = xc ∧ x2.C.length = cl ∧ Own w (wr.setCell ⟨gc, i * 4 + 1, none⟩ (.int .i32 u)).drew [EntsT (some ⟨g, 0, none⟩) c5 D2, EntsT a4 c4 M]) := fun u => by
                have e := HX'.out
                refine ⟨i + 1, D'.set j { x' with C := x'.C.set i { q with a := u } }, { x' with C := x'.C.set i { q with a := u } }, by omega, by go_num, ⟨by rw [List.length_set]; exact HD'.out.1, fun y hy => ?_⟩, ?_, e.2.1, e.2.2.1, by rw [List.length_set]; exact e.2.2.2, (Own.entCp HO2.out e.1 HQ.out e.2.1 u).drew⟩
                · rcases List.mem_or_eq_of_mem_set hy with hy | rfl
                  · exact HD'.out.2 y hy
                  · show (x'.C.set i _).length ≤ 400
                    rw [List.length_set]; exact HD'.out.2 x' (List.mem_of_getElem? e.1)
                · rw [List.getElem?_set]; simp [(List.getElem?_eq_some_iff.1 e.1).1]
              clear hr hv hx' hxa hxc' hxl hq hO2
              go_wp2
              go_region_law (fail)
              go_wp2
              go_roundw
              case rel => exact HG.out _
              case measure => simp [intOf]; omega
            · have hlt2' : ¬ (i : Int) < (cl : Int) := by omega
              have HO2 : Hid (Own w _ _) := hO2
              clear hO2 hx' hxa hxc' hxl
              go_wp2
              go_roundw
              case rel => exact ⟨j + 1, D', by omega, by go_num, HD'.out.1, HD'.out.2, HO2.out⟩
              case measure => simp [intOf]; omega
        · have hlt' : ¬ (j : Int) < (n1 : Int) := by omega
          have HSE : Hid (Calls _ _ _ _ _) := sameEnts_any wr a4 a1 n1 n1 c4 c1 M Q1 hO.two.entsAt (HE1.out.2.quiet hO.fr) HM.out.1 HE1.out.1 (by have := HM.out.2.2; omega) (by have := HZ.out.1; omega)
          rw [decide_eq_true HM.out.2.1] at HSE
          have HF : Hid (Fr Nobody w wr) := hO.fr
          clear hO
          go_wp2_with fail
          refine HSE.out.mono ?_
          rintro e w10 ⟨rfl, hf10⟩
          have HF2 : Hid (Fr Nobody w w10) := HF.out.trans hf10
          clear hf10 HSE HF
          go_wp2
          go_ret
          exact ⟨by simp, HF2.out⟩
    · rw [decide_eq_false h5] at HFV
      go_wp2_with fail
      refine HFV.out.mono ?_
      rintro e w3 ⟨rfl, hf3⟩
      have HF3 : Hid (Fr Nobody w w3) := HF2.out.trans hf3
      clear hf3 HF2 HFV
      go_wp2
      go_ret
      exact ⟨by simp, HF3.out⟩
  · rw [decide_eq_false h4] at HFW
    go_wp2_with fail
    refine HFW.out.mono ?_
    rintro e w2 ⟨rfl, hf2⟩
    have HF2 : Hid (Fr Nobody w w2) := HF1.out.trans hf2
    clear hf2 HF1 HFW
    go_wp2
    go_ret
    exact ⟨by simp, HF2.out⟩
theorem snapCopies_walk (w : World) (ht : Tab w) (a0 : Option Addr) (len0 cap0 : Nat) (z0 : List EnE) (w0 : IsEnts w a0 len0 cap0 z0) (hb0 : esz z0 ≤ 1048576) (a1 : Option Addr) (len1 cap1 : Nat) (z1 : List EnE) (w1 : IsEnts w a1 len1 cap1 z1) (hb1 : esz z1 ≤ 1048576) :
    Calls Tryz.prog 11 #[.slice a0 len0 cap0, .slice a1 len1 cap1] w fun e w' => e = .returned (.bool true) ∧ Below w.heap.size w w' := by
  refine (snapCopies_fr w ht a0 len0 cap0 z0 w0 hb0 a1 len1 cap1 z1 w1 hb1).mono ?_
  rintro e w' ⟨rfl, hf⟩
  exact ⟨rfl, hf.below (Nat.le_refl _) (fun _ _ h => h)⟩
end Go.Proofs.YtfhfcfobgemcpaaGreatDoor

/-
  SnapCopies: whatever comes in, and whatever lies there.
-/
namespace Go.Proofs.YtfhfcfobgemcpaaGreatDoor
open Go.ChangeShapes Go.WideShapes Go.ChangeAt Go.RowKit
set_option linter.unusedVariables false
set_option maxRecDepth 100000
theorem laidOut : laidOutB Tryz.prog = true := by kernel_rfl
theorem snapCopies_contract (H : Type) (enc : TypeId × Value → H) (W : World) (base : Nat) (args : Array Value) (ds gs : List (DataW H)) (before : List MemPlace)
    (hval0 : ∀ (j : Nat) t v, Tryz.f11.params[j]? = some t → args[j]? = some v → Value.okWide Tryz.prog W .any base t v)
    (hW : DataW.Whole enc Tryz.prog Tryz.f11.params.toList Rows.snapCopiesSpec.vars false W args.toList ds gs before) (hL : laidMetH Tryz.prog laid1 W) (hbd : Rows.uptoBulkAll (ds ++ gs) ≤ 1048576) :
    Calls Tryz.prog 11 args W fun e W' => ∃ v, e = .returned v ∧ Rows.snapCopiesSpec.post enc Tryz.prog Tryz.f11 false true false false W args v W' := by
  have hval : ∀ (j : Nat) t v, Tryz.f11.params[j]? = some t → args[j]? = some v → Value.okWide Tryz.prog W .any base t v := hval0
  have hW' := hW
  obtain ⟨p, q, hA0, hV, rfl, hfz, hnd⟩ := hW
  have hA : DataW.TrodAll enc Tryz.prog W 0 (fun _ => true) true Tryz.f11.params.toList args.toList ds p := hA0
  rw [Tryz.params11] at hA hval
  obtain ⟨v0, vs0, d0, ds0, p0, q0, hargs, rfl, rfl, h0, r0⟩ := trodAll_cons hA
  obtain ⟨v1, vs1, d1, ds1, p1, q1, rfl, rfl, rfl, h1, r1⟩ := trodAll_cons r0
  obtain ⟨rfl, rfl, rfl⟩ := trodAll_nil r1
  obtain rfl : args = #[v0, v1] := by cases args; simp_all
  obtain ⟨rfl, rfl⟩ := trodVars_none hV
  rw [List.append_nil] at hbd
  obtain ⟨a0, len0, cap0, rfl⟩ := okWide_slice Tryz.underlying64 (hval 0 64 v0 rfl rfl)
  have k0 := h0
  have lt0 : ∀ x ∈ p0, x.block < W.heap.size := by obtain ⟨m, hm⟩ := k0; exact DataW.trod_lt m _ _ _ hm
  obtain ⟨z0, w0, hb0⟩ := open_ents h0
  have hd0 := bulk_in (d := d0) (m := [d0, d1]) (by simp)
  obtain ⟨a1, len1, cap1, rfl⟩ := okWide_slice Tryz.underlying64 (hval 1 64 v1 rfl rfl)
  have k1 := h1
  have lt1 : ∀ x ∈ p1, x.block < W.heap.size := by obtain ⟨m, hm⟩ := k1; exact DataW.trod_lt m _ _ _ hm
  obtain ⟨z1, w1, hb1⟩ := open_ents h1
  have hd1 := bulk_in (d := d1) (m := [d0, d1]) (by simp)
  clear hA0 hval0
  refine (snapCopies_walk W (of_laid hL) a0 len0 cap0 z0 w0 (by omega) a1 len1 cap1 z1 w1 (by omega)).mono fun e W' ⟨he, bel⟩ => ?_
  subst he
  exact ⟨_, rfl, _, _, _, [], _, [], hW', trodAll_mk1 (shut_bool Tryz.underlying4 _), (trodAll_cons_mk (Below.trod laidOut (by kernel_rfl) (of_decide_eq_true (by kernel_rfl)) k0 bel lt0) (trodAll_cons_mk (Below.trod laidOut (by kernel_rfl) (of_decide_eq_true (by kernel_rfl)) k1 bel lt1) trodAll_mk0)), rfl, bel.frame _, fun h => by cases h⟩

theorem snapCopies_reads (os : Os) {H : Type} (enc : TypeId × Value → H) : ∃ places, DataW.whole enc Tryz.prog ((World.doorLaid Tryz.prog 400 os).forCall (fun _ _ => 0) ⟨#[], #[.slice none 0 0, .slice none 0 0], []⟩).memory Tryz.f11.params.toList Rows.snapCopiesSpec.vars false (#[.slice none 0 0, .slice none 0 0] : Array Value).toList 8 = some ([.nil, .nil], [], places) :=
  ⟨[], by kernel_rfl⟩
theorem snapCopies_met (os : Os) : laidMet Tryz.prog Rows.snapCopiesUptoRow.laid ((World.doorLaid Tryz.prog 400 os).forCall (fun _ _ => 0) ⟨#[], #[.slice none 0 0, .slice none 0 0], []⟩).memory :=
  laidMet_of_run' 8 (by kernel_rfl) (by kernel_rfl)
set_option maxRecDepth 100000 in
theorem snapCopies_lifted (os : Os) (started : os.Started) (H : Type) (enc : TypeId × Value → H) (F : Stop.Interp) :
    ReturnsInHanded {} Tryz.checked os 11 .any ((Rows.OpenSpec.upto Rows.snapCopiesSpec).preRow enc Tryz.prog Tryz.f11 Rows.snapCopiesUptoRow.domain false Rows.snapCopiesUptoRow.laid) (((Rows.OpenSpec.upto Rows.snapCopiesSpec).at F).post enc Tryz.prog Tryz.f11 false true false false) := by
  obtain ⟨places, hx⟩ := snapCopies_reads os enc
  refine returnsInHanded_of_row (C := Tryz.checked) (s := Rows.OpenSpec.upto Rows.snapCopiesSpec) own started (by kernel_rfl) Tryz.func11
    (witness_row_at (enc := enc) (C := Tryz.checked) false (World.doorLaid Tryz.prog 400 os) #[.slice none 0 0, .slice none 0 0] rfl (by kernel_rfl) (by kernel_rfl) (by kernel_rfl)
      (OpenSpec.preRow_of_cond 8 hx (by kernel_rfl) (fun k hk => by cases hk; kernel_rfl) (by kernel_rfl) (snapCopies_met os))) ?_
  intro W base args ds gs before hval hW _ hcond _ hL _ _
  exact snapCopies_contract H enc W base args ds gs before hval hW hL (of_decide_eq_true (hcond _ rfl))
end Go.Proofs.YtfhfcfobgemcpaaGreatDoor
