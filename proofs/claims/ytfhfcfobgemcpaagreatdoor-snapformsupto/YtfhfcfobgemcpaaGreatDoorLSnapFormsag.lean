/-
  Of all entities together it is told whether they are a snapshot, what is told of components, and they come back untouched: SnapForms returns true, whatever its arguments of bulk at most 1048576, where the table of the components lies as the program's text lays it, and changes nothing that was there.
-/
import Derived.Test.YtfhfcfobgemcpaaGreatDoorSnfg
import Derived.OpenShut
import Derived.SevenTiedAt
import Derived.Deep.DeepHandedRow
namespace Go.Proofs.YtfhfcfobgemcpaaGreatDoor
open Go.ChangeShapes Go.WideShapes Go.ChangeAt Go.RowKit
set_option linter.unusedVariables false
set_option maxRecDepth 100000

theorem fm_small (p : Nat) (L : List En) : fm p L < 4294967296 := by
  induction L generalizing p with
  | nil => simp [fm]
  | cons x t ih =>
    rw [fm]
    split
    · unfold ent1
      split
      · decide
      · split
        · exact lst_small x.2
        · split <;> decide
    · exact ih _
set_option maxHeartbeats 16000000 in
theorem snapForms_fr (w : World) (ht : Tab w) (ao : Option Addr) (len cap : Nat) (Q : List EnE) (hQ : IsEnts w ao len cap Q) (hz : esz Q ≤ 1048576) (id : Nat) :
    Calls Tryz.prog 8 #[.slice ao len cap, .int .u32 (id : Int)] w fun e w' => e = .returned (.bool true) ∧ Fr Nobody w w' := by
  have HT : Hid (Tab w) := ht
  have HAW : Hid (Calls _ _ _ _ _) := awake18 w ht
  obtain ⟨hE, hI⟩ := hQ.ents
  have HE : Hid (Q.length = len ∧ EntsAt w ao Q ∧ EIn Q) := ⟨hQ.1, hE, hI⟩
  clear ht hQ hE hI
  go_enter Tryz.func8, Tryz.ntmps8
  go_wp2_with fail
  refine HAW.out.mono ?_
  rintro e w1 ⟨rfl, hf1⟩
  have HF1 : Hid (Fr Nobody w w1) := hf1
  have HFW : Hid (Calls _ _ _ _ _) := few_any w1 ao len cap Q HE.out.1 (HE.out.2.1.quiet hf1) hz
  clear hf1 HAW
  by_cases h4 : esz Q ≤ 400
  · rw [decide_eq_true h4] at HFW
    have hlen : len ≤ 400 := by have := HE.out.1; unfold esz at h4; omega
    go_wp2_with fail
    refine HFW.out.mono ?_
    rintro e w2 ⟨rfl, hf2⟩
    have hF2 := HF1.out.trans hf2
    have HTW : Hid (Calls _ _ _ _ _) := rtwins_any w w2 [] (Own.of_fr hF2) ao len cap Q (fun w' hw => HE.out.2.1.quiet hw.fr) HE.out.1 (by omega)
    clear hf2 HF1 HFW hF2
    go_wp2_with fail
    refine HTW.out.mono ?_
    rintro e w3 ⟨a3, c3, rfl, M, hMl, hMv, h3⟩
    have hMs : esz M ≤ 400 := by rw [esz_evs hMv]; exact h4
    have hMI := EIn.of_evs hMv HE.out.2.2
    obtain ⟨fv, hfv⟩ : ∃ fv, fv = fm 0 (evs Q) := ⟨_, rfl⟩
    have hf32 : fv < 4294967296 := by rw [hfv]; exact fm_small 0 _
    have HFO : Hid (Calls _ _ _ _ _) := form_any w3 (HT.out.quiet h3.fr) a3 len c3 M h3.entsAt hMl hMI (by omega)
    rw [hMv, ← hfv] at HFO
    have HRF : Hid (∀ W, Fr Nobody w W → Calls Tryz.prog 41 #[.slice ao len cap] W fun e w' => e = .returned (.int .i64 (fv : Int)) ∧ Fr Nobody W w') := fun W hW => by
      rw [hfv]; exact rform_any W ao len cap Q (HE.out.2.1.quiet hW) HE.out.1 HE.out.2.2 (by omega)
    have HM : Hid (M.length = len ∧ evs M = evs Q ∧ EIn M ∧ esz M ≤ 400 ∧ esz Q ≤ 400) := ⟨hMl, hMv, hMI, hMs, h4⟩
    have H3 : Hid (Own w w3 [EntsT a3 c3 M]) := h3
    clear hMl hMv hMI hMs h3 HTW hfv h4 hz
    have hff : ((fv : Int) != (fv : Int)) = false := by simp
    go_wp2_with fail
    refine HFO.out.mono ?_
    rintro e w4 ⟨rfl, hf4⟩
    have H4 : Hid (Own w w4 [EntsT a3 c3 M]) := H3.out.quiet hf4
    clear hf4 HFO H3
    go_wp2_with fail
    refine (HRF.out _ H4.out.fr).mono ?_
    rintro e w5 ⟨rfl, hf5⟩
    have H5 : Hid (Own w w5 [EntsT a3 c3 M]) := H4.out.quiet hf5
    clear hf5 H4
    go_wp2
    clear hff
    go_loopw [22] (fun cc wr => ∃ j : Nat, j ≤ len ∧ cc = .int .i64 (j : Int) ∧ Own w wr [EntsT a3 c3 M]) (fun cc _ => len - (intOf cc).toNat)
    case atStart => exact ⟨0, Nat.zero_le _, rfl, H5.out⟩
    case round =>
      obtain ⟨j, hj, rfl, hO⟩ := hrel
      clear H5
      by_cases hlt : j < len
      · have hlt' : (j : Int) < (len : Int) := by omega
        obtain ⟨x, hx⟩ : ∃ x, M[j]? = some x := ⟨_, List.getElem?_eq_getElem (by rw [HM.out.1]; exact hlt)⟩
        obtain ⟨g, o, ha3, c0, c1, _⟩ := hO.entsAt.at hx
        have hxm := List.mem_of_getElem? hx
        have hxk := (HM.out.2.2.1 x hxm).2
        have hxl : x.C.length ≤ 1000 := by have h1 := csz_mem hxm; have h2 := HM.out.2.2.2.1; unfold esz at h2; omega
        have hB := hO.allocC #[.int .u32 (x.id : Int), .slice x.ao x.C.length x.cap] 67
        have hCs : ∀ (w' : World) (X : List Thing), Own w w' (X ++ [Cells wr.heap.size #[.int .u32 (x.id : Int), .slice x.ao x.C.length x.cap] 67, EntsT a3 c3 M]) → Cs w' x.ao x.C := fun w' X hw => (hw.dropA.tail.entsAt.2 x hxm)
        have HT1 : Hid (Calls _ _ _ _ _) := told_l w _ HT.out _ hB.drew x.ao x.C.length x.cap x.C rfl (fun w' hw => hCs w' [] hw) hxk (by omega)
        have HT2 : Hid (∀ W Y, Own w W (Y :: [Cells wr.heap.size #[.int .u32 (x.id : Int), .slice x.ao x.C.length x.cap] 67, EntsT a3 c3 M]) → Calls Tryz.prog 44 #[.slice x.ao x.C.length x.cap] W fun e w' => ∃ ao' cap', e = .returned (.slice ao' (toldL x.C).length cap') ∧ Own w w' (Row 46 4 (.slice ao' (toldL x.C).length cap') (toldL x.C).length (ccat (toldL x.C)) :: Y :: [Cells wr.heap.size #[.int .u32 (x.id : Int), .slice x.ao x.C.length x.cap] 67, EntsT a3 c3 M])) := fun W Y hY => rtold_l w W _ hY x.ao x.C.length x.cap x.C rfl (fun w' hw => hCs w' [Y] hw) hxk (by omega)
        have htl := toldL_le x.C
        have HTC : Hid ((toldL x.C).length = (toldL x.C).length) := rfl
        have HB : Hid (Own w _ _) := hB
        have HTLE : Hid (∃ T : List Cp, T = toldL x.C) := ⟨_, rfl⟩
        subst ha3
        obtain ⟨T, hT⟩ := HTLE.out
        rw [← hT] at HT1 HT2 htl
        have HTT : Hid (T.length = T.length) := rfl
        generalize hTl : T.length = tl at *
        have HTl : Hid (T.length = tl) := hTl
        clear hO hx hxm hxk hB hCs hT hTl HTC HTLE
        obtain ⟨xi, xa, xc, C⟩ := x
        simp only at c0 c1 HT1 HT2 HB hxl htl
        generalize C.length = cl at *
        go_wp2
        generalize hWg : wr.alloc (.cells #[.int .u32 (xi : Int), .slice xa cl xc] 67) = W1 at *
        generalize wr.heap.size = b7 at *
        clear hWg c0 c1
        have p1 := HB.out.cell 1
        simp at p1
        go_region_held3 (fun w' => w'.cell? ⟨b7, 1, none⟩ = some (.slice xa cl xc)) (go_keep)
          (first
            | (go_at_call 43; refine HT1.out.mono ?_; rintro e w5 ⟨a5, c5, rfl, h5⟩
               have u1 := h5.two.cell 1
               simp at u1)
            | (go_at_call 44; with_reducible refine (HT2.out _ _ h5).mono ?_; rintro e w6 ⟨a6, c6, rfl, h6⟩
               have v1 := h6.three.cell 1
               simp at v1
               have HSM : Hid (Calls Tryz.prog 42 #[.slice a5 tl c5, .slice a6 tl c6] w6 fun e w' => e = .returned (.bool true) ∧ Own w w' [EntsT (some ⟨g, o, none⟩) c3 M] ∧ w'.cell? ⟨b7, 1, none⟩ = some (.slice xa cl xc)) := by
                 refine (eqCs_r w6 a5 a6 tl tl c5 c6 T T (Own.rcs h6.two HTl.out) (Own.rcs h6 HTl.out) HTl.out HTl.out (by omega) (by omega)).mono ?_
                 rintro e w' ⟨rfl, hf⟩
                 have h7 := h6.quiet hf
                 exact ⟨by rw [decide_eq_true rfl], h7.tail.tail.tail, h7.three.cell 1⟩)
            | (go_at_call 42; with_reducible refine HSM.out.mono ?_; rintro e w7 ⟨rfl, h7, v7⟩))
        have H7 : Hid (Own w w7 _) := h7
        clear h7 v7 HSM h6 h5 HT1 HT2 HB u1 v1 p1
        go_wp2
        go_roundw
        case rel => exact ⟨j + 1, by omega, by go_num, H7.out⟩
        case measure => simp [intOf]; omega
      · have hlt' : ¬ (j : Int) < (len : Int) := by omega
        have HSE : Hid (Calls _ _ _ _ _) := sameEnts_any wr a3 ao len len c3 cap M Q hO.entsAt (HE.out.2.1.quiet hO.fr) HM.out.1 HE.out.1 (by have := HM.out.2.2.2.1; omega) (by have := HM.out.2.2.2.2; omega)
        rw [decide_eq_true HM.out.2.1] at HSE
        have HO : Hid (Own w wr [EntsT a3 c3 M]) := hO
        clear hO
        go_wp2_with fail
        refine HSE.out.mono ?_
        rintro e w6 ⟨rfl, hf6⟩
        have H6 : Hid (Own w w6 [EntsT a3 c3 M]) := HO.out.quiet hf6
        clear hf6 HSE HO
        go_wp2_with fail
        refine (HRF.out _ H6.out.fr).mono ?_
        rintro e w7 ⟨rfl, hf7⟩
        have H7 : Hid (Own w w7 [EntsT a3 c3 M]) := H6.out.quiet hf7
        clear hf7 H6
        by_cases h0 : fv = 0
        · subst h0
          have HFI : Hid (Calls _ _ _ _ _) := findE_any w7 a3 len c3 M H7.out.entsAt HM.out.1 (by omega) id
          go_wp2_with fail
          refine HFI.out.mono ?_
          rintro e w8 ⟨r, rfl, hr, hf8⟩
          have HR : Hid (FindR M id r) := hr
          have hF8 := H7.out.fr.trans hf8
          have HFJ : Hid (Calls _ _ _ _ _) := rfindE_any w8 ao len cap Q (HE.out.2.1.quiet hF8) HE.out.1 (by omega) id
          have HF8 : Hid (Fr Nobody w w8) := hF8
          clear hr hf8 HFI H7 hF8
          go_wp2_with fail
          refine HFJ.out.mono ?_
          rintro e w9 ⟨s, rfl, hs, hf9⟩
          have hrs := find_one HM.out.2.1 HR.out hs
          subst hrs
          have HF9 : Hid (Fr Nobody w w9) := HF8.out.trans hf9
          clear hs hf9 HFJ
          go_wp2
          go_ret
          exact ⟨by simp, HF9.out⟩
        · have hf0 : ((fv : Int) != 0) = true := by simpa using h0
          have HF7 : Hid (Fr Nobody w w7) := H7.out.fr
          clear h0 H7
          go_wp2
          go_ret
          exact ⟨by simp, HF7.out⟩
  · rw [decide_eq_false h4] at HFW
    go_wp2_with fail
    refine HFW.out.mono ?_
    rintro e w2 ⟨rfl, hf2⟩
    have HF2 : Hid (Fr Nobody w w2) := HF1.out.trans hf2
    clear hf2 HF1 HFW
    go_wp2
    go_ret
    exact ⟨by simp, HF2.out⟩
theorem snapForms_walk (w : World) (ht : Tab w) (a0 : Option Addr) (len0 cap0 : Nat) (z0 : List EnE) (w0 : IsEnts w a0 len0 cap0 z0) (hb : esz z0 ≤ 1048576) (a1 : Int) (w1 : (Lit.int .u32 a1).wf = true) :
    Calls Tryz.prog 8 #[.slice a0 len0 cap0, .int .u32 a1] w fun e w' => e = .returned (.bool true) ∧ Below w.heap.size w w' := by
  have hb2 : 0 ≤ a1 ∧ a1 ≤ 4294967295 := by simpa [Lit.wf, IntKind.min, IntKind.max, IntKind.signed, IntKind.bits] using w1
  obtain ⟨id, rfl⟩ := Int.eq_ofNat_of_zero_le hb2.1
  refine (snapForms_fr w ht a0 len0 cap0 z0 w0 hb id).mono ?_
  rintro e w' ⟨rfl, hf⟩
  exact ⟨rfl, hf.below (Nat.le_refl _) (fun _ _ h => h)⟩
end Go.Proofs.YtfhfcfobgemcpaaGreatDoor

/-
  SnapForms: whatever comes in, and whatever lies there.
-/
namespace Go.Proofs.YtfhfcfobgemcpaaGreatDoor
open Go.ChangeShapes Go.WideShapes Go.ChangeAt Go.RowKit
set_option linter.unusedVariables false
set_option maxRecDepth 100000
theorem laidOut : laidOutB Tryz.prog = true := by kernel_rfl
theorem snapForms_contract (H : Type) (enc : TypeId × Value → H) (W : World) (base : Nat) (args : Array Value) (ds gs : List (DataW H)) (before : List MemPlace)
    (hval0 : ∀ (j : Nat) t v, Tryz.f8.params[j]? = some t → args[j]? = some v → Value.okWide Tryz.prog W .any base t v)
    (hW : DataW.Whole enc Tryz.prog Tryz.f8.params.toList Rows.snapFormsSpec.vars false W args.toList ds gs before) (hL : laidMetH Tryz.prog laid1 W) (hbd : Rows.uptoBulkAll (ds ++ gs) ≤ 1048576) :
    Calls Tryz.prog 8 args W fun e W' => ∃ v, e = .returned v ∧ Rows.snapFormsSpec.post enc Tryz.prog Tryz.f8 false true false false W args v W' := by
  have hval : ∀ (j : Nat) t v, Tryz.f8.params[j]? = some t → args[j]? = some v → Value.okWide Tryz.prog W .any base t v := hval0
  have hW' := hW
  obtain ⟨p, q, hA0, hV, rfl, hfz, hnd⟩ := hW
  have hA : DataW.TrodAll enc Tryz.prog W 0 (fun _ => true) true Tryz.f8.params.toList args.toList ds p := hA0
  rw [Tryz.params8] at hA hval
  obtain ⟨v0, vs0, d0, ds0, p0, q0, hargs, rfl, rfl, h0, r0⟩ := trodAll_cons hA
  obtain ⟨v1, vs1, d1, ds1, p1, q1, rfl, rfl, rfl, h1, r1⟩ := trodAll_cons r0
  obtain ⟨rfl, rfl, rfl⟩ := trodAll_nil r1
  obtain rfl : args = #[v0, v1] := by cases args; simp_all
  obtain ⟨rfl, rfl⟩ := trodVars_none hV
  rw [List.append_nil] at hbd
  obtain ⟨a0, len0, cap0, rfl⟩ := okWide_slice Tryz.underlying64 (hval 0 64 v0 rfl rfl)
  have k0 := h0
  have lt0 : ∀ x ∈ p0, x.block < W.heap.size := by obtain ⟨m, hm⟩ := k0; exact DataW.trod_lt m _ _ _ hm
  obtain ⟨z0, w0, hb0⟩ := open_ents h0
  have hd0 := bulk_in (d := d0) (m := [d0, d1]) (by simp)
  obtain ⟨a1, rfl, rfl, rfl, w1⟩ := open_int Tryz.underlying38 (hval 1 38 v1 rfl rfl) h1
  clear hA0 hval0
  refine (snapForms_walk W (of_laid hL) a0 len0 cap0 z0 w0 (by omega) a1 w1).mono fun e W' ⟨he, bel⟩ => ?_
  subst he
  exact ⟨_, rfl, _, _, _, [], _, [], hW', trodAll_mk1 (shut_bool Tryz.underlying4 _), (trodAll_cons_mk (Below.trod laidOut (by kernel_rfl) (of_decide_eq_true (by kernel_rfl)) k0 bel lt0) (trodAll_cons_mk (shut_int Tryz.underlying38 w1) trodAll_mk0)), rfl, bel.frame _, fun h => by cases h⟩

theorem snapForms_reads (os : Os) {H : Type} (enc : TypeId × Value → H) : ∃ places, DataW.whole enc Tryz.prog ((World.doorLaid Tryz.prog 400 os).forCall (fun _ _ => 0) ⟨#[], #[.slice none 0 0, .int .u32 0], []⟩).memory Tryz.f8.params.toList Rows.snapFormsSpec.vars false (#[.slice none 0 0, .int .u32 0] : Array Value).toList 8 = some ([.nil, .lit (.int .u32 0)], [], places) :=
  ⟨[], by kernel_rfl⟩
theorem snapForms_met (os : Os) : laidMet Tryz.prog Rows.snapFormsUptoRow.laid ((World.doorLaid Tryz.prog 400 os).forCall (fun _ _ => 0) ⟨#[], #[.slice none 0 0, .int .u32 0], []⟩).memory :=
  laidMet_of_run' 8 (by kernel_rfl) (by kernel_rfl)
set_option maxRecDepth 100000 in
theorem snapForms_lifted (os : Os) (started : os.Started) (H : Type) (enc : TypeId × Value → H) (F : Stop.Interp) :
    ReturnsInHanded {} Tryz.checked os 8 .any ((Rows.OpenSpec.upto Rows.snapFormsSpec).preRow enc Tryz.prog Tryz.f8 Rows.snapFormsUptoRow.domain false Rows.snapFormsUptoRow.laid) (((Rows.OpenSpec.upto Rows.snapFormsSpec).at F).post enc Tryz.prog Tryz.f8 false true false false) := by
  obtain ⟨places, hx⟩ := snapForms_reads os enc
  refine returnsInHanded_of_row (C := Tryz.checked) (s := Rows.OpenSpec.upto Rows.snapFormsSpec) own started (by kernel_rfl) Tryz.func8
    (witness_row_at (enc := enc) (C := Tryz.checked) false (World.doorLaid Tryz.prog 400 os) #[.slice none 0 0, .int .u32 0] rfl (by kernel_rfl) (by kernel_rfl) (by kernel_rfl)
      (OpenSpec.preRow_of_cond 8 hx (by kernel_rfl) (fun k hk => by cases hk; kernel_rfl) (by kernel_rfl) (snapForms_met os))) ?_
  intro W base args ds gs before hval hW _ hcond _ hL _ _
  exact snapForms_contract H enc W base args ds gs before hval hW hL (of_decide_eq_true (hcond _ rfl))
end Go.Proofs.YtfhfcfobgemcpaaGreatDoor
