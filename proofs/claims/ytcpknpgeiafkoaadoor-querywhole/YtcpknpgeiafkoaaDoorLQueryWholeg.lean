/-
  Asked leaf by leaf, by every make, all are found, each once: QueryWhole returns true, whatever its argument, where the table of the components lies as the program's text lays it, and changes nothing that was there.
-/
import Derived.Test.YtcpknpgeiafkoaaDoorIkg
import Derived.OpenShut
import Derived.SevenTiedAt
namespace Go.Proofs.YtcpknpgeiafkoaaDoor
open Go.ChangeShapes Go.WideShapes Go.ChangeAt Go.RowKit
set_option linter.unusedVariables false
set_option maxRecDepth 100000

theorem leaf_all : ((List.range 64).all (fun m => (List.range 64).all (fun x => fitb m (63 - m) x == decide (x = m)))) = true := by kernel_rfl
theorem leaf {m x : Nat} (hm : m < 64) (hx : x < 64) : fitb m (63 - m) x = decide (x = m) := by
  have h := List.all_eq_true.1 (List.all_eq_true.1 leaf_all m (by simpa using hm)) x (by simpa using hx)
  exact eq_of_beq h
theorem find_leaf (σ : Sto) {m : Nat} (hm : m < 64) : σ.find m (63 - m) = σ.S.list.filter (fun id => decide (msk (σ.cps id) = m)) := by
  unfold Sto.find
  refine List.filter_congr (fun id _ => ?_)
  rw [leaf hm (msk_lt _)]
theorem find_all (σ : Sto) : σ.find 0 0 = σ.S.list := by
  unfold Sto.find
  refine List.filter_eq_self.2 (fun id _ => ?_)
  simp [fitb]
/-- how many there are of the makes below j -/
def cntb (σ : Sto) (j : Nat) : Nat := (σ.S.list.filter (fun id => decide (msk (σ.cps id) < j))).length
theorem cntb_succ (σ : Sto) {j : Nat} (hj : j < 64) : cntb σ (j + 1) = cntb σ j + (σ.find j (63 - j)).length := by
  rw [find_leaf σ hj]
  unfold cntb
  induction σ.S.list with
  | nil => rfl
  | cons id L ih =>
    simp only [List.filter_cons]
    rcases Nat.lt_trichotomy (msk (σ.cps id)) j with h | h | h
    · rw [if_pos (by simp; omega), if_pos (by simp; omega), if_neg (by simp; omega)]
      simp only [List.length_cons]; omega
    · rw [if_pos (by simp; omega), if_neg (by simp; omega), if_pos (by simp; omega)]
      simp only [List.length_cons]; omega
    · rw [if_neg (by simp; omega), if_neg (by simp; omega), if_neg (by simp; omega)]
      exact ih
theorem cntb_end (σ : Sto) : cntb σ 64 = σ.S.list.length := by
  unfold cntb
  rw [List.filter_eq_self.2 (fun id _ => by have := msk_lt (σ.cps id); simpa using this)]
theorem cntb_zero (σ : Sto) : cntb σ 0 = 0 := by
  unfold cntb
  rw [List.filter_eq_nil_iff.2 (fun id _ => by simp)]; rfl
theorem cntb_le (σ : Sto) (j : Nat) : cntb σ j ≤ σ.S.list.length := List.length_filter_le _ _
set_option maxHeartbeats 4000000 in
theorem queryWhole_fr (w : World) (ht : Tab w) (ao : Option Addr) (len cap : Nat) (Q : List MkE) (hQl : Q.length = len) (hlc : len ≤ cap) (hcm : cap ≤ maxLen) (hM : Mks w ao Q) (hw : ∀ x ∈ Q, x.C.length ≤ x.cap ∧ x.cap ≤ 9223372036854775807 ∧ ∀ q ∈ x.C, q.k < 256) :
    Calls Tryd.prog 6 #[.slice ao len cap] w fun e w' => e = .returned (.bool true) ∧ Fr Nobody w w' := by
  unfold maxLen at hcm
  have HT : Hid (Tab w) := ht
  have HFL : Hid (∀ w', Fr Nobody w w' → Calls Tryd.prog 8 #[.slice ao len cap] w' fun e w'' => ∃ b bx, e = .returned (.tuple #[.pointer (some ⟨b, 0, none⟩), .pointer (some ⟨bx, 0, none⟩)]) ∧ Own w w'' [Store b (fillS Q) 120, RSto bx (fillS Q) 120]) := fun w' hf => fill_ok w w' [] (Own.of_fr hf) ht ao len cap Q hQl (by omega) (fun w'' h'' => hM.quiet h''.fr) hw
  obtain ⟨σ, hσ⟩ : ∃ σ, fillS Q = σ := ⟨_, rfl⟩
  have hok : σ.Ok := by rw [← hσ]; exact fillS_ok Q
  have hLV : ∀ id ∈ σ.S.list, σ.S.isLive id = true ∧ id < 4294967296 := fun id hid => St.list_iv hok.s hid
  have HWS : Hid (∀ w' b l' (m : Nat), m < 64 → Own w w' (Store b σ 120 :: l') → Calls Tryd.prog 9 #[.pointer (some ⟨b, 0, none⟩), .int .u8 (m : Int), .int .u8 (63 - (m : Int))] w' fun e w'' => ∃ ao cap, e = .returned (.slice ao (σ.find m (63 - m)).length cap) ∧ Own w w'' (Row 44 1 (.slice ao (σ.find m (63 - m)).length cap) (σ.find m (63 - m)).length (irow .u32 (σ.find m (63 - m))) :: Store b σ 120 :: l')) := fun w' b l' m hm h' => by
    have := with_g w w' l' (some ⟨b, 0, none⟩) (Store b σ 120) _ h' m (63 - m) (iter_store w b σ 120 hok (by decide) hLV m (63 - m) (by omega) (by omega) ht) (Sto.find_len hok.s _ _)
    rw [show ((63 - m : Nat) : Int) = 63 - (m : Int) by omega] at this
    exact this
  have HCS : Hid (∀ w' b l', Own w w' (Store b σ 120 :: l') → Calls Tryd.prog 13 #[.pointer (some ⟨b, 0, none⟩), .int .u8 0, .int .u8 0] w' fun e w'' => e = .returned (.int .i64 (σ.S.list.length : Int)) ∧ Own w w'' (Store b σ 120 :: l')) := fun w' b l' h' => by
    have := count_g w w' l' (some ⟨b, 0, none⟩) (Store b σ 120) _ h' 0 0 (iter_store w b σ 120 hok (by decide) hLV 0 0 (by decide) (by decide) ht) (Sto.find_len hok.s _ _)
    rw [find_all] at this
    exact this
  have HEN : Hid (∀ w' b l' (m i id : Nat), m < 64 → (σ.find m (63 - m))[i]? = some id → Own w w' (Store b σ 120 :: l') → Calls Tryd.prog 19 #[.pointer (some ⟨b, 0, none⟩), .int .u32 (id : Int)] w' fun e w'' => ∃ ao cap, e = .returned (.tuple #[.agg #[.int .u32 (id : Int), .slice ao (σ.cps id).length cap], .int .i64 0]) ∧ Own w w'' (Row 58 4 (.slice ao (σ.cps id).length cap) (σ.cps id).length (ccat (σ.cps id)) :: Store b σ 120 :: l')) := by
    intro w' b l' m i id hm hj h'
    have hmem := List.mem_of_getElem? hj
    obtain ⟨hl, h32⟩ := hLV id (List.mem_filter.1 hmem).1
    obtain ⟨r, C, hr, he, _⟩ := hok.ent hl
    rw [Sto.cps_of hr he]
    exact sent w w' l' b σ 120 h' hok id h32 hl r C he (by decide)
  have HCP : Hid (∀ (m i id : Nat), m < 64 → (σ.find m (63 - m))[i]? = some id → (∀ q ∈ σ.cps id, q.k < 256) ∧ (σ.cps id).length ≤ 6 ∧ msk (σ.cps id) = m) := by
    intro m i id hm hj
    have hmem := List.mem_of_getElem? hj
    obtain ⟨hl, h32⟩ := hLV id (List.mem_filter.1 hmem).1
    have hms : msk (σ.cps id) = m := by
      rw [find_leaf σ hm] at hmem
      simpa using (List.mem_filter.1 hmem).2
    obtain ⟨r, C, hr, he, hlC, _⟩ := hok.ent hl
    have hc := Sto.cps_of hr he
    refine ⟨?_, ?_, hms⟩
    · rw [hc]; exact fun q hq => by have := chk_k ((lst_ok hlC).2 q hq).2; omega
    · rw [hc]; exact lst_len6 hlC
  have HRL : Hid (∀ w' l' bx x, RXok σ x 120 → Own w w' (RSX bx σ.S x :: l') → Calls Tryd.prog 12 #[.pointer (some ⟨bx, 0, none⟩)] w' fun e w'' => ∃ ao cap, e = .returned (.slice ao σ.S.list.length cap) ∧ Own w w'' (RSX bx σ.S x :: l')) := by
    intro w' l' bx x hx h'
    rw [← hσ] at hx h' ⊢
    refine (rlist12 w w' l' bx Q x h' hx).mono ?_
    rintro e w'' ⟨a, c, rfl, h2⟩
    exact ⟨a, c, rfl, h2.tail⟩
  have HCN : Hid (∀ j, j < 64 → cntb σ (j + 1) = cntb σ j + (σ.find j (63 - j)).length) := fun j hj => cntb_succ σ hj
  have HCE : Hid (cntb σ 64 = σ.S.list.length) := cntb_end σ
  have HCL : Hid (∀ j, cntb σ j ≤ 1024) := fun j => Nat.le_trans (cntb_le σ j) (list_len2 hok.s)
  rw [hσ] at HFL
  clear ht hM hw hQl hσ hok hLV
  go_enter Tryd.func6, Tryd.ntmps6
  go_wp2_with fail
  refine (awake12 w HT.out).mono ?_
  rintro e w1 ⟨rfl, hf1⟩
  have HF1 : Hid (Calls _ _ _ _ _) := HFL.out w1 hf1
  clear hf1 HFL
  go_wp2_with fail
  refine HF1.out.mono ?_
  rintro e w2 ⟨b, bx, rfl, hO2⟩
  have H2 : Hid (Own w w2 [Store b σ 120, RSto bx σ 120]) := hO2
  clear hO2 HF1
  go_wp2
  go_loopw [5, 18] (fun v5 v18 wr => ∃ m : Nat, m ≤ 64 ∧ v18 = .int .u8 m ∧ v5 = .int .i64 (cntb σ m : Int) ∧ Own w wr [Store b σ 120, RSto bx σ 120]) (fun _ v18 _ => 64 - (intOf v18).toNat)
  case atStart => exact ⟨0, Nat.zero_le _, rfl, by rw [cntb_zero]; rfl, H2.out⟩
  case round =>
    obtain ⟨m, hm, rfl, rfl, hO⟩ := hrel
    have HO : Hid (Own w wr _) := hO
    have hcl := HCL.out m
    clear H2
    by_cases hlt : m < 64
    · have hlt' : (m : Int) < 64 := by omega
      have HW1 : Hid (Calls _ _ _ _ _) := HWS.out wr b _ m hlt hO
      have HCN1 : Hid (cntb σ (m + 1) = cntb σ m + (σ.find m (63 - m)).length) := HCN.out m hlt
      have hcl1 := HCL.out (m + 1)
      rw [HCN1.out] at hcl1
      clear hO HO
      obtain ⟨F, hF⟩ : ∃ F, σ.find m (63 - m) = F := ⟨_, rfl⟩
      have HFI : Hid (σ.find m (63 - m) = F) := hF
      rw [hF] at HW1 HCN1 hcl1
      generalize hfl : F.length = fl at *
      have HFLn : Hid (F.length = fl) := hfl
      clear hF hfl
      go_wp2_with fail
      refine HW1.out.mono ?_
      rintro e w3 ⟨ga, gc, rfl, hO3⟩
      have H3 : Hid (Own w w3 _) := hO3
      clear hO3 HW1
      generalize cntb σ m = cm at *
      go_wp2
      go_loopw [5, 27] (fun v5 v27 wr2 => ∃ i : Nat, i ≤ fl ∧ v27 = .int .i64 i ∧ v5 = .int .i64 ((cm : Int) + i) ∧ Own w wr2 [Row 44 1 (.slice ga fl gc) fl (irow .u32 F), Store b σ 120, RSto bx σ 120]) (fun _ v27 _ => fl - (intOf v27).toNat)
      case atStart => exact ⟨0, Nat.zero_le _, rfl, by simp, H3.out⟩
      case round =>
        obtain ⟨i, hi, rfl, rfl, hO⟩ := hrel
        clear H3
        by_cases hil : i < fl
        · have hil' : (i : Int) < (fl : Int) := by omega
          obtain ⟨id, hid⟩ : ∃ id, F[i]? = some id := ⟨_, List.getElem?_eq_getElem (by rw [HFLn.out]; exact hil)⟩
          obtain ⟨g2, cp2, hv2, _⟩ := row_shape hO.row (by omega)
          have hga := (Value.slice.inj hv2).1
          subst hga
          have q : wr.cell? ⟨g2, i, none⟩ = some (.int .u32 (id : Int)) := by
            rw [hO.row.cellAt _ (by omega), getElem?_irow, hid]; rfl
          have HE : Hid (Calls _ _ _ _ _) := HEN.out wr b _ m i id hlt (by rw [HFI.out]; exact hid) hO.two
          obtain ⟨hCk, hC6, hCm⟩ := HCP.out m i id hlt (by rw [HFI.out]; exact hid)
          clear hO hv2 hid
          generalize σ.cps id = C at *
          generalize hccl : C.length = cl at *
          have hmm : ((m : Int) != (m : Int)) = false := by simp
          go_wp2_with fail
          refine HE.out.mono ?_
          rintro e w4 ⟨ea, ec, rfl, hO4⟩
          have hB := hO4.allocC #[.int .u32 (id : Int), .slice ea cl ec] 51
          have x1 := hB.cell 1
          simp at x1
          have HMK : Hid (Calls _ _ _ _ _) := rmask_any _ ea cl ec C hccl (Own.rcs2 hB.two hccl) hCk (by omega)
          rw [hCm] at HMK
          have H5 : Hid (Own w _ [Row 44 1 (.slice (some ⟨g2, 0, none⟩) fl gc) fl (irow .u32 F), Store b σ 120, RSto bx σ 120]) := hB.tail.tail.two
          clear hO4 hB HE q hCm hCk hccl
          go_wp2_with fail
          refine HMK.out.mono ?_
          rintro e w5 ⟨rfl, hf⟩
          have H6 : Hid (Own w w5 _) := H5.out.quiet hf
          clear hf HMK H5 x1
          go_wp2
          go_roundw
          case rel => exact ⟨i + 1, by omega, by go_num, by go_num, H6.out⟩
          case measure => simp [intOf]; omega
        · have hil' : ¬ (i : Int) < (fl : Int) := by omega
          have hie : i = fl := by omega
          subst hie
          have H5 : Hid (Own w wr _) := hO.tail
          clear hO
          go_wp2
          go_roundw
          case rel => exact ⟨m + 1, by omega, by go_num, by rw [HCN1.out]; simp, H5.out⟩
          case measure => simp [intOf]; omega
    · have hlt' : ¬ (m : Int) < 64 := by omega
      have hm6 : m = 64 := by omega
      subst hm6
      rw [HCE.out]
      rw [HCE.out] at hcl
      obtain ⟨x, hx, hOx⟩ := RSto.opn hO.two
      have HL : Hid (Calls _ _ _ _ _) := HRL.out _ _ _ _ hx hOx
      clear hO HO hOx hx
      generalize σ.S.list.length = nl at *
      have hnn : ((nl : Int) == (nl : Int)) = true := by simp
      go_wp2_with fail
      refine HL.out.mono ?_
      rintro e w6 ⟨la, lc, rfl, hO6⟩
      have HC1 : Hid (Calls _ _ _ _ _) := HCS.out _ _ _ hO6.two
      clear hO6 HL
      go_wp2_with fail
      refine HC1.out.mono ?_
      rintro e w7 ⟨rfl, hO7⟩
      have H7 : Hid (Own w w7 _) := hO7
      clear hO7 HC1
      go_wp2
      go_ret
      exact ⟨rfl, H7.out.fr⟩
theorem queryWhole_walk (w : World) (ht : Tab w) (a0 : Option Addr) (len0 cap0 : Nat) (z0 : List MkE) (w0 : IsMks w a0 len0 cap0 z0) :
    Calls Tryd.prog 6 #[.slice a0 len0 cap0] w fun e w' => e = .returned (.bool true) ∧ Below w.heap.size w w' := by
  obtain ⟨h1, h2⟩ := w0.mks
  refine (queryWhole_fr w ht a0 len0 cap0 z0 w0.1 w0.2.1 w0.2.2.1 h1 h2).mono ?_
  rintro e w' ⟨rfl, hf⟩
  exact ⟨rfl, hf.below (Nat.le_refl _) (fun _ _ h => h)⟩
theorem laidOut : laidOutB Tryd.prog = true := by kernel_rfl

set_option maxRecDepth 100000 in
theorem queryWhole_lifted (os : Os) (started : os.Started) (H : Type) (enc : TypeId × Value → H) :
    ReturnsInHanded {} Tryd.checked os 6 .any (fun w args => (Rows.queryWholeSpec.pre enc Tryd.prog Tryd.f6 [] false w args ∧ laidMetH Tryd.prog laid1 w) ∧ sizedMet enc Tryd.prog Tryd.f6 (OpenSpec.ofChange Rows.queryWholeSpec) false w args) (Rows.queryWholeSpec.post enc Tryd.prog Tryd.f6 false true false false) := by
  refine returnsInHanded_of_change_and (C := Tryd.checked) (X := fun w _ => laidMetH Tryd.prog laid1 w) (fun _ _ _ hh h => h.of_heap hh) own started (by kernel_rfl) Tryd.func6
    (ChangeSpec.witness_shaped (enc := enc) (C := Tryd.checked) (os := os) (X := fun w _ => laidMetH Tryd.prog laid1 w) false (World.doorLaid Tryd.prog 400 os) #[.slice none 0 0] 8 rfl (World.shaped_of_RefB (by kernel_rfl) (by kernel_rfl)) (by kernel_rfl) (by kernel_rfl) (by kernel_rfl) (door_met os _)) ?_
  intro W base args ds gs before hval0 hW _ _ hL _
  have hval : ∀ (j : Nat) t v, Tryd.f6.params[j]? = some t → args[j]? = some v → Value.okWide Tryd.prog W .any base t v := hval0
  have hW' := hW
  obtain ⟨p, q, hA0, hV, rfl, hfz, hnd⟩ := hW
  have hA : DataW.TrodAll enc Tryd.prog W 0 (fun _ => true) true Tryd.f6.params.toList args.toList ds p := hA0
  rw [Tryd.params6] at hA hval
  obtain ⟨v0, vs0, d0, ds0, p0, q0, hargs, rfl, rfl, h0, r0⟩ := trodAll_cons hA
  obtain ⟨rfl, rfl, rfl⟩ := trodAll_nil r0
  obtain rfl : args = #[v0] := by cases args; simp_all
  obtain ⟨rfl, rfl⟩ := trodVars_none hV
  obtain ⟨a0, len0, cap0, rfl⟩ := okWide_slice Tryd.underlying22 (hval 0 22 v0 rfl rfl)
  have k0 := h0
  have lt0 : ∀ x ∈ p0, x.block < W.heap.size := by obtain ⟨m, hm⟩ := k0; exact DataW.trod_lt m _ _ _ hm
  obtain ⟨z0, w0⟩ := open_ops (hval 0 22 _ rfl rfl) h0
  clear hA0 hval0
  refine (queryWhole_walk W (of_laid hL) a0 len0 cap0 z0 w0).mono fun e W' ⟨he, bel⟩ => ?_
  subst he
  exact ⟨_, rfl, _, _, _, [], _, [], hW', trodAll_mk1 (shut_bool Tryd.underlying4 _), (trodAll_cons_mk (Below.trod laidOut (by kernel_rfl) (of_decide_eq_true (by kernel_rfl)) k0 bel lt0) trodAll_mk0), rfl, bel.frame _, fun h => by cases h⟩

theorem queryWhole_row : Rows.QueryWholeSaid :=
  OpenClaim.holds_of_wide 6 Tryd.f6 rfl rfl rfl rfl rfl rfl rfl ⟨rfl, rfl, rfl, rfl, rfl⟩ rfl rfl rfl rfl rfl (by kernel_rfl) Tryd.func6 (by kernel_rfl)
    (of_decide_eq_true (by kernel_rfl)) (by unfold Func.isWrapper; first | (rw [if_pos (by decide +kernel)]; kernel_rfl) | (rw [if_neg (by decide +kernel)]; exact ⟨rfl, rfl⟩))
    (fun os started H enc _ => queryWhole_lifted os started H enc)

theorem queryWhole_holds : Rows.QueryWholeCardSaid :=
  Claim7.holds_tied_plain_at .later [] [.data] true (true, "04556a4b6792fb26c75233f38e14627ada0434a2715b058dc1340f8fbd7debb7") false
    queryWhole_row (fun _ h => by cases h) (by kernel_rfl) (fun _ h => by cases h) queryWhole_row_tie rfl ⟨rfl, rfl⟩ (by kernel_rfl) rfl
    (fun f fn hf hfn => by
      obtain rfl : f = 6 := Option.some.inj ((show Tryd.prog.funcNamed "pinnace/pinnacelaw12.QueryWhole" = some 6 by kernel_rfl).symm.trans hf) |>.symm
      obtain rfl : fn = Tryd.f6 := (Option.some.inj (Tryd.func6.symm.trans hfn)).symm
      exact ⟨by kernel_rfl, fun j t ht => by
        rw [Tryd.params6] at ht
        have hm : t ∈ [22] := by simpa using Array.mem_of_getElem? ht
        have hall : ([22].all fun u => !Tryd.prog.wantsStandIn u) = true := by kernel_rfl
        exact (show Tryd.prog.wantsStandIn t = false by simpa using List.all_eq_true.1 hall t hm)⟩)
    (by kernel_rfl)

end Go.Proofs.YtcpknpgeiafkoaaDoor
