/-
  For every text: it is the name of just one kind, or of none, as Kind of package schema tells: SchemaNames returns true, whatever its argument, where the table of the components lies as the program's text lays it, and changes nothing that was there.
-/
import Derived.Test.YtpmolkomnnpepaaDoorSi
import Derived.Test.YtpmolkomnnpepaaDoorSj
namespace Go.Proofs.YtpmolkomnnpepaaDoor
open Go.ChangeShapes Go.WideShapes Go.ChangeAt Go.RowKit
set_option linter.unusedVariables false
set_option maxRecDepth 100000

theorem bs_beq (a b : ByteArray) : (a.toList == b.toList) = decide (a = b) := by
  rw [ByteArray.toList_eq, ByteArray.toList_eq]
  by_cases h : a = b
  · subst h; simp
  · have h1 : a.data.toList ≠ b.data.toList := fun e => h (by obtain ⟨⟨x⟩⟩ := a; obtain ⟨⟨y⟩⟩ := b; simp at e; rw [e])
    have h2 : decide (a = b) = false := by simpa using h
    rw [h2, beq_eq_false_iff_ne]; exact h1
theorem wname_inj (i j : Nat) (hi : i < 6) (hj : j < 6) (h : wname i = wname j) : i = j := by
  have h1 : (wname i).data.toList = (wname j).data.toList := by rw [h]
  rcases six i hi with rfl | rfl | rfl | rfl | rfl | rfl <;> rcases six j hj with rfl | rfl | rfl | rfl | rfl | rfl <;> first | rfl | (exfalso; revert h1; decide)
theorem wname_ne (i : Nat) (hi : i < 6) : wname i ≠ ⟨#[]⟩ := by
  intro h
  have h1 : (wname i).data.toList = [] := by rw [h]
  rcases six i hi with rfl | rfl | rfl | rfl | rfl | rfl <;> (revert h1; decide)

set_option maxHeartbeats 1000000 in
theorem kind_any (w : World) (ht : Tab w) (s : ByteArray) (k : Nat) (ok : Bool) (h : (ok = true ∧ k < 6 ∧ wname k = s) ∨ (ok = false ∧ k = 0 ∧ ∀ i, i < 6 → wname i ≠ s)) :
    Calls Tryd.prog 22 #[.string s] w fun e w' => e = .returned (.tuple #[.int .u8 (k : Int), .bool ok]) ∧ w' = w := by
  have H : Hid (Tab w) := ht
  have HH : Hid ((ok = true ∧ k < 6 ∧ wname k = s) ∨ (ok = false ∧ k = 0 ∧ ∀ i, i < 6 → wname i ≠ s)) := h
  clear ht h
  go_enter Tryd.func22, Tryd.ntmps22
  go_wp2
  go_loopw [5] (fun a wr => ∃ j : Nat, j ≤ 6 ∧ a = .int .u8 j ∧ (∀ i, i < j → wname i ≠ s) ∧ wr = w) (fun a _ => 6 - (intOf a).toNat)
  case atStart => exact ⟨0, by omega, rfl, fun i hi => by omega, rfl⟩
  case round =>
    obtain ⟨j, hj, rfl, hz, rfl⟩ := hrel
    have HZ : Hid (∀ i, i < j → wname i ≠ s) := hz
    clear hz
    by_cases hlt : j < 6
    · have hx : wr.cell? ⟨0, j * 12, none⟩ = some (.string (wname j)) := H.out.nm j hlt
      by_cases he : wname j = s
      · have HK : Hid (ok = true ∧ k = j) := by
          rcases HH.out with ⟨h1, h2, h3⟩ | ⟨_, _, h3⟩
          · exact ⟨h1, wname_inj k j h2 hlt (h3.trans he.symm)⟩
          · exact absurd he (h3 j hlt)
        rw [he] at hx
        clear he
        go_wp2
        go_ret2
        obtain ⟨rfl, rfl⟩ := HK.out
        exact ⟨rfl, rfl⟩
      · have HZ2 : Hid (∀ i, i < j + 1 → wname i ≠ s) := by
          intro i hi
          by_cases e : i = j
          · rw [e]; exact he
          · exact HZ.out i (by omega)
        have he2 : ((wname j).toList == s.toList) = false := by rw [bs_beq]; simpa using he
        clear he
        generalize wname j = n at *
        go_wp2
        refine ⟨⟨j + 1, by omega, by go_num, HZ2.out, trivial⟩, by simp [intOf]; omega⟩
    · have HK : Hid (ok = false ∧ k = 0) := by
        rcases HH.out with ⟨h1, h2, h3⟩ | ⟨h1, h2, h3⟩
        · exact absurd h3 (HZ.out k (by omega))
        · exact ⟨h1, h2⟩
      go_wp2
      go_ret2
      obtain ⟨rfl, rfl⟩ := HK.out
      exact ⟨rfl, rfl⟩

set_option maxHeartbeats 4000000 in
theorem schemaNames_main (w : World) (ht : Tab w) (s : ByteArray) (k : Nat) (ok b : Bool) (h : (ok = true ∧ k < 6 ∧ wname k = s) ∨ (ok = false ∧ k = 0 ∧ ∀ i, i < 6 → wname i ≠ s)) (hb : s.toList.isEmpty = b) :
    Calls Tryd.prog 4 #[.string s] w fun e w' => e = .returned (.bool true) ∧ Fr Nobody w w' := by
  have H : Hid (Tab w) := ht
  have HK : Hid (Calls Tryd.prog 22 #[.string s] w fun e w' => e = .returned (.tuple #[.int .u8 (k : Int), .bool ok]) ∧ w' = w) := kind_any w ht s k ok h
  have hk6 : k < 6 := by omega
  have HN : Hid (∀ w, Tab w → _) := fun w h => name_any w h k (by omega)
  have HQ : Hid (∀ j, j < 6 → ((wname j).toList == s.toList) = (ok && decide (k = j))) := by
    intro j hj
    rw [bs_beq]
    rcases h with ⟨rfl, h2, h3⟩ | ⟨rfl, h2, h3⟩
    · by_cases e : k = j
      · subst e; simp [h3]
      · have : wname j ≠ s := fun e2 => e (wname_inj k j h2 hj (h3.trans e2.symm))
        simp [this, e]
    · simp [h3 j hj]
  have hnk : ((wname k).toList == s.toList) = ok := by rw [HQ.out k hk6]; simp
  have hk0 : ok = false → k = 0 := by
    intro e
    rcases h with ⟨h1, _⟩ | ⟨_, h2, _⟩
    · rw [e] at h1; cases h1
    · exact h2
  have hcs : (ok = true ∧ b = false) ∨ (ok = false ∧ b = true) ∨ (ok = false ∧ b = false) := by
    rcases h with ⟨rfl, h2, h3⟩ | ⟨rfl, h2, h3⟩
    · left
      refine ⟨rfl, ?_⟩
      rw [← hb, ByteArray.toList_eq]
      cases hd : s.data.toList with
      | nil =>
        exfalso
        apply wname_ne k h2
        rw [h3]
        obtain ⟨⟨x⟩⟩ := s
        simp at hd
        rw [hd]
      | cons x l => rfl
    · cases b with
      | true => exact .inr (.inl ⟨rfl, rfl⟩)
      | false => exact .inr (.inr ⟨rfl, rfl⟩)
  clear ht h
  rcases hcs with ⟨rfl, rfl⟩ | ⟨rfl, rfl⟩ | ⟨rfl, rfl⟩
  · clear hk0
    go_enter Tryd.func4, Tryd.ntmps4
    go_wp2_with fail
    refine HK.out.mono ?_
    rintro e w1 ⟨rfl, rfl⟩
    go_wp2_with fail
    refine (awake5 _ H.out).mono ?_
    rintro e w2 ⟨rfl, hf2⟩
    have HF2 : Hid (Fr Nobody w1 w2) := hf2
    clear hf2 HK
    go_wp2_with fail
    refine (HN.out _ (H.out.quiet HF2.out)).mono ?_
    rintro e w3 ⟨rfl, rfl⟩
    go_wp2
    go_loopw [25] (fun a wr => ∃ j : Nat, j ≤ 6 ∧ a = .int .u8 j ∧ Fr Nobody w1 wr) (fun a _ => 6 - (intOf a).toNat)
    case atStart => exact ⟨0, by omega, rfl, HF2.out⟩
    case round =>
      obtain ⟨j, hj, rfl, hf⟩ := hrel
      have HF : Hid (Fr Nobody w1 wr) := hf
      clear hf HN
      by_cases hlt : j < 6
      · have HR : Hid (∀ w, _) := fun w => rname_any w j (by omega)
        have hq := HQ.out j hlt
        generalize wname j = n at *
        by_cases e : k = j
        · subst e
          have hq' : (n.toList == s.toList) = true := by rw [hq]; simp
          clear hq
          go_wp2_with fail
          refine (HR.out _).mono ?_
          rintro e w4 ⟨rfl, hf4⟩
          have HF4 : Hid (Fr Nobody w1 w4) := HF.out.trans hf4
          clear hf4
          go_wp2
          go_roundw
          case rel => exact ⟨k + 1, by omega, by go_num, HF4.out⟩
          case measure => simp [intOf]; omega
        · have hq' : (n.toList == s.toList) = false := by rw [hq]; simp [e]
          clear hq
          go_wp2_with fail
          refine (HR.out _).mono ?_
          rintro e w4 ⟨rfl, hf4⟩
          have HF4 : Hid (Fr Nobody w1 w4) := HF.out.trans hf4
          clear hf4
          go_wp2
          go_roundw
          case rel => exact ⟨j + 1, by omega, by go_num, HF4.out⟩
          case measure => simp [intOf]; omega
      · go_wp2
        go_ret
        exact ⟨rfl, HF.out⟩
  all_goals
    obtain rfl := hk0 rfl
    clear hk0
    go_enter Tryd.func4, Tryd.ntmps4
    go_wp2_with fail
    refine HK.out.mono ?_
    rintro e w1 ⟨rfl, rfl⟩
    go_wp2_with fail
    refine (awake5 _ H.out).mono ?_
    rintro e w2 ⟨rfl, hf2⟩
    have HF2 : Hid (Fr Nobody w1 w2) := hf2
    clear hf2 HK
    go_wp2_with (go_at_call 14; refine (HN.out _ (H.out.quiet HF2.out)).mono ?_; rintro e w3 ⟨rfl, rfl⟩)
    go_loopw [25] (fun a wr => ∃ j : Nat, j ≤ 6 ∧ a = .int .u8 j ∧ Fr Nobody w1 wr) (fun a _ => 6 - (intOf a).toNat)
    case atStart => exact ⟨0, by omega, rfl, HF2.out⟩
    case round =>
      obtain ⟨j, hj, rfl, hf⟩ := hrel
      have HF : Hid (Fr Nobody w1 wr) := hf
      clear hf HN
      by_cases hlt : j < 6
      · have HR : Hid (∀ w, _) := fun w => rname_any w j (by omega)
        have hq := HQ.out j hlt
        generalize wname j = n at *
        have hq' : (n.toList == s.toList) = false := by rw [hq]; rfl
        clear hq
        go_wp2_with fail
        refine (HR.out _).mono ?_
        rintro e w4 ⟨rfl, hf4⟩
        have HF4 : Hid (Fr Nobody w1 w4) := HF.out.trans hf4
        clear hf4
        go_wp2
        go_roundw
        case rel => exact ⟨j + 1, by omega, by go_num, HF4.out⟩
        case measure => simp [intOf]; omega
      · go_wp2
        go_ret
        exact ⟨rfl, HF.out⟩
theorem schemaNames_walk (w : World) (ht : Tab w) (s : ByteArray) (ws : s.size ≤ maxLen) :
    Calls Tryd.prog 4 #[.string s] w fun e w' => e = .returned (.bool true) ∧ Below w.heap.size w w' := by
  have hc : ∃ k ok, (ok = true ∧ k < 6 ∧ wname k = s) ∨ (ok = false ∧ k = 0 ∧ ∀ i, i < 6 → wname i ≠ s) := by
    by_cases h : ∃ k, k < 6 ∧ wname k = s
    · obtain ⟨k, h1, h2⟩ := h
      exact ⟨k, true, .inl ⟨rfl, h1, h2⟩⟩
    · exact ⟨0, false, .inr ⟨rfl, rfl, fun i hi e => h ⟨i, hi, e⟩⟩⟩
  obtain ⟨k, ok, h⟩ := hc
  refine (schemaNames_main w ht s k ok _ h rfl).mono ?_
  rintro e w' ⟨rfl, hf⟩
  exact ⟨rfl, hf.below (Nat.le_refl _) (fun _ _ => id)⟩
theorem schemaNames_lifted (os : Os) (started : os.Started) (H : Type) (enc : TypeId × Value → H) :
    ReturnsInHanded {} Tryd.checked os 4 .any (fun w args => (Rows.schemaNamesSpec.pre enc Tryd.prog Tryd.f4 [] false w args ∧ laidMetH Tryd.prog laid1 w) ∧ sizedMet enc Tryd.prog Tryd.f4 (OpenSpec.ofChange Rows.schemaNamesSpec) false w args) (Rows.schemaNamesSpec.post enc Tryd.prog Tryd.f4 false true false false) := by
  refine returnsInHanded_of_change_and (C := Tryd.checked) (X := fun w _ => laidMetH Tryd.prog laid1 w) (fun _ _ _ hh h => h.of_heap hh) own started (by kernel_rfl) Tryd.func4
    (ChangeSpec.witness_shaped (enc := enc) (C := Tryd.checked) (os := os) (X := fun w _ => laidMetH Tryd.prog laid1 w) false (World.doorLaid Tryd.prog 400 os) #[.string ⟨#[]⟩] 8 rfl (World.shaped_of_RefB (by kernel_rfl) (by kernel_rfl)) (by kernel_rfl) (by kernel_rfl) (by kernel_rfl) (door_met os _)) ?_
  intro W base args ds gs before hval0 hW _ _ hL _
  have hval : ∀ (j : Nat) t v, Tryd.f4.params[j]? = some t → args[j]? = some v → Value.okWide Tryd.prog W .any base t v := hval0
  have hW' := hW
  obtain ⟨p, q, hA0, hV, rfl, hfz, hnd⟩ := hW
  have hA : DataW.TrodAll enc Tryd.prog W 0 (fun _ => true) true Tryd.f4.params.toList args.toList ds p := hA0
  rw [Tryd.params4] at hA hval
  obtain ⟨v0, vs0, d0, ds0, p0, q0, hargs, rfl, rfl, h0, r0⟩ := trodAll_cons hA
  obtain ⟨rfl, rfl, rfl⟩ := trodAll_nil r0
  obtain rfl : args = #[v0] := by cases args; simp_all
  obtain ⟨rfl, rfl⟩ := trodVars_none hV
  obtain ⟨s0, rfl, rfl, rfl, ws0⟩ := Go.ChangeMaps.open_string Tryd.underlying9 (hval 0 9 v0 rfl rfl) h0
  clear hA0 hval0
  refine (schemaNames_walk W (of_laid hL) s0 ws0).mono fun e W' ⟨he, bel⟩ => ?_
  subst he
  exact ⟨_, rfl, _, _, _, [], _, [], hW', trodAll_mk1 (shut_bool Tryd.underlying4 _), (trodAll_cons_mk (Go.ChangeMaps.shut_string Tryd.underlying9 ws0) trodAll_mk0), rfl, bel.frame _, fun h => by cases h⟩

theorem schemaNames_row : Rows.SchemaNamesSaid :=
  OpenClaim.holds_of_wide 4 Tryd.f4 rfl rfl rfl rfl rfl rfl rfl ⟨rfl, rfl, rfl, rfl, rfl⟩ rfl rfl rfl rfl rfl (by kernel_rfl) Tryd.func4 (by kernel_rfl)
    (of_decide_eq_true (by kernel_rfl)) (by unfold Func.isWrapper; first | (rw [if_pos (by decide +kernel)]; kernel_rfl) | (rw [if_neg (by decide +kernel)]; exact ⟨rfl, rfl⟩))
    (fun os started H enc _ => schemaNames_lifted os started H enc)

theorem schemaNames_holds : Rows.SchemaNamesCardSaid :=
  Claim7.holds_tied_plain_at .later [] [.data] true (true, "3574140b145b00f67d1e5906b91e76e98c8d6b867cac76379509b227c0f0b3c0") false
    schemaNames_row (fun _ h => by cases h) (by kernel_rfl) (fun _ h => by cases h) schemaNames_row_tie rfl ⟨rfl, rfl⟩ (by kernel_rfl) rfl
    (fun f fn hf hfn => by
      obtain rfl : f = 4 := Option.some.inj ((show Tryd.prog.funcNamed "pinnace/pinnacelaw05.SchemaNames" = some 4 by kernel_rfl).symm.trans hf) |>.symm
      obtain rfl : fn = Tryd.f4 := (Option.some.inj (Tryd.func4.symm.trans hfn)).symm
      exact ⟨by kernel_rfl, fun j t ht => by
        rw [Tryd.params4] at ht
        have hm : t ∈ [9] := by simpa using Array.mem_of_getElem? ht
        have hall : ([9].all fun u => !Tryd.prog.wantsStandIn u) = true := by kernel_rfl
        exact (show Tryd.prog.wantsStandIn t = false by simpa using List.all_eq_true.1 hall t hm)⟩)
    (by kernel_rfl)

end Go.Proofs.YtpmolkomnnpepaaDoor
