/-
  Everything that breeds does so in its time, as long as there is room; so again and again: SystemsBreed returns true, whatever its arguments, where the table of the components lies as the program's text lays it, and changes nothing that was there.
-/
import Derived.Test.YtehancopmpcpmaaDoorJjg
import Derived.Test.YtehancopmpcpmaaDoorJpg
import Derived.OpenShut
import Derived.SevenTiedAt
namespace Go.Proofs.YtehancopmpcpmaaDoor
open Go.ChangeShapes Go.WideShapes Go.ChangeAt Go.RowKit
set_option linter.unusedVariables false
set_option maxRecDepth 100000

/-- one tick, and who is told -/
def stp (σ : Sto) : Sto := (σ.brs (σ.find 33 0)).1
def stl (σ : Sto) : List Nat := (σ.brs (σ.find 33 0)).2
theorem stp_ok {σ : Sto} (h : σ.Ok) : (stp σ).Ok := (Sto.brs_inv h _).1
theorem stp_len {σ : Sto} (h : σ.Ok) : (stl σ).length ≤ 1024 := Nat.le_trans (Sto.brs_inv h _).2.2 (Sto.find_len h.s 33 0)
def sts (σ : Sto) : Nat → Sto
  | 0 => σ
  | t + 1 => stp (sts σ t)
theorem sts_ok {σ : Sto} (h : σ.Ok) : ∀ t, (sts σ t).Ok
  | 0 => h
  | t + 1 => stp_ok (sts_ok h t)
set_option maxHeartbeats 4000000 in
theorem systemsBreed_fr (w : World) (ht : Tab w) (m : Nat) (hm : m < 256) (ao : Option Addr) (len cap : Nat) (Q : List LsE) (hQl : Q.length = len) (hlc : len ≤ cap) (hcm : cap ≤ maxLen) (hM : Lss w ao Q) (hw : ∀ x ∈ Q, x.C.length ≤ x.cap ∧ x.cap ≤ 9223372036854775807 ∧ ∀ q ∈ x.C, q.k < 256) (u : Nat) (hu : u < 256) :
    Calls Tryd.prog 5 #[.int .u8 (m : Int), .slice ao len cap, .int .u8 (u : Int)] w fun e w' => e = .returned (.bool true) ∧ Fr Nobody w w' := by
  unfold maxLen at hcm
  have HT : Hid (Tab w) := ht
  have HFL : Hid (∀ w', Fr Nobody w w' → Calls Tryd.prog 8 #[.int .u8 (m : Int), .slice ao len cap] w' fun e w'' => ∃ b bx, e = .returned (.tuple #[.pointer (some ⟨b, 0, none⟩), .pointer (some ⟨bx, 0, none⟩)]) ∧ Own w w'' [Store b (fillL (1 + m % 40) Q) 50, RSto bx (fillL (1 + m % 40) Q) 50]) := fun w' hf => fillL_go w w' [] (Own.of_fr hf) ht m hm ao len cap Q hQl (by omega) (fun w'' h'' => hM.quiet h''.fr) hw
  obtain ⟨σ0, hσ0⟩ : ∃ σ0, fillL (1 + m % 40) Q = σ0 := ⟨_, rfl⟩
  have hok0 : σ0.Ok := by rw [← hσ0]; exact fillL_ok (by omega) (by omega) Q
  rw [hσ0] at HFL
  have HOK : Hid (∀ t, (sts σ0 t).Ok) := sts_ok hok0
  have HP : Hid (∀ w' b l' (σ : Sto) (K : Nat), σ.Ok → K ≤ 900000 → Own w w' (Store b σ K :: l') → Calls Tryd.prog 15 #[.pointer (some ⟨b, 0, none⟩)] w' fun e w'' => ∃ ao cap, e = .returned (.slice ao (stl σ).length cap) ∧ Own w w'' (Row 38 1 (.slice ao (stl σ).length cap) (stl σ).length (irow .u32 (stl σ)) :: Store b (stp σ) (K + 1024) :: l')) := by
    intro w' b l' σ K hσ hK h'
    have := breed_ok w w' l' b σ K ht h' hσ hK
    exact this
  have HR : Hid (∀ w' b l' (σ : Sto) (K : Nat), σ.Ok → K ≤ 900000 → Own w w' (RSto b σ K :: l') → Calls Tryd.prog 16 #[.pointer (some ⟨b, 0, none⟩)] w' fun e w'' => ∃ ao cap, e = .returned (.slice ao (stl σ).length cap) ∧ Own w w'' (Row 38 1 (.slice ao (stl σ).length cap) (stl σ).length (irow .u32 (stl σ)) :: RSto b (stp σ) (K + 1024) :: l')) := fun w' b l' σ K hσ hK h' => rbreed_ok w w' l' b σ K h' hσ hK
  have HN0 : Hid (∀ w' l', Own w w' l' → Calls Tryd.prog 15 #[.pointer none] w' fun e w'' => ∃ ao cap, e = .returned (.slice ao 0 cap) ∧ Own w w'' l') := fun w' l' h' => breed_nil w w' l' h'
  obtain ⟨tt, htt⟩ : ∃ tt, tt = u % 12 := ⟨_, rfl⟩
  have ht12 : tt < 12 := by omega
  have hut : (u : Int) % 12 = (tt : Int) := by omega
  clear ht hM hw hQl hσ0 hok0 htt
  go_enter Tryd.func5, Tryd.ntmps5
  go_wp2_with fail
  refine (awake14 w HT.out).mono ?_
  rintro e w1 ⟨rfl, hf1⟩
  have HF1 : Hid (Calls _ _ _ _ _) := HFL.out w1 hf1
  clear hf1 HFL
  go_wp2_with fail
  refine HF1.out.mono ?_
  rintro e w2 ⟨b, bx, rfl, hO2⟩
  have H2 : Hid (Own w w2 [Store b (sts σ0 0) (50 + 1024 * 0), RSto bx (sts σ0 0) (50 + 1024 * 0)]) := hO2
  clear hO2 HF1
  go_wp2
  rw [hut]
  clear hut
  go_loopw [19] (fun v16 wr => ∃ t : Nat, t ≤ tt ∧ v16 = .int .u8 t ∧ Own w wr [Store b (sts σ0 t) (50 + 1024 * t), RSto bx (sts σ0 t) (50 + 1024 * t)]) (fun v16 _ => tt - (intOf v16).toNat)
  case atStart => exact ⟨0, Nat.zero_le _, rfl, H2.out⟩
  case round =>
    obtain ⟨t, ht, rfl, hO⟩ := hrel
    clear H2
    by_cases hlt : t < tt
    · have hlt' : (t : Int) < (tt : Int) := by omega
      have HST : Hid (sts σ0 (t + 1) = stp (sts σ0 t)) := rfl
      have hok := HOK.out t
      have hok1 := HOK.out (t + 1)
      have hsl := stp_len hok
      have HC : Hid (Calls _ _ _ _ _) := HP.out wr b _ (sts σ0 t) (50 + 1024 * t) hok (by omega) hO
      have HC2 : Hid (∀ w' l', Own w w' (RSto bx (sts σ0 t) (50 + 1024 * t) :: l') → Calls Tryd.prog 16 #[.pointer (some ⟨bx, 0, none⟩)] w' fun e w'' => ∃ ao cap, e = .returned (.slice ao (stl (sts σ0 t)).length cap) ∧ Own w w'' (Row 38 1 (.slice ao (stl (sts σ0 t)).length cap) (stl (sts σ0 t)).length (irow .u32 (stl (sts σ0 t))) :: RSto bx (stp (sts σ0 t)) (50 + 1024 * t + 1024) :: l')) := fun w' l' h' => HR.out w' bx l' _ _ hok (by omega) h'
      have HAL : Hid (∀ w' l', Own w w' (Store b (stp (sts σ0 t)) (50 + 1024 * t + 1024) :: RSto bx (stp (sts σ0 t)) (50 + 1024 * t + 1024) :: l') → Calls Tryd.prog 12 #[.pointer (some ⟨b, 0, none⟩), .pointer (some ⟨bx, 0, none⟩)] w' fun e w'' => e = .returned (.bool true) ∧ Own w w'' (Store b (stp (sts σ0 t)) (50 + 1024 * t + 1024) :: RSto bx (stp (sts σ0 t)) (50 + 1024 * t + 1024) :: l')) := by
        intro w' l' h'
        obtain ⟨x, hx, h2⟩ := RSto.opn h'.two
        refine (alike14 w w' l' b bx _ _ _ x h2.two hx hok1 (by omega) (by omega) (fun id hid => St.list_iv1 hok1.s hid)).mono ?_
        rintro e w'' ⟨rfl, h3⟩
        exact ⟨rfl, (RSto.mk hx h3.two).two⟩
      rw [show 50 + 1024 * t + 1024 = 50 + 1024 * (t + 1) by omega] at HC HC2 HAL
      rw [← HST.out] at HC HC2 HAL
      clear hO hok hok1
      generalize stl (sts σ0 t) = Y at *
      generalize hyl : Y.length = yl at *
      have HYL : Hid (Y.length = yl) := hyl
      clear hyl
      go_wp2_with fail
      refine HC.out.mono ?_
      rintro e w3 ⟨ra, rc, rfl, hO3⟩
      have HD : Hid (Calls _ _ _ _ _) := HC2.out _ _ hO3.three
      clear hO3 HC HC2
      go_wp2_with fail
      refine HD.out.mono ?_
      rintro e w4 ⟨qa, qc, rfl, hO4⟩
      have h41 := hO4
      have h42 := hO4.three
      rw [← HYL.out] at h41 h42
      have HSM : Hid (Calls _ _ _ _ _) := same_ok w4 (.slice ra Y.length rc) (.slice qa Y.length qc) Y (Own.nums h42) (Own.nums h41) (by rw [HYL.out]; omega)
      rw [HYL.out] at HSM
      have H4 : Hid (Own w w4 [Store b (sts σ0 (t + 1)) (50 + 1024 * (t + 1)), RSto bx (sts σ0 (t + 1)) (50 + 1024 * (t + 1))]) := hO4.tail.two.tail.two
      clear hO4 h41 h42 HD
      go_wp2_with fail
      refine HSM.out.mono ?_
      rintro e w5 ⟨rfl, hf5⟩
      have HA : Hid (Calls _ _ _ _ _) := HAL.out _ _ (H4.out.quiet hf5)
      clear hf5 HSM H4 HAL
      go_wp2_with fail
      refine HA.out.mono ?_
      rintro e w6 ⟨rfl, hO6⟩
      have H6 : Hid (Own w w6 _) := hO6
      clear hO6 HA
      go_wp2
      go_roundw
      case rel => exact ⟨t + 1, by omega, by go_num, H6.out⟩
      case measure => simp [intOf]; omega
    · have hlt' : ¬ (t : Int) < (tt : Int) := by omega
      have HN : Hid (Calls _ _ _ _ _) := HN0.out wr _ hO
      clear hO
      go_wp2_with fail
      refine HN.out.mono ?_
      rintro e w3 ⟨na, nc, rfl, hO3⟩
      have H3 : Hid (Own w w3 _) := hO3
      clear hO3 HN
      go_wp2
      go_ret
      exact ⟨rfl, H3.out.fr⟩
theorem systemsBreed_walk (w : World) (ht : Tab w) (a0 : Int) (w0 : ok8 a0) (a1 : Option Addr) (len1 cap1 : Nat) (z1 : List LsE) (w1 : IsLss w a1 len1 cap1 z1) (a2 : Int) (w2 : ok8 a2) :
    Calls Tryd.prog 5 #[.int .u8 a0, .slice a1 len1 cap1, .int .u8 a2] w fun e w' => e = .returned (.bool true) ∧ Below w.heap.size w w' := by
  obtain ⟨h1, h2⟩ := w1.lss
  obtain ⟨m, rfl, hm⟩ := ok8_nat w0
  obtain ⟨u, rfl, hu⟩ := ok8_nat w2
  refine (systemsBreed_fr w ht m hm a1 len1 cap1 z1 w1.1 w1.2.1 w1.2.2.1 h1 h2 u hu).mono ?_
  rintro e w' ⟨rfl, hf⟩
  exact ⟨rfl, hf.below (Nat.le_refl _) (fun _ _ h => h)⟩
theorem laidOut : laidOutB Tryd.prog = true := by kernel_rfl

set_option maxRecDepth 100000 in
theorem systemsBreed_lifted (os : Os) (started : os.Started) (H : Type) (enc : TypeId × Value → H) :
    ReturnsInHanded {} Tryd.checked os 5 .any (fun w args => (Rows.systemsBreedSpec.pre enc Tryd.prog Tryd.f5 [] false w args ∧ laidMetH Tryd.prog laid1 w) ∧ sizedMet enc Tryd.prog Tryd.f5 (OpenSpec.ofChange Rows.systemsBreedSpec) false w args) (Rows.systemsBreedSpec.post enc Tryd.prog Tryd.f5 false true false false) := by
  refine returnsInHanded_of_change_and (C := Tryd.checked) (X := fun w _ => laidMetH Tryd.prog laid1 w) (fun _ _ _ hh h => h.of_heap hh) own started (by kernel_rfl) Tryd.func5
    (ChangeSpec.witness_shaped (enc := enc) (C := Tryd.checked) (os := os) (X := fun w _ => laidMetH Tryd.prog laid1 w) false (World.doorLaid Tryd.prog 400 os) #[.int .u8 0, .slice none 0 0, .int .u8 0] 8 rfl (World.shaped_of_RefB (by kernel_rfl) (by kernel_rfl)) (by kernel_rfl) (by kernel_rfl) (by kernel_rfl) (door_met os _)) ?_
  intro W base args ds gs before hval0 hW _ _ hL _
  have hval : ∀ (j : Nat) t v, Tryd.f5.params[j]? = some t → args[j]? = some v → Value.okWide Tryd.prog W .any base t v := hval0
  have hW' := hW
  obtain ⟨p, q, hA0, hV, rfl, hfz, hnd⟩ := hW
  have hA : DataW.TrodAll enc Tryd.prog W 0 (fun _ => true) true Tryd.f5.params.toList args.toList ds p := hA0
  rw [Tryd.params5] at hA hval
  obtain ⟨v0, vs0, d0, ds0, p0, q0, hargs, rfl, rfl, h0, r0⟩ := trodAll_cons hA
  obtain ⟨v1, vs1, d1, ds1, p1, q1, rfl, rfl, rfl, h1, r1⟩ := trodAll_cons r0
  obtain ⟨v2, vs2, d2, ds2, p2, q2, rfl, rfl, rfl, h2, r2⟩ := trodAll_cons r1
  obtain ⟨rfl, rfl, rfl⟩ := trodAll_nil r2
  obtain rfl : args = #[v0, v1, v2] := by cases args; simp_all
  obtain ⟨rfl, rfl⟩ := trodVars_none hV
  obtain ⟨a0, rfl, rfl, rfl, w0⟩ := open_int Tryd.underlying5 (hval 0 5 v0 rfl rfl) h0
  obtain ⟨a1, len1, cap1, rfl⟩ := okWide_slice Tryd.underlying22 (hval 1 22 v1 rfl rfl)
  have k1 := h1
  have lt1 : ∀ x ∈ p1, x.block < W.heap.size := by obtain ⟨m, hm⟩ := k1; exact DataW.trod_lt m _ _ _ hm
  obtain ⟨z1, w1⟩ := open_ops (hval 1 22 _ rfl rfl) h1
  obtain ⟨a2, rfl, rfl, rfl, w2⟩ := open_int Tryd.underlying5 (hval 2 5 v2 rfl rfl) h2
  clear hA0 hval0
  refine (systemsBreed_walk W (of_laid hL) a0 w0 a1 len1 cap1 z1 w1 a2 w2).mono fun e W' ⟨he, bel⟩ => ?_
  subst he
  exact ⟨_, rfl, _, _, _, [], _, [], hW', trodAll_mk1 (shut_bool Tryd.underlying4 _), (trodAll_cons_mk (shut_int Tryd.underlying5 w0) (trodAll_cons_mk (Below.trod laidOut (by kernel_rfl) (of_decide_eq_true (by kernel_rfl)) k1 bel lt1) (trodAll_cons_mk (shut_int Tryd.underlying5 w2) trodAll_mk0))), rfl, bel.frame _, fun h => by cases h⟩

theorem systemsBreed_row : Rows.SystemsBreedSaid :=
  OpenClaim.holds_of_wide 5 Tryd.f5 rfl rfl rfl rfl rfl rfl rfl ⟨rfl, rfl, rfl, rfl, rfl⟩ rfl rfl rfl rfl rfl (by kernel_rfl) Tryd.func5 (by kernel_rfl)
    (of_decide_eq_true (by kernel_rfl)) (by unfold Func.isWrapper; first | (rw [if_pos (by decide +kernel)]; kernel_rfl) | (rw [if_neg (by decide +kernel)]; exact ⟨rfl, rfl⟩))
    (fun os started H enc _ => systemsBreed_lifted os started H enc)

theorem systemsBreed_holds : Rows.SystemsBreedCardSaid :=
  Claim7.holds_tied_plain_at .later [] [.data] true (true, "0a9b033f652b79ce607060986c2ff617c9b5fd6426845a374dc41de3066fb514") false
    systemsBreed_row (fun _ h => by cases h) (by kernel_rfl) (fun _ h => by cases h) systemsBreed_row_tie rfl ⟨rfl, rfl⟩ (by kernel_rfl) rfl
    (fun f fn hf hfn => by
      obtain rfl : f = 5 := Option.some.inj ((show Tryd.prog.funcNamed "pinnace/pinnacelaw14.SystemsBreed" = some 5 by kernel_rfl).symm.trans hf) |>.symm
      obtain rfl : fn = Tryd.f5 := (Option.some.inj (Tryd.func5.symm.trans hfn)).symm
      exact ⟨by kernel_rfl, fun j t ht => by
        rw [Tryd.params5] at ht
        have hm : t ∈ [5, 22, 5] := by simpa using Array.mem_of_getElem? ht
        have hall : ([5, 22, 5].all fun u => !Tryd.prog.wantsStandIn u) = true := by kernel_rfl
        exact (show Tryd.prog.wantsStandIn t = false by simpa using List.all_eq_true.1 hall t hm)⟩)
    (by kernel_rfl)

end Go.Proofs.YtehancopmpcpmaaDoor
