/-
  What is told of any components are just those that are told to clients, in their order, and told once more it is the same: SnapTold returns true, whatever its argument, where the table of the components lies as the program's text lays it, and changes nothing that was there.
-/
import Derived.Test.YtfhfcfobgemcpaaGreatDoorSndg
import Derived.Test.YtfhfcfobgemcpaaGreatDoorSl
import Derived.Lib.MinMax
import Derived.OpenShut
import Derived.SevenTiedAt
namespace Go.Proofs.YtfhfcfobgemcpaaGreatDoor
open Go.ChangeShapes Go.WideShapes Go.ChangeAt Go.RowKit
set_option linter.unusedVariables false
set_option maxRecDepth 100000

theorem told_at {M : List Cp} {j : Nat} {c : Cp} (h : M[j]? = some c) (ht : ktold c.k = true) : (toldL M)[(toldL (M.take j)).length]? = some c := by
  have hj := List.getElem?_eq_some_iff.1 h
  have e : M = M.take j ++ c :: M.drop (j + 1) := by
    rw [← hj.2, ← List.drop_eq_getElem_cons hj.1, List.take_append_drop]
  have e2 : toldL M = toldL (M.take j) ++ toldL (c :: M.drop (j + 1)) := by
    unfold toldL
    rw [← List.filter_append, ← e]
  have e3 : toldL (c :: M.drop (j + 1)) = c :: toldL (M.drop (j + 1)) := by
    unfold toldL
    rw [List.filter_cons, if_pos ht]
  rw [e2, e3]
  simp
set_option maxHeartbeats 16000000 in
theorem snapTold_fr (w : World) (ht : Tab w) (ao : Option Addr) (len cap : Nat) (Z : List Cp) (hZ : Z.length = len) (hlc : len ≤ cap) (hcm : cap ≤ maxLen) (hc : Cs w ao Z) (hk : ∀ q ∈ Z, q.k < 256) :
    Calls Tryz.prog 13 #[.slice ao len cap] w fun e w' => e = .returned (.bool true) ∧ Fr Nobody w w' := by
  unfold maxLen at hcm
  have HT : Hid (Tab w) := ht
  have HZ : Hid (Z.length = len ∧ Cs w ao Z ∧ ∀ q ∈ Z, q.k < 256) := ⟨hZ, hc, hk⟩
  have HAW : Hid (Calls _ _ _ _ _) := awake18 w ht
  clear ht hZ hc hk
  obtain ⟨n, hn⟩ : ∃ n, n = min len 100 := ⟨_, rfl⟩
  have hmin : min (len : Int) 100 = (n : Int) := by omega
  have hn1 : n ≤ 100 := by omega
  have hn2 : n ≤ len := by omega
  clear hn
  obtain ⟨M, hM⟩ : ∃ M, M = Z.take n := ⟨_, rfl⟩
  have HM : Hid (M.length = n ∧ Cs w ao M ∧ ∀ q ∈ M, q.k < 256) := by
    rw [hM]; exact ⟨by rw [List.length_take, HZ.out.1]; omega, HZ.out.2.1.take n, fun q hq => HZ.out.2.2 q (List.mem_of_mem_take hq)⟩
  clear hM HZ
  have hgl := toldL_le M
  rw [HM.out.1] at hgl
  go_enter Tryz.func13, Tryz.ntmps13
  go_wp2_with fail
  refine HAW.out.mono ?_
  rintro e w1 ⟨rfl, hf1⟩
  have H1 : Hid (Own w w1 []) := Own.of_fr hf1
  clear hf1 HAW
  go_wp2_with fail
  refine (twin_any w w1 [] H1.out ao n _ M HM.out.1 (HM.out.2.1.quiet H1.out.fr) (by omega)).mono ?_
  rintro e w2 ⟨a2, c2, rfl, hO2⟩
  have HTL : Hid (Calls _ _ _ _ _) := told_l w w2 HT.out _ hO2 a2 n c2 M HM.out.1 (fun w' hw => Own.rcs hw HM.out.1) HM.out.2.2 (by omega)
  obtain ⟨tl, htl⟩ : ∃ tl, tl = (toldL M).length := ⟨_, rfl⟩
  have HTN : Hid (tl = (toldL M).length) := htl
  rw [← htl] at HTL hgl
  clear hO2 H1 htl
  go_wp2_with fail
  refine HTL.out.mono ?_
  rintro e w3 ⟨a3, c3, rfl, hO3⟩
  have HO3 : Hid (Own w w3 _) := hO3
  clear hO3 HTL
  go_wp2
  go_loopw [5, 21] (fun v5 v21 wr => ∃ (j k : Nat), j ≤ n ∧ v21 = .int .i64 (j : Int) ∧ v5 = .int .i64 (k : Int) ∧ k = (toldL (M.take j)).length ∧ Own w wr [Row 46 4 (.slice a3 tl c3) tl (ccat (toldL M)), Row 46 4 (.slice a2 n c2) n (ccat M)]) (fun _ v21 _ => n - (intOf v21).toNat)
  case atStart => exact ⟨0, 0, Nat.zero_le _, rfl, rfl, rfl, HO3.out⟩
  case round =>
    obtain ⟨j, k, hj, rfl, rfl, hkk, hO⟩ := hrel
    have HK : Hid (k = (toldL (M.take j)).length) := hkk
    clear HO3 hkk
    by_cases hlt : j < n
    · have hlt' : (j : Int) < (n : Int) := by omega
      obtain ⟨c, hc⟩ : ∃ c, M[j]? = some c := ⟨_, List.getElem?_eq_getElem (by rw [HM.out.1]; exact hlt)⟩
      obtain ⟨g, o, hao, _, y0, y1, y2, y3⟩ := (HM.out.2.1.quiet hO.fr).at j c hc
      subst hao
      have hc8 := HM.out.2.2 c (List.mem_of_getElem? hc)
      have HST : Hid (toldL (M.take (j + 1)) = toldL (M.take j) ++ (if ktold c.k = true then [c] else [])) := by show _ = _; rw [take_snoc M j c hc, told_snoc]
      have HAT : Hid (ktold c.k = true → (toldL M)[k]? = some c) := fun h => by rw [HK.out]; exact told_at hc h
      have hA := hO.allocC #[.int .u8 (c.k : Int), .int .i32 c.a, .int .i32 c.b, .int .i32 c.c] 46
      have HU : Hid (Calls _ _ _ _ _) := rtold_any (wr.alloc (.cells #[.int .u8 (c.k : Int), .int .i32 c.a, .int .i32 c.b, .int .i32 c.c] 46)) c.k hc8
      have HA : Hid (Own w _ _) := hA
      clear hc hO hA
      generalize ktold c.k = r at *
      obtain ⟨ck, ca, cb, cc⟩ := c
      simp only at y0 y1 y2 y3 hc8 HST HA HU HAT
      go_wp2_with fail
      refine HU.out.mono ?_
      rintro e w5 ⟨rfl, hf5⟩
      have hA5 := HA.out.quiet hf5
      generalize wr.heap.size = b7 at *
      clear hf5 HA HU y0 y1 y2 y3
      cases r
      · have HST2 : Hid (k = (toldL (M.take (j + 1))).length) := by show _ = _; rw [HST.out, HK.out]; simp
        have HE : Hid (Own w w5 _) := hA5.tail
        clear hA5
        go_wp2
        go_roundw
        case rel => exact ⟨j + 1, k, by omega, by go_num, rfl, HST2.out, HE.out⟩
        case measure => simp [intOf]; omega
      · have hget := HAT.out rfl
        have hkl : k < tl := by rw [HTN.out]; exact (List.getElem?_eq_some_iff.1 hget).1
        have hkl' : ¬ (tl : Int) ≤ (k : Int) := by omega
        have hkl2 : (k : Int) < (tl : Int) := by omega
        have HST2 : Hid (k + 1 = (toldL (M.take (j + 1))).length) := by show _ = _; rw [HST.out, HK.out]; simp
        obtain ⟨g3, o3, ha3, _, _⟩ := (Own.rcs hA5.two HTN.out.symm).at k _ hget
        subst ha3
        have r0 : ∀ f : FrOf w5, f.val.cell? ⟨g3, o3 + k * 4, none⟩ = some (.int .u8 (ck : Int)) ∧ f.val.cell? ⟨g3, o3 + k * 4 + 1, none⟩ = some (.int .i32 ca) ∧ f.val.cell? ⟨g3, o3 + k * 4 + 2, none⟩ = some (.int .i32 cb) ∧ f.val.cell? ⟨g3, o3 + k * 4 + 3, none⟩ = some (.int .i32 cc) := fun f => by
          obtain ⟨g, o, hg, _, h4⟩ := (Own.rcs (hA5.quiet f.fr).two HTN.out.symm).at k _ hget
          cases hg
          exact h4
        have r00 := fun f => (r0 f).1
        have r01 := fun f => (r0 f).2.1
        have r02 := fun f => (r0 f).2.2.1
        have r03 := fun f => (r0 f).2.2.2
        have s0 : ∀ f : FrOf w5, f.val.cell? ⟨b7, 0, none⟩ = some (.int .u8 (ck : Int)) := fun f => (hA5.quiet f.fr).cell 0
        have s1 : ∀ f : FrOf w5, f.val.cell? ⟨b7, 1, none⟩ = some (.int .i32 ca) := fun f => (hA5.quiet f.fr).cell 1
        have s2 : ∀ f : FrOf w5, f.val.cell? ⟨b7, 2, none⟩ = some (.int .i32 cb) := fun f => (hA5.quiet f.fr).cell 2
        have s3 : ∀ f : FrOf w5, f.val.cell? ⟨b7, 3, none⟩ = some (.int .i32 cc) := fun f => (hA5.quiet f.fr).cell 3
        have e0 : ((ck : Int) == (ck : Int)) = true := by simp
        have eqa : ∀ d w, (Op.equalIn (d + 1 + 1) 44 (.agg #[.int .i32 ca, .int .i32 cb, .int .i32 cc]) (.agg #[.int .i32 ca, .int .i32 cb, .int .i32 cc])).run Tryz.prog w = .ok true w := fun d w => by rw [eq_a3]; simp
        have HA5 : Hid (Own w w5 _) := hA5
        clear r0 hget hA5 HAT
        go_wp2
        refine wp_region_fr (by kernel_rfl) (by kernel_rfl) ?_
        repeat (with_reducible refine wpQuiet_step (fun K hK => ?_)
                go_simp
                (refine hK _ ?_; clear hK K))
        refine wpQuiet_nil ?_
        rintro w' ⟨f, rfl⟩
        have HE : Hid (Own w f.val _) := (HA5.out.quiet f.fr).tail
        clear r00 r01 r02 r03 s0 s1 s2 s3 HA5
        generalize f.val = w6 at *
        go_wp2
        go_roundw
        case rel => exact ⟨j + 1, k + 1, by omega, by go_num, by go_num, HST2.out, HE.out⟩
        case measure => simp [intOf]; omega
    · have hlt' : ¬ (j : Int) < (n : Int) := by omega
      have hkt : k = tl := by
        have := HK.out
        rw [List.take_of_length_le (by rw [HM.out.1]; omega)] at this
        rw [this, HTN.out]
      subst hkt
      have HS1 : Hid (Calls _ _ _ _ _) := eqCs_r wr a2 ao n n c2 cap M M (Own.rcs hO.two HM.out.1) (HM.out.2.1.quiet hO.fr) HM.out.1 HM.out.1 (by omega) (by omega)
      rw [decide_eq_true rfl] at HS1
      have HO : Hid (Own w wr _) := hO
      have hkk0 : ((k : Int) == (k : Int)) = true := by simp
      clear hO HK
      go_wp2_with fail
      refine HS1.out.mono ?_
      rintro e w5 ⟨rfl, hf5⟩
      have h5 := HO.out.quiet hf5
      have HTW : Hid (Calls _ _ _ _ _) := twin_any w w5 _ h5 a3 k c3 (toldL M) HTN.out.symm (Own.rcs h5 HTN.out.symm) (by omega)
      clear h5 hf5 HO HS1
      go_wp2_with fail
      refine HTW.out.mono ?_
      rintro e w6 ⟨a6, c6, rfl, h6⟩
      have HTL2 : Hid (Calls _ _ _ _ _) := told_l w w6 HT.out _ h6 a6 k c6 (toldL M) HTN.out.symm (fun w' hw => Own.rcs hw HTN.out.symm) (fun q hq => HM.out.2.2 q ((List.mem_filter.1 hq).1)) (by omega)
      rw [told_told, ← HTN.out] at HTL2
      clear h6 HTW
      go_wp2_with fail
      refine HTL2.out.mono ?_
      rintro e w7 ⟨a7, c7, rfl, h7⟩
      have HS2 : Hid (Calls _ _ _ _ _) := eqCs_r w7 a7 a3 k k c7 c3 (toldL M) (toldL M) (Own.rcs h7 HTN.out.symm) (Own.rcs h7.three HTN.out.symm) HTN.out.symm HTN.out.symm (by omega) (by omega)
      rw [decide_eq_true rfl] at HS2
      have HF7 : Hid (Fr Nobody w w7) := h7.fr
      clear h7 HTL2
      go_wp2_with fail
      refine HS2.out.mono ?_
      rintro e w8 ⟨rfl, hf8⟩
      have HF8 : Hid (Fr Nobody w w8) := HF7.out.trans hf8
      clear hf8 HS2
      go_wp2
      go_ret
      exact ⟨by simp, HF8.out⟩
theorem snapTold_walk (w : World) (ht : Tab w) (a0 : Option Addr) (len0 cap0 : Nat) (z0 : List Cp) (w0 : IsComps w a0 len0 cap0 z0) :
    Calls Tryz.prog 13 #[.slice a0 len0 cap0] w fun e w' => e = .returned (.bool true) ∧ Below w.heap.size w w' := by
  refine (snapTold_fr w ht a0 len0 cap0 z0 w0.1 w0.2.1 w0.2.2.1 w0.cs.1 w0.cs.2).mono ?_
  rintro e w' ⟨rfl, hf⟩
  exact ⟨rfl, hf.below (Nat.le_refl _) (fun _ _ h => h)⟩
end Go.Proofs.YtfhfcfobgemcpaaGreatDoor

/-
  SnapTold: whatever comes in, and whatever lies there.
-/
namespace Go.Proofs.YtfhfcfobgemcpaaGreatDoor
open Go.ChangeShapes Go.WideShapes Go.ChangeAt Go.RowKit
set_option linter.unusedVariables false
set_option maxRecDepth 100000
theorem laidOut : laidOutB Tryz.prog = true := by kernel_rfl

set_option maxRecDepth 100000 in
theorem snapTold_lifted (os : Os) (started : os.Started) (H : Type) (enc : TypeId × Value → H) :
    ReturnsInHanded {} Tryz.checked os 13 .any (fun w args => (Rows.snapToldSpec.pre enc Tryz.prog Tryz.f13 [] false w args ∧ laidMetH Tryz.prog laid1 w) ∧ sizedMet enc Tryz.prog Tryz.f13 (OpenSpec.ofChange Rows.snapToldSpec) false w args) (Rows.snapToldSpec.post enc Tryz.prog Tryz.f13 false true false false) := by
  refine returnsInHanded_of_change_and (C := Tryz.checked) (X := fun w _ => laidMetH Tryz.prog laid1 w) (fun _ _ _ hh h => h.of_heap hh) own started (by kernel_rfl) Tryz.func13
    (ChangeSpec.witness_shaped (enc := enc) (C := Tryz.checked) (os := os) (X := fun w _ => laidMetH Tryz.prog laid1 w) false (World.doorLaid Tryz.prog 400 os) #[.slice none 0 0] 8 rfl (World.shaped_of_RefB (by kernel_rfl) (by kernel_rfl)) (by kernel_rfl) (by kernel_rfl) (by kernel_rfl) (door_met os _)) ?_
  intro W base args ds gs before hval0 hW _ _ hL _
  have hval : ∀ (j : Nat) t v, Tryz.f13.params[j]? = some t → args[j]? = some v → Value.okWide Tryz.prog W .any base t v := hval0
  have hW' := hW
  obtain ⟨p, q, hA0, hV, rfl, hfz, hnd⟩ := hW
  have hA : DataW.TrodAll enc Tryz.prog W 0 (fun _ => true) true Tryz.f13.params.toList args.toList ds p := hA0
  rw [Tryz.params13] at hA hval
  obtain ⟨v0, vs0, d0, ds0, p0, q0, hargs, rfl, rfl, h0, r0⟩ := trodAll_cons hA
  obtain ⟨rfl, rfl, rfl⟩ := trodAll_nil r0
  obtain rfl : args = #[v0] := by cases args; simp_all
  obtain ⟨rfl, rfl⟩ := trodVars_none hV
  obtain ⟨a0, len0, cap0, rfl⟩ := okWide_slice Tryz.underlying39 (hval 0 39 v0 rfl rfl)
  have k0 := h0
  have lt0 : ∀ x ∈ p0, x.block < W.heap.size := by obtain ⟨m, hm⟩ := k0; exact DataW.trod_lt m _ _ _ hm
  obtain ⟨z0, w0⟩ := open_comps (hval 0 39 _ rfl rfl) h0
  clear hA0 hval0
  refine (snapTold_walk W (of_laid hL) a0 len0 cap0 z0 w0).mono fun e W' ⟨he, bel⟩ => ?_
  subst he
  exact ⟨_, rfl, _, _, _, [], _, [], hW', trodAll_mk1 (shut_bool Tryz.underlying4 _), (trodAll_cons_mk (Below.trod laidOut (by kernel_rfl) (of_decide_eq_true (by kernel_rfl)) k0 bel lt0) trodAll_mk0), rfl, bel.frame _, fun h => by cases h⟩
end Go.Proofs.YtfhfcfobgemcpaaGreatDoor
