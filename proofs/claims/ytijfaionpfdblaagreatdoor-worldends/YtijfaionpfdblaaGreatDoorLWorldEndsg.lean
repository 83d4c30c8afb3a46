/-
  At the last tick the world stands, no step is done, orders wait, nothing changes: WorldEnds returns true, whatever its arguments, where the table of the components lies as the program's text lays it, and changes nothing that was there.
-/
import Derived.Test.YtijfaionpfdblaaGreatDoorWpeg
import Derived.Test.YtijfaionpfdblaaGreatDoorIcg
import Derived.OpenShut
import Derived.SevenTiedAt
namespace Go.Proofs.YtijfaionpfdblaaGreatDoor
open Go.ChangeShapes Go.WideShapes Go.ChangeAt Go.RowKit
set_option linter.unusedVariables false
set_option maxRecDepth 100000

theorem push_len {E E' : List OrdE} {o : OrdE} (h : PushTo E o E') : (pcode E o = 0 ∧ E'.length = E.length + 1) ∨ (pcode E o ≠ 0 ∧ E' = E) := by
  unfold PushTo at h
  unfold pcode
  by_cases h1 : o.ck = 0
  · by_cases h2 : E.length < 256
    · rw [if_pos ⟨h1, h2⟩] at h
      obtain ⟨a, c, rfl⟩ := h
      exact .inl ⟨by rw [if_neg (by omega), if_neg (by omega)], by simp⟩
    · rw [if_neg (by omega)] at h
      exact .inr ⟨by rw [if_neg (by omega), if_pos (by omega)]; decide, h⟩
  · rw [if_neg (by omega)] at h
    exact .inr ⟨by rw [if_pos h1]; omega, h⟩
set_option maxHeartbeats 32000000 in
theorem worldEnds_fr (w : World) (ht : Tab w) (bf : Nat) (hbf : bf < 256) (ao : Option Addr) (len cap : Nat) (Q : List OrdE) (hQl : Q.length = len) (hlc : len ≤ cap) (hcm : cap ≤ maxLen) (hOr : Ords w ao Q) (hw : ∀ o ∈ Q, o.d < 256 ∧ o.id < 4294967296 ∧ o.k < 256 ∧ IsComps w o.ao o.C.length o.cap o.C) :
    Calls Tryz.prog 4 #[.int .u8 (bf : Int), .slice ao len cap] w fun e w' => e = .returned (.bool true) ∧ Fr Nobody w w' := by
  unfold maxLen at hcm
  have HT : Hid (Tab w) := ht
  obtain ⟨L, hL⟩ : ∃ L, few2 Q = L := ⟨_, rfl⟩
  obtain ⟨n, hn⟩ : ∃ n, L.length = n := ⟨_, rfl⟩
  have hn20 : n ≤ 20 := by rw [← hn, ← hL]; exact few2_len Q
  have HLI : Hid (∀ x ∈ L, Cs w x.ao x.C ∧ x.In ∧ x.C.length ≤ 20) := by
    intro x hx
    rw [← hL] at hx
    obtain ⟨o, ho, rfl⟩ := List.mem_map.1 hx
    have ho := List.mem_of_mem_take ho
    obtain ⟨h1, h2, h3, h4⟩ := hw o ho
    have hl : (o.C.take 20).length ≤ 20 := by rw [List.length_take]; exact Nat.min_le_left _ _
    exact ⟨(hOr.2 o ho).take 20, ⟨h1, h2, h3, fun q hq => h4.cs.2 q (List.mem_of_mem_take hq), Nat.le_trans hl (by decide)⟩, hl⟩
  have HFW : Hid (∀ w' l, Own w w' l → Calls Tryz.prog 12 #[.slice ao len cap, .int .i64 20] w' fun e w'' => ∃ ra rc, e = .returned (.slice ra n rc) ∧ Own w w'' (Row 41 4 (.slice ra n rc) n (cat OrdE.cs L) :: l)) := by
    intro w' l h'
    have := few2_ok w w' l h' ao len cap Q hQl (by omega) (fun w'' h'' => hOr.quiet h''.fr) (fun o ho => ⟨(hw o ho).2.2.2.2.1, (hw o ho).2.2.2.2.2.1⟩)
    rw [hL, hn] at this
    exact this
  have HN : Hid (L.length = n) := hn
  have HRL : Hid (∀ w' la lc l', Own w w' (Row 41 4 (.slice la n lc) n (cat OrdE.cs L) :: l') → Ords w' la L) := fun w' la lc l' h' => Own.ords h' HN.out (fun x hx => (HLI.out x hx).1.quiet h'.fr)
  have HAW : Hid (Calls _ _ _ _ _) := awake15 w ht
  obtain ⟨k, hk⟩ : ∃ k, k = bf % 5 := ⟨_, rfl⟩
  have hk5 : k < 5 := by omega
  have hbk : (bf : Int).tmod 5 = (k : Int) := by rw [hk, Int.tmod_eq_emod_of_nonneg (by omega)]; omega
  have hbk2 : (bf : Int) % 5 = (k : Int) := by omega
  obtain ⟨T0, hT0⟩ : ∃ T0 : Nat, T0 = 4294967295 - k := ⟨_, rfl⟩
  have hT0' : (4294967295 : Int) - (k : Int) = (T0 : Int) := by omega
  have HNW : Hid (∀ w', Fr Nobody w w' → Calls Tryz.prog 10 #[.int .i64 8, .int .i64 1, .int .u32 (T0 : Int)] w' fun e w'' => ∃ b, e = .returned (.tuple #[.pointer (some ⟨b, 0, none⟩), .int .i64 0]) ∧ Own w w'' (WdT b ⟨T0, Sto.new 8 1, [], fun _ _ => none, []⟩ 0 0 :: [])) := fun w' hf => wnew w w' [] 8 1 T0 (Own.of_fr hf) (by decide) (by decide) (by decide) (by decide)
  have HTT : Hid (T0 + k = 4294967295) := by show _ = _; omega
  clear ht hL hn hOr hw hQl hk hT0 hlc hcm
  go_enter Tryz.func4, Tryz.ntmps4
  go_wp2_with fail
  refine HAW.out.mono ?_
  rintro e w1 ⟨rfl, hf1⟩
  have H1 : Hid (Calls _ _ _ _ _) := HNW.out w1 hf1
  clear hf1 HAW HNW
  go_wp2_with fail
  refine H1.out.mono ?_
  rintro e w2 ⟨b, rfl, h2⟩
  have HS : Hid (Calls _ _ _ _ _) := spawn15 w w2 _ h2
  clear h2 H1
  go_wp2_with fail
  refine HS.out.mono ?_
  rintro e w3 ⟨g, rfl, h3⟩
  have HP : Hid (Calls _ _ _ _ _) := wpush w w3 _ b 0 0 _ HT.out h3.two ⟨1, 0, 0, spC, some ⟨g, 0, none⟩, 2⟩ (in15 _ _) (fun w' hw => Own.rcs hw rfl)
  have hpc : pcode [] ⟨1, 0, 0, spC, some ⟨g, 0, none⟩, 2⟩ = 0 := by kernel_rfl
  simp only [hpc] at HP
  generalize hov : OrdE.ag ⟨1, 0, 0, spC, some ⟨g, 0, none⟩, 2⟩ = ov at *
  clear h3 HS hpc hov
  go_wp2_with fail
  refine HP.out.mono ?_
  rintro e w4 ⟨E', rfl, hE, h4⟩
  have hE2 : ∃ a c, E' = [⟨1, 0, 0, spC, a, c⟩] := by
    unfold PushTo at hE
    rw [if_pos ⟨k15, by decide⟩] at hE
    obtain ⟨a, c, rfl⟩ := hE
    exact ⟨a, c, rfl⟩
  obtain ⟨a, c, rfl⟩ := hE2
  have H4 : Hid (∃ x : Wd, x.T = T0 ∧ x.σ.Ok ∧ x.E.length ≤ 1 ∧ (∀ o ∈ x.E, o.In) ∧ Own w w4 (WdT b x 0 0 :: [])) := ⟨_, rfl, Sto.new_ok 8 1 (by decide) (by decide) (by decide) (by decide), by show (1 : Nat) ≤ 1; decide, fun o ho => by
    have : o = ⟨1, 0, 0, spC, a, c⟩ := by simpa using ho
    rw [this]; exact in15 a c, h4.two.tail⟩
  clear h4 hE HP
  go_wp2
  go_loopw [36] (fun vi wr => ∃ (j : Nat) (x : Wd) (K m : Nat), j ≤ k ∧ vi = .int .u32 (j : Int) ∧ x.T = T0 + j ∧ x.σ.Ok ∧ K ≤ 4000 * j ∧ m ≤ 6144 ∧ x.E.length ≤ 1 ∧ (∀ o ∈ x.E, o.In) ∧ Own w wr (WdT b x K m :: [])) (fun vi _ => k - (intOf vi).toNat)
  case atStart =>
    obtain ⟨x, h1, h2, h3, h4, h5⟩ := H4.out
    exact ⟨0, x, 0, 0, Nat.zero_le _, rfl, h1, h2, Nat.zero_le _, Nat.zero_le _, h3, h4, h5⟩
  case round =>
    obtain ⟨j, x, K, m, hj, rfl, hxT, hxo, hK, hm, hxe, hxi, hO⟩ := hrel
    clear H4
    by_cases hjk : j < k
    · have hjk' : (j : Int) < (k : Int) := by omega
      have HST : Hid (Calls _ _ _ _ _) := wstep w wr _ b K m x HT.out hxo (by omega) (by omega) (by have := HTT.out; omega) (by omega) hxi hO
      have HXT : Hid (x.T = T0 + j) := hxT
      generalize hel : x.E.length = el at *
      have HEL : Hid (x.E.length = el) := hel
      clear hO hxo hxi hxT hel
      go_wp2_with fail
      refine HST.out.mono ?_
      rintro e w5 ⟨ra, rc, K', n', P, rfl, hK', hn', hok', _, h5⟩
      have H5 : Hid (∃ (x : Wd) (K m : Nat), x.T = T0 + (j + 1) ∧ x.σ.Ok ∧ K ≤ 4000 * (j + 1) ∧ m ≤ 6144 ∧ x.E.length ≤ 1 ∧ (∀ o ∈ x.E, o.In) ∧ Own w w5 (WdT b x K m :: [])) := ⟨x.next K P, K', n', by show x.T + 1 = _; rw [HXT.out]; omega, hok', by omega, hn', by show (0 : Nat) ≤ 1; decide, (fun o ho => (by cases ho)), h5.tail⟩
      clear h5 hok' HST hK'
      go_wp2
      go_roundw
      case rel =>
        obtain ⟨x, K, m, h1, h2, h3, h4, h5, h6, h7⟩ := H5.out
        exact ⟨j + 1, x, K, m, by omega, by go_num, h1, h2, h3, h4, h5, h6, h7⟩
      case measure => simp [intOf]; omega
    · have hjk' : ¬ (j : Int) < (k : Int) := by omega
      have hxT2 : x.T = 4294967295 := by rw [hxT, show j = k by omega]; exact HTT.out
      have HPE : Hid (Calls _ _ _ _ _) := wpending w wr _ b K m x hO
      have HFW2 : Hid (Calls _ _ _ _ _) := HFW.out wr _ hO
      have HX : Hid (x.T = 4294967295 ∧ x.σ.Ok ∧ K ≤ 20000) := ⟨hxT2, hxo, by omega⟩
      obtain ⟨el, hel⟩ : ∃ el, el = x.E.length := ⟨_, rfl⟩
      rw [← hel] at HPE hxe
      have HEL : Hid (el = x.E.length) := hel
      clear hO hxT hxT2 hxo hxi hel HFW
      go_wp2_with fail
      refine HPE.out.mono ?_
      rintro e w5 ⟨rfl, rfl⟩
      go_wp2_with fail
      refine HFW2.out.mono ?_
      rintro e w6 ⟨la, lc, rfl, h6⟩
      have H6 : Hid (Own w w6 (Row 41 4 (.slice la n lc) n (cat OrdE.cs L) :: WdT b x K m :: [])) := h6
      clear h6 HPE HFW2
      go_wp2
      go_loopw [10, 51] (fun vn vi wr => ∃ (q : Nat) (E : List OrdE) (el : Nat), q ≤ n ∧ vi = .int .i64 (q : Int) ∧ vn = .int .i64 (el : Int) ∧ el = E.length ∧ el ≤ 1 + q ∧ Own w wr (Row 41 4 (.slice la n lc) n (cat OrdE.cs L) :: WdT b { x with E := E } K m :: [])) (fun _ vi _ => n - (intOf vi).toNat)
      case atStart => exact ⟨0, x.E, el, Nat.zero_le _, rfl, rfl, HEL.out, by omega, H6.out⟩
      case round =>
        obtain ⟨q, E, el2, hq, rfl, rfl, hel2, hel3, hO⟩ := hrel
        have HE2 : Hid (el2 = E.length) := hel2
        clear H6 hel2
        by_cases hqn : q < n
        · have hqn' : (q : Int) < (n : Int) := by omega
          obtain ⟨o, ho⟩ : ∃ o, L[q]? = some o := ⟨_, List.getElem?_eq_getElem (by rw [HN.out]; exact hqn)⟩
          obtain ⟨go, oo, hla, c0, c1, c2, c3⟩ := (HRL.out wr la lc _ hO).at q o ho
          obtain ⟨hoC, hoI, _⟩ := HLI.out o (List.mem_of_getElem? ho)
          have hA := hO.two.alloc (.cells #[.int .u8 (o.d : Int), .int .u32 (o.id : Int), .int .u8 (o.k : Int), .slice o.ao o.C.length o.cap] 41)
          have HPU : Hid (Calls _ _ _ _ _) := wpush w _ _ b K m { x with E := E } HT.out hA o hoI (fun w' hw => hoC.quiet hw.fr)
          have HPL : Hid (∀ E', PushTo E o E' → (pcode E o = 0 ∧ E'.length = el2 + 1) ∨ (pcode E o ≠ 0 ∧ E' = E)) := fun E' h => by
            rw [HE2.out]; exact push_len h
          unfold OrdE.ag at HPU
          simp only at HPU
          obtain ⟨pc, hpc⟩ : ∃ pc, pc = pcode E o := ⟨_, rfl⟩
          rw [← hpc] at HPU HPL
          subst hla
          generalize o.C.length = ocl at *
          generalize hod : o.d = od at *
          generalize hoi : o.id = oi at *
          generalize hok : o.k = ok at *
          generalize hoa : o.ao = oa at *
          generalize hoc : o.cap = oc at *
          clear hO hA ho hoC hoI hpc hod hoi hok hoa hoc
          go_wp2_with fail
          refine HPU.out.mono ?_
          rintro e w7 ⟨E', rfl, hE', h7⟩
          have H7 : Hid (Own w w7 (Row 41 4 (.slice (some ⟨go, oo, none⟩) n lc) n (cat OrdE.cs L) :: WdT b { x with E := E' } K m :: [])) := h7.two
          rcases HPL.out E' hE' with ⟨hp0, hpl⟩ | ⟨hp0, hpl⟩
          · subst hp0
            have HPL2 : Hid (E'.length = el2 + 1) := hpl
            clear h7 HPU hE' hpl c0 c1 c2 c3 HPL
            go_wp2
            go_roundw
            case rel => exact ⟨q + 1, E', el2 + 1, by omega, by go_num, by go_num, HPL2.out.symm, by omega, H7.out⟩
            case measure => simp [intOf]; omega
          · have hp1 : (pc == 0) = false := by simp; exact hp0
            have HPL2 : Hid (E' = E) := hpl
            clear h7 HPU hE' hpl hp0 c0 c1 c2 c3 HPL
            go_wp2
            go_roundw
            case rel => exact ⟨q + 1, E', el2, by omega, by go_num, by go_num, by rw [HPL2.out]; exact HE2.out, by omega, H7.out⟩
            case measure => simp [intOf]; omega
        · have hqn' : ¬ (q : Int) < (n : Int) := by omega
          obtain ⟨xT, xo, xK⟩ := HX.out
          have HLS : Hid (∀ W l, Own w W (WdT b { x with E := E } K m :: l) → Calls Tryz.prog 27 #[.pointer (some ⟨b, 0, none⟩)] W fun e w' => ∃ (ao : Option Addr) (cap : Nat) (M : List EnE) (mn : Nat), e = .returned (.slice ao mn cap) ∧ mn = M.length ∧ M.map (fun x => (x.id, x.C)) = x.σ.S.list.map (fun id => (id, x.σ.cps id)) ∧ Own w w' (EntsT ao cap M :: WdT b { x with E := E } K m :: l)) := fun W l h => (wlistT w W l b K m { x with E := E } xo (by omega) h).mono (by
            rintro e w' ⟨ao, cap, M, rfl, h1, h2⟩
            exact ⟨ao, cap, M, _, rfl, rfl, h1, h2⟩)
          have HEO : Hid (∀ M : List EnE, M.map (fun x => (x.id, x.C)) = x.σ.S.list.map (fun id => (id, x.σ.cps id)) → M.length ≤ 1024 ∧ ∀ y ∈ M, y.id < 4294967296 ∧ y.C.length ≤ 6 ∧ ∀ c ∈ y.C, c.k < 256) := fun M h => ents_ok xo h
          have HSE : Hid (∀ W l, Own w W (WdT b { x with E := E } K m :: l) → Calls Tryz.prog 17 #[.pointer (some ⟨b, 0, none⟩)] W fun e w' => e = .returned (.tuple #[.slice none 0 0, .int .i64 11]) ∧ w' = W) := fun W l h => wstep_end w W l b K m { x with E := E } xT h
          have HTI : Hid (∀ W l, Own w W (WdT b { x with E := E } K m :: l) → Calls Tryz.prog 28 #[.pointer (some ⟨b, 0, none⟩)] W fun e w' => e = .returned (.int .u32 4294967295) ∧ w' = W) := fun W l h => by
            have := wtick w W l b K m { x with E := E } h
            simp only [xT] at this
            exact this
          have HPE : Hid (∀ W l, Own w W (WdT b { x with E := E } K m :: l) → Calls Tryz.prog 25 #[.pointer (some ⟨b, 0, none⟩)] W fun e w' => e = .returned (.int .i64 (el2 : Int)) ∧ w' = W) := fun W l h => by
            rw [HE2.out]
            exact wpending w W l b K m { x with E := E } h
          have H8 : Hid (Calls _ _ _ _ _) := HLS.out wr _ hO.tail
          clear hO xT xo xK HX HRL HLI
          go_wp2_with fail
          refine H8.out.mono ?_
          rintro e w7 ⟨a7, c7, M7, m7, rfl, hm7, hM7, h7⟩
          obtain ⟨hl7, hx7⟩ := HEO.out M7 hM7
          have HTW : Hid (Calls _ _ _ _ _) := twins_ents w w7 _ a7 c7 M7 (by omega) (fun y hy => Nat.le_trans (hx7 y hy).2.1 (by decide)) h7
          rw [← hm7] at HTW
          have HM7 : Hid (M7.map (fun x => (x.id, x.C)) = x.σ.S.list.map (fun id => (id, x.σ.cps id))) := hM7
          clear h7 hm7 hM7 hl7 hx7 H8
          go_wp2_with fail
          refine HTW.out.mono ?_
          rintro e w8 ⟨a8, c8, M8, rfl, hM8, h8⟩
          have HM8 : Hid (M8.map (fun x => (x.id, x.C)) = x.σ.S.list.map (fun id => (id, x.σ.cps id))) := by rw [hM8]; exact HM7.out
          obtain ⟨m8, hm8⟩ : ∃ v, v = M8.length := ⟨_, rfl⟩
          have H8m : Hid (m8 = M8.length) := hm8
          rw [← hm8]
          have H9 : Hid (Own w w8 (WdT b { x with E := E } K m :: EntsT a8 c8 M8 :: [])) := h8.two.tail.two
          clear hM8 h8 HTW hm8 HM7
          go_wp2_with fail
          refine (HSE.out _ _ H9.out).mono ?_
          rintro e w9 ⟨rfl, rfl⟩
          go_wp2_with fail
          refine (HTI.out _ _ H9.out).mono ?_
          rintro e w9 ⟨rfl, rfl⟩
          go_wp2_with fail
          refine (HPE.out _ _ H9.out).mono ?_
          rintro e w9 ⟨rfl, rfl⟩
          have H10 : Hid (Calls _ _ _ _ _) := HLS.out _ _ H9.out
          go_wp2_with fail
          refine H10.out.mono ?_
          rintro e w10 ⟨a9, c9, M9, m9, rfl, hm9, hM9, h10⟩
          obtain ⟨hl9, hx9⟩ := HEO.out M9 hM9
          have HSM : Hid (Calls _ _ _ _ _) := same_ents w w10 _ a9 a8 c9 c8 M9 M8 (by rw [hM9, HM8.out]) (by omega) (fun y hy => Nat.le_trans (hx9 y hy).2.1 (by decide)) h10.in23
          rw [← hm9, ← H8m.out] at HSM
          clear h10 hm9 hM9 hl9 hx9 H10 H9
          go_wp2_with fail
          refine HSM.out.mono ?_
          rintro e w11 ⟨rfl, h11⟩
          have HF : Hid (Fr Nobody w w11) := h11.fr
          clear h11 HSM
          go_wp2
          go_ret
          exact ⟨by simp, HF.out⟩
theorem worldEnds_walk (w : World) (ht : Tab w) (a0 : Int) (w0 : (Lit.int .u8 a0).wf = true) (ao : Option Addr) (len cap : Nat) (Q : List OrdE) (hQ : IsOrds w ao len cap Q) :
    Calls Tryz.prog 4 #[.int .u8 a0, .slice ao len cap] w fun e w' => e = .returned (.bool true) ∧ Below w.heap.size w w' := by
  have h1 : 0 ≤ a0 ∧ a0 ≤ 255 := by simpa [Lit.wf, IntKind.min, IntKind.max, IntKind.signed, IntKind.bits] using w0
  obtain ⟨bf, rfl⟩ := Int.eq_ofNat_of_zero_le h1.1
  obtain ⟨hO, hk⟩ := hQ.ords
  refine (worldEnds_fr w ht bf (by omega) ao len cap Q hQ.1 hQ.2.1 hQ.2.2.1 hO hk).mono ?_
  rintro e w' ⟨rfl, hf⟩
  exact ⟨rfl, hf.below (Nat.le_refl _) (fun _ _ h => h)⟩
theorem laidOut : laidOutB Tryz.prog = true := by kernel_rfl

set_option maxRecDepth 100000 in
theorem worldEnds_lifted (os : Os) (started : os.Started) (H : Type) (enc : TypeId × Value → H) :
    ReturnsInHanded {} Tryz.checked os 4 .any (fun w args => (Rows.worldEndsSpec.pre enc Tryz.prog Tryz.f4 [] false w args ∧ laidMetH Tryz.prog laid1 w) ∧ sizedMet enc Tryz.prog Tryz.f4 (OpenSpec.ofChange Rows.worldEndsSpec) false w args) (Rows.worldEndsSpec.post enc Tryz.prog Tryz.f4 false true false false) := by
  refine returnsInHanded_of_change_and (C := Tryz.checked) (X := fun w _ => laidMetH Tryz.prog laid1 w) (fun _ _ _ hh h => h.of_heap hh) own started (by kernel_rfl) Tryz.func4
    (ChangeSpec.witness_shaped (enc := enc) (C := Tryz.checked) (os := os) (X := fun w _ => laidMetH Tryz.prog laid1 w) false (World.doorLaid Tryz.prog 400 os) #[.int .u8 0, .slice none 0 0] 8 rfl (World.shaped_of_RefB (by kernel_rfl) (by kernel_rfl)) (by kernel_rfl) (by kernel_rfl) (by kernel_rfl) (door_met os _)) ?_
  intro W base args ds gs before hval0 hW _ _ hL _
  have hval : ∀ (j : Nat) t v, Tryz.f4.params[j]? = some t → args[j]? = some v → Value.okWide Tryz.prog W .any base t v := hval0
  have hW' := hW
  obtain ⟨p, q, hA0, hV, rfl, hfz, hnd⟩ := hW
  have hA : DataW.TrodAll enc Tryz.prog W 0 (fun _ => true) true Tryz.f4.params.toList args.toList ds p := hA0
  rw [Tryz.params4] at hA hval
  obtain ⟨v0, vs0, d0, ds0, p0, q0, hargs, rfl, rfl, h0, r0⟩ := trodAll_cons hA
  obtain ⟨v1, vs1, d1, ds1, p1, q1, rfl, rfl, rfl, h1, r1⟩ := trodAll_cons r0
  obtain ⟨rfl, rfl, rfl⟩ := trodAll_nil r1
  obtain rfl : args = #[v0, v1] := by cases args; simp_all
  obtain ⟨rfl, rfl⟩ := trodVars_none hV
  obtain ⟨a0, rfl, rfl, rfl, w0⟩ := open_int Tryz.underlying5 (hval 0 5 v0 rfl rfl) h0
  obtain ⟨a1, len1, cap1, rfl⟩ := okWide_slice Tryz.underlying32 (hval 1 32 v1 rfl rfl)
  have k1 := h1
  have lt1 : ∀ x ∈ p1, x.block < W.heap.size := by obtain ⟨m, hm⟩ := k1; exact DataW.trod_lt m _ _ _ hm
  obtain ⟨z1, w1⟩ := open_ops (hval 1 32 _ rfl rfl) h1
  clear hA0 hval0
  refine (worldEnds_walk W (of_laid hL) a0 w0 a1 len1 cap1 z1 w1).mono fun e W' ⟨he, bel⟩ => ?_
  subst he
  exact ⟨_, rfl, _, _, _, [], _, [], hW', trodAll_mk1 (shut_bool Tryz.underlying4 _), (trodAll_cons_mk (shut_int Tryz.underlying5 w0) (trodAll_cons_mk (Below.trod laidOut (by kernel_rfl) (of_decide_eq_true (by kernel_rfl)) k1 bel lt1) trodAll_mk0)), rfl, bel.frame _, fun h => by cases h⟩

theorem worldEnds_row : Rows.WorldEndsSaid :=
  OpenClaim.holds_of_wide 4 Tryz.f4 rfl rfl rfl rfl rfl rfl rfl ⟨rfl, rfl, rfl, rfl, rfl⟩ rfl rfl rfl rfl rfl (by kernel_rfl) Tryz.func4 (by kernel_rfl)
    (of_decide_eq_true (by kernel_rfl)) (by unfold Func.isWrapper; first | (rw [if_pos (by decide +kernel)]; kernel_rfl) | (rw [if_neg (by decide +kernel)]; exact ⟨rfl, rfl⟩))
    (fun os started H enc _ => worldEnds_lifted os started H enc)

theorem worldEnds_holds : Rows.WorldEndsCardSaid :=
  Claim7.holds_tied_plain_at .later [] [.data] true (true, "2f8a0cef1e4715ccb82f497f13138bd08a482695ca7d9b73880919f69546105c") false
    worldEnds_row (fun _ h => by cases h) (by kernel_rfl) (fun _ h => by cases h) worldEnds_row_tie rfl ⟨rfl, rfl⟩ (by kernel_rfl) rfl
    (fun f fn hf hfn => by
      obtain rfl : f = 4 := Option.some.inj ((show Tryz.prog.funcNamed "pinnace/pinnacelaw15.WorldEnds" = some 4 by kernel_rfl).symm.trans hf) |>.symm
      obtain rfl : fn = Tryz.f4 := (Option.some.inj (Tryz.func4.symm.trans hfn)).symm
      exact ⟨by kernel_rfl, fun j t ht => by
        rw [Tryz.params4] at ht
        have hm : t ∈ [5, 32] := by simpa using Array.mem_of_getElem? ht
        have hall : ([5, 32].all fun u => !Tryz.prog.wantsStandIn u) = true := by kernel_rfl
        exact (show Tryz.prog.wantsStandIn t = false by simpa using List.all_eq_true.1 hall t hm)⟩)
    (by kernel_rfl)

end Go.Proofs.YtijfaionpfdblaaGreatDoor
