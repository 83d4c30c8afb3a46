/-
  Every script of things that are put and taken has the document's answers, of a nil box too, and no call waits: MailPlays returns true, whatever its arguments, and changes nothing that was there.
-/
import Derived.Test.YtijhbgkfffnioaaMe
import Derived.Deep.RegionWith
import Derived.Deep.RegionHeld3
import Derived.ProofKit
import Derived.OpenShut
import Derived.ShutString
import Derived.ChangeOld
namespace Go.Proofs.Ytijhbgkfffnioaa
open Go.ChangeShapes Go.WideShapes Go.ChangeAt Go.RowKit Go.Conc
set_option linter.unusedVariables false

theorem own : ownKnob Try.prog.godebug = none := by kernel_rfl
theorem wrap_small (x : Int) (h1 : 0 ≤ x) (h2 : x ≤ 256) : IntKind.i64.wrap x = x := by
  simp [IntKind.wrap, IntKind.bits, IntKind.signed]; omega
theorem i8_rng {n : Int} (h : (Lit.int .i8 n).wf = true) : -128 ≤ n ∧ n ≤ 127 := by
  simpa [Lit.wf, IntKind.min, IntKind.max, IntKind.signed, IntKind.bits] using h
set_option maxHeartbeats 1000000 in
set_option maxRecDepth 100000 in
theorem mall_nil (w0 w : World) (l : List Thing) (h : Own w0 w l) :
    Calls Try.prog 19 #[.pointer none] w fun e w' => ∃ ao cap, e = .returned (.slice ao 0 cap) ∧ Own w0 w' l := by
  obtain ⟨i0, hi, hz0, hz1, hz2⟩ := info_parts Try.infoI64
  obtain ⟨w1, hmk, hO, hf⟩ := make_own (P := Try.prog) h 52 2 i0 (.int .i64 0) 1 Try.underlying52 hi hz0 hz1 0 (by rw [hz2]; omega) (by unfold maxLen; omega)
  have H1 : Hid (Own w0 w1 l) := hO.tail
  rw [show ((0 : Nat) : Int) = 0 from rfl] at hmk
  clear h hO hf
  go_enter Try.func19, Try.ntmps19
  go_wp2_with fail
  refine (mlen_nil w).mono ?_
  rintro e w' ⟨rfl, rfl⟩
  go_wp2_with fail
  refine (mtake_nil w1).mono ?_
  rintro e w2 ⟨rfl, rfl⟩
  go_wp2
  go_loopw [3, 5] (fun lv okv wr => (∃ a c, lv = .slice a 0 c) ∧ okv = .bool false ∧ Own w0 wr l) (fun _ _ _ => 0)
  case atStart => exact ⟨⟨_, _, rfl⟩, rfl, H1.out⟩
  case round =>
    obtain ⟨⟨al, cl, rfl⟩, rfl, hO⟩ := hrel
    have H2 : Hid (Own w0 wr l) := hO
    clear hO
    go_wp2
    go_ret
    exact ⟨_, _, rfl, H2.out⟩

set_option maxHeartbeats 4000000 in
set_option maxRecDepth 100000 in
theorem mailPlays_nil (n : Int) (hn : n < 1 ∨ 256 < n) (w : World) (ao : Option Addr) (len cap : Nat) (Z : List Int) (hmax : len ≤ maxLen) (hZl : Z.length = len) (hZa : Ints .i8 w ao Z) (hZ8 : ∀ x ∈ Z, -128 ≤ x ∧ x ≤ 127) :
    Calls Try.prog 4 #[.int .i64 n, .slice ao len cap] w fun e w' => e = .returned (.bool true) ∧ Fr Nobody w w' := by
  unfold maxLen at hmax
  have HZ : Hid (Z.length = len ∧ Ints .i8 w ao Z ∧ ∀ x ∈ Z, -128 ≤ x ∧ x ≤ 127) := ⟨hZl, hZa, hZ8⟩
  have HN : Hid (n < 1 ∨ 256 < n) := hn
  clear hZl hZa hZ8 hn
  go_enter Try.func4, Try.ntmps4
  go_wp2_with fail
  refine (awake9 w w [] (Own.start _)).mono ?_
  rintro e w1 ⟨rfl, hO⟩
  have H1 : Hid (Own w w1 []) := hO
  clear hO
  go_wp2_with fail
  refine (mnew_no w1 n HN.out).mono ?_
  rintro e w2 ⟨rfl, hw⟩
  subst hw
  go_wp2_with fail
  refine (rbnew_no w2 n HN.out).mono ?_
  rintro e w3 ⟨rfl, hw⟩
  subst hw
  go_wp2
  go_loopw [40] (fun c wr => ∃ k : Nat, k ≤ len ∧ c = .int .i64 k ∧ Own w wr []) (fun c _ => len - (intOf c).toNat)
  case atStart => exact ⟨0, Nat.zero_le _, rfl, H1.out⟩
  case round =>
    obtain ⟨k, hk, rfl, hO⟩ := hrel
    have HO : Hid (Own w wr []) := hO
    clear hO H1
    by_cases hlt : k < len
    · obtain ⟨x, hx⟩ : ∃ x, Z[k]? = some x := ⟨_, List.getElem?_eq_getElem (by rw [HZ.out.1]; exact hlt)⟩
      obtain ⟨g, o0, hao, cx⟩ := int_at (HZ.out.2.1.quiet HO.out.fr) k x hx
      subst hao
      obtain ⟨hx1, hx2⟩ := HZ.out.2.2 x (List.mem_of_getElem? hx)
      have hlt' : (k : Int) < (len : Int) := by omega
      clear hx
      by_cases h300 : k < 300
      · have h300' : (k : Int) < 300 := by omega
        by_cases hp : 0 < x
        · go_wp2_with (first | (go_at_call 17; refine (mput_nil _ _).mono ?_; rintro e w4 ⟨rfl, hw⟩; subst hw) | (go_at_call 18; refine (rbput_nil _ _).mono ?_; rintro e w5 ⟨rfl, hw⟩; subst hw) | (go_at_call 23; refine (mlen_nil _).mono ?_; rintro e w6 ⟨rfl, hw⟩; subst hw) | (go_at_call 24; refine (mroom_nil _).mono ?_; rintro e w7 ⟨rfl, hw⟩; subst hw))
          go_roundw
          case rel => exact ⟨k + 1, by omega, by go_num, HO.out⟩
          case measure => simp [intOf]; omega
        · by_cases h0 : x = 0
          · subst h0
            go_wp2_with fail
            refine (mall_nil w wr [] HO.out).mono ?_
            rintro e w4 ⟨a4, c4, rfl, hO4⟩
            have H4 : Hid (Own w w4 []) := hO4
            clear hO4 HO
            go_wp2_with (first | (go_at_call 23; refine (mlen_nil _).mono ?_; rintro e w6 ⟨rfl, hw⟩; subst hw) | (go_at_call 24; refine (mroom_nil _).mono ?_; rintro e w7 ⟨rfl, hw⟩; subst hw))
            go_roundw
            case rel => exact ⟨k + 1, by omega, by go_num, H4.out⟩
            case measure => simp [intOf]; omega
          · have hx0 : (x == 0) = false := by simpa using h0
            go_wp2_with (first | (go_at_call 21; refine (mtake_nil _).mono ?_; rintro e w4 ⟨rfl, hw⟩; subst hw) | (go_at_call 22; refine (rbtake_nil _).mono ?_; rintro e w5 ⟨rfl, hw⟩; subst hw) | (go_at_call 23; refine (mlen_nil _).mono ?_; rintro e w6 ⟨rfl, hw⟩; subst hw) | (go_at_call 24; refine (mroom_nil _).mono ?_; rintro e w7 ⟨rfl, hw⟩; subst hw))
            go_roundw
            case rel => exact ⟨k + 1, by omega, by go_num, HO.out⟩
            case measure => simp [intOf]; omega
      · have h300' : (300 : Int) ≤ (k : Int) := by omega
        go_wp2
        go_ret
        exact ⟨rfl, HO.out.fr⟩
    · have hlt' : ¬ (k : Int) < (len : Int) := by omega
      go_wp2
      go_ret
      exact ⟨rfl, HO.out.fr⟩

set_option maxHeartbeats 8000000 in
set_option maxRecDepth 100000 in
theorem mailPlays_some (n : Nat) (n1 : 1 ≤ n) (n2 : n ≤ 256) (w : World) (ao : Option Addr) (len cap : Nat) (Z : List Int) (hmax : len ≤ maxLen) (hZl : Z.length = len) (hZa : Ints .i8 w ao Z) (hZ8 : ∀ x ∈ Z, -128 ≤ x ∧ x ≤ 127) :
    Calls Try.prog 4 #[.int .i64 (n : Int), .slice ao len cap] w fun e w' => e = .returned (.bool true) ∧ Fr Nobody w w' := by
  unfold maxLen at hmax
  have HZ : Hid (Z.length = len ∧ Ints .i8 w ao Z ∧ ∀ x ∈ Z, -128 ≤ x ∧ x ≤ 127) := ⟨hZl, hZa, hZ8⟩
  clear hZl hZa hZ8
  go_enter Try.func4, Try.ntmps4
  go_wp2_with fail
  refine (awake9 w w [] (Own.start _)).mono ?_
  rintro e w1 ⟨rfl, hO⟩
  have H1 : Hid (Own w w1 []) := hO
  clear hO
  go_wp2_with fail
  refine (mnew w w1 [] n H1.out n1 n2).mono ?_
  rintro e w2 ⟨b, rfl, hO⟩
  have H2 : Hid (Own w w2 [Bx b n []]) := hO
  clear hO H1
  go_wp2_with fail
  refine (rbnew w w2 _ n H2.out n1 n2).mono ?_
  rintro e w3 ⟨c, rfl, hO⟩
  have H3 : Hid (Own w w3 [Bx b n [], RBx c n []]) := hO.two
  clear hO H2
  go_wp2
  go_loopw [40] (fun cc wr => ∃ k : Nat, k ≤ len ∧ cc = .int .i64 k ∧ ∃ L : List Int, L.length ≤ n ∧ Own w wr [Bx b n L, RBx c n L]) (fun cc _ => len - (intOf cc).toNat)
  case atStart => exact ⟨0, Nat.zero_le _, rfl, [], Nat.zero_le _, H3.out⟩
  case round =>
    obtain ⟨k, hk, rfl, L, hLn, hO⟩ := hrel
    have HO : Hid (Own w wr [Bx b n L, RBx c n L]) := hO
    clear hO H3
    by_cases hlt : k < len
    · obtain ⟨x, hx⟩ : ∃ x, Z[k]? = some x := ⟨_, List.getElem?_eq_getElem (by rw [HZ.out.1]; exact hlt)⟩
      obtain ⟨g, o0, hao, cx⟩ := int_at (HZ.out.2.1.quiet HO.out.fr) k x hx
      subst hao
      obtain ⟨hx1, hx2⟩ := HZ.out.2.2 x (List.mem_of_getElem? hx)
      have hlt' : (k : Int) < (len : Int) := by omega
      clear hx
      by_cases h300 : k < 300
      · have h300' : (k : Int) < 300 := by omega
        by_cases hp : 0 < x
        · by_cases hroom : L.length < n
          · go_wp2_with fail
            refine (mput_room w wr _ b n L x HO.out hroom).mono ?_
            rintro e w4 ⟨rfl, hO4⟩
            have H4 : Hid (Own w w4 [Bx b n (L ++ [x]), RBx c n L]) := hO4
            clear hO4 HO cx
            go_wp2_with fail
            refine (rbput_room w w4 _ c n L x H4.out.two hroom n2).mono ?_
            rintro e w5 ⟨rfl, hO5⟩
            obtain ⟨L', hL'⟩ : ∃ L', L' = L ++ [x] := ⟨_, rfl⟩
            have H5 : Hid (Own w w5 [Bx b n L', RBx c n L']) := by rw [hL']; exact hO5.two
            have hL'n : L'.length ≤ n := by rw [hL']; simp; omega
            clear hO5 H4 hL' hroom hLn
            -- what is told behind it
            obtain ⟨v5, hv5⟩ := Own.ex2.1 H5.out
            obtain ⟨a5, p5, rfl, hlc5, hcm5⟩ := hv5.three.vshape
            have q0 := hv5.two.cell 0
            have q1 := hv5.two.cell 1
            simp at q0 q1
            have HV : Hid (Own w w5 [Bx b n L', Cells c #[.int .i64 (n : Int), .slice a5 L'.length p5] 56, View 1 (.slice a5 L'.length p5) L'.length (lrow L')]) := hv5
            have HC1 : Hid (Calls Try.prog 23 #[.pointer (some ⟨b, 0, none⟩)] w5.drew fun e w' => e = .returned (.int .i64 (L'.length : Int)) ∧ w' = w5.drew) := mlen w w5.drew _ b n L' HV.out.drew
            have HC2 : Hid (Calls Try.prog 24 #[.pointer (some ⟨b, 0, none⟩)] w5.drew fun e w' => e = .returned (.int .i64 ((n : Int) - (L'.length : Int))) ∧ Own w w' [Bx b n L', Cells c #[.int .i64 (n : Int), .slice a5 L'.length p5] 56, View 1 (.slice a5 L'.length p5) L'.length (lrow L')]) := mroom w w5.drew _ b n L' HV.out.drew hL'n n2
            clear hv5 H5 hlc5 hcm5
            generalize hmm : L'.length = m at *
            have hne1 : ((m : Int) != (m : Int)) = false := by simp
            have hne2 : (((n : Int) - (m : Int)) != IntKind.i64.wrap ((n : Int) - (m : Int))) = false := by rw [wrap_small _ (by omega) (by omega)]; simp
            go_wp2_with fail
            go_region_held3 (fun w' => w'.cell? ⟨c, 0, none⟩ = some (.int .i64 (n : Int)) ∧ w'.cell? ⟨c, 1, none⟩ = some (.slice a5 m p5)) (go_keep)
              (first
                | (go_at_call 23; refine HC1.out.mono ?_; rintro e w6 ⟨rfl, rfl⟩)
                | (go_at_call 24; refine HC2.out.mono ?_; rintro e w7 ⟨rfl, hO7⟩
                   have b0 := hO7.two.cell 0
                   have b1 := hO7.two.cell 1
                   simp at b0 b1
                   have H7 : Hid (Own w w7 [Bx b n L', RBx c n L']) := Own.ex2.2 ⟨.slice a5 m p5, by rw [hmm]; exact hO7⟩
                   clear hO7))
            all_goals
              go_wp2
              go_roundw
              case rel => exact ⟨k + 1, by omega, by go_num, L', by omega, H7.out⟩
              case measure => simp [intOf]; omega
          · have hLn2 : L.length = n := by omega
            go_wp2_with fail
            refine (mput_full w wr _ b n L x HO.out (by omega)).mono ?_
            rintro e w4 ⟨rfl, hO4⟩
            have H4 : Hid (Own w w4 [Bx b n L, RBx c n L]) := hO4
            clear hO4 HO cx
            go_wp2_with fail
            refine (rbput_full w w4 _ c n L x H4.out.two hLn2).mono ?_
            rintro e w5 ⟨rfl, hO5⟩
            obtain ⟨L', hL'⟩ : ∃ L', L' = L := ⟨_, rfl⟩
            have H5 : Hid (Own w w5 [Bx b n L', RBx c n L']) := by rw [hL']; exact hO5.two
            have hL'n : L'.length ≤ n := by rw [hL']; exact hLn
            clear hO5 H4 hL' hroom hLn hLn2
            -- what is told behind it
            obtain ⟨v5, hv5⟩ := Own.ex2.1 H5.out
            obtain ⟨a5, p5, rfl, hlc5, hcm5⟩ := hv5.three.vshape
            have q0 := hv5.two.cell 0
            have q1 := hv5.two.cell 1
            simp at q0 q1
            have HV : Hid (Own w w5 [Bx b n L', Cells c #[.int .i64 (n : Int), .slice a5 L'.length p5] 56, View 1 (.slice a5 L'.length p5) L'.length (lrow L')]) := hv5
            have HC1 : Hid (Calls Try.prog 23 #[.pointer (some ⟨b, 0, none⟩)] w5.drew fun e w' => e = .returned (.int .i64 (L'.length : Int)) ∧ w' = w5.drew) := mlen w w5.drew _ b n L' HV.out.drew
            have HC2 : Hid (Calls Try.prog 24 #[.pointer (some ⟨b, 0, none⟩)] w5.drew fun e w' => e = .returned (.int .i64 ((n : Int) - (L'.length : Int))) ∧ Own w w' [Bx b n L', Cells c #[.int .i64 (n : Int), .slice a5 L'.length p5] 56, View 1 (.slice a5 L'.length p5) L'.length (lrow L')]) := mroom w w5.drew _ b n L' HV.out.drew hL'n n2
            clear hv5 H5 hlc5 hcm5
            generalize hmm : L'.length = m at *
            have hne1 : ((m : Int) != (m : Int)) = false := by simp
            have hne2 : (((n : Int) - (m : Int)) != IntKind.i64.wrap ((n : Int) - (m : Int))) = false := by rw [wrap_small _ (by omega) (by omega)]; simp
            go_wp2_with fail
            go_region_held3 (fun w' => w'.cell? ⟨c, 0, none⟩ = some (.int .i64 (n : Int)) ∧ w'.cell? ⟨c, 1, none⟩ = some (.slice a5 m p5)) (go_keep)
              (first
                | (go_at_call 23; refine HC1.out.mono ?_; rintro e w6 ⟨rfl, rfl⟩)
                | (go_at_call 24; refine HC2.out.mono ?_; rintro e w7 ⟨rfl, hO7⟩
                   have b0 := hO7.two.cell 0
                   have b1 := hO7.two.cell 1
                   simp at b0 b1
                   have H7 : Hid (Own w w7 [Bx b n L', RBx c n L']) := Own.ex2.2 ⟨.slice a5 m p5, by rw [hmm]; exact hO7⟩
                   clear hO7))
            all_goals
              go_wp2
              go_roundw
              case rel => exact ⟨k + 1, by omega, by go_num, L', by omega, H7.out⟩
              case measure => simp [intOf]; omega
        · by_cases h0 : x = 0
          · subst h0
            go_wp2_with fail
            refine (mall w wr _ b n L HO.out (by omega)).mono ?_
            rintro e w4 ⟨a4, c4, rfl, hO4⟩
            obtain ⟨v4, hv4⟩ := Own.ex_iff.1 hO4.three
            obtain ⟨b4, d4, rfl, _, _⟩ := hv4.two.vshape
            have q1 := hv4.cell 1
            have hcl := hv4.lt
            simp at q1
            have H4 : Hid (Own w w4 (Cells c #[.int .i64 (n : Int), .slice b4 L.length d4] 56 :: View 1 (.slice b4 L.length d4) L.length (lrow L) :: Row 2 1 (.slice a4 L.length c4) L.length (lrow L) :: Bx b n [] :: [])) := hv4
            have HS : Hid (Calls _ _ _ _ _) := same_I w4 _ _ L H4.out.three.numsI H4.out.two.vnumsI (by omega)
            clear hO4 HO cx hv4
            go_wp2_with fail
            refine HS.out.mono ?_
            rintro e w4b ⟨rfl, hf4⟩
            have H4b : Hid (Own w w4b (Cells c #[.int .i64 (n : Int), .slice b4 L.length d4] 56 :: View 1 (.slice b4 L.length d4) L.length (lrow L) :: Row 2 1 (.slice a4 L.length c4) L.length (lrow L) :: Bx b n [] :: [])) := H4.out.quiet hf4
            have r1 := H4b.out.cell 1
            have z1 := H4b.out.froz 1
            simp at r1
            clear hf4 HS H4 q1 hcl
            obtain ⟨w5, hw5⟩ : ∃ w5, w5 = w4b.setCell ⟨c, 1, none⟩ (.slice none 0 0) := ⟨_, rfl⟩
            obtain ⟨L', hL'⟩ : ∃ L' : List Int, L' = [] := ⟨_, rfl⟩
            have H5 : Hid (Own w w5 [Bx b n L', RBx c n L']) := by
              rw [hw5, hL']
              have h1 := (H4b.out.setC 1 (.slice none 0 0)).two.tail.two.tail.two
              exact Own.ex2.2 ⟨.slice none 0 0, ((h1.nilRow 2 1).view (by decide)).back3⟩
            have hL'n : L'.length ≤ n := by rw [hL']; simp
            clear hL' H4b
            go_wp2_with fail
            rw [← hw5]
            clear hw5 r1 z1
            -- what is told behind it
            obtain ⟨v5, hv5⟩ := Own.ex2.1 H5.out
            obtain ⟨a5, p5, rfl, hlc5, hcm5⟩ := hv5.three.vshape
            have q0 := hv5.two.cell 0
            have q1 := hv5.two.cell 1
            simp at q0 q1
            have HV : Hid (Own w w5 [Bx b n L', Cells c #[.int .i64 (n : Int), .slice a5 L'.length p5] 56, View 1 (.slice a5 L'.length p5) L'.length (lrow L')]) := hv5
            have HC1 : Hid (Calls Try.prog 23 #[.pointer (some ⟨b, 0, none⟩)] w5.drew fun e w' => e = .returned (.int .i64 (L'.length : Int)) ∧ w' = w5.drew) := mlen w w5.drew _ b n L' HV.out.drew
            have HC2 : Hid (Calls Try.prog 24 #[.pointer (some ⟨b, 0, none⟩)] w5.drew fun e w' => e = .returned (.int .i64 ((n : Int) - (L'.length : Int))) ∧ Own w w' [Bx b n L', Cells c #[.int .i64 (n : Int), .slice a5 L'.length p5] 56, View 1 (.slice a5 L'.length p5) L'.length (lrow L')]) := mroom w w5.drew _ b n L' HV.out.drew hL'n n2
            clear hv5 H5 hlc5 hcm5
            generalize hmm : L'.length = m at *
            have hne1 : ((m : Int) != (m : Int)) = false := by simp
            have hne2 : (((n : Int) - (m : Int)) != IntKind.i64.wrap ((n : Int) - (m : Int))) = false := by rw [wrap_small _ (by omega) (by omega)]; simp
            go_region_held3 (fun w' => w'.cell? ⟨c, 0, none⟩ = some (.int .i64 (n : Int)) ∧ w'.cell? ⟨c, 1, none⟩ = some (.slice a5 m p5)) (go_keep)
              (first
                | (go_at_call 23; refine HC1.out.mono ?_; rintro e w6 ⟨rfl, rfl⟩)
                | (go_at_call 24; refine HC2.out.mono ?_; rintro e w7 ⟨rfl, hO7⟩
                   have b0 := hO7.two.cell 0
                   have b1 := hO7.two.cell 1
                   simp at b0 b1
                   have H7 : Hid (Own w w7 [Bx b n L', RBx c n L']) := Own.ex2.2 ⟨.slice a5 m p5, by rw [hmm]; exact hO7⟩
                   clear hO7))
            all_goals
              go_wp2
              go_roundw
              case rel => exact ⟨k + 1, by omega, by go_num, L', by omega, H7.out⟩
              case measure => simp [intOf]; omega
          · have hx0 : (x == 0) = false := by simpa using h0
            cases L with
            | nil =>
              have HT : Hid (∀ w4, Own w w4 [Bx b n [], RBx c n []] → Calls Try.prog 22 #[.pointer (some ⟨c, 0, none⟩)] w4 fun e w' => e = .returned (.tuple #[.int .i64 0, .bool false]) ∧ Own w w' [RBx c n [], Bx b n []]) := fun w4 h => rbtake w w4 _ c n [] h.two (by simp)
              go_wp2_with fail
              refine (mtake_none w wr _ b n HO.out).mono ?_
              rintro e w4 ⟨rfl, hO4⟩
              have H4 : Hid (Own w w4 [Bx b n [], RBx c n []]) := hO4
              clear hO4 HO cx
              go_wp2_with fail
              refine (HT.out w4 H4.out).mono ?_
              rintro e w5 ⟨rfl, hO5⟩
              obtain ⟨L', hL'⟩ : ∃ L' : List Int, L' = [] := ⟨_, rfl⟩
              have H5 : Hid (Own w w5 [Bx b n L', RBx c n L']) := by rw [hL']; exact hO5.two
              have hL'n : L'.length ≤ n := by rw [hL']; simp
              clear hO5 H4 hL' hLn HT
              -- what is told behind it
              obtain ⟨v5, hv5⟩ := Own.ex2.1 H5.out
              obtain ⟨a5, p5, rfl, hlc5, hcm5⟩ := hv5.three.vshape
              have q0 := hv5.two.cell 0
              have q1 := hv5.two.cell 1
              simp at q0 q1
              have HV : Hid (Own w w5 [Bx b n L', Cells c #[.int .i64 (n : Int), .slice a5 L'.length p5] 56, View 1 (.slice a5 L'.length p5) L'.length (lrow L')]) := hv5
              have HC1 : Hid (Calls Try.prog 23 #[.pointer (some ⟨b, 0, none⟩)] w5.drew fun e w' => e = .returned (.int .i64 (L'.length : Int)) ∧ w' = w5.drew) := mlen w w5.drew _ b n L' HV.out.drew
              have HC2 : Hid (Calls Try.prog 24 #[.pointer (some ⟨b, 0, none⟩)] w5.drew fun e w' => e = .returned (.int .i64 ((n : Int) - (L'.length : Int))) ∧ Own w w' [Bx b n L', Cells c #[.int .i64 (n : Int), .slice a5 L'.length p5] 56, View 1 (.slice a5 L'.length p5) L'.length (lrow L')]) := mroom w w5.drew _ b n L' HV.out.drew hL'n n2
              clear hv5 H5 hlc5 hcm5
              generalize hmm : L'.length = m at *
              have hne1 : ((m : Int) != (m : Int)) = false := by simp
              have hne2 : (((n : Int) - (m : Int)) != IntKind.i64.wrap ((n : Int) - (m : Int))) = false := by rw [wrap_small _ (by omega) (by omega)]; simp
              go_wp2_with fail
              go_region_held3 (fun w' => w'.cell? ⟨c, 0, none⟩ = some (.int .i64 (n : Int)) ∧ w'.cell? ⟨c, 1, none⟩ = some (.slice a5 m p5)) (go_keep)
                (first
                  | (go_at_call 23; refine HC1.out.mono ?_; rintro e w6 ⟨rfl, rfl⟩)
                  | (go_at_call 24; refine HC2.out.mono ?_; rintro e w7 ⟨rfl, hO7⟩
                     have b0 := hO7.two.cell 0
                     have b1 := hO7.two.cell 1
                     simp at b0 b1
                     have H7 : Hid (Own w w7 [Bx b n L', RBx c n L']) := Own.ex2.2 ⟨.slice a5 m p5, by rw [hmm]; exact hO7⟩
                     clear hO7))
              all_goals
                go_wp2
                go_roundw
                case rel => exact ⟨k + 1, by omega, by go_num, L', by omega, H7.out⟩
                case measure => simp [intOf]; omega
            | cons y M =>
              have HT : Hid (∀ w4, Own w w4 [Bx b n M, RBx c n (y :: M)] → Calls Try.prog 22 #[.pointer (some ⟨c, 0, none⟩)] w4 fun e w' => e = .returned (.tuple #[.int .i64 y, .bool true]) ∧ Own w w' [RBx c n M, Bx b n M]) := fun w4 h => rbtake w w4 _ c n (y :: M) h.two (by omega)
              go_wp2_with fail
              refine (mtake_some w wr _ b n M y HO.out).mono ?_
              rintro e w4 ⟨rfl, hO4⟩
              have H4 : Hid (Own w w4 [Bx b n M, RBx c n (y :: M)]) := hO4
              clear hO4 HO cx
              go_wp2_with fail
              refine (HT.out w4 H4.out).mono ?_
              rintro e w5 ⟨rfl, hO5⟩
              obtain ⟨L', hL'⟩ : ∃ L' : List Int, L' = M := ⟨_, rfl⟩
              have H5 : Hid (Own w w5 [Bx b n L', RBx c n L']) := by rw [hL']; exact hO5.two
              have hL'n : L'.length ≤ n := by rw [hL']; exact Nat.le_trans (Nat.le_succ M.length) hLn
              clear hO5 H4 hL' hLn HT
              have hdd : (y != y) = false := by simp
              -- what is told behind it
              obtain ⟨v5, hv5⟩ := Own.ex2.1 H5.out
              obtain ⟨a5, p5, rfl, hlc5, hcm5⟩ := hv5.three.vshape
              have q0 := hv5.two.cell 0
              have q1 := hv5.two.cell 1
              simp at q0 q1
              have HV : Hid (Own w w5 [Bx b n L', Cells c #[.int .i64 (n : Int), .slice a5 L'.length p5] 56, View 1 (.slice a5 L'.length p5) L'.length (lrow L')]) := hv5
              have HC1 : Hid (Calls Try.prog 23 #[.pointer (some ⟨b, 0, none⟩)] w5.drew fun e w' => e = .returned (.int .i64 (L'.length : Int)) ∧ w' = w5.drew) := mlen w w5.drew _ b n L' HV.out.drew
              have HC2 : Hid (Calls Try.prog 24 #[.pointer (some ⟨b, 0, none⟩)] w5.drew fun e w' => e = .returned (.int .i64 ((n : Int) - (L'.length : Int))) ∧ Own w w' [Bx b n L', Cells c #[.int .i64 (n : Int), .slice a5 L'.length p5] 56, View 1 (.slice a5 L'.length p5) L'.length (lrow L')]) := mroom w w5.drew _ b n L' HV.out.drew hL'n n2
              clear hv5 H5 hlc5 hcm5
              generalize hmm : L'.length = m at *
              have hne1 : ((m : Int) != (m : Int)) = false := by simp
              have hne2 : (((n : Int) - (m : Int)) != IntKind.i64.wrap ((n : Int) - (m : Int))) = false := by rw [wrap_small _ (by omega) (by omega)]; simp
              go_wp2_with fail
              go_region_held3 (fun w' => w'.cell? ⟨c, 0, none⟩ = some (.int .i64 (n : Int)) ∧ w'.cell? ⟨c, 1, none⟩ = some (.slice a5 m p5)) (go_keep)
                (first
                  | (go_at_call 23; refine HC1.out.mono ?_; rintro e w6 ⟨rfl, rfl⟩)
                  | (go_at_call 24; refine HC2.out.mono ?_; rintro e w7 ⟨rfl, hO7⟩
                     have b0 := hO7.two.cell 0
                     have b1 := hO7.two.cell 1
                     simp at b0 b1
                     have H7 : Hid (Own w w7 [Bx b n L', RBx c n L']) := Own.ex2.2 ⟨.slice a5 m p5, by rw [hmm]; exact hO7⟩
                     clear hO7))
              all_goals
                go_wp2
                go_roundw
                case rel => exact ⟨k + 1, by omega, by go_num, L', by omega, H7.out⟩
                case measure => simp [intOf]; omega
      · have h300' : (300 : Int) ≤ (k : Int) := by omega
        go_wp2
        go_ret
        exact ⟨rfl, HO.out.fr⟩
    · have hlt' : ¬ (k : Int) < (len : Int) := by omega
      go_wp2
      go_ret
      exact ⟨rfl, HO.out.fr⟩
theorem mailPlays_walk (w : World) (a0 : Int) (w0 : (Lit.int .i64 a0).wf = true) (a1 : Option Addr) (len1 cap1 : Nat) (z1 : List Int) (w1 : IsRow .i8 w a1 len1 cap1 z1) :
    Calls Try.prog 4 #[.int .i64 a0, .slice a1 len1 cap1] w fun e w' => e = .returned (.bool true) ∧ Below w.heap.size w w' := by
  obtain ⟨h1, h2, h3, h4⟩ := w1.ints
  have h5 : ∀ x ∈ z1.take len1, -128 ≤ x ∧ x ≤ 127 := fun x hx => i8_rng (h4 x hx)
  by_cases hn : a0 < 1 ∨ 256 < a0
  · exact (mailPlays_nil a0 hn w a1 len1 cap1 _ h2 h1 h3 h5).mono fun e w' ⟨h, f⟩ => ⟨h, f.below (Nat.le_refl _) (fun _ _ h => h)⟩
  · obtain ⟨a, rfl⟩ : ∃ a : Nat, a0 = a := ⟨a0.toNat, by omega⟩
    exact (mailPlays_some a (by omega) (by omega) w a1 len1 cap1 _ h2 h1 h3 h5).mono fun e w' ⟨h, f⟩ => ⟨h, f.below (Nat.le_refl _) (fun _ _ h => h)⟩
theorem laidOut : laidOutB Try.prog = true := by kernel_rfl

set_option maxRecDepth 100000 in
theorem mailPlays_lifted (os : Os) (started : os.Started) (H : Type) (enc : TypeId × Value → H) :
    ReturnsInHanded {} Try.checked os 4 .any (Rows.mailPlaysSpec.pre6 enc Try.prog Try.f4 Rows.mailPlaysRow.domain false) (Rows.mailPlaysSpec.post enc Try.prog Try.f4 false true false false) := by
  refine returnsInHanded_of_change (C := Try.checked) own started (by kernel_rfl) Try.func4
    (ChangeSpec.witness6 (enc := enc) (C := Try.checked) false ⟨#[], #[.int .i64 0, .slice none 0 0], []⟩ 8 (by kernel_rfl) (by kernel_rfl) (by kernel_rfl) (by kernel_rfl)) ?_
  intro W base args ds gs before hval0 hW hcnd _
  have hval : ∀ (j : Nat) t v, Try.f4.params[j]? = some t → args[j]? = some v → Value.okWide Try.prog W .any base t v := hval0
  have hW' := hW
  obtain ⟨p, q, hA0, hV, rfl, hfz, hnd⟩ := hW
  have hA : DataW.TrodAll enc Try.prog W 0 (fun _ => true) true Try.f4.params.toList args.toList ds p := hA0
  rw [Try.params4] at hA hval
  obtain ⟨v0, vs0, d0, ds0, p0, q0, hargs, rfl, rfl, h0, r0⟩ := trodAll_cons hA
  obtain ⟨v1, vs1, d1, ds1, p1, q1, rfl, rfl, rfl, h1, r1⟩ := trodAll_cons r0
  obtain ⟨rfl, rfl, rfl⟩ := trodAll_nil r1
  obtain rfl : args = #[v0, v1] := by cases args; simp_all
  obtain ⟨rfl, rfl⟩ := trodVars_none hV
  obtain ⟨a0, rfl, rfl, rfl, w0⟩ := open_int Try.underlying3 (hval 0 3 v0 rfl rfl) h0
  obtain ⟨a1, len1, cap1, rfl⟩ := okWide_slice Try.underlying42 (hval 1 42 v1 rfl rfl)
  have k1 := h1
  have lt1 : ∀ x ∈ p1, x.block < W.heap.size := by obtain ⟨m, hm⟩ := k1; exact DataW.trod_lt m _ _ _ hm
  obtain ⟨z1, w1⟩ : ∃ zs, IsRow .i8 W a1 len1 cap1 zs := by
    obtain ⟨fuel, hf⟩ := h1
    rcases open_ints Try.underlying42 Try.underlying49 (by kernel_rfl) hf with ⟨hcs, _⟩ | ⟨x, l, c, zs, hcs, _, hl, hm, hz, _, hcell, hwz⟩
    · simp [Value.cells] at hcs
      obtain ⟨rfl, rfl, rfl⟩ := hcs
      exact ⟨[], .inl ⟨rfl, rfl, rfl, rfl⟩⟩
    · simp [Value.cells] at hcs
      obtain ⟨rfl, rfl, rfl⟩ := hcs
      exact ⟨zs, .inr ⟨_, rfl, hl, hm, by simpa using hz, hcell, hwz⟩⟩
  clear hA0 hval0
  refine (mailPlays_walk W a0 w0 a1 len1 cap1 z1 w1).mono fun e W' ⟨he, bel⟩ => ?_
  subst he
  exact ⟨_, rfl, _, _, _, [], _, [], hW', trodAll_mk1 (shut_bool Try.underlying4 _), (trodAll_cons_mk (shut_int Try.underlying3 w0) (trodAll_cons_mk (Below.trod laidOut (by kernel_rfl) (of_decide_eq_true (by kernel_rfl)) k1 bel lt1) trodAll_mk0)), rfl, bel.frame _, fun h => by cases h⟩

theorem mailPlays_holds : Rows.MailPlaysSaid :=
  OpenClaim.holds_of_wide 4 Try.f4 rfl rfl rfl rfl rfl rfl rfl ⟨rfl, rfl, rfl, rfl, rfl⟩ rfl rfl rfl rfl rfl (by kernel_rfl) Try.func4 (by kernel_rfl)
    (of_decide_eq_true (by kernel_rfl)) (by unfold Func.isWrapper; first | (rw [if_pos (by decide +kernel)]; kernel_rfl) | (rw [if_neg (by decide +kernel)]; exact ⟨rfl, rfl⟩))
    (fun os started H enc _ => mailPlays_lifted os started H enc)

end Go.Proofs.Ytijhbgkfffnioaa
