/-
  Form, of the program and of the document.
-/
import Derived.Test.YtfhfcfobgemcpaaGreatDoorSndg
import Derived.Test.YtfhfcfobgemcpaaGreatDoorZo
import Derived.OpenShut
namespace Go.Proofs.YtfhfcfobgemcpaaGreatDoor
open Go.RowKit
set_option linter.unusedVariables false
set_option maxRecDepth 100000

set_option maxHeartbeats 8000000 in
theorem form_any (w : World) (ht : Tab w) (ao : Option Addr) (n cap : Nat) (L : List EnE) (h : EntsAt w ao L) (hn : L.length = n) (hI : EIn L) (hz : esz L ≤ 1000000) :
    Calls Tryz.prog 40 #[.slice ao n cap] w fun e w' => e = .returned (.int .i64 ((fm 0 (evs L) : Nat) : Int)) ∧ Fr Nobody w w' := by
  have hm : n ≤ 1000000 := by unfold esz at hz; omega
  have HL : Hid (L.length = n ∧ EntsAt w ao L ∧ EIn L ∧ Tab w ∧ ∀ x ∈ L, x.C.length ≤ 1000000) := ⟨hn, h, hI, ht, fun x hx => by have := csz_mem hx; unfold esz at hz; omega⟩
  clear hn h hI hz ht
  go_enter Tryz.func40, Tryz.ntmps40
  go_wp2
  go_loopw [8] (fun c wr => ∃ j : Nat, j ≤ n ∧ c = .int .i64 j ∧ fm (prvE (evs L) j) ((evs L).drop j) = fm 0 (evs L) ∧ Fr Nobody w wr) (fun c _ => n - (intOf c).toNat)
  case atStart => exact ⟨0, Nat.zero_le _, rfl, rfl, Fr.refl _ _⟩
  case round =>
    obtain ⟨j, hj, rfl, hI, hf⟩ := hrel
    have HI : Hid (fm (prvE (evs L) j) ((evs L).drop j) = fm 0 (evs L)) := hI
    have HF : Hid (Fr Nobody w wr) := hf
    clear hI hf
    by_cases hlt : j < n
    · obtain ⟨x, hx⟩ : ∃ x, L[j]? = some x := ⟨_, List.getElem?_eq_getElem (by rw [HL.out.1]; exact hlt)⟩
      obtain ⟨g, o, hao, c0, c1, _⟩ := (HL.out.2.1.quiet HF.out).at hx
      have hmx := List.mem_of_getElem? hx
      obtain ⟨hid, hkk⟩ := HL.out.2.2.1 x hmx
      have hlt' : (j : Int) < (n : Int) := by omega
      have hX := evs_at hx
      have HFW : Hid (Fr Nobody w (wr.alloc (.cells #[.int .u32 (x.id : Int), .slice x.ao x.C.length x.cap] 67))) := HF.out.alloc _
      obtain ⟨p, hp⟩ : ∃ p, prvE (evs L) j = p := ⟨_, rfl⟩
      obtain ⟨ls, hls⟩ : ∃ l, lst (-1) x.C = l := ⟨_, rfl⟩
      obtain ⟨uu, huu⟩ : ∃ u, un x.C = u := ⟨_, rfl⟩
      have HLS : Hid (∀ W, Fr Nobody w W → Calls Tryz.prog 99 #[.slice x.ao x.C.length x.cap] W fun e w' => e = .returned (.int .i64 (ls : Int)) ∧ Fr Nobody W w') := fun W hW => by
        rw [← hls]; exact list_any W (HL.out.2.2.2.1.quiet hW) x.ao x.C.length x.cap x.C rfl ((HL.out.2.1.2 x hmx).quiet hW) hkk (HL.out.2.2.2.2 x hmx)
      have HUN : Hid (∀ W, Fr Nobody w W → Calls Tryz.prog 100 #[.slice x.ao x.C.length x.cap, .func (.func 101) #[] #[]] W fun e w' => e = .returned (.bool uu) ∧ Fr Nobody W w') := fun W hW => by
        rw [← huu]; exact hasUn_any W (HL.out.2.2.2.1.quiet hW) x.ao x.C.length x.cap x.C rfl ((HL.out.2.1.2 x hmx).quiet hW) hkk (by have := HL.out.2.2.2.2 x hmx; omega)
      have HB4 : Hid ((x.id / 1024 < 1 ∨ x.id ≤ p) → fm 0 (evs L) = 4) := fun hc => by
        have e := ent1_a (p := p) (x := (x.id, x.C)) hc
        rw [← hp] at e
        rw [fm_bad hX HI.out (by rw [e]; decide), e]
      have HBL : Hid (¬ (x.id / 1024 < 1 ∨ x.id ≤ p) → ls ≠ 0 → fm 0 (evs L) = ls) := fun hc h2 => by
        have e := ent1_b (p := p) (x := (x.id, x.C)) hc (by rw [hls]; exact h2)
        rw [← hp, hls] at e
        rw [fm_bad hX HI.out (by rw [e]; exact h2), e]
      have HBU : Hid (¬ (x.id / 1024 < 1 ∨ x.id ≤ p) → ls = 0 → uu = true → fm 0 (evs L) = 4) := fun hc h2 h3 => by
        have e := ent1_c (p := p) (x := (x.id, x.C)) hc (by rw [hls]; exact h2) (by rw [huu]; exact h3)
        rw [← hp] at e
        rw [fm_bad hX HI.out (by rw [e]; decide), e]
      have HON : Hid (¬ (x.id / 1024 < 1 ∨ x.id ≤ p) → ls = 0 → uu = false → fm (prvE (evs L) (j + 1)) ((evs L).drop (j + 1)) = fm 0 (evs L)) := fun hc h2 h3 => by
        have e := ent1_d (p := p) (x := (x.id, x.C)) hc (by rw [hls]; exact h2) (by rw [huu]; exact h3)
        rw [← hp] at e
        exact fm_on hX HI.out e
      have hl5 : ls < 4294967296 := by rw [← hls]; exact lst_small x.C
      have HPV : Hid (prvE (evs L) j = p) := hp
      obtain ⟨ok, hok⟩ : ∃ ok, decide (1 ≤ x.id / 1024) = ok := ⟨_, rfl⟩
      have HID : Hid (∀ W, Calls Tryz.prog 98 #[.int .u32 (x.id : Int)] W fun e w' => e = .returned (.bool ok) ∧ w' = W) := fun W => by rw [← hok]; exact isID_any x.id W hid
      have b0 : ∀ f : FrOf (wr.alloc (.cells #[.int .u32 (x.id : Int), .slice x.ao x.C.length x.cap] 67)), f.val.cell? ⟨wr.heap.size, 0, none⟩ = some (.int .u32 (x.id : Int)) := fun f => (((Own.start wr).allocC _ _).quiet f.fr).cell 0
      have b1 : ∀ f : FrOf (wr.alloc (.cells #[.int .u32 (x.id : Int), .slice x.ao x.C.length x.cap] 67)), f.val.cell? ⟨wr.heap.size, 1, none⟩ = some (.slice x.ao x.C.length x.cap) := fun f => (((Own.start wr).allocC _ _).quiet f.fr).cell 1
      by_cases hid1 : 1 ≤ x.id / 1024
      · have hokt : ok = true := by rw [← hok]; exact decide_eq_true hid1
        subst hokt
        rcases j with _ | i
        · have hp0 : p = 0 := by rw [← hp]; rfl
          have HC : Hid (¬ (x.id / 1024 < 1 ∨ x.id ≤ p)) := by show ¬ _; omega
          simp only [Nat.zero_mul, Nat.add_zero] at c0 c1
          have hlt0 : (0 : Int) < (n : Int) := by omega
          subst hao
          clear hx hmx hkk hls huu hp hok hX hid1 hp0 hid HI HPV
          obtain ⟨xi, xa, xc, C⟩ := x
          simp only at c0 c1 HLS HUN HB4 HBL HBU HON HID b0 b1 HC HFW
          generalize C.length = cl at *
          go_wp2
          generalize hWg : wr.alloc (.cells #[.int .u32 (xi : Int), .slice xa cl xc] 67) = W1 at *
          generalize wr.heap.size = b at *
          clear hWg
          refine wp_region_fr (by kernel_rfl) (by kernel_rfl) ?_
          repeat (with_reducible refine wpQuiet_step (fun K hK => ?_)
                  go_simp
                  first
                    | (refine hK _ ?_; clear hK K)
                    | (apply Exists.intro
                       refine ⟨fun _ => ?_, hK _ ?_⟩
                       (go_at_call 98; with_reducible refine Calls.fr_same (HID.out _))
                       clear hK K))
          refine wpQuiet_nil ?_
          rintro w' ⟨f, rfl⟩
          have HF2 : Hid (Fr Nobody w f.val) := HFW.out.trans f.fr
          have HB2 : Hid (∀ w', Fr Nobody f.val w' → w'.cell? ⟨b, 0, none⟩ = some (.int .u32 (xi : Int)) ∧ w'.cell? ⟨b, 1, none⟩ = some (.slice xa cl xc)) := fun w' hf => ⟨b0 ⟨w', f.fr.trans hf⟩, b1 ⟨w', f.fr.trans hf⟩⟩
          have e1 := b1 f
          generalize f.val = W2 at *
          clear HID b0 b1
          go_wp2_with fail
          refine (HLS.out _ HF2.out).mono ?_
          rintro e W3 ⟨rfl, hf3⟩
          have HF3 : Hid (Fr Nobody w W3) := HF2.out.trans hf3
          have e3 := (HB2.out W3 hf3).2
          clear hf3 e1 HB2 HF2 HLS
          by_cases hl0 : ls = 0
          · subst hl0
            go_wp2_with fail
            refine (HUN.out _ HF3.out).mono ?_
            rintro e W4 ⟨rfl, hf4⟩
            have HF4 : Hid (Fr Nobody w W4) := HF3.out.trans hf4
            clear hf4 e3 HF3 HUN
            cases uu
            · have HN : Hid (fm (prvE (evs L) (0 + 1)) ((evs L).drop (0 + 1)) = fm 0 (evs L)) := HON.out HC.out (by trivial) (by trivial)
              clear HON HBL HBU HB4
              go_wp2
              go_roundw
              case rel => exact ⟨0 + 1, by omega, by go_num, HN.out, HF4.out⟩
              case measure => simp [intOf]; omega
            · have HN : Hid (fm 0 (evs L) = 4) := HBU.out HC.out (by trivial) (by trivial)
              clear HON HBL HBU HB4
              go_wp2
              go_ret
              exact ⟨by rw [HN.out]; rfl, HF4.out⟩
          · have HN : Hid (fm 0 (evs L) = ls) := HBL.out HC.out hl0
            have hl1 : ((ls : Int) != 0) = true := by simpa using hl0
            clear HON HBL HBU HB4
            go_wp2
            go_ret
            exact ⟨by rw [HN.out]; rfl, HF3.out⟩
        · obtain ⟨y, hy⟩ : ∃ y, L[i]? = some y := ⟨_, List.getElem?_eq_getElem (by rw [HL.out.1]; omega)⟩
          have hpy : p = y.id := by rw [← hp]; simp [prvE, evs_at hy]
          have d0 : ∀ f : FrOf (wr.alloc (.cells #[.int .u32 (x.id : Int), .slice x.ao x.C.length x.cap] 67)), f.val.cell? ⟨g, o + i * 2, none⟩ = some (.int .u32 (p : Int)) := fun f => by
            obtain ⟨g', o', hg', h0, _, _⟩ := (HL.out.2.1.quiet (HFW.out.trans f.fr)).at hy
            rw [hao] at hg'
            cases hg'
            rw [hpy]; exact h0
          have hyid := (HL.out.2.2.1 y (List.mem_of_getElem? hy)).1
          rw [← hpy] at hyid
          have hwi : IntKind.i64.wrap (i : Int) = (i : Int) := by rw [IntKind.wrap_i64]; omega
          have hin : (i : Int) < (n : Int) := by omega
          subst hao
          by_cases hle : x.id ≤ p
          · have HC : Hid (x.id / 1024 < 1 ∨ x.id ≤ p) := .inr hle
            have hle' : (x.id : Int) ≤ (p : Int) := by omega
            clear hx hmx hkk hls huu hp hok hX hid1 hid HI HPV hy hpy hle
            obtain ⟨xi, xa, xc, C⟩ := x
            simp only at c0 c1 HLS HUN HB4 HBL HBU HON HID b0 b1 HC HFW d0 hle'
            generalize C.length = cl at *
            go_wp2
            generalize hWg : wr.alloc (.cells #[.int .u32 (xi : Int), .slice xa cl xc] 67) = W1 at *
            generalize wr.heap.size = b at *
            clear hWg
            refine wp_region_fr (by kernel_rfl) (by kernel_rfl) ?_
            repeat (with_reducible refine wpQuiet_step (fun K hK => ?_)
                    go_simp
                    first
                      | (refine hK _ ?_; clear hK K)
                      | (apply Exists.intro
                         refine ⟨fun _ => ?_, hK _ ?_⟩
                         (go_at_call 98; with_reducible refine Calls.fr_same (HID.out _))
                         clear hK K))
            refine wpQuiet_nil ?_
            rintro w' ⟨f, rfl⟩
            have HF2 : Hid (Fr Nobody w f.val) := HFW.out.trans f.fr
            have HB2 : Hid (∀ w', Fr Nobody f.val w' → w'.cell? ⟨b, 0, none⟩ = some (.int .u32 (xi : Int)) ∧ w'.cell? ⟨b, 1, none⟩ = some (.slice xa cl xc)) := fun w' hf => ⟨b0 ⟨w', f.fr.trans hf⟩, b1 ⟨w', f.fr.trans hf⟩⟩
            have e1 := b1 f
            generalize f.val = W2 at *
            clear HID b0 b1
            clear d0
            have HN : Hid (fm 0 (evs L) = 4) := HB4.out HC.out
            clear HON HBL HBU HB4 HLS HUN
            go_wp2
            go_ret
            exact ⟨by rw [HN.out]; rfl, HF2.out⟩
          · have HC : Hid (¬ (x.id / 1024 < 1 ∨ x.id ≤ p)) := by show ¬ _; omega
            have hle' : ¬ (x.id : Int) ≤ (p : Int) := by omega
            clear hx hmx hkk hls huu hp hok hX hid1 hid HI HPV hy hpy hle
            obtain ⟨xi, xa, xc, C⟩ := x
            simp only at c0 c1 HLS HUN HB4 HBL HBU HON HID b0 b1 HC HFW d0 hle'
            generalize C.length = cl at *
            go_wp2
            generalize hWg : wr.alloc (.cells #[.int .u32 (xi : Int), .slice xa cl xc] 67) = W1 at *
            generalize wr.heap.size = b at *
            clear hWg
            refine wp_region_fr (by kernel_rfl) (by kernel_rfl) ?_
            repeat (with_reducible refine wpQuiet_step (fun K hK => ?_)
                    go_simp
                    first
                      | (refine hK _ ?_; clear hK K)
                      | (apply Exists.intro
                         refine ⟨fun _ => ?_, hK _ ?_⟩
                         (go_at_call 98; with_reducible refine Calls.fr_same (HID.out _))
                         clear hK K))
            refine wpQuiet_nil ?_
            rintro w' ⟨f, rfl⟩
            have HF2 : Hid (Fr Nobody w f.val) := HFW.out.trans f.fr
            have HB2 : Hid (∀ w', Fr Nobody f.val w' → w'.cell? ⟨b, 0, none⟩ = some (.int .u32 (xi : Int)) ∧ w'.cell? ⟨b, 1, none⟩ = some (.slice xa cl xc)) := fun w' hf => ⟨b0 ⟨w', f.fr.trans hf⟩, b1 ⟨w', f.fr.trans hf⟩⟩
            have e1 := b1 f
            generalize f.val = W2 at *
            clear HID b0 b1
            clear d0
            go_wp2_with fail
            refine (HLS.out _ HF2.out).mono ?_
            rintro e W3 ⟨rfl, hf3⟩
            have HF3 : Hid (Fr Nobody w W3) := HF2.out.trans hf3
            have e3 := (HB2.out W3 hf3).2
            clear hf3 e1 HB2 HF2 HLS
            by_cases hl0 : ls = 0
            · subst hl0
              go_wp2_with fail
              refine (HUN.out _ HF3.out).mono ?_
              rintro e W4 ⟨rfl, hf4⟩
              have HF4 : Hid (Fr Nobody w W4) := HF3.out.trans hf4
              clear hf4 e3 HF3 HUN
              cases uu
              · have HN : Hid (fm (prvE (evs L) ((i + 1) + 1)) ((evs L).drop ((i + 1) + 1)) = fm 0 (evs L)) := HON.out HC.out (by trivial) (by trivial)
                clear HON HBL HBU HB4
                go_wp2
                go_roundw
                case rel => exact ⟨(i + 1) + 1, by omega, by go_num, HN.out, HF4.out⟩
                case measure => simp [intOf]; omega
              · have HN : Hid (fm 0 (evs L) = 4) := HBU.out HC.out (by trivial) (by trivial)
                clear HON HBL HBU HB4
                go_wp2
                go_ret
                exact ⟨by rw [HN.out]; rfl, HF4.out⟩
            · have HN : Hid (fm 0 (evs L) = ls) := HBL.out HC.out hl0
              have hl1 : ((ls : Int) != 0) = true := by simpa using hl0
              clear HON HBL HBU HB4
              go_wp2
              go_ret
              exact ⟨by rw [HN.out]; rfl, HF3.out⟩
      · have hokt : ok = false := by rw [← hok]; exact decide_eq_false hid1
        have HC : Hid (x.id / 1024 < 1 ∨ x.id ≤ p) := .inl (by omega)
        subst hokt hao
        clear hx hmx hkk hls huu hp hok hX hid1 hid HI HPV
        obtain ⟨xi, xa, xc, C⟩ := x
        simp only at c0 c1 HLS HUN HB4 HBL HBU HON HID b0 b1 HC HFW
        generalize C.length = cl at *
        go_wp2
        generalize hWg : wr.alloc (.cells #[.int .u32 (xi : Int), .slice xa cl xc] 67) = W1 at *
        generalize wr.heap.size = b at *
        clear hWg
        refine wp_region_fr (by kernel_rfl) (by kernel_rfl) ?_
        repeat (with_reducible refine wpQuiet_step (fun K hK => ?_)
                go_simp
                first
                  | (refine hK _ ?_; clear hK K)
                  | (apply Exists.intro
                     refine ⟨fun _ => ?_, hK _ ?_⟩
                     (go_at_call 98; with_reducible refine Calls.fr_same (HID.out _))
                     clear hK K))
        refine wpQuiet_nil ?_
        rintro w' ⟨f, rfl⟩
        have HF2 : Hid (Fr Nobody w f.val) := HFW.out.trans f.fr
        have HB2 : Hid (∀ w', Fr Nobody f.val w' → w'.cell? ⟨b, 0, none⟩ = some (.int .u32 (xi : Int)) ∧ w'.cell? ⟨b, 1, none⟩ = some (.slice xa cl xc)) := fun w' hf => ⟨b0 ⟨w', f.fr.trans hf⟩, b1 ⟨w', f.fr.trans hf⟩⟩
        have e1 := b1 f
        generalize f.val = W2 at *
        clear HID b0 b1
        have HN : Hid (fm 0 (evs L) = 4) := HB4.out HC.out
        clear HON HBL HBU HB4 HLS HUN
        go_wp2
        go_ret
        exact ⟨by rw [HN.out]; rfl, HF2.out⟩
    · have hlt' : ¬ (j : Int) < (n : Int) := by omega
      have HN : Hid (fm 0 (evs L) = 0) := fm_end HI.out (by rw [evs_len, HL.out.1]; omega)
      go_wp2
      go_ret
      exact ⟨by rw [HN.out]; rfl, HF.out⟩
end Go.Proofs.YtfhfcfobgemcpaaGreatDoor

/-
  The document's Form.
-/
namespace Go.Proofs.YtfhfcfobgemcpaaGreatDoor
open Go.RowKit
set_option linter.unusedVariables false
set_option maxRecDepth 100000

set_option maxHeartbeats 8000000 in
theorem rform_any (w : World) (ao : Option Addr) (n cap : Nat) (L : List EnE) (h : EntsAt w ao L) (hn : L.length = n) (hI : EIn L) (hz : esz L ≤ 1000000) :
    Calls Tryz.prog 41 #[.slice ao n cap] w fun e w' => e = .returned (.int .i64 ((fm 0 (evs L) : Nat) : Int)) ∧ Fr Nobody w w' := by
  have hm : n ≤ 1000000 := by unfold esz at hz; omega
  have HL : Hid (L.length = n ∧ EntsAt w ao L ∧ EIn L ∧ ∀ x ∈ L, x.C.length ≤ 1000000) := ⟨hn, h, hI, fun x hx => by have := csz_mem hx; unfold esz at hz; omega⟩
  clear hn h hI hz
  go_enter Tryz.func41, Tryz.ntmps41
  go_wp2
  go_loopw [11] (fun c wr => ∃ j : Nat, j ≤ n ∧ c = .int .i64 j ∧ fm (prvE (evs L) j) ((evs L).drop j) = fm 0 (evs L) ∧ Fr Nobody w wr) (fun c _ => n - (intOf c).toNat)
  case atStart => exact ⟨0, Nat.zero_le _, rfl, rfl, Fr.refl _ _⟩
  case round =>
    obtain ⟨j, hj, rfl, hI, hf⟩ := hrel
    have HI : Hid (fm (prvE (evs L) j) ((evs L).drop j) = fm 0 (evs L)) := hI
    have HF : Hid (Fr Nobody w wr) := hf
    clear hI hf
    by_cases hlt : j < n
    · obtain ⟨x, hx⟩ : ∃ x, L[j]? = some x := ⟨_, List.getElem?_eq_getElem (by rw [HL.out.1]; exact hlt)⟩
      obtain ⟨g, o, hao, c0, c1, _⟩ := (HL.out.2.1.quiet HF.out).at hx
      have hmx := List.mem_of_getElem? hx
      obtain ⟨hid, hkk⟩ := HL.out.2.2.1 x hmx
      have hlt' : (j : Int) < (n : Int) := by omega
      have hX := evs_at hx
      have HFW : Hid (Fr Nobody w (wr.alloc (.cells #[.int .u32 (x.id : Int), .slice x.ao x.C.length x.cap] 67))) := HF.out.alloc _
      obtain ⟨p, hp⟩ : ∃ p, prvE (evs L) j = p := ⟨_, rfl⟩
      obtain ⟨ls, hls⟩ : ∃ l, lst (-1) x.C = l := ⟨_, rfl⟩
      obtain ⟨uu, huu⟩ : ∃ u, un x.C = u := ⟨_, rfl⟩
      have HCL : Hid (x.C.length = x.C.length ∧ Cs w x.ao x.C ∧ ∀ q ∈ x.C, q.k < 256) := ⟨rfl, HL.out.2.1.2 x hmx, hkk⟩
      have HUU : Hid (uu = un x.C) := huu.symm
      have hcb := HL.out.2.2.2 x hmx
      have HTL : Hid True := trivial
      have HLS : Hid (∀ W, Fr Nobody w W → Calls Tryz.prog 90 #[.slice x.ao x.C.length x.cap] W fun e w' => e = .returned (.int .i64 (ls : Int)) ∧ Fr Nobody W w') := fun W hW => by
        rw [← hls]; exact rlist_any W x.ao x.C.length x.cap x.C rfl ((HL.out.2.1.2 x hmx).quiet hW) hkk (HL.out.2.2.2 x hmx)
      have HB4 : Hid ((x.id / 1024 < 1 ∨ x.id ≤ p) → fm 0 (evs L) = 4) := fun hc => by
        have e := ent1_a (p := p) (x := (x.id, x.C)) hc
        rw [← hp] at e
        rw [fm_bad hX HI.out (by rw [e]; decide), e]
      have HBL : Hid (¬ (x.id / 1024 < 1 ∨ x.id ≤ p) → ls ≠ 0 → fm 0 (evs L) = ls) := fun hc h2 => by
        have e := ent1_b (p := p) (x := (x.id, x.C)) hc (by rw [hls]; exact h2)
        rw [← hp, hls] at e
        rw [fm_bad hX HI.out (by rw [e]; exact h2), e]
      have HBU : Hid (¬ (x.id / 1024 < 1 ∨ x.id ≤ p) → ls = 0 → uu = true → fm 0 (evs L) = 4) := fun hc h2 h3 => by
        have e := ent1_c (p := p) (x := (x.id, x.C)) hc (by rw [hls]; exact h2) (by rw [huu]; exact h3)
        rw [← hp] at e
        rw [fm_bad hX HI.out (by rw [e]; decide), e]
      have HON : Hid (¬ (x.id / 1024 < 1 ∨ x.id ≤ p) → ls = 0 → uu = false → fm (prvE (evs L) (j + 1)) ((evs L).drop (j + 1)) = fm 0 (evs L)) := fun hc h2 h3 => by
        have e := ent1_d (p := p) (x := (x.id, x.C)) hc (by rw [hls]; exact h2) (by rw [huu]; exact h3)
        rw [← hp] at e
        exact fm_on hX HI.out e
      have hl5 : ls < 4294967296 := by rw [← hls]; exact lst_small x.C
      obtain ⟨ge, hge⟩ : ∃ ge, x.id / 1024 = ge := ⟨_, rfl⟩
      have hge2 : (ge : Int) ≤ 4194303 := by omega
      have HG : Hid (∀ W, Calls Tryz.prog 102 #[.int .u32 (x.id : Int)] W fun e w' => e = .returned (.int .i64 (ge : Int)) ∧ w' = W) := fun W => by rw [← hge]; exact rgen_e x.id W hid
      have b0 : ∀ f : FrOf (wr.alloc (.cells #[.int .u32 (x.id : Int), .slice x.ao x.C.length x.cap] 67)), f.val.cell? ⟨wr.heap.size, 0, none⟩ = some (.int .u32 (x.id : Int)) := fun f => (((Own.start wr).allocC _ _).quiet f.fr).cell 0
      have b1 : ∀ f : FrOf (wr.alloc (.cells #[.int .u32 (x.id : Int), .slice x.ao x.C.length x.cap] 67)), f.val.cell? ⟨wr.heap.size, 1, none⟩ = some (.slice x.ao x.C.length x.cap) := fun f => (((Own.start wr).allocC _ _).quiet f.fr).cell 1
      by_cases hid1 : 1 ≤ ge
      · have hg1 : ¬ (ge : Int) < 1 := by omega
        have hg3 : ¬ (4194303 : Int) < (ge : Int) := by omega
        rcases j with _ | i
        · have hp0 : p = 0 := by rw [← hp]; rfl
          have HC : Hid (¬ (x.id / 1024 < 1 ∨ x.id ≤ p)) := by show ¬ _; omega
          simp only [Nat.zero_mul, Nat.add_zero] at c0 c1
          have hlt0 : (0 : Int) < (n : Int) := by omega
          subst hao
          clear hx hmx hkk hls huu hp hX hid1 hp0 hid HI hge
          obtain ⟨xi, xa, xc, C⟩ := x
          simp only at c0 c1 HLS HB4 HBL HBU HON HC HFW HG HCL HUU hcb b0 b1
          generalize hclE : C.length = cl at *
          have HCE : Hid (C.length = cl) := hclE
          clear hclE
          have q0 := b0 ⟨_, Fr.refl _ _⟩
          simp only at q0
          go_wp2_with fail
          refine (HG.out _).mono ?_
          rintro e w5 ⟨rfl, hw5⟩
          subst hw5
          clear q0 c0 c1
          go_wp2
          generalize hWg : wr.alloc (.cells #[.int .u32 (xi : Int), .slice xa cl xc] 67) = W1 at *
          generalize wr.heap.size = b at *
          clear hWg
          refine wp_region_fr (by kernel_rfl) (by kernel_rfl) ?_
          repeat (with_reducible refine wpQuiet_step (fun K hK => ?_)
                  go_simp
                  (refine hK _ ?_; clear hK K))
          refine wpQuiet_nil ?_
          rintro w' ⟨f, rfl⟩
          have HF2 : Hid (Fr Nobody w f.val) := HFW.out.trans f.fr
          have HB2 : Hid (∀ w', Fr Nobody f.val w' → w'.cell? ⟨b, 1, none⟩ = some (.slice xa cl xc)) := fun w' hf => b1 ⟨w', f.fr.trans hf⟩
          have e1 := b1 f
          generalize f.val = W2 at *
          clear b0 b1
          go_wp2_with fail
          refine (HLS.out _ HF2.out).mono ?_
          rintro e W3 ⟨rfl, hf3⟩
          have HF3 : Hid (Fr Nobody w W3) := HF2.out.trans hf3
          have e3 := HB2.out W3 hf3
          clear hf3 e1 HB2 HF2 HLS
          by_cases hl0 : ls = 0
          · subst hl0
            go_wp2
            go_loopw [49] (fun c2 wr2 => ∃ i2 : Nat, i2 ≤ cl ∧ c2 = .int .i64 i2 ∧ un (C.take i2) = false ∧ Fr Nobody w wr2) (fun c2 _ => cl - (intOf c2).toNat)
            case atStart => exact ⟨0, Nat.zero_le _, rfl, by simp [un], HF3.out⟩
            case round =>
              obtain ⟨i2, hi2, rfl, hu2, hf4⟩ := hrel
              have HU2 : Hid (un (C.take i2) = false) := hu2
              have HF4 : Hid (Fr Nobody w _) := hf4
              clear hu2 hf4
              by_cases hlt2 : i2 < cl
              · obtain ⟨q, hq⟩ : ∃ q, C[i2]? = some q := ⟨_, List.getElem?_eq_getElem (by rw [HCE.out]; exact hlt2)⟩
                obtain ⟨gg, oo, hga, _, y0, y1, y2, y3⟩ := ((HCL.out.2.1).quiet HF4.out).at i2 q hq
                subst hga
                have hq8 := HCL.out.2.2 q (List.mem_of_getElem? hq)
                have hlt2' : (i2 : Int) < (cl : Int) := by omega
                have HT : Hid (∀ W, Calls Tryz.prog 59 #[.int .u8 (q.k : Int)] W fun e w' => e = .returned (.bool (ktold q.k)) ∧ Fr Nobody W w') := fun W => rtold_any W q.k hq8
                have HU3 : Hid (ktold q.k = false → un C = true) := fun e => un_mem (List.mem_of_getElem? hq) e
                have HU4 : Hid (ktold q.k = true → un (C.take (i2 + 1)) = false) := fun e => by rw [take_snoc C i2 q hq, un_snoc, HU2.out, e]; rfl
                have HF5 : Hid (Fr Nobody w (_)) := HF4.out.alloc (.cells #[.int .u8 (q.k : Int), .int .i32 q.a, .int .i32 q.b, .int .i32 q.c] 46)
                clear hq
                generalize ktold q.k = r at *
                obtain ⟨qk, qa, qb, qc⟩ := q
                simp only at y0 y1 y2 y3 HT HF5
                go_wp2_with fail
                refine (HT.out _).mono ?_
                rintro e W6 ⟨rfl, hf6⟩
                have HF6 : Hid (Fr Nobody w W6) := HF5.out.trans hf6
                clear hf6 HT y0 y1 y2 y3
                cases r
                · have HN : Hid (fm 0 (evs L) = 4) := HBU.out HC.out (by trivial) (by rw [HUU.out]; exact HU3.out rfl)
                  clear HON HBL HBU HB4
                  go_wp2
                  go_ret
                  exact ⟨by rw [HN.out]; rfl, HF6.out⟩
                · have HU : Hid (un (C.take (i2 + 1)) = false) := HU4.out rfl
                  go_wp2
                  go_roundw
                  case rel => exact ⟨i2 + 1, by omega, by go_num, HU.out, HF6.out⟩
                  case measure => simp [intOf]; omega
              · have hlt2' : ¬ (i2 : Int) < (cl : Int) := by omega
                have HU : Hid (uu = false) := by have := HU2.out; rw [List.take_of_length_le (by rw [HCE.out]; omega)] at this; rw [HUU.out]; exact this
                have HN : Hid (fm (prvE (evs L) (0 + 1)) ((evs L).drop (0 + 1)) = fm 0 (evs L)) := HON.out HC.out (by trivial) HU.out
                clear HON HBL HBU HB4
                go_wp2
                go_roundw
                case rel => exact ⟨0 + 1, by omega, by go_num, HN.out, HF4.out⟩
                case measure => simp [intOf]; omega
          · have HN : Hid (fm 0 (evs L) = ls) := HBL.out HC.out hl0
            have hl1 : ((ls : Int) != 0) = true := by simpa using hl0
            clear HON HBL HBU HB4
            go_wp2
            go_ret
            exact ⟨by rw [HN.out]; rfl, HF3.out⟩
        · obtain ⟨y, hy⟩ : ∃ y, L[i]? = some y := ⟨_, List.getElem?_eq_getElem (by rw [HL.out.1]; omega)⟩
          have hpy : p = y.id := by rw [← hp]; simp [prvE, evs_at hy]
          have d0 : ∀ f : FrOf (wr.alloc (.cells #[.int .u32 (x.id : Int), .slice x.ao x.C.length x.cap] 67)), f.val.cell? ⟨g, o + i * 2, none⟩ = some (.int .u32 (p : Int)) := fun f => by
            obtain ⟨g', o', hg', h0, _, _⟩ := (HL.out.2.1.quiet (HFW.out.trans f.fr)).at hy
            rw [hao] at hg'
            cases hg'
            rw [hpy]; exact h0
          have hyid := (HL.out.2.2.1 y (List.mem_of_getElem? hy)).1
          rw [← hpy] at hyid
          have hwi : IntKind.i64.wrap (i : Int) = (i : Int) := by rw [IntKind.wrap_i64]; omega
          have hin : (i : Int) < (n : Int) := by omega
          subst hao
          by_cases hle : x.id ≤ p
          · have HC : Hid (x.id / 1024 < 1 ∨ x.id ≤ p) := .inr hle
            have hle' : (x.id : Int) ≤ (p : Int) := by omega
            clear hx hmx hkk hls huu hp hX hid1 hid HI hy hpy hle hge
            obtain ⟨xi, xa, xc, C⟩ := x
            simp only at c0 c1 HLS HB4 HBL HBU HON HC HFW HG HCL HUU hcb b0 b1 hle' d0
            generalize hclE : C.length = cl at *
            have HCE : Hid (C.length = cl) := hclE
            clear hclE
            have q0 := b0 ⟨_, Fr.refl _ _⟩
            simp only at q0
            go_wp2_with fail
            refine (HG.out _).mono ?_
            rintro e w5 ⟨rfl, hw5⟩
            subst hw5
            clear q0 c0 c1
            go_wp2
            generalize hWg : wr.alloc (.cells #[.int .u32 (xi : Int), .slice xa cl xc] 67) = W1 at *
            generalize wr.heap.size = b at *
            clear hWg
            refine wp_region_fr (by kernel_rfl) (by kernel_rfl) ?_
            repeat (with_reducible refine wpQuiet_step (fun K hK => ?_)
                    go_simp
                    (refine hK _ ?_; clear hK K))
            refine wpQuiet_nil ?_
            rintro w' ⟨f, rfl⟩
            have HF2 : Hid (Fr Nobody w f.val) := HFW.out.trans f.fr
            have HB2 : Hid (∀ w', Fr Nobody f.val w' → w'.cell? ⟨b, 1, none⟩ = some (.slice xa cl xc)) := fun w' hf => b1 ⟨w', f.fr.trans hf⟩
            have e1 := b1 f
            generalize f.val = W2 at *
            clear b0 b1
            have HN : Hid (fm 0 (evs L) = 4) := HB4.out HC.out
            clear HON HBL HBU HB4 HLS HTL
            go_wp2
            go_ret
            exact ⟨by rw [HN.out]; rfl, HF2.out⟩
          · have HC : Hid (¬ (x.id / 1024 < 1 ∨ x.id ≤ p)) := by show ¬ _; omega
            have hle' : ¬ (x.id : Int) ≤ (p : Int) := by omega
            clear hx hmx hkk hls huu hp hX hid1 hid HI hy hpy hle hge
            obtain ⟨xi, xa, xc, C⟩ := x
            simp only at c0 c1 HLS HB4 HBL HBU HON HC HFW HG HCL HUU hcb b0 b1 hle' d0
            generalize hclE : C.length = cl at *
            have HCE : Hid (C.length = cl) := hclE
            clear hclE
            have q0 := b0 ⟨_, Fr.refl _ _⟩
            simp only at q0
            go_wp2_with fail
            refine (HG.out _).mono ?_
            rintro e w5 ⟨rfl, hw5⟩
            subst hw5
            clear q0 c0 c1
            go_wp2
            generalize hWg : wr.alloc (.cells #[.int .u32 (xi : Int), .slice xa cl xc] 67) = W1 at *
            generalize wr.heap.size = b at *
            clear hWg
            refine wp_region_fr (by kernel_rfl) (by kernel_rfl) ?_
            repeat (with_reducible refine wpQuiet_step (fun K hK => ?_)
                    go_simp
                    (refine hK _ ?_; clear hK K))
            refine wpQuiet_nil ?_
            rintro w' ⟨f, rfl⟩
            have HF2 : Hid (Fr Nobody w f.val) := HFW.out.trans f.fr
            have HB2 : Hid (∀ w', Fr Nobody f.val w' → w'.cell? ⟨b, 1, none⟩ = some (.slice xa cl xc)) := fun w' hf => b1 ⟨w', f.fr.trans hf⟩
            have e1 := b1 f
            generalize f.val = W2 at *
            clear b0 b1
            go_wp2_with fail
            refine (HLS.out _ HF2.out).mono ?_
            rintro e W3 ⟨rfl, hf3⟩
            have HF3 : Hid (Fr Nobody w W3) := HF2.out.trans hf3
            have e3 := HB2.out W3 hf3
            clear hf3 e1 HB2 HF2 HLS
            by_cases hl0 : ls = 0
            · subst hl0
              go_wp2
              go_loopw [49] (fun c2 wr2 => ∃ i2 : Nat, i2 ≤ cl ∧ c2 = .int .i64 i2 ∧ un (C.take i2) = false ∧ Fr Nobody w wr2) (fun c2 _ => cl - (intOf c2).toNat)
              case atStart => exact ⟨0, Nat.zero_le _, rfl, by simp [un], HF3.out⟩
              case round =>
                obtain ⟨i2, hi2, rfl, hu2, hf4⟩ := hrel
                have HU2 : Hid (un (C.take i2) = false) := hu2
                have HF4 : Hid (Fr Nobody w _) := hf4
                clear hu2 hf4
                by_cases hlt2 : i2 < cl
                · obtain ⟨q, hq⟩ : ∃ q, C[i2]? = some q := ⟨_, List.getElem?_eq_getElem (by rw [HCE.out]; exact hlt2)⟩
                  obtain ⟨gg, oo, hga, _, y0, y1, y2, y3⟩ := ((HCL.out.2.1).quiet HF4.out).at i2 q hq
                  subst hga
                  have hq8 := HCL.out.2.2 q (List.mem_of_getElem? hq)
                  have hlt2' : (i2 : Int) < (cl : Int) := by omega
                  have HT : Hid (∀ W, Calls Tryz.prog 59 #[.int .u8 (q.k : Int)] W fun e w' => e = .returned (.bool (ktold q.k)) ∧ Fr Nobody W w') := fun W => rtold_any W q.k hq8
                  have HU3 : Hid (ktold q.k = false → un C = true) := fun e => un_mem (List.mem_of_getElem? hq) e
                  have HU4 : Hid (ktold q.k = true → un (C.take (i2 + 1)) = false) := fun e => by rw [take_snoc C i2 q hq, un_snoc, HU2.out, e]; rfl
                  have HF5 : Hid (Fr Nobody w (_)) := HF4.out.alloc (.cells #[.int .u8 (q.k : Int), .int .i32 q.a, .int .i32 q.b, .int .i32 q.c] 46)
                  clear hq
                  generalize ktold q.k = r at *
                  obtain ⟨qk, qa, qb, qc⟩ := q
                  simp only at y0 y1 y2 y3 HT HF5
                  go_wp2_with fail
                  refine (HT.out _).mono ?_
                  rintro e W6 ⟨rfl, hf6⟩
                  have HF6 : Hid (Fr Nobody w W6) := HF5.out.trans hf6
                  clear hf6 HT y0 y1 y2 y3
                  cases r
                  · have HN : Hid (fm 0 (evs L) = 4) := HBU.out HC.out (by trivial) (by rw [HUU.out]; exact HU3.out rfl)
                    clear HON HBL HBU HB4
                    go_wp2
                    go_ret
                    exact ⟨by rw [HN.out]; rfl, HF6.out⟩
                  · have HU : Hid (un (C.take (i2 + 1)) = false) := HU4.out rfl
                    go_wp2
                    go_roundw
                    case rel => exact ⟨i2 + 1, by omega, by go_num, HU.out, HF6.out⟩
                    case measure => simp [intOf]; omega
                · have hlt2' : ¬ (i2 : Int) < (cl : Int) := by omega
                  have HU : Hid (uu = false) := by have := HU2.out; rw [List.take_of_length_le (by rw [HCE.out]; omega)] at this; rw [HUU.out]; exact this
                  have HN : Hid (fm (prvE (evs L) ((i + 1) + 1)) ((evs L).drop ((i + 1) + 1)) = fm 0 (evs L)) := HON.out HC.out (by trivial) HU.out
                  clear HON HBL HBU HB4
                  go_wp2
                  go_roundw
                  case rel => exact ⟨(i + 1) + 1, by omega, by go_num, HN.out, HF4.out⟩
                  case measure => simp [intOf]; omega
            · have HN : Hid (fm 0 (evs L) = ls) := HBL.out HC.out hl0
              have hl1 : ((ls : Int) != 0) = true := by simpa using hl0
              clear HON HBL HBU HB4
              go_wp2
              go_ret
              exact ⟨by rw [HN.out]; rfl, HF3.out⟩
      · have HC : Hid (x.id / 1024 < 1 ∨ x.id ≤ p) := .inl (by omega)
        have hg1 : (ge : Int) < 1 := by omega
        subst hao
        clear hx hmx hkk hls huu hp hX hid1 hid HI hge
        obtain ⟨xi, xa, xc, C⟩ := x
        simp only at c0 c1 HLS HB4 HBL HBU HON HC HFW HG HCL HUU hcb b0 b1
        generalize hclE : C.length = cl at *
        have HCE : Hid (C.length = cl) := hclE
        clear hclE
        have q0 := b0 ⟨_, Fr.refl _ _⟩
        simp only at q0
        go_wp2_with fail
        refine (HG.out _).mono ?_
        rintro e w5 ⟨rfl, hw5⟩
        subst hw5
        clear q0 c0 c1
        go_wp2
        generalize hWg : wr.alloc (.cells #[.int .u32 (xi : Int), .slice xa cl xc] 67) = W1 at *
        generalize wr.heap.size = b at *
        clear hWg
        refine wp_region_fr (by kernel_rfl) (by kernel_rfl) ?_
        repeat (with_reducible refine wpQuiet_step (fun K hK => ?_)
                go_simp
                (refine hK _ ?_; clear hK K))
        refine wpQuiet_nil ?_
        rintro w' ⟨f, rfl⟩
        have HF2 : Hid (Fr Nobody w f.val) := HFW.out.trans f.fr
        have HB2 : Hid (∀ w', Fr Nobody f.val w' → w'.cell? ⟨b, 1, none⟩ = some (.slice xa cl xc)) := fun w' hf => b1 ⟨w', f.fr.trans hf⟩
        have e1 := b1 f
        generalize f.val = W2 at *
        clear b0 b1
        have HN : Hid (fm 0 (evs L) = 4) := HB4.out HC.out
        clear HON HBL HBU HB4 HLS HTL
        go_wp2
        go_ret
        exact ⟨by rw [HN.out]; rfl, HF2.out⟩
    · have hlt' : ¬ (j : Int) < (n : Int) := by omega
      have HN : Hid (fm 0 (evs L) = 0) := fm_end HI.out (by rw [evs_len, HL.out.1]; omega)
      go_wp2
      go_ret
      exact ⟨by rw [HN.out]; rfl, HF.out⟩
end Go.Proofs.YtfhfcfobgemcpaaGreatDoor

/-
  Lists of entities that come in, and how many values they hold.
-/
namespace Go.Proofs.YtfhfcfobgemcpaaGreatDoor
open Go.ChangeShapes Go.WideShapes Go.ChangeAt Go.RowKit Go.Deep
set_option linter.unusedVariables false
set_option maxRecDepth 100000

theorem bulk_pos {H : Type} (d : DataW H) : 1 ≤ Rows.uptoBulk d := by
  cases d with
  | lit v => cases v <;> simp [Rows.uptoBulk]
  | _ => simp [Rows.uptoBulk]
theorem bulk_count {H : Type} (m : List (DataW H)) : m.length ≤ Rows.uptoBulkAll m := by
  induction m with
  | nil => exact Nat.zero_le _
  | cons d m ih => have := bulk_pos d; simp only [Rows.uptoBulkAll, List.length_cons]; omega
theorem bulk_in {H : Type} {d : DataW H} {m : List (DataW H)} (h : d ∈ m) : Rows.uptoBulk d ≤ Rows.uptoBulkAll m := by
  induction m with
  | nil => cases h
  | cons y m ih =>
    simp only [Rows.uptoBulkAll]
    rcases List.mem_cons.1 h with rfl | h
    · omega
    · have := ih h; omega
theorem bulk_sum {H : Type} {D : Nat → DataW H} {s : Nat → Nat} : ∀ (R : List Nat), (∀ i ∈ R, s i ≤ Rows.uptoBulk (D i)) → (R.map s).sum ≤ Rows.uptoBulkAll (R.map D) := by
  intro R
  induction R with
  | nil => intro _; exact Nat.zero_le _
  | cons i R ih =>
    intro h
    have h1 := h i (by simp)
    have h2 := ih (fun j hj => h j (List.mem_cons_of_mem _ hj))
    simp only [List.map_cons, List.sum_cons, Rows.uptoBulkAll]
    omega
theorem bulk_slice {H : Type} (a b : List (DataW H)) : Rows.uptoBulk (.slice a b) = Rows.uptoBulkAll a + Rows.uptoBulkAll b + 1 := by simp only [Rows.uptoBulk]
theorem bulk_agg {H : Type} (a : List (DataW H)) : Rows.uptoBulk (.agg a) = Rows.uptoBulkAll a + 1 := by simp only [Rows.uptoBulk]
/-- elements of a slice that comes in, and how many values they hold -/
theorem open_rowsB {H : Type} {enc : TypeId × Value → H} {P : Program} {W : World} {ao : Option Addr} {len cap : Nat} {d : DataW H} {p : List MemPlace} {α : Type} [Inhabited α] {t e : TypeId} (s : Nat) (ht : P.underlying t = some (.slice e)) (hs : P.cellsOf e = s) (h0s : 0 < s) (G : List Value → α → Prop) (sz : α → Nat)
    (hG : ∀ fuel cs x, DataW.trod enc P W 0 (fun _ => true) true fuel e cs = some x → ∃ q, G cs q ∧ sz q ≤ Rows.uptoBulk x.1)
    (h : DataW.Trod enc P W 0 (fun _ => true) true t (.slice ao len cap) d p) :
    ∃ Q : List α, Q.length = len ∧ len ≤ cap ∧ cap ≤ maxLen ∧ RowsAt G s W ao Q ∧ (Q.map sz).sum ≤ Rows.uptoBulk d := by
  obtain ⟨fuel, hf⟩ := h
  rcases open_slice ht hf with ⟨hc, hd⟩ | ⟨a, l, c, m, n, D, Pl, hc, _, hl, hm, hmm, hd, hx⟩
  · simp [Value.cells] at hc
    obtain ⟨rfl, rfl, rfl⟩ := hc
    exact ⟨[], rfl, Nat.le_refl _, Nat.zero_le _, .inl rfl, Nat.zero_le _⟩
  · simp [Value.cells] at hc
    obtain ⟨rfl, rfl, rfl⟩ := hc
    simp only [Prod.mk.injEq] at hd
    obtain ⟨rfl, _⟩ := hd
    have hml : len ≤ m := by rw [hmm]; simp; omega
    have each : ∀ i, i < len → ∃ q : α, sz q ≤ Rows.uptoBulk (D i) ∧ ∃ cs, G cs q ∧ cs.length = s ∧ ∀ r, r < s → W.cell? ((a.add (i * s)).add r) = cs[r]? := by
      intro i hi
      obtain ⟨cs', h1, h2⟩ := hx i (by omega)
      rw [hs] at h1
      obtain ⟨_, hlen, hcell⟩ := World.cells?_some h1
      obtain ⟨q, hq, hb⟩ := hG _ _ _ h2
      exact ⟨q, hb, cs', hq, hlen, fun r hr => by rw [hcell r hr, List.getElem?_eq_getElem (by omega)]⟩
    obtain ⟨f, hfn⟩ := choose_lt each
    refine ⟨(List.range len).map f, by simp, hl, hm, ?_, ?_⟩
    · by_cases h0 : len = 0
      · subst h0; left; rfl
      · right
        obtain ⟨g, o, spot⟩ := a
        obtain ⟨_, cs, _, hcl, hcc⟩ := hfn 0 (by omega)
        have h1 := hcc 0 h0s
        rw [List.getElem?_eq_getElem (by omega)] at h1
        have hsp : spot = none := by simpa [Addr.add] using World.cell?_spot h1
        subst hsp
        refine ⟨g, o, rfl, fun j q hj => ?_⟩
        have hjl : j < len := by
          have := (List.getElem?_eq_some_iff.1 hj).1
          simpa using this
        rw [List.getElem?_map, List.getElem?_range hjl] at hj
        simp only [Option.map_some, Option.some.injEq] at hj
        obtain ⟨_, cs, h1, h2, h3⟩ := hfn j hjl
        rw [hj] at h1
        refine ⟨cs, h1, h2, fun r hr => ?_⟩
        have := h3 r hr
        rw [addr_add, addr_add] at this
        exact this
    · have h1 := bulk_sum (D := D) (s := fun i => sz (f i)) (List.range len) (fun i hi => (hfn i (by simpa using hi)).1)
      rw [bulk_slice, List.map_map]
      have e : sz ∘ f = fun i => sz (f i) := rfl
      rw [e]
      omega
theorem cellsEnt : Tryz.prog.cellsOf 67 = 2 := by kernel_rfl
theorem cellsEntC : Tryz.prog.cellsOf 39 = 1 := by kernel_rfl
theorem cellsEntI : Tryz.prog.cellsOf 38 = 1 := by kernel_rfl
theorem duo {β : Type} {l : List β} (h : l.length = 2) : ∃ a b, l = [a, b] := by
  match l, h with
  | [a, b], _ => exact ⟨a, b, rfl⟩
def EntI (W : World) (cs : List Value) (x : EnE) : Prop := cs = x.cs ∧ x.id < 4294967296 ∧ IsComps W x.ao x.C.length x.cap x.C
theorem ones_sum {α : Type} (Q : List α) : (Q.map (fun _ => 1)).sum = Q.length := by
  induction Q with
  | nil => rfl
  | cons a t ih => rw [List.map_cons, List.sum_cons, ih, List.length_cons]; omega
/-- components that come in, and how many there are -/
theorem open_csB {H : Type} {enc : TypeId × Value → H} {W : World} {fuel : Nat} {cs : List Value} {x : DataW H × List MemPlace} (h : DataW.trod enc Tryz.prog W 0 (fun _ => true) true fuel 39 cs = some x) : ∃ ao cap C, cs = [.slice ao (List.length C) cap] ∧ IsComps W ao (List.length C) cap C ∧ C.length ≤ Rows.uptoBulk x.1 := by
  obtain ⟨ao, len, cap, hv⟩ : ∃ ao len cap, cs = [.slice ao len cap] := by
    rcases open_slice Tryz.underlying39 h with ⟨hc, _⟩ | ⟨a, l, c, m, n, D, Pl, hc, _⟩
    · exact ⟨_, _, _, hc⟩
    · exact ⟨_, _, _, hc⟩
  subst hv
  obtain ⟨d, p⟩ := x
  obtain ⟨Q, h1, h2, h3, h4, h5⟩ := open_rowsB 4 Tryz.underlying39 cellsComp (by decide) CompIs (fun _ => 1) (fun fuel cs x hx => by
    obtain ⟨k, a, b, c, g1, g2, g3, g4, hcs, _⟩ := comp_cells hx
    obtain ⟨n, rfl, hn⟩ := ok8_nat g1
    exact ⟨⟨n, a, b, c⟩, ⟨hcs, hn⟩, bulk_pos _⟩) (d := d) (p := p) ⟨fuel, h⟩
  subst h1
  refine ⟨ao, cap, Q, rfl, ⟨rfl, h2, h3, h4⟩, ?_⟩
  rw [ones_sum] at h5
  exact h5
theorem ent_is {H : Type} {enc : TypeId × Value → H} {W : World} (fuel : Nat) (cs : List Value) (x : DataW H × List MemPlace)
    (h : DataW.trod enc Tryz.prog W 0 (fun _ => true) true fuel 67 cs = some x) : ∃ e, EntI W cs e ∧ e.C.length + 1 ≤ Rows.uptoBulk x.1 := by
  obtain ⟨xs, n, _, hx, hl, hlen, hf⟩ := DataW.trod_struct Tryz.underlying67 h
  rw [cellsEnt] at hl
  obtain ⟨c0, c1, rfl⟩ := duo hl
  obtain ⟨y0, y1, rfl⟩ := duo hlen
  have h0 := hf 0 _ rfl
  have h1 := hf 1 _ rfl
  simp [cellsEntC, cellsEntI] at h0 h1
  obtain ⟨b, b0, _, wb⟩ := DataW.trod_int Tryz.underlying38 h0
  simp at b0
  subst b0
  have hb : 0 ≤ b ∧ b ≤ 4294967295 := by simpa [Lit.wf, IntKind.min, IntKind.max, IntKind.signed, IntKind.bits] using wb
  obtain ⟨bn, rfl⟩ := Int.eq_ofNat_of_zero_le hb.1
  obtain ⟨ao, cap, C, hv, hC, hs⟩ := open_csB h1
  simp at hv
  subst hv
  refine ⟨⟨bn, ao, cap, C⟩, ⟨rfl, by show bn < _; omega, hC⟩, ?_⟩
  subst hx
  show _ ≤ Rows.uptoBulk (.agg [y0.1, y1.1])
  rw [bulk_agg]
  have := bulk_in (d := y1.1) (m := [y0.1, y1.1]) (by simp)
  show C.length + 1 ≤ _
  omega
def IsEnts (w : World) (ao : Option Addr) (len cap : Nat) (Q : List EnE) : Prop := Q.length = len ∧ len ≤ cap ∧ cap ≤ maxLen ∧ RowsAt (EntI w) 2 w ao Q
theorem esz_sum (Q : List EnE) : (Q.map (fun x => x.C.length + 1)).sum = esz Q := by
  unfold esz
  induction Q with
  | nil => rfl
  | cons x t ih => simp only [List.map_cons, List.sum_cons, List.length_cons, csz, ih]; omega
theorem open_ents {H : Type} {enc : TypeId × Value → H} {W : World} {ao : Option Addr} {len cap : Nat} {d : DataW H} {p : List MemPlace}
    (h : DataW.Trod enc Tryz.prog W 0 (fun _ => true) true 64 (.slice ao len cap) d p) : ∃ Q, IsEnts W ao len cap Q ∧ esz Q ≤ Rows.uptoBulk d := by
  haveI : Inhabited EnE := ⟨⟨0, none, 0, []⟩⟩
  obtain ⟨Q, h1, h2, h3, h4, h5⟩ := open_rowsB 2 Tryz.underlying64 cellsEnt (by decide) (EntI W) (fun x => x.C.length + 1) (fun fuel cs x hx => ent_is fuel cs x hx) h
  rw [esz_sum] at h5
  exact ⟨Q, ⟨h1, h2, h3, h4⟩, h5⟩
theorem IsEnts.ents {w : World} {ao : Option Addr} {len cap : Nat} {Q : List EnE} (h : IsEnts w ao len cap Q) : EntsAt w ao Q ∧ EIn Q := by
  obtain ⟨hl, _, _, hR⟩ := h
  have key : ∀ x ∈ Q, x.id < 4294967296 ∧ IsComps w x.ao x.C.length x.cap x.C := by
    intro x hx
    obtain ⟨j, hj⟩ := List.getElem?_of_mem hx
    rcases hR with h | ⟨g, of, ha, hc⟩
    · subst h; simp at hj
    · obtain ⟨cs, ⟨_, h3, h4⟩, _⟩ := hc j x hj
      exact ⟨h3, h4⟩
  refine ⟨⟨?_, fun x hx => (key x hx).2.cs.1⟩, fun x hx => ⟨(key x hx).1, (key x hx).2.cs.2⟩⟩
  rcases hR with h | ⟨g, of, ha, hc⟩
  · exact .inl h
  · refine .inr ⟨g, of, ha, fun j x hj => ?_⟩
    obtain ⟨cs, ⟨rfl, _⟩, _, h3⟩ := hc j x hj
    exact ⟨h3 0 (by decide), h3 1 (by decide)⟩
end Go.Proofs.YtfhfcfobgemcpaaGreatDoor

/-
  Where an entity stands: the program's Find; lists of entities that are alike.
-/
namespace Go.Proofs.YtfhfcfobgemcpaaGreatDoor
open Go.RowKit
set_option linter.unusedVariables false
set_option maxRecDepth 100000

set_option maxHeartbeats 400000 in
theorem findP_any (w : World) (bk k : Nat) (hk : w.cell? ⟨bk, 0, none⟩ = some (.int .u32 (k : Int))) (i : Nat) (v : Option Addr) (n c : Nat) :
    Calls Tryz.prog 104 #[.agg #[.int .u32 (i : Int), .slice v n c], .pointer (some ⟨bk, 0, none⟩)] w fun e w' => e = .returned (.bool (decide (i = k))) ∧ Fr Nobody w w' := by
  have hlt : bk < w.heap.size := World.block_lt_of_cell? w _ hk
  have hne : bk ≠ w.heap.size := by omega
  have hne2 : w.heap.size ≠ bk := by omega
  by_cases h : i = k
  · subst h
    go_enter Tryz.func104, Tryz.ntmps104
    go_wp2
    go_ret
    exact ⟨by simp, (Fr.refl _ _).alloc _⟩
  · have h' : ((i : Int) == (k : Int)) = false := by simp; omega
    rw [decide_eq_false h]
    go_enter Tryz.func104, Tryz.ntmps104
    go_wp2
    go_ret
    exact ⟨rfl, (Fr.refl _ _).alloc _⟩
set_option maxHeartbeats 2000000 in
theorem idxE_any (w : World) (ao : Option Addr) (n cap : Nat) (L : List EnE) (h : EntsAt w ao L) (hn : L.length = n) (hm : n ≤ 2097152) (bk k : Nat) (hk : w.cell? ⟨bk, 0, none⟩ = some (.int .u32 (k : Int))) :
    Calls Tryz.prog 103 #[.slice ao n cap, .func (.func 104) #[] #[.pointer (some ⟨bk, 0, none⟩)]] w fun e w' => ∃ r : Int, e = .returned (.int .i64 r) ∧ FindR L k r ∧ Fr Nobody w w' := by
  have HL : Hid (L.length = n ∧ EntsAt w ao L ∧ w.cell? ⟨bk, 0, none⟩ = some (.int .u32 (k : Int)) ∧ bk < w.heap.size) := ⟨hn, h, hk, World.block_lt_of_cell? w _ hk⟩
  clear hn h hk
  go_enter Tryz.func103, Tryz.ntmps103
  go_wp2
  go_loopw [8] (fun cc wr => ∃ j : Nat, j ≤ n ∧ cc = .int .i64 j ∧ Fr Nobody w wr ∧ ∀ y ∈ L.take j, y.id ≠ k) (fun cc _ => n - (intOf cc).toNat)
  case atStart => exact ⟨0, Nat.zero_le _, rfl, Fr.refl _ _, by simp⟩
  case round =>
    obtain ⟨j, hj, rfl, hf, hno⟩ := hrel
    have HF : Hid (Fr Nobody w wr) := hf
    have HN : Hid (∀ y ∈ L.take j, y.id ≠ k) := hno
    clear hf hno
    by_cases hlt : j < n
    · obtain ⟨x, hx⟩ : ∃ x, L[j]? = some x := ⟨_, List.getElem?_eq_getElem (by rw [HL.out.1]; exact hlt)⟩
      obtain ⟨g, o, hao, c0, c1, _⟩ := (HL.out.2.1.quiet HF.out).at hx
      subst hao
      have hlt' : (j : Int) < (n : Int) := by omega
      have HP : Hid (Calls _ _ _ _ _) := findP_any wr bk k ((HF.out.cell (p := ⟨bk, 0, none⟩) HL.out.2.2.2 id).trans HL.out.2.2.1) x.id x.ao x.C.length x.cap
      have HX : Hid (L[j]? = some x) := hx
      by_cases he : x.id = k
      · have HH : Hid (FindR L k (j : Int)) := .inr ⟨j, x, rfl, HX.out, he, HN.out⟩
        rw [decide_eq_true he] at HP
        clear he HX hx
        obtain ⟨xi, xa, xc, C⟩ := x
        simp only at c0 c1 HP
        generalize C.length = cl at *
        go_wp2_with fail
        refine HP.out.mono ?_
        rintro e w2 ⟨rfl, hf⟩
        have HF2 : Hid (Fr Nobody w w2) := HF.out.trans hf
        clear hf HP
        go_wp2
        go_ret
        exact ⟨(j : Int), rfl, HH.out, HF2.out⟩
      · have HH : Hid (∀ y ∈ L.take (j + 1), y.id ≠ k) := by
          show ∀ y ∈ L.take (j + 1), y.id ≠ k
          intro y hy
          rw [List.take_add_one, hx] at hy
          rcases List.mem_append.1 hy with hy | hy
          · exact HN.out y hy
          · simp at hy; rw [hy]; exact he
        rw [decide_eq_false he] at HP
        clear he HX hx
        obtain ⟨xi, xa, xc, C⟩ := x
        simp only at c0 c1 HP
        generalize C.length = cl at *
        go_wp2_with fail
        refine HP.out.mono ?_
        rintro e w2 ⟨rfl, hf⟩
        have HF2 : Hid (Fr Nobody w w2) := HF.out.trans hf
        clear hf HP
        go_wp2
        go_roundw
        case rel => exact ⟨j + 1, by omega, by go_num, HF2.out, HH.out⟩
        case measure => simp [intOf]; omega
    · have hlt' : ¬ (j : Int) < (n : Int) := by omega
      have HU : Hid (FindR L k (-1)) := .inl ⟨rfl, fun x hx => HN.out x (by rw [List.take_of_length_le (by rw [HL.out.1]; omega)]; exact hx)⟩
      go_wp2
      go_ret
      exact ⟨-1, rfl, HU.out, HF.out⟩
set_option maxHeartbeats 1000000 in
theorem findE_any (w : World) (ao : Option Addr) (n cap : Nat) (L : List EnE) (h : EntsAt w ao L) (hn : L.length = n) (hm : n ≤ 2097152) (k : Nat) :
    Calls Tryz.prog 45 #[.slice ao n cap, .int .u32 (k : Int)] w fun e w' => ∃ r : Int, e = .returned (.int .i64 r) ∧ FindR L k r ∧ Fr Nobody w w' := by
  have h0 := ((Own.start w).allocC #[.int .u32 (k : Int)] 38).cell 0
  have HI : Hid (Calls _ _ _ _ _) := idxE_any (w.alloc (.cells #[.int .u32 (k : Int)] 38)) ao n cap L (h.quiet ((Fr.refl _ _).alloc _)) hn hm w.heap.size k h0
  have HF : Hid (Fr Nobody w (w.alloc (.cells #[.int .u32 (k : Int)] 38))) := (Fr.refl _ _).alloc _
  clear hn h h0
  go_enter Tryz.func45, Tryz.ntmps45
  go_wp2_with fail
  refine HI.out.mono ?_
  rintro e w2 ⟨r, rfl, hr, hf⟩
  have HR : Hid (FindR L k r) := hr
  have HF2 : Hid (Fr Nobody w w2) := HF.out.trans hf
  clear hf HI hr
  go_wp2
  go_ret
  exact ⟨r, rfl, HR.out, HF2.out⟩
theorem evs_get {L M : List EnE} (h : evs L = evs M) {j : Nat} {x : EnE} (hx : L[j]? = some x) : ∃ y, M[j]? = some y ∧ y.id = x.id ∧ y.C = x.C := by
  have h1 : (evs M)[j]? = some (x.id, x.C) := by rw [← h]; exact evs_at hx
  unfold evs at h1
  rw [List.getElem?_map] at h1
  obtain ⟨y, hy, e⟩ := Option.map_eq_some_iff.1 h1
  simp only [Prod.mk.injEq] at e
  exact ⟨y, hy, e.1, e.2⟩
theorem evs_mem {L M : List EnE} (h : evs L = evs M) {x : EnE} (hx : x ∈ L) : ∃ y ∈ M, y.id = x.id ∧ y.C = x.C := by
  obtain ⟨j, hj⟩ := List.getElem?_of_mem hx
  obtain ⟨y, hy, e⟩ := evs_get h hj
  exact ⟨y, List.mem_of_getElem? hy, e⟩
theorem find_one {L M : List EnE} (h : evs L = evs M) {i : Nat} {r s : Int} (h1 : FindR L i r) (h2 : FindR M i s) : r = s := by
  rcases h1 with ⟨rfl, h1⟩ | ⟨j, x, rfl, hx, hxi, hxt⟩
  · rcases h2 with ⟨rfl, _⟩ | ⟨j, x, rfl, hx, hxi, _⟩
    · rfl
    · obtain ⟨y, hy, e, _⟩ := evs_mem h.symm (List.mem_of_getElem? hx)
      exact absurd (e.trans hxi) (h1 y hy)
  · rcases h2 with ⟨rfl, h2⟩ | ⟨j2, x2, rfl, hx2, hxi2, hxt2⟩
    · obtain ⟨y, hy, e, _⟩ := evs_mem h (List.mem_of_getElem? hx)
      exact absurd (e.trans hxi) (h2 y hy)
    · have : j = j2 := by
        rcases Nat.lt_trichotomy j j2 with hl | hl | hl
        · obtain ⟨y, hy, e, _⟩ := evs_get h hx
          exact absurd (e.trans hxi) (hxt2 y (List.mem_of_getElem? (i := j) (by rw [List.getElem?_take_of_lt hl]; exact hy)))
        · exact hl
        · obtain ⟨y, hy, e, _⟩ := evs_get h.symm hx2
          exact absurd (e.trans hxi2) (hxt y (List.mem_of_getElem? (i := j2) (by rw [List.getElem?_take_of_lt hl]; exact hy)))
      rw [this]
theorem EIn.of_evs {L M : List EnE} (h : evs L = evs M) (hM : EIn M) : EIn L := fun x hx => by
  obtain ⟨y, hy, e1, e2⟩ := evs_mem h hx
  rw [← e1, ← e2]
  exact hM y hy
theorem csz_evs {L M : List EnE} (h : evs L = evs M) : csz L = csz M := by
  induction L generalizing M with
  | nil => cases M with
    | nil => rfl
    | cons y s => simp [evs] at h
  | cons x t ih =>
    cases M with
    | nil => simp [evs] at h
    | cons y s =>
      simp only [evs, List.map_cons, List.cons.injEq, Prod.mk.injEq] at h
      simp only [csz]
      rw [ih h.2, h.1.2]
theorem esz_evs {L M : List EnE} (h : evs L = evs M) : esz L = esz M := by
  have h1 := congrArg List.length h
  rw [evs_len, evs_len] at h1
  unfold esz
  rw [h1, csz_evs h]
end Go.Proofs.YtfhfcfobgemcpaaGreatDoor
