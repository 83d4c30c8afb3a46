/-
  The document's Form.
-/
import Derived.Test.YtlncgkbgelejmaaGreatDoorEnfg
import Derived.Test.YtlncgkbgelejmaaGreatDoorPsdg
import Derived.Test.YtlncgkbgelejmaaGreatDoorPrbg
namespace Go.Proofs.YtlncgkbgelejmaaGreatDoor
open Go.RowKit
set_option linter.unusedVariables false
set_option maxRecDepth 100000

set_option maxHeartbeats 8000000 in
theorem rform_any (w : World) (ao : Option Addr) (n cap : Nat) (L : List EnE) (h : EntsAt w ao L) (hn : L.length = n) (hI : EIn L) (hz : esz L ≤ 1000000) :
    Calls Tryz.prog 17 #[.slice ao n cap] w fun e w' => e = .returned (.int .i64 ((fm 0 (evs L) : Nat) : Int)) ∧ Fr Nobody w w' := by
  have hm : n ≤ 1000000 := by unfold esz at hz; omega
  have HL : Hid (L.length = n ∧ EntsAt w ao L ∧ EIn L ∧ ∀ x ∈ L, x.C.length ≤ 1000000) := ⟨hn, h, hI, fun x hx => by have := csz_mem hx; unfold esz at hz; omega⟩
  clear hn h hI hz
  go_enter Tryz.func17, Tryz.ntmps17
  go_wp2
  go_loopw [11] (fun c wr => ∃ j : Nat, j ≤ n ∧ c = .int .i64 j ∧ fm (prvE (evs L) j) ((evs L).drop j) = fm 0 (evs L) ∧ Fr Nobody w wr) (fun c _ => n - (intOf c).toNat)
  case atStart => exact ⟨0, Nat.zero_le _, rfl, rfl, Fr.refl _ _⟩
  case round =>
    obtain ⟨j, hj, rfl, hI, hf⟩ := hrel
    have HI : Hid (fm (prvE (evs L) j) ((evs L).drop j) = fm 0 (evs L)) := hI
    have HF : Hid (Fr Nobody w wr) := hf
    clear hI hf
    by_cases hlt : j < n
    · obtain ⟨x, hx⟩ : ∃ x, L[j]? = some x := ⟨_, List.getElem?_eq_getElem (by rw [HL.out.1]; exact hlt)⟩
      obtain ⟨g, o, hao, c0, c1, _⟩ := (HL.out.2.1.quiet HF.out).at hx
      have hmx := List.mem_of_getElem? hx
      obtain ⟨hid, hkk⟩ := HL.out.2.2.1 x hmx
      have hlt' : (j : Int) < (n : Int) := by omega
      have hX := evs_at hx
      have HFW : Hid (Fr Nobody w (wr.alloc (.cells #[.int .u32 (x.id : Int), .slice x.ao x.C.length x.cap] 71))) := HF.out.alloc _
      obtain ⟨p, hp⟩ : ∃ p, prvE (evs L) j = p := ⟨_, rfl⟩
      obtain ⟨ls, hls⟩ : ∃ l, lst (-1) x.C = l := ⟨_, rfl⟩
      obtain ⟨uu, huu⟩ : ∃ u, un x.C = u := ⟨_, rfl⟩
      have HCL : Hid (x.C.length = x.C.length ∧ Cs w x.ao x.C ∧ ∀ q ∈ x.C, q.k < 256) := ⟨rfl, HL.out.2.1.2 x hmx, hkk⟩
      have HUU : Hid (uu = un x.C) := huu.symm
      have hcb := HL.out.2.2.2 x hmx
      have HTL : Hid True := trivial
      have HLS : Hid (∀ W, Fr Nobody w W → Calls Tryz.prog 47 #[.slice x.ao x.C.length x.cap] W fun e w' => e = .returned (.int .i64 (ls : Int)) ∧ Fr Nobody W w') := fun W hW => by
        rw [← hls]; exact rlist_any W x.ao x.C.length x.cap x.C rfl ((HL.out.2.1.2 x hmx).quiet hW) hkk (HL.out.2.2.2 x hmx)
      have HB4 : Hid ((x.id / 1024 < 1 ∨ x.id ≤ p) → fm 0 (evs L) = 4) := fun hc => by
        have e := ent1_a (p := p) (x := (x.id, x.C)) hc
        rw [← hp] at e
        rw [fm_bad hX HI.out (by rw [e]; decide), e]
      have HBL : Hid (¬ (x.id / 1024 < 1 ∨ x.id ≤ p) → ls ≠ 0 → fm 0 (evs L) = ls) := fun hc h2 => by
        have e := ent1_b (p := p) (x := (x.id, x.C)) hc (by rw [hls]; exact h2)
        rw [← hp, hls] at e
        rw [fm_bad hX HI.out (by rw [e]; exact h2), e]
      have HBU : Hid (¬ (x.id / 1024 < 1 ∨ x.id ≤ p) → ls = 0 → uu = true → fm 0 (evs L) = 4) := fun hc h2 h3 => by
        have e := ent1_c (p := p) (x := (x.id, x.C)) hc (by rw [hls]; exact h2) (by rw [huu]; exact h3)
        rw [← hp] at e
        rw [fm_bad hX HI.out (by rw [e]; decide), e]
      have HON : Hid (¬ (x.id / 1024 < 1 ∨ x.id ≤ p) → ls = 0 → uu = false → fm (prvE (evs L) (j + 1)) ((evs L).drop (j + 1)) = fm 0 (evs L)) := fun hc h2 h3 => by
        have e := ent1_d (p := p) (x := (x.id, x.C)) hc (by rw [hls]; exact h2) (by rw [huu]; exact h3)
        rw [← hp] at e
        exact fm_on hX HI.out e
      have hl5 : ls < 4294967296 := by rw [← hls]; exact lst_small x.C
      obtain ⟨ge, hge⟩ : ∃ ge, x.id / 1024 = ge := ⟨_, rfl⟩
      have hge2 : (ge : Int) ≤ 4194303 := by omega
      have HG : Hid (∀ W, Calls Tryz.prog 46 #[.int .u32 (x.id : Int)] W fun e w' => e = .returned (.int .i64 (ge : Int)) ∧ w' = W) := fun W => by rw [← hge]; exact rgen_e x.id W hid
      have b0 : ∀ f : FrOf (wr.alloc (.cells #[.int .u32 (x.id : Int), .slice x.ao x.C.length x.cap] 71)), f.val.cell? ⟨wr.heap.size, 0, none⟩ = some (.int .u32 (x.id : Int)) := fun f => (((Own.start wr).allocC _ _).quiet f.fr).cell 0
      have b1 : ∀ f : FrOf (wr.alloc (.cells #[.int .u32 (x.id : Int), .slice x.ao x.C.length x.cap] 71)), f.val.cell? ⟨wr.heap.size, 1, none⟩ = some (.slice x.ao x.C.length x.cap) := fun f => (((Own.start wr).allocC _ _).quiet f.fr).cell 1
      by_cases hid1 : 1 ≤ ge
      · have hg1 : ¬ (ge : Int) < 1 := by omega
        have hg3 : ¬ (4194303 : Int) < (ge : Int) := by omega
        rcases j with _ | i
        · have hp0 : p = 0 := by rw [← hp]; rfl
          have HC : Hid (¬ (x.id / 1024 < 1 ∨ x.id ≤ p)) := by show ¬ _; omega
          simp only [Nat.zero_mul, Nat.add_zero] at c0 c1
          have hlt0 : (0 : Int) < (n : Int) := by omega
          subst hao
          clear hx hmx hkk hls huu hp hX hid1 hp0 hid HI hge
          obtain ⟨xi, xa, xc, C⟩ := x
          simp only at c0 c1 HLS HB4 HBL HBU HON HC HFW HG HCL HUU hcb b0 b1
          generalize hclE : C.length = cl at *
          have HCE : Hid (C.length = cl) := hclE
          clear hclE
          have q0 := b0 ⟨_, Fr.refl _ _⟩
          simp only at q0
          go_wp2_with fail
          refine (HG.out _).mono ?_
          rintro e w5 ⟨rfl, hw5⟩
          subst hw5
          clear q0 c0 c1
          go_wp2
          generalize hWg : wr.alloc (.cells #[.int .u32 (xi : Int), .slice xa cl xc] 71) = W1 at *
          generalize wr.heap.size = b at *
          clear hWg
          refine wp_region_fr (by kernel_rfl) (by kernel_rfl) ?_
          repeat (with_reducible refine wpQuiet_step (fun K hK => ?_)
                  go_simp
                  (refine hK _ ?_; clear hK K))
          refine wpQuiet_nil ?_
          rintro w' ⟨f, rfl⟩
          have HF2 : Hid (Fr Nobody w f.val) := HFW.out.trans f.fr
          have HB2 : Hid (∀ w', Fr Nobody f.val w' → w'.cell? ⟨b, 1, none⟩ = some (.slice xa cl xc)) := fun w' hf => b1 ⟨w', f.fr.trans hf⟩
          have e1 := b1 f
          generalize f.val = W2 at *
          clear b0 b1
          go_wp2_with fail
          refine (HLS.out _ HF2.out).mono ?_
          rintro e W3 ⟨rfl, hf3⟩
          have HF3 : Hid (Fr Nobody w W3) := HF2.out.trans hf3
          have e3 := HB2.out W3 hf3
          clear hf3 e1 HB2 HF2 HLS
          by_cases hl0 : ls = 0
          · subst hl0
            go_wp2
            go_loopw [49] (fun c2 wr2 => ∃ i2 : Nat, i2 ≤ cl ∧ c2 = .int .i64 i2 ∧ un (C.take i2) = false ∧ Fr Nobody w wr2) (fun c2 _ => cl - (intOf c2).toNat)
            case atStart => exact ⟨0, Nat.zero_le _, rfl, by simp [un], HF3.out⟩
            case round =>
              obtain ⟨i2, hi2, rfl, hu2, hf4⟩ := hrel
              have HU2 : Hid (un (C.take i2) = false) := hu2
              have HF4 : Hid (Fr Nobody w _) := hf4
              clear hu2 hf4
              by_cases hlt2 : i2 < cl
              · obtain ⟨q, hq⟩ : ∃ q, C[i2]? = some q := ⟨_, List.getElem?_eq_getElem (by rw [HCE.out]; exact hlt2)⟩
                obtain ⟨gg, oo, hga, _, y0, y1, y2, y3⟩ := ((HCL.out.2.1).quiet HF4.out).at i2 q hq
                subst hga
                have hq8 := HCL.out.2.2 q (List.mem_of_getElem? hq)
                have hlt2' : (i2 : Int) < (cl : Int) := by omega
                have HT : Hid (∀ W, Calls Tryz.prog 48 #[.int .u8 (q.k : Int)] W fun e w' => e = .returned (.bool (ktold q.k)) ∧ Fr Nobody W w') := fun W => rtold_any W q.k hq8
                have HU3 : Hid (ktold q.k = false → un C = true) := fun e => un_mem (List.mem_of_getElem? hq) e
                have HU4 : Hid (ktold q.k = true → un (C.take (i2 + 1)) = false) := fun e => by rw [take_snoc C i2 q hq, un_snoc, HU2.out, e]; rfl
                have HF5 : Hid (Fr Nobody w (_)) := HF4.out.alloc (.cells #[.int .u8 (q.k : Int), .int .i32 q.a, .int .i32 q.b, .int .i32 q.c] 69)
                clear hq
                generalize ktold q.k = r at *
                obtain ⟨qk, qa, qb, qc⟩ := q
                simp only at y0 y1 y2 y3 HT HF5
                go_wp2_with fail
                refine (HT.out _).mono ?_
                rintro e W6 ⟨rfl, hf6⟩
                have HF6 : Hid (Fr Nobody w W6) := HF5.out.trans hf6
                clear hf6 HT y0 y1 y2 y3
                cases r
                · have HN : Hid (fm 0 (evs L) = 4) := HBU.out HC.out (by trivial) (by rw [HUU.out]; exact HU3.out rfl)
                  clear HON HBL HBU HB4
                  go_wp2
                  go_ret
                  exact ⟨by rw [HN.out]; rfl, HF6.out⟩
                · have HU : Hid (un (C.take (i2 + 1)) = false) := HU4.out rfl
                  go_wp2
                  go_roundw
                  case rel => exact ⟨i2 + 1, by omega, by go_num, HU.out, HF6.out⟩
                  case measure => simp [intOf]; omega
              · have hlt2' : ¬ (i2 : Int) < (cl : Int) := by omega
                have HU : Hid (uu = false) := by have := HU2.out; rw [List.take_of_length_le (by rw [HCE.out]; omega)] at this; rw [HUU.out]; exact this
                have HN : Hid (fm (prvE (evs L) (0 + 1)) ((evs L).drop (0 + 1)) = fm 0 (evs L)) := HON.out HC.out (by trivial) HU.out
                clear HON HBL HBU HB4
                go_wp2
                go_roundw
                case rel => exact ⟨0 + 1, by omega, by go_num, HN.out, HF4.out⟩
                case measure => simp [intOf]; omega
          · have HN : Hid (fm 0 (evs L) = ls) := HBL.out HC.out hl0
            have hl1 : ((ls : Int) != 0) = true := by simpa using hl0
            clear HON HBL HBU HB4
            go_wp2
            go_ret
            exact ⟨by rw [HN.out]; rfl, HF3.out⟩
        · obtain ⟨y, hy⟩ : ∃ y, L[i]? = some y := ⟨_, List.getElem?_eq_getElem (by rw [HL.out.1]; omega)⟩
          have hpy : p = y.id := by rw [← hp]; simp [prvE, evs_at hy]
          have d0 : ∀ f : FrOf (wr.alloc (.cells #[.int .u32 (x.id : Int), .slice x.ao x.C.length x.cap] 71)), f.val.cell? ⟨g, o + i * 2, none⟩ = some (.int .u32 (p : Int)) := fun f => by
            obtain ⟨g', o', hg', h0, _, _⟩ := (HL.out.2.1.quiet (HFW.out.trans f.fr)).at hy
            rw [hao] at hg'
            cases hg'
            rw [hpy]; exact h0
          have hyid := (HL.out.2.2.1 y (List.mem_of_getElem? hy)).1
          rw [← hpy] at hyid
          have hwi : IntKind.i64.wrap (i : Int) = (i : Int) := by rw [IntKind.wrap_i64]; omega
          have hin : (i : Int) < (n : Int) := by omega
          subst hao
          by_cases hle : x.id ≤ p
          · have HC : Hid (x.id / 1024 < 1 ∨ x.id ≤ p) := .inr hle
            have hle' : (x.id : Int) ≤ (p : Int) := by omega
            clear hx hmx hkk hls huu hp hX hid1 hid HI hy hpy hle hge
            obtain ⟨xi, xa, xc, C⟩ := x
            simp only at c0 c1 HLS HB4 HBL HBU HON HC HFW HG HCL HUU hcb b0 b1 hle' d0
            generalize hclE : C.length = cl at *
            have HCE : Hid (C.length = cl) := hclE
            clear hclE
            have q0 := b0 ⟨_, Fr.refl _ _⟩
            simp only at q0
            go_wp2_with fail
            refine (HG.out _).mono ?_
            rintro e w5 ⟨rfl, hw5⟩
            subst hw5
            clear q0 c0 c1
            go_wp2
            generalize hWg : wr.alloc (.cells #[.int .u32 (xi : Int), .slice xa cl xc] 71) = W1 at *
            generalize wr.heap.size = b at *
            clear hWg
            refine wp_region_fr (by kernel_rfl) (by kernel_rfl) ?_
            repeat (with_reducible refine wpQuiet_step (fun K hK => ?_)
                    go_simp
                    (refine hK _ ?_; clear hK K))
            refine wpQuiet_nil ?_
            rintro w' ⟨f, rfl⟩
            have HF2 : Hid (Fr Nobody w f.val) := HFW.out.trans f.fr
            have HB2 : Hid (∀ w', Fr Nobody f.val w' → w'.cell? ⟨b, 1, none⟩ = some (.slice xa cl xc)) := fun w' hf => b1 ⟨w', f.fr.trans hf⟩
            have e1 := b1 f
            generalize f.val = W2 at *
            clear b0 b1
            have HN : Hid (fm 0 (evs L) = 4) := HB4.out HC.out
            clear HON HBL HBU HB4 HLS HTL
            go_wp2
            go_ret
            exact ⟨by rw [HN.out]; rfl, HF2.out⟩
          · have HC : Hid (¬ (x.id / 1024 < 1 ∨ x.id ≤ p)) := by show ¬ _; omega
            have hle' : ¬ (x.id : Int) ≤ (p : Int) := by omega
            clear hx hmx hkk hls huu hp hX hid1 hid HI hy hpy hle hge
            obtain ⟨xi, xa, xc, C⟩ := x
            simp only at c0 c1 HLS HB4 HBL HBU HON HC HFW HG HCL HUU hcb b0 b1 hle' d0
            generalize hclE : C.length = cl at *
            have HCE : Hid (C.length = cl) := hclE
            clear hclE
            have q0 := b0 ⟨_, Fr.refl _ _⟩
            simp only at q0
            go_wp2_with fail
            refine (HG.out _).mono ?_
            rintro e w5 ⟨rfl, hw5⟩
            subst hw5
            clear q0 c0 c1
            go_wp2
            generalize hWg : wr.alloc (.cells #[.int .u32 (xi : Int), .slice xa cl xc] 71) = W1 at *
            generalize wr.heap.size = b at *
            clear hWg
            refine wp_region_fr (by kernel_rfl) (by kernel_rfl) ?_
            repeat (with_reducible refine wpQuiet_step (fun K hK => ?_)
                    go_simp
                    (refine hK _ ?_; clear hK K))
            refine wpQuiet_nil ?_
            rintro w' ⟨f, rfl⟩
            have HF2 : Hid (Fr Nobody w f.val) := HFW.out.trans f.fr
            have HB2 : Hid (∀ w', Fr Nobody f.val w' → w'.cell? ⟨b, 1, none⟩ = some (.slice xa cl xc)) := fun w' hf => b1 ⟨w', f.fr.trans hf⟩
            have e1 := b1 f
            generalize f.val = W2 at *
            clear b0 b1
            go_wp2_with fail
            refine (HLS.out _ HF2.out).mono ?_
            rintro e W3 ⟨rfl, hf3⟩
            have HF3 : Hid (Fr Nobody w W3) := HF2.out.trans hf3
            have e3 := HB2.out W3 hf3
            clear hf3 e1 HB2 HF2 HLS
            by_cases hl0 : ls = 0
            · subst hl0
              go_wp2
              go_loopw [49] (fun c2 wr2 => ∃ i2 : Nat, i2 ≤ cl ∧ c2 = .int .i64 i2 ∧ un (C.take i2) = false ∧ Fr Nobody w wr2) (fun c2 _ => cl - (intOf c2).toNat)
              case atStart => exact ⟨0, Nat.zero_le _, rfl, by simp [un], HF3.out⟩
              case round =>
                obtain ⟨i2, hi2, rfl, hu2, hf4⟩ := hrel
                have HU2 : Hid (un (C.take i2) = false) := hu2
                have HF4 : Hid (Fr Nobody w _) := hf4
                clear hu2 hf4
                by_cases hlt2 : i2 < cl
                · obtain ⟨q, hq⟩ : ∃ q, C[i2]? = some q := ⟨_, List.getElem?_eq_getElem (by rw [HCE.out]; exact hlt2)⟩
                  obtain ⟨gg, oo, hga, _, y0, y1, y2, y3⟩ := ((HCL.out.2.1).quiet HF4.out).at i2 q hq
                  subst hga
                  have hq8 := HCL.out.2.2 q (List.mem_of_getElem? hq)
                  have hlt2' : (i2 : Int) < (cl : Int) := by omega
                  have HT : Hid (∀ W, Calls Tryz.prog 48 #[.int .u8 (q.k : Int)] W fun e w' => e = .returned (.bool (ktold q.k)) ∧ Fr Nobody W w') := fun W => rtold_any W q.k hq8
                  have HU3 : Hid (ktold q.k = false → un C = true) := fun e => un_mem (List.mem_of_getElem? hq) e
                  have HU4 : Hid (ktold q.k = true → un (C.take (i2 + 1)) = false) := fun e => by rw [take_snoc C i2 q hq, un_snoc, HU2.out, e]; rfl
                  have HF5 : Hid (Fr Nobody w (_)) := HF4.out.alloc (.cells #[.int .u8 (q.k : Int), .int .i32 q.a, .int .i32 q.b, .int .i32 q.c] 69)
                  clear hq
                  generalize ktold q.k = r at *
                  obtain ⟨qk, qa, qb, qc⟩ := q
                  simp only at y0 y1 y2 y3 HT HF5
                  go_wp2_with fail
                  refine (HT.out _).mono ?_
                  rintro e W6 ⟨rfl, hf6⟩
                  have HF6 : Hid (Fr Nobody w W6) := HF5.out.trans hf6
                  clear hf6 HT y0 y1 y2 y3
                  cases r
                  · have HN : Hid (fm 0 (evs L) = 4) := HBU.out HC.out (by trivial) (by rw [HUU.out]; exact HU3.out rfl)
                    clear HON HBL HBU HB4
                    go_wp2
                    go_ret
                    exact ⟨by rw [HN.out]; rfl, HF6.out⟩
                  · have HU : Hid (un (C.take (i2 + 1)) = false) := HU4.out rfl
                    go_wp2
                    go_roundw
                    case rel => exact ⟨i2 + 1, by omega, by go_num, HU.out, HF6.out⟩
                    case measure => simp [intOf]; omega
                · have hlt2' : ¬ (i2 : Int) < (cl : Int) := by omega
                  have HU : Hid (uu = false) := by have := HU2.out; rw [List.take_of_length_le (by rw [HCE.out]; omega)] at this; rw [HUU.out]; exact this
                  have HN : Hid (fm (prvE (evs L) ((i + 1) + 1)) ((evs L).drop ((i + 1) + 1)) = fm 0 (evs L)) := HON.out HC.out (by trivial) HU.out
                  clear HON HBL HBU HB4
                  go_wp2
                  go_roundw
                  case rel => exact ⟨(i + 1) + 1, by omega, by go_num, HN.out, HF4.out⟩
                  case measure => simp [intOf]; omega
            · have HN : Hid (fm 0 (evs L) = ls) := HBL.out HC.out hl0
              have hl1 : ((ls : Int) != 0) = true := by simpa using hl0
              clear HON HBL HBU HB4
              go_wp2
              go_ret
              exact ⟨by rw [HN.out]; rfl, HF3.out⟩
      · have HC : Hid (x.id / 1024 < 1 ∨ x.id ≤ p) := .inl (by omega)
        have hg1 : (ge : Int) < 1 := by omega
        subst hao
        clear hx hmx hkk hls huu hp hX hid1 hid HI hge
        obtain ⟨xi, xa, xc, C⟩ := x
        simp only at c0 c1 HLS HB4 HBL HBU HON HC HFW HG HCL HUU hcb b0 b1
        generalize hclE : C.length = cl at *
        have HCE : Hid (C.length = cl) := hclE
        clear hclE
        have q0 := b0 ⟨_, Fr.refl _ _⟩
        simp only at q0
        go_wp2_with fail
        refine (HG.out _).mono ?_
        rintro e w5 ⟨rfl, hw5⟩
        subst hw5
        clear q0 c0 c1
        go_wp2
        generalize hWg : wr.alloc (.cells #[.int .u32 (xi : Int), .slice xa cl xc] 71) = W1 at *
        generalize wr.heap.size = b at *
        clear hWg
        refine wp_region_fr (by kernel_rfl) (by kernel_rfl) ?_
        repeat (with_reducible refine wpQuiet_step (fun K hK => ?_)
                go_simp
                (refine hK _ ?_; clear hK K))
        refine wpQuiet_nil ?_
        rintro w' ⟨f, rfl⟩
        have HF2 : Hid (Fr Nobody w f.val) := HFW.out.trans f.fr
        have HB2 : Hid (∀ w', Fr Nobody f.val w' → w'.cell? ⟨b, 1, none⟩ = some (.slice xa cl xc)) := fun w' hf => b1 ⟨w', f.fr.trans hf⟩
        have e1 := b1 f
        generalize f.val = W2 at *
        clear b0 b1
        have HN : Hid (fm 0 (evs L) = 4) := HB4.out HC.out
        clear HON HBL HBU HB4 HLS HTL
        go_wp2
        go_ret
        exact ⟨by rw [HN.out]; rfl, HF2.out⟩
    · have hlt' : ¬ (j : Int) < (n : Int) := by omega
      have HN : Hid (fm 0 (evs L) = 0) := fm_end HI.out (by rw [evs_len, HL.out.1]; omega)
      go_wp2
      go_ret
      exact ⟨by rw [HN.out]; rfl, HF.out⟩
end Go.Proofs.YtlncgkbgelejmaaGreatDoor


/-
  The document's Seal: kinds without steps.
-/
namespace Go.Proofs.YtlncgkbgelejmaaGreatDoor
open Go.RowKit
set_option linter.unusedVariables false
set_option maxRecDepth 100000

set_option maxHeartbeats 400000 in
theorem rseal_long (w : World) (ao : Option Addr) (cap len : Nat) (h : 4096 < len) (hmax : len ≤ maxLen) :
    Calls Tryz.prog 28 #[.slice ao len cap] w fun e w' => e = .returned (.tuple #[.slice none 0 0, .int .i64 3]) ∧ w' = w := by
  unfold maxLen at hmax
  go_enter Tryz.func28, Tryz.ntmps28
  go_wp2
  go_ret2
  exact ⟨rfl, rfl⟩
set_option maxHeartbeats 16000000 in
theorem rseal_bad (w0 w : World) (l : List Thing) (h : Own w0 w l) (k c e t s : Nat) (hI : HIn k c e t s) (hc : hchk k c e t s ≠ 0) (aw an : Option Addr) (nw nn cw cn : Nat) (W N : List EnE) (hQ : ∀ w', Own w0 w' l → EntsAt w' aw W ∧ EntsAt w' an N) (hW : W.length = nw) (hN : N.length = nn) (hIW : EIn W) (hIN : EIn N) (hzW : esz W ≤ 400) (hzN : esz N ≤ 400) :
    Calls Tryz.prog 6 #[.agg (hvs k c e t s), .slice aw nw cw, .slice an nn cn] w fun x w' => ∃ v code P, x = .returned (.tuple #[v, .int .i64 ((code : Nat) : Int)]) ∧ SealR k c e t s (evs W) (evs N) code P ∧ Own w0 w' (Row 5 1 v P.length (vrow P) :: l) := by
  have hB := h.allocC (hvs k c e t s) 24
  have HCH : Hid (Calls _ _ _ _ _) := hrcheck_any (w.alloc (.cells (hvs k c e t s) 24)) k c e t s hI
  have HB : Hid (Own w0 _ _) := hB
  have hcl := hchk_lt k c e t s
  have HSR : Hid (∀ code, code < 4294967296 → code ≠ 0 → SealR k c e t s (evs W) (evs N) code []) := fun code => sealR_no
  have q0 := hB.cell 0
  have q1 := hB.cell 1
  have q2 := hB.cell 2
  have q3 := hB.cell 3
  have q4 := hB.cell 4
  simp [hvs] at q0 q1 q2 q3 q4
  generalize hchk k c e t s = hcd at *
  have z0 : ((hcd : Int) != 0) = true := by simpa using hc
  have HC0 : Hid (hcd ≠ 0) := hc
  unfold hvs at HCH ⊢
  clear h hB hI hc hQ hW hN hIW hIN hzW hzN
  go_enter Tryz.func6, Tryz.ntmps6
  go_wp2_with fail
  refine HCH.out.mono ?_
  rintro x w1 ⟨rfl, hf1⟩
  have H5 : Hid (Own w0 w1 l) := (HB.out.quiet hf1).tail
  clear hf1 HCH HB q0 q1 q2 q3 q4
  go_wp2
  go_ret2
  exact ⟨_, hcd, [], rfl, HSR.out hcd hcl HC0.out, H5.out.nilRow _ _⟩
set_option maxHeartbeats 16000000 in
theorem rseal_1 (w0 w : World) (l : List Thing) (h : Own w0 w l) (c e t s : Nat) (hI : HIn 1 c e t s) (hc : hchk 1 c e t s = 0) (aw an : Option Addr) (nw nn cw cn : Nat) (W N : List EnE) (hQ : ∀ w', Own w0 w' l → EntsAt w' aw W ∧ EntsAt w' an N) (hW : W.length = nw) (hN : N.length = nn) (hIW : EIn W) (hIN : EIn N) (hzW : esz W ≤ 400) (hzN : esz N ≤ 400) :
    Calls Tryz.prog 6 #[.agg (hvs 1 c e t s), .slice aw nw cw, .slice an nn cn] w fun x w' => ∃ v code P, x = .returned (.tuple #[v, .int .i64 ((code : Nat) : Int)]) ∧ SealR 1 c e t s (evs W) (evs N) code P ∧ Own w0 w' (Row 5 1 v P.length (vrow P) :: l) := by
  have hR := right_of hI hc
  have hB := h.allocC (hvs 1 c e t s) 24
  have HCH : Hid (Calls _ _ _ _ _) := hrcheck_any (w.alloc (.cells (hvs 1 c e t s) 24)) 1 c e t s hI
  rw [hc] at HCH
  have HB : Hid (Own w0 _ _) := hB
  have HR : Hid (Right 1 c e t s) := hR
  have zz : ∀ X : List EnE, (evs X).length + cszV (evs X) = esz X := fun X => by rw [evs_len, cszV_evs]; rfl
  have HCL : Hid (ccode 1 (evs W) (evs N) = 0 → (headB 1 c e t s ++ contB 1 (evs W) (evs N)).length ≤ 401000 ∧ 0 < (headB 1 c e t s ++ contB 1 (evs W) (evs N)).length) := fun hc => by
    have h1 := contB_le (k := 1) (W := evs W) (N := evs N) (fun x hx => by
      obtain ⟨y, hy, rfl⟩ := List.mem_map.1 hx
      exact (hIW y hy).1) (fun x hx => by
      obtain ⟨y, hy, rfl⟩ := List.mem_map.1 hx
      exact (hIN y hy).1) (by rw [zz]; exact hzW) (by rw [zz]; exact hzN) hc
    have h2 := headB_le 1 c e t s hI.e hI.t
    have h3 : 3 ≤ (headB 1 c e t s).length := by unfold headB; simp only [List.length_append, length_bitsN, wid15]; omega
    rw [List.length_append]
    omega
  have HSR : Hid (∀ code, code < 4294967296 → code ≠ 0 → SealR 1 c e t s (evs W) (evs N) code []) := fun code => sealR_no
  have HSY : Hid (∀ P, (∀ x ∈ P, x < 256) → ccode 1 (evs W) (evs N) = 0 → P = frm (pack (headB 1 c e t s ++ contB 1 (evs W) (evs N))) → P.length ≤ 4100 → SealR 1 c e t s (evs W) (evs N) 0 P) := fun P h1 h3 h4 h5 => ⟨by decide, h1, fun _ => ⟨HR.out, h3, h4, h5⟩⟩
  have HQ : Hid ((∀ w', Own w0 w' l → EntsAt w' aw W ∧ EntsAt w' an N) ∧ W.length = nw ∧ N.length = nn ∧ EIn W ∧ EIn N ∧ esz W ≤ 400 ∧ esz N ≤ 400) := ⟨hQ, hW, hN, hIW, hIN, hzW, hzN⟩
  have HIH : Hid (HIn 1 c e t s) := hI
  have q0 := hB.cell 0
  have q1 := hB.cell 1
  have q2 := hB.cell 2
  have q3 := hB.cell 3
  have q4 := hB.cell 4
  simp [hvs] at q0 q1 q2 q3 q4
  have hn8 : nn ≤ 400 := by unfold esz at hzN; omega
  clear h hB hR hQ hW hN hIW hIN hzW hzN zz hc hI
  unfold hvs at HCH ⊢
  go_enter Tryz.func6, Tryz.ntmps6
  go_wp2_with fail
  refine HCH.out.mono ?_
  rintro x w1 ⟨rfl, hf1⟩
  have h1 := HB.out.quiet hf1
  have HHD : Hid (Calls Tryz.prog 16 #[.agg #[.int .u8 1, .int .u8 (c : Int), .int .u32 (e : Int), .int .u32 (t : Int), .int .u32 (s : Int)]] _ _) := rhead w0 w1 _ h1 1 c e t s HR.out
  have p0 := h1.cell 0
  have p1 := h1.cell 1
  have p2 := h1.cell 2
  have p3 := h1.cell 3
  have p4 := h1.cell 4
  simp [hvs] at p0 p1 p2 p3 p4
  clear hf1 h1 HCH HB q0 q1 q2 q3 q4
  generalize w.heap.size = bh at *
  go_wp2_with fail
  refine HHD.out.mono ?_
  rintro x w2 ⟨v2, rfl, h2⟩
  have r0 := h2.two.cell 0
  simp [hvs] at r0
  clear HHD p0 p1 p2 p3 p4
  have HFO : Hid (Calls _ _ _ _ _) := rform_any w2 an nn cn N ((HQ.out.1 w2 h2.tail.tail).2) HQ.out.2.2.1 HQ.out.2.2.2.2.1 (by have := HQ.out.2.2.2.2.2.2; omega)
  have hfl := fm_lt 0 (evs N)
  have HCC : Hid (ccode 1 (evs W) (evs N) = fm 0 (evs N)) := rfl
  have H2 : Hid (Own w0 w2 _) := h2
  clear h2
  by_cases hf0 : fm 0 (evs N) = 0
  · rw [hf0] at HFO
    have HF0 : Hid (fm 0 (evs N) = 0) := hf0
    have z0 : ((0 : Int) != 0) = false := rfl
    clear hf0 hfl
    go_wp2_with fail
    refine HFO.out.mono ?_
    rintro x w3 ⟨rfl, hf3⟩
    have h3 := H2.out.quiet hf3
    have HEN : Hid (Calls _ _ _ _ _) := rents w0 w3 _ v2 (headB 1 c e t s) an nn cn N h3 (fun w' hw => (HQ.out.1 w' hw.tail).2) HQ.out.2.2.1 HQ.out.2.2.2.2.1 (Snap.of HF0.out).up (fm_each HF0.out) (by have h1 := headB_le 1 c e t s HIH.out.e HIH.out.t; have := HQ.out.2.2.2.2.2.2; omega)
    clear hf3 h3 H2 HFO
    go_wp2_with fail
    refine HEN.out.mono ?_
    rintro x w4 ⟨v4, rfl, h4⟩
    obtain ⟨M, hM⟩ : ∃ M, M = (headB 1 c e t s ++ var nn) ++ entsB 0 (evs N) := ⟨_, rfl⟩
    rw [← hM] at h4
    have HM : Hid (M = headB 1 c e t s ++ contB 1 (evs W) (evs N)) := by
      show _ = _
      rw [hM]
      unfold contB
      rw [if_pos rfl, evs_len, HQ.out.2.2.1, List.append_assoc]
    have H4 : Hid (Own w0 w4 (BT v4 M :: _)) := h4
    have HL : Hid (Own w0 w4 l) := h4.tail.tail
    clear h4 HEN hM r0
    have hmm := HCL.out (HCC.out.trans HF0.out)
    rw [← HM.out] at hmm
    have hml := hmm.1
    have hm0 := hmm.2
    clear hmm
    have HBY : Hid (Calls _ _ _ _ _) := rbytes_any w4 v4 M H4.out.bs (by omega)
    clear H4
    go_wp2_with fail
    refine HBY.out.mono ?_
    rintro x wy ⟨vy, rfl, hr, hf, hk⟩
    have hnb : 0 < nb M.length := by unfold nb; omega
    have hnb2 : nb M.length ≤ 60000 := by unfold nb; omega
    obtain ⟨g, cap, hv, _⟩ := row_shape hr hnb
    subst hv
    by_cases hlg : nb M.length ≤ 4096
    · have hin := In.of_row hr (by rw [pack_len]) (pack_byte M)
      have HSE : Hid (Calls _ _ _ _ _) := rseal_ok wy (some ⟨g, 0, none⟩) cap (nb M.length) (pack M) hin hlg
      have H6 : Hid (Own w0 wy l) := HL.out.quiet hf
      clear hr hf hk HBY hin
      go_wp2_with fail
      refine HSE.out.mono ?_
      rintro x wx ⟨g6, cp6, rfl, hr6, hf6⟩
      have H7 : Hid (Own w0 wx (Row 5 1 (.slice (some ⟨g6, 0, none⟩) (nb M.length + 4) cp6) (nb M.length + 4) (vrow (frm (pack M))) :: l)) := H6.out.new (Row 5 1 (.slice (some ⟨g6, 0, none⟩) (nb M.length + 4) cp6) (nb M.length + 4) (vrow (frm (pack M)))) (fun j => (Value.slice (some ⟨g6, 0, none⟩) (nb M.length + 4) cp6).ownBlock = some j) ⟨row_weak hr6, fun _ => Iff.rfl⟩ hf6 (fun j hj => (hr6.lt j hj).1)
      clear hr6 hf6 HSE H6
      go_wp2
      go_ret2
      refine ⟨_, 0, frm (pack M), rfl, HSY.out _ (frm_byte _ (pack_byte M)) (HCC.out.trans HF0.out) (by rw [HM.out]) (by rw [length_frm, pack_len]; omega), ?_⟩
      have e1 : (frm (pack M)).length = nb M.length + 4 := by rw [length_frm, pack_len]
      rw [e1]
      exact H7.out
    · have HSE : Hid (Calls _ _ _ _ _) := rseal_long wy (some ⟨g, 0, none⟩) cap (nb M.length) (by omega) (by unfold maxLen; omega)
      have H6 : Hid (Own w0 wy l) := HL.out.quiet hf
      clear hr hf hk HBY
      go_wp2_with fail
      refine HSE.out.mono ?_
      rintro x wx ⟨rfl, rfl⟩
      clear HSE
      go_wp2
      go_ret2
      exact ⟨_, 3, [], rfl, HSR.out 3 (by decide) (by decide), H6.out.nilRow _ _⟩
  · have z0 : (((fm 0 (evs N) : Nat) : Int) != 0) = true := by simpa using hf0
    have HC0 : Hid (fm 0 (evs N) ≠ 0) := hf0
    generalize fm 0 (evs N) = fc at *
    clear hf0
    go_wp2_with fail
    refine HFO.out.mono ?_
    rintro x w3 ⟨rfl, hf3⟩
    have H5 : Hid (Own w0 w3 l) := (H2.out.quiet hf3).tail.tail
    clear hf3 H2 HFO r0
    go_wp2
    go_ret2
    exact ⟨_, fc, [], rfl, HSR.out fc hfl HC0.out, H5.out.nilRow _ _⟩
set_option maxHeartbeats 16000000 in
theorem rseal_3 (w0 w : World) (l : List Thing) (h : Own w0 w l) (k c e t s : Nat) (hI : HIn k c e t s) (hc : hchk k c e t s = 0) (hk1 : k ≠ 1) (hk2 : k ≠ 2) (aw an : Option Addr) (nw nn cw cn : Nat) (W N : List EnE) (hQ : ∀ w', Own w0 w' l → EntsAt w' aw W ∧ EntsAt w' an N) (hW : W.length = nw) (hN : N.length = nn) (hIW : EIn W) (hIN : EIn N) (hzW : esz W ≤ 400) (hzN : esz N ≤ 400) :
    Calls Tryz.prog 6 #[.agg (hvs k c e t s), .slice aw nw cw, .slice an nn cn] w fun x w' => ∃ v code P, x = .returned (.tuple #[v, .int .i64 ((code : Nat) : Int)]) ∧ SealR k c e t s (evs W) (evs N) code P ∧ Own w0 w' (Row 5 1 v P.length (vrow P) :: l) := by
  have e1 : ((k : Int) == 1) = false := by rw [beq_eq_false_iff_ne]; omega
  have e2 : ((k : Int) == 2) = false := by rw [beq_eq_false_iff_ne]; omega
  have HCC : Hid (ccode k (evs W) (evs N) = if (evs N).length = 0 then 0 else 4) := by show _ = _; unfold ccode; rw [if_neg hk1, if_neg hk2]
  have HCB : Hid (contB k (evs W) (evs N) = []) := by show _ = _; unfold contB; rw [if_neg hk1, if_neg hk2]
  clear hk1 hk2
  have hR := right_of hI hc
  have hB := h.allocC (hvs k c e t s) 24
  have HCH : Hid (Calls _ _ _ _ _) := hrcheck_any (w.alloc (.cells (hvs k c e t s) 24)) k c e t s hI
  rw [hc] at HCH
  have HB : Hid (Own w0 _ _) := hB
  have HR : Hid (Right k c e t s) := hR
  have zz : ∀ X : List EnE, (evs X).length + cszV (evs X) = esz X := fun X => by rw [evs_len, cszV_evs]; rfl
  have HCL : Hid (ccode k (evs W) (evs N) = 0 → (headB k c e t s ++ contB k (evs W) (evs N)).length ≤ 401000 ∧ 0 < (headB k c e t s ++ contB k (evs W) (evs N)).length) := fun hc => by
    have h1 := contB_le (k := k) (W := evs W) (N := evs N) (fun x hx => by
      obtain ⟨y, hy, rfl⟩ := List.mem_map.1 hx
      exact (hIW y hy).1) (fun x hx => by
      obtain ⟨y, hy, rfl⟩ := List.mem_map.1 hx
      exact (hIN y hy).1) (by rw [zz]; exact hzW) (by rw [zz]; exact hzN) hc
    have h2 := headB_le k c e t s hI.e hI.t
    have h3 : 3 ≤ (headB k c e t s).length := by unfold headB; simp only [List.length_append, length_bitsN, wid15]; omega
    rw [List.length_append]
    omega
  have HSR : Hid (∀ code, code < 4294967296 → code ≠ 0 → SealR k c e t s (evs W) (evs N) code []) := fun code => sealR_no
  have HSY : Hid (∀ P, (∀ x ∈ P, x < 256) → ccode k (evs W) (evs N) = 0 → P = frm (pack (headB k c e t s ++ contB k (evs W) (evs N))) → P.length ≤ 4100 → SealR k c e t s (evs W) (evs N) 0 P) := fun P h1 h3 h4 h5 => ⟨by decide, h1, fun _ => ⟨HR.out, h3, h4, h5⟩⟩
  have HQ : Hid ((∀ w', Own w0 w' l → EntsAt w' aw W ∧ EntsAt w' an N) ∧ W.length = nw ∧ N.length = nn ∧ EIn W ∧ EIn N ∧ esz W ≤ 400 ∧ esz N ≤ 400) := ⟨hQ, hW, hN, hIW, hIN, hzW, hzN⟩
  have HIH : Hid (HIn k c e t s) := hI
  have q0 := hB.cell 0
  have q1 := hB.cell 1
  have q2 := hB.cell 2
  have q3 := hB.cell 3
  have q4 := hB.cell 4
  simp [hvs] at q0 q1 q2 q3 q4
  have hn8 : nn ≤ 400 := by unfold esz at hzN; omega
  clear h hB hR hQ hW hN hIW hIN hzW hzN zz hc hI
  unfold hvs at HCH ⊢
  go_enter Tryz.func6, Tryz.ntmps6
  go_wp2_with fail
  refine HCH.out.mono ?_
  rintro x w1 ⟨rfl, hf1⟩
  have h1 := HB.out.quiet hf1
  have HHD : Hid (Calls Tryz.prog 16 #[.agg #[.int .u8 (k : Int), .int .u8 (c : Int), .int .u32 (e : Int), .int .u32 (t : Int), .int .u32 (s : Int)]] _ _) := rhead w0 w1 _ h1 k c e t s HR.out
  have p0 := h1.cell 0
  have p1 := h1.cell 1
  have p2 := h1.cell 2
  have p3 := h1.cell 3
  have p4 := h1.cell 4
  simp [hvs] at p0 p1 p2 p3 p4
  clear hf1 h1 HCH HB q0 q1 q2 q3 q4
  generalize w.heap.size = bh at *
  go_wp2_with fail
  refine HHD.out.mono ?_
  rintro x w2 ⟨v2, rfl, h2⟩
  have r0 := h2.two.cell 0
  simp [hvs] at r0
  clear HHD p0 p1 p2 p3 p4
  have H2 : Hid (Own w0 w2 _) := h2
  clear h2
  by_cases hn0 : nn = 0
  · subst hn0
    have HC0 : Hid (ccode k (evs W) (evs N) = 0) := by show _ = _; rw [HCC.out, if_pos (by rw [evs_len]; exact HQ.out.2.2.1)]
    have g0 : ¬ (0 : Int) < ((0 : Nat) : Int) := by omega
    obtain ⟨M, hM⟩ : ∃ M, M = headB k c e t s := ⟨_, rfl⟩
    have HM : Hid (M = headB k c e t s ++ contB k (evs W) (evs N)) := by show _ = _; rw [HCB.out, List.append_nil, hM]
    have H4 : Hid (Own w0 w2 (BT v2 M :: Cells bh (hvs k c e t s) 24 :: l)) := by rw [hM]; exact H2.out
    have HL : Hid (Own w0 w2 l) := H2.out.tail.tail
    clear H2 hM
    have hmm := HCL.out HC0.out
    rw [← HM.out] at hmm
    have hml := hmm.1
    have hm0 := hmm.2
    clear hmm
    have HBY : Hid (Calls _ _ _ _ _) := rbytes_any w2 v2 M H4.out.bs (by omega)
    clear H4
    go_wp2_with fail
    refine HBY.out.mono ?_
    rintro x wy ⟨vy, rfl, hr, hf, hk⟩
    have hnb : 0 < nb M.length := by unfold nb; omega
    have hnb2 : nb M.length ≤ 60000 := by unfold nb; omega
    obtain ⟨g, cap, hv, _⟩ := row_shape hr hnb
    subst hv
    by_cases hlg : nb M.length ≤ 4096
    · have hin := In.of_row hr (by rw [pack_len]) (pack_byte M)
      have HSE : Hid (Calls _ _ _ _ _) := rseal_ok wy (some ⟨g, 0, none⟩) cap (nb M.length) (pack M) hin hlg
      have H6 : Hid (Own w0 wy l) := HL.out.quiet hf
      clear hr hf hk HBY hin
      go_wp2_with fail
      refine HSE.out.mono ?_
      rintro x wx ⟨g6, cp6, rfl, hr6, hf6⟩
      have H7 : Hid (Own w0 wx (Row 5 1 (.slice (some ⟨g6, 0, none⟩) (nb M.length + 4) cp6) (nb M.length + 4) (vrow (frm (pack M))) :: l)) := H6.out.new (Row 5 1 (.slice (some ⟨g6, 0, none⟩) (nb M.length + 4) cp6) (nb M.length + 4) (vrow (frm (pack M)))) (fun j => (Value.slice (some ⟨g6, 0, none⟩) (nb M.length + 4) cp6).ownBlock = some j) ⟨row_weak hr6, fun _ => Iff.rfl⟩ hf6 (fun j hj => (hr6.lt j hj).1)
      clear hr6 hf6 HSE H6
      go_wp2
      go_ret2
      refine ⟨_, 0, frm (pack M), rfl, HSY.out _ (frm_byte _ (pack_byte M)) HC0.out (by rw [HM.out]) (by rw [length_frm, pack_len]; omega), ?_⟩
      have e1 : (frm (pack M)).length = nb M.length + 4 := by rw [length_frm, pack_len]
      rw [e1]
      exact H7.out
    · have HSE : Hid (Calls _ _ _ _ _) := rseal_long wy (some ⟨g, 0, none⟩) cap (nb M.length) (by omega) (by unfold maxLen; omega)
      have H6 : Hid (Own w0 wy l) := HL.out.quiet hf
      clear hr hf hk HBY
      go_wp2_with fail
      refine HSE.out.mono ?_
      rintro x wx ⟨rfl, rfl⟩
      clear HSE
      go_wp2
      go_ret2
      exact ⟨_, 3, [], rfl, HSR.out 3 (by decide) (by decide), H6.out.nilRow _ _⟩
  · have g0 : (0 : Int) < (nn : Int) := by omega
    have H5 : Hid (Own w0 w2 l) := H2.out.tail.tail
    clear H2 hn0
    go_wp2
    go_ret2
    exact ⟨_, 4, [], rfl, HSR.out 4 (by decide) (by decide), H5.out.nilRow _ _⟩
end Go.Proofs.YtlncgkbgelejmaaGreatDoor
