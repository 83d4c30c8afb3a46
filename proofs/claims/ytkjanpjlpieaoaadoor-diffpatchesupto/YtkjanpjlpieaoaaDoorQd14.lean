/-
  Lists of entities: alike; where one stands; is it a snapshot?
-/
import Derived.Test.YtkjanpjlpieaoaaDoorQd13
namespace Go.Proofs.YtkjanpjlpieaoaaDoor
open Go.RowKit
set_option linter.unusedVariables false
set_option maxRecDepth 100000

set_option maxHeartbeats 8000000 in
theorem sameEnts_any (w : World) (a1 a2 : Option Addr) (n1 n2 c1 c2 : Nat) (L M : List EnE) (h1 : EntsAt w a1 L) (h2 : EntsAt w a2 M) (hn1 : L.length = n1) (hn2 : M.length = n2) (hz1 : esz L ≤ 2097152) (hz2 : esz M ≤ 2097152) :
    Calls Tryd.prog 11 #[.slice a1 n1 c1, .slice a2 n2 c2] w fun e w' => e = .returned (.bool (decide (evs L = evs M))) ∧ Fr Nobody w w' := by
  have hm1 : n1 ≤ 2097152 := by unfold esz at hz1; omega
  have HZ : Hid ((∀ x ∈ L, x.C.length ≤ 2097152) ∧ ∀ x ∈ M, x.C.length ≤ 2097152) := ⟨fun x hx => by have := csz_mem hx; unfold esz at hz1; omega, fun x hx => by have := csz_mem hx; unfold esz at hz2; omega⟩
  have hlL := evs_len L
  have hlM := evs_len M
  by_cases hne : n1 = n2
  · have H1 : Hid (EntsAt w a1 L ∧ EntsAt w a2 M ∧ L.length = n1 ∧ M.length = n1) := ⟨h1, h2, hn1, by rw [hn2, hne]⟩
    have HLL : Hid ((evs L).length ≤ n1 ∧ (evs M).length ≤ n1) := ⟨by omega, by omega⟩
    rw [← hne]
    clear h1 h2 hn1 hn2 hne hz1 hz2 hlL hlM
    have hne' : ((n1 : Int) != (n1 : Int)) = false := by simp
    go_enter Tryd.func11, Tryd.ntmps11
    go_wp2
    clear hne'
    go_loopw [13] (fun cc wr => ∃ k : Nat, k ≤ n1 ∧ cc = .int .i64 k ∧ Fr Nobody w wr ∧ (evs L).take k = (evs M).take k) (fun cc _ => n1 - (intOf cc).toNat)
    case atStart => exact ⟨0, Nat.zero_le _, rfl, Fr.refl _ _, by simp⟩
    case round =>
      obtain ⟨k, hk, rfl, hf, heq⟩ := hrel
      have HF : Hid (Fr Nobody w wr) := hf
      have HE : Hid ((evs L).take k = (evs M).take k) := heq
      clear hf heq
      by_cases hlt : k < n1
      · obtain ⟨x, hx⟩ : ∃ x, L[k]? = some x := ⟨_, List.getElem?_eq_getElem (by rw [H1.out.2.2.1]; exact hlt)⟩
        obtain ⟨y, hy⟩ : ∃ y, M[k]? = some y := ⟨_, List.getElem?_eq_getElem (by rw [H1.out.2.2.2]; exact hlt)⟩
        obtain ⟨g1, o1, hg1, _, _, _⟩ := (H1.out.1.quiet HF.out).at hx
        obtain ⟨g2, o2, hg2, _, _, _⟩ := (H1.out.2.1.quiet HF.out).at hy
        subst hg1 hg2
        have hlt' : (k : Int) < (n1 : Int) := by omega
        have r0 : ∀ f : FrOf wr, f.val.cell? ⟨g1, o1 + k * 2, none⟩ = some (.int .u32 (x.id : Int)) := fun f => by
          obtain ⟨g, o, hg, h0, h1, _⟩ := (H1.out.1.quiet (HF.out.trans f.fr)).at hx
          cases hg; exact h0
        have r1 : ∀ f : FrOf wr, f.val.cell? ⟨g1, o1 + k * 2 + 1, none⟩ = some (.slice x.ao x.C.length x.cap) := fun f => by
          obtain ⟨g, o, hg, h0, h1, _⟩ := (H1.out.1.quiet (HF.out.trans f.fr)).at hx
          cases hg; exact h1
        have s0 : ∀ f : FrOf wr, f.val.cell? ⟨g2, o2 + k * 2, none⟩ = some (.int .u32 (y.id : Int)) := fun f => by
          obtain ⟨g, o, hg, h0, h1, _⟩ := (H1.out.2.1.quiet (HF.out.trans f.fr)).at hy
          cases hg; exact h0
        have s1 : ∀ f : FrOf wr, f.val.cell? ⟨g2, o2 + k * 2 + 1, none⟩ = some (.slice y.ao y.C.length y.cap) := fun f => by
          obtain ⟨g, o, hg, h0, h1, _⟩ := (H1.out.2.1.quiet (HF.out.trans f.fr)).at hy
          cases hg; exact h1
        obtain ⟨r, hr⟩ : ∃ r, decide ((x.id, x.C) = (y.id, y.C)) = r := ⟨_, rfl⟩
        have CS : Hid (∀ f : FrOf wr, Calls Tryd.prog 25 #[.agg #[.int .u32 (x.id : Int), .slice x.ao x.C.length x.cap], .agg #[.int .u32 (y.id : Int), .slice y.ao y.C.length y.cap]] f.val fun e w' => e = .returned (.bool r) ∧ Fr Nobody f.val w') := fun f => by
          rw [← hr]
          exact eqEn_r f.val x.id y.id x.ao y.ao x.C.length y.C.length x.cap y.cap x.C y.C ((H1.out.1.quiet (HF.out.trans f.fr)).2 x (List.mem_of_getElem? hx)) ((H1.out.2.1.quiet (HF.out.trans f.fr)).2 y (List.mem_of_getElem? hy)) rfl rfl (HZ.out.1 x (List.mem_of_getElem? hx)) (HZ.out.2 y (List.mem_of_getElem? hy))
        have HXY : Hid ((evs L)[k]? = some (x.id, x.C) ∧ (evs M)[k]? = some (y.id, y.C)) := ⟨evs_at hx, evs_at hy⟩
        have HR : Hid (decide ((x.id, x.C) = (y.id, y.C)) = r) := hr
        clear hx hy hr
        obtain ⟨xi, xa, xc, xC⟩ := x
        obtain ⟨yi, ya, yc, yC⟩ := y
        simp only at r0 r1 s0 s1 CS HXY HR
        generalize xC.length = xl at *
        generalize yC.length = yl at *
        go_wp2
        refine wp_region_fr (by kernel_rfl) (by kernel_rfl) ?_
        repeat (with_reducible refine wpQuiet_step (fun K hK => ?_)
                go_simp
                first
                  | (refine hK _ ?_; clear hK K)
                  | (apply Exists.intro
                     refine ⟨fun _ => ?_, hK _ ?_⟩
                     (go_at_call 25; with_reducible refine Calls.fr_of (CS.out _))
                     clear hK K))
        refine wpQuiet_nil ?_
        rintro w' ⟨f, rfl⟩
        have HF2 : Hid (Fr Nobody w f.val) := HF.out.trans f.fr
        clear r0 r1 s0 s1 CS
        cases r
        · have HN : Hid (decide (evs L = evs M) = false) := take_ne HXY.out.1 HXY.out.2 HR.out
          go_wp2
          go_ret
          exact ⟨by rw [HN.out]; rfl, HF2.out⟩
        · have HN : Hid ((evs L).take (k + 1) = (evs M).take (k + 1)) := take_eq HXY.out.1 HXY.out.2 HR.out HE.out
          go_wp2
          go_roundw
          case rel => exact ⟨k + 1, by omega, by go_num, HF2.out, HN.out⟩
          case measure => simp [intOf]; omega
      · have hlt' : ¬ (k : Int) < (n1 : Int) := by omega
        have HN : Hid (decide (evs L = evs M) = true) := take_all (by have := HLL.out.1; omega) (by have := HLL.out.2; omega) HE.out
        go_wp2
        go_ret
        exact ⟨by rw [HN.out]; rfl, HF.out⟩
  · have HN : Hid (decide (evs L = evs M) = false) := len_ne (by omega)
    have hne' : ((n1 : Int) != (n2 : Int)) = true := by rw [bne_iff_ne]; omega
    clear h1 h2 hn1 hn2 hne hlL hlM hz1 hz2
    go_enter Tryd.func11, Tryd.ntmps11
    go_wp2
    go_ret
    exact ⟨by rw [HN.out]; rfl, Fr.refl _ _⟩

set_option maxHeartbeats 4000000 in
theorem equalEnts_any (w : World) (a1 a2 : Option Addr) (n1 n2 c1 c2 : Nat) (L M : List EnE) (h1 : EntsAt w a1 L) (h2 : EntsAt w a2 M) (hn1 : L.length = n1) (hn2 : M.length = n2) (hz1 : esz L ≤ 2097152) (hz2 : esz M ≤ 2097152) :
    Calls Tryd.prog 60 #[.slice a1 n1 c1, .slice a2 n2 c2, .func (.func 61) #[] #[]] w fun e w' => e = .returned (.bool (decide (evs L = evs M))) ∧ Fr Nobody w w' := by
  have hm1 : n1 ≤ 2097152 := by unfold esz at hz1; omega
  have HZ : Hid ((∀ x ∈ L, x.C.length ≤ 2097152) ∧ ∀ x ∈ M, x.C.length ≤ 2097152) := ⟨fun x hx => by have := csz_mem hx; unfold esz at hz1; omega, fun x hx => by have := csz_mem hx; unfold esz at hz2; omega⟩
  have hlL := evs_len L
  have hlM := evs_len M
  by_cases hne : n1 = n2
  · have H1 : Hid (EntsAt w a1 L ∧ EntsAt w a2 M ∧ L.length = n1 ∧ M.length = n1) := ⟨h1, h2, hn1, by rw [hn2, hne]⟩
    have HLL : Hid ((evs L).length ≤ n1 ∧ (evs M).length ≤ n1) := ⟨by omega, by omega⟩
    rw [← hne]
    clear h1 h2 hn1 hn2 hne hz1 hz2 hlL hlM
    have hne' : ((n1 : Int) != (n1 : Int)) = false := by simp
    go_enter Tryd.func60, Tryd.ntmps60
    go_wp2
    clear hne'
    go_loopw [17] (fun cc wr => ∃ k : Nat, k ≤ n1 ∧ cc = .int .i64 k ∧ Fr Nobody w wr ∧ (evs L).take k = (evs M).take k) (fun cc _ => n1 - (intOf cc).toNat)
    case atStart => exact ⟨0, Nat.zero_le _, rfl, Fr.refl _ _, by simp⟩
    case round =>
      obtain ⟨k, hk, rfl, hf, heq⟩ := hrel
      have HF : Hid (Fr Nobody w wr) := hf
      have HE : Hid ((evs L).take k = (evs M).take k) := heq
      clear hf heq
      by_cases hlt : k < n1
      · obtain ⟨x, hx⟩ : ∃ x, L[k]? = some x := ⟨_, List.getElem?_eq_getElem (by rw [H1.out.2.2.1]; exact hlt)⟩
        obtain ⟨y, hy⟩ : ∃ y, M[k]? = some y := ⟨_, List.getElem?_eq_getElem (by rw [H1.out.2.2.2]; exact hlt)⟩
        obtain ⟨g1, o1, hg1, r0, r1, k1⟩ := (H1.out.1.quiet HF.out).at hx
        obtain ⟨g2, o2, hg2, s0, s1, k2⟩ := (H1.out.2.1.quiet HF.out).at hy
        subst hg1 hg2
        have hb1 : g1 < wr.heap.size := World.block_lt_of_cell? wr _ r0
        have hb2 : g2 < wr.heap.size := World.block_lt_of_cell? wr _ s0
        have hb3 : wr.heap.size ≠ g1 := by omega
        have hb4 : wr.heap.size ≠ g2 := by omega
        have hlt' : (k : Int) < (n1 : Int) := by omega
        obtain ⟨r, hr⟩ : ∃ r, decide ((x.id, x.C) = (y.id, y.C)) = r := ⟨_, rfl⟩
        have hal : Fr Nobody wr ((wr.alloc (.cells #[.int .u32 (x.id : Int), .slice x.ao x.C.length x.cap] 43)).alloc (.cells #[.int .u32 (y.id : Int), .slice y.ao y.C.length y.cap] 43)) := ((Fr.refl _ _).alloc _).alloc _
        have CS : Hid (Calls Tryd.prog 61 #[.agg #[.int .u32 (x.id : Int), .slice x.ao x.C.length x.cap], .agg #[.int .u32 (y.id : Int), .slice y.ao y.C.length y.cap]] ((wr.alloc (.cells #[.int .u32 (x.id : Int), .slice x.ao x.C.length x.cap] 43)).alloc (.cells #[.int .u32 (y.id : Int), .slice y.ao y.C.length y.cap] 43)) fun e w' => e = .returned (.bool r) ∧ Fr Nobody ((wr.alloc (.cells #[.int .u32 (x.id : Int), .slice x.ao x.C.length x.cap] 43)).alloc (.cells #[.int .u32 (y.id : Int), .slice y.ao y.C.length y.cap] 43)) w') := by
          rw [← hr]
          exact eqEn_p _ x.id y.id x.ao y.ao x.C.length y.C.length x.cap y.cap x.C y.C (k1.quiet hal) (k2.quiet hal) rfl rfl (HZ.out.1 x (List.mem_of_getElem? hx)) (HZ.out.2 y (List.mem_of_getElem? hy))
        have HF1 : Hid (Fr Nobody w ((wr.alloc (.cells #[.int .u32 (x.id : Int), .slice x.ao x.C.length x.cap] 43)).alloc (.cells #[.int .u32 (y.id : Int), .slice y.ao y.C.length y.cap] 43))) := HF.out.trans hal
        have HXY : Hid ((evs L)[k]? = some (x.id, x.C) ∧ (evs M)[k]? = some (y.id, y.C)) := ⟨evs_at hx, evs_at hy⟩
        have HR : Hid (decide ((x.id, x.C) = (y.id, y.C)) = r) := hr
        clear hx hy hr k1 k2 hal
        obtain ⟨xi, xa, xc, xC⟩ := x
        obtain ⟨yi, ya, yc, yC⟩ := y
        simp only at r0 r1 s0 s1 CS HXY HR HF1
        generalize xC.length = xl at *
        generalize yC.length = yl at *
        go_wp2_with fail
        refine CS.out.mono ?_
        rintro e w' ⟨rfl, hf2⟩
        have HF2 : Hid (Fr Nobody w w') := HF1.out.trans hf2
        clear r0 r1 s0 s1 CS hf2 hb1 hb2 hb3 hb4
        cases r
        · have HN : Hid (decide (evs L = evs M) = false) := take_ne HXY.out.1 HXY.out.2 HR.out
          go_wp2
          go_ret
          exact ⟨by rw [HN.out]; rfl, HF2.out⟩
        · have HN : Hid ((evs L).take (k + 1) = (evs M).take (k + 1)) := take_eq HXY.out.1 HXY.out.2 HR.out HE.out
          go_wp2
          go_roundw
          case rel => exact ⟨k + 1, by omega, by go_num, HF2.out, HN.out⟩
          case measure => simp [intOf]; omega
      · have hlt' : ¬ (k : Int) < (n1 : Int) := by omega
        have HN : Hid (decide (evs L = evs M) = true) := take_all (by have := HLL.out.1; omega) (by have := HLL.out.2; omega) HE.out
        go_wp2
        go_ret
        exact ⟨by rw [HN.out]; rfl, HF.out⟩
  · have HN : Hid (decide (evs L = evs M) = false) := len_ne (by omega)
    have hne' : ((n1 : Int) != (n2 : Int)) = true := by rw [bne_iff_ne]; omega
    clear h1 h2 hn1 hn2 hne hlL hlM hz1 hz2
    go_enter Tryd.func60, Tryd.ntmps60
    go_wp2
    go_ret
    exact ⟨by rw [HN.out]; rfl, Fr.refl _ _⟩
set_option maxHeartbeats 1000000 in
theorem snapSame_any (w : World) (a1 a2 : Option Addr) (n1 n2 c1 c2 : Nat) (L M : List EnE) (h1 : EntsAt w a1 L) (h2 : EntsAt w a2 M) (hn1 : L.length = n1) (hn2 : M.length = n2) (hz1 : esz L ≤ 2097152) (hz2 : esz M ≤ 2097152) :
    Calls Tryd.prog 38 #[.slice a1 n1 c1, .slice a2 n2 c2] w fun e w' => e = .returned (.bool (decide (evs L = evs M))) ∧ Fr Nobody w w' := by
  have HS : Hid (Calls _ _ _ _ _) := equalEnts_any w a1 a2 n1 n2 c1 c2 L M h1 h2 hn1 hn2 hz1 hz2
  generalize decide (evs L = evs M) = r at *
  clear h1 h2 hn1 hn2 hz1 hz2
  go_enter Tryd.func38, Tryd.ntmps38
  go_wp2_with fail
  refine HS.out.mono ?_
  rintro e w' ⟨rfl, hf⟩
  have HF : Hid (Fr Nobody w w') := hf
  clear hf HS
  go_wp2
  go_ret
  exact ⟨rfl, HF.out⟩
/-- where an entity stands in a list -/
def FindR (L : List EnE) (i : Nat) (r : Int) : Prop := (r = -1 ∧ ∀ x ∈ L, x.id ≠ i) ∨ ∃ (j : Nat) (x : EnE), r = (j : Int) ∧ L[j]? = some x ∧ x.id = i ∧ ∀ y ∈ L.take j, y.id ≠ i
set_option maxHeartbeats 2000000 in
theorem rfindE_any (w : World) (ao : Option Addr) (n cap : Nat) (L : List EnE) (h : EntsAt w ao L) (hn : L.length = n) (hm : n ≤ 2097152) (i : Nat) :
    Calls Tryd.prog 20 #[.slice ao n cap, .int .u32 (i : Int)] w fun e w' => ∃ r : Int, e = .returned (.int .i64 r) ∧ FindR L i r ∧ Fr Nobody w w' := by
  have HL : Hid (L.length = n ∧ EntsAt w ao L) := ⟨hn, h⟩
  clear hn h
  go_enter Tryd.func20, Tryd.ntmps20
  go_wp2
  go_loopw [9] (fun c wr => ∃ j : Nat, j ≤ n ∧ c = .int .i64 j ∧ Fr Nobody w wr ∧ ∀ y ∈ L.take j, y.id ≠ i) (fun c _ => n - (intOf c).toNat)
  case atStart => exact ⟨0, Nat.zero_le _, rfl, Fr.refl _ _, by simp⟩
  case round =>
    obtain ⟨j, hj, rfl, hf, hno⟩ := hrel
    have HF : Hid (Fr Nobody w wr) := hf
    have HN : Hid (∀ y ∈ L.take j, y.id ≠ i) := hno
    clear hf hno
    by_cases hlt : j < n
    · obtain ⟨x, hx⟩ : ∃ x, L[j]? = some x := ⟨_, List.getElem?_eq_getElem (by rw [HL.out.1]; exact hlt)⟩
      obtain ⟨g, o, hao, c0, c1, _⟩ := (HL.out.2.quiet HF.out).at hx
      subst hao
      have hlt' : (j : Int) < (n : Int) := by omega
      have HX : Hid (L[j]? = some x) := hx
      by_cases he : x.id = i
      · have HE : Hid (x.id = i) := he
        have he' : ((x.id : Int) == (i : Int)) = true := by rw [he]; simp
        clear hx he
        have HP : Hid (FindR L i (j : Int)) := .inr ⟨j, x, rfl, HX.out, HE.out, HN.out⟩
        clear HX HE
        obtain ⟨xi, xa, xc, C⟩ := x
        simp only at c0 c1 he'
        go_wp2
        go_ret
        exact ⟨(j : Int), rfl, HP.out, HF.out.alloc _⟩
      · have HE : Hid (∀ y ∈ L.take (j + 1), y.id ≠ i) := by
          show ∀ y ∈ L.take (j + 1), y.id ≠ i
          intro y hy
          rw [List.take_add_one, hx] at hy
          rcases List.mem_append.1 hy with hy | hy
          · exact HN.out y hy
          · simp at hy; rw [hy]; exact he
        have he' : ((x.id : Int) == (i : Int)) = false := by rw [beq_eq_false_iff_ne]; omega
        clear hx he HX
        obtain ⟨xi, xa, xc, C⟩ := x
        simp only at c0 c1 he'
        go_wp2
        go_roundw
        case rel => exact ⟨j + 1, by omega, by go_num, HF.out.alloc _, HE.out⟩
        case measure => simp [intOf]; omega
    · have hlt' : ¬ (j : Int) < (n : Int) := by omega
      have HP : Hid (FindR L i (-1)) := .inl ⟨rfl, fun x hx => HN.out x (by rw [List.take_of_length_le (by rw [HL.out.1]; omega)]; exact hx)⟩
      go_wp2
      go_ret
      exact ⟨-1, rfl, HP.out, HF.out⟩
end Go.Proofs.YtkjanpjlpieaoaaDoor

