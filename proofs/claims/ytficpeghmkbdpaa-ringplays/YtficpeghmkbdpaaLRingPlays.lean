/-
  Every script of things that come and go has the document's answers, of a nil ring too: RingPlays returns true, whatever its arguments, and changes nothing that was there.
-/
import Derived.Test.YtficpeghmkbdpaaYab
import Derived.Deep.RegionWith
import Derived.Deep.RegionHeld3
import Derived.ProofKit
import Derived.OpenShut
import Derived.ShutString
import Derived.ChangeOld
namespace Go.Proofs.Ytficpeghmkbdpaa
open Go.ChangeShapes Go.WideShapes Go.ChangeAt Go.RowKit
set_option linter.unusedVariables false

theorem own : ownKnob Try.prog.godebug = none := by kernel_rfl

set_option maxHeartbeats 8000000 in
set_option maxRecDepth 100000 in
theorem ringPlays_fr (n : Int) (w : World) (ao : Option Addr) (len cap : Nat) (Q : List (Nat × Nat × Int)) (hmax : len ≤ maxLen) (hQl : Q.length = len) (hQa : RowsAt OpIs 3 w ao Q) :
    Calls Try.prog 7 #[.int .i64 n, .slice ao len cap] w fun e w' => e = .returned (.bool true) ∧ Fr Nobody w w' := by
  unfold maxLen at hmax
  have HZ : Hid (Q.length = len ∧ RowsAt OpIs 3 w ao Q) := ⟨hQl, hQa⟩
  clear hQl hQa
  go_enter Try.func7, Try.ntmps7
  go_wp2_with fail
  refine (awake8 w w [] (Own.start _)).mono ?_
  rintro e w1 ⟨rfl, hO⟩
  obtain ⟨z, kk, hB0, hN, hR⟩ := new_o w w1 [] n hO
  have HB0 : Hid (Both z kk []) := hB0
  have HN : Hid (Calls _ _ _ _ _) := hN
  have HR : Hid (∀ w' l', Own w w' l' → Calls Try.prog 31 #[.int .i64 n] w' fun e w'' => ∃ q, e = .returned (.tuple #[.pointer (pp q), .int .i64 (if z then 1 else 0)]) ∧ q.isNone = z ∧ Own w w'' (RRiO q kk [] :: l')) := hR
  clear hO hB0 hN hR
  generalize (if z = true then (1 : Int) else 0) = ez at *
  go_wp2_with fail
  refine HN.out.mono ?_
  rintro e w2 ⟨p, rfl, hp, hO⟩
  have H2 : Hid (Own w w2 [RiO p kk []]) := hO
  have HP : Hid (p.isNone = z) := hp
  clear hO HN hp
  go_wp2_with fail
  refine (HR.out w2 _ H2.out).mono ?_
  rintro e w3 ⟨q, rfl, hq, hO⟩
  have H3 : Hid (Own w w3 [RiO p kk [], RRiO q kk []]) := hO.two
  have HQ : Hid (q.isNone = z) := hq
  have hpn : (pp p).isNone = z := by rw [pp_none]; exact HP.out
  have hqn : (pp q).isNone = z := by rw [pp_none]; exact HQ.out
  have hez : (ez != ez) = false := by simp
  clear hO H2 HR hq
  go_wp2
  clear hpn hqn hez
  go_loopw [39] (fun c wr => ∃ k : Nat, k ≤ len ∧ c = .int .i64 k ∧ ∃ L, Both z kk L ∧ Own w wr [RiO p kk L, RRiO q kk L]) (fun c _ => len - (intOf c).toNat)
  case atStart => exact ⟨0, Nat.zero_le _, rfl, [], HB0.out, H3.out⟩
  case round =>
    obtain ⟨k, hk, rfl, L, hB, hO⟩ := hrel
    have HO : Hid (Own w wr [RiO p kk L, RRiO q kk L]) := hO
    have HB : Hid (Both z kk L) := hB
    clear hO H3 hB
    by_cases hlt : k < len
    · obtain ⟨o, ho⟩ : ∃ o, Q[k]? = some o := ⟨_, List.getElem?_eq_getElem (by rw [HZ.out.1]; exact hlt)⟩
      obtain ⟨g, o0, hao, od, ot, ox, hod, hot, c0, c1, c2⟩ : ∃ g o0, ao = some ⟨g, o0, none⟩ ∧ ∃ (od ot : Nat) (ox : Int), od < 256 ∧ ot < 4294967296 ∧ wr.cell? ⟨g, o0 + k * 3, none⟩ = some (.int .u8 (od : Int)) ∧ wr.cell? ⟨g, o0 + k * 3 + 1, none⟩ = some (.int .u32 (ot : Int)) ∧ wr.cell? ⟨g, o0 + k * 3 + 2, none⟩ = some (.int .i64 ox) := by
        rcases HZ.out.2.quiet HO.out.fr with h | ⟨g, o0, h1, h2⟩
        · subst h; simp at ho
        · obtain ⟨cs, ⟨rfl, h4, h5⟩, _, h6⟩ := h2 k o ho
          exact ⟨g, o0, h1, o.1, o.2.1, o.2.2, h4, h5, h6 0 (by decide), h6 1 (by decide), h6 2 (by decide)⟩
      subst hao
      have hlt' : (k : Int) < (len : Int) := by omega
      clear ho
      have H4 : Hid (Own w (wr.alloc (.cells #[.int .u8 (od : Int), .int .u32 (ot : Int), .int .i64 ox] 65)) [Cells wr.heap.size #[.int .u8 (od : Int), .int .u32 (ot : Int), .int .i64 ox] 65, RiO p kk L, RRiO q kk L]) := HO.out.allocC _ _
      by_cases h120 : k < 120
      · have h120' : (k : Int) < 120 := by omega
        by_cases h0 : od = 0 ∨ od = 1
        · have HB2 : Hid (Both z kk (pS z kk L ot ox)) := HB.out.put ot ox hot
          have hee : (pE z kk L ot ox != pE z kk L ot ox) = false := by simp
          have hodd : od = 0 ∨ (od = 1 ∧ ((od : Int) == 0) = false) := by
            rcases h0 with h | h
            · exact .inl h
            · right; exact ⟨h, by rw [h]; rfl⟩
          clear h0
          rcases hodd with rfl | ⟨rfl, hod0⟩
          · have H4b : Hid (Own w (wr.alloc (.cells #[.int .u8 (0 : Int), .int .u32 (ot : Int), .int .i64 ox] 65)) [Cells wr.heap.size #[.int .u8 (0 : Int), .int .u32 (ot : Int), .int .i64 ox] 65, RiO p kk L, RRiO q kk L]) := H4.out
            have HC2 : Hid (∀ w', Own w w' [RiO p kk (pS z kk L ot ox), Cells wr.heap.size #[.int .u8 (0 : Int), .int .u32 (ot : Int), .int .i64 ox] 65, RRiO q kk L] → Calls Try.prog 33 #[.pointer (pp q), .int .u32 (ot : Int), .int .i64 ox] w' fun e w'' => e = .returned (.int .i64 (pE z kk L ot ox)) ∧ Own w w'' [RRiO q kk (pS z kk L ot ox), RiO p kk (pS z kk L ot ox), Cells wr.heap.size #[.int .u8 (0 : Int), .int .u32 (ot : Int), .int .i64 ox] 65]) := fun w' h' => rput_o w w' _ q kk L z ot ox h'.three HB.out HQ.out hot
            have HC1 : Hid (Calls _ _ _ _ _) := put_o w _ _ p kk L z ot ox H4b.out.two.drew HB.out HP.out hot
            clear H4
            go_wp2_with fail
            go_region_held3 (fun w' => w'.cell? ⟨wr.heap.size, 1, none⟩ = some (.int .u32 (ot : Int)) ∧ w'.cell? ⟨wr.heap.size, 2, none⟩ = some (.int .i64 ox)) (go_keep)
              (first
                | (go_at_call 32; refine HC1.out.mono ?_; rintro e w5 ⟨rfl, hO5⟩
                   have b1 := hO5.two.cell 1
                   have b2 := hO5.two.cell 2
                   simp at b1 b2
                   have H5 : Hid (Own w w5 [RiO p kk (pS z kk L ot ox), Cells wr.heap.size #[.int .u8 (0 : Int), .int .u32 (ot : Int), .int .i64 ox] 65, RRiO q kk L]) := hO5
                   clear hO5)
                | (go_at_call 33; refine (HC2.out _ H5.out).mono ?_; rintro e w6 ⟨rfl, hO6⟩
                   have d1 := hO6.three.cell 1
                   have d2 := hO6.three.cell 2
                   simp at d1 d2
                   have H6 : Hid (Own w w6 [RiO p kk (pS z kk L ot ox), RRiO q kk (pS z kk L ot ox), Cells wr.heap.size #[.int .u8 (0 : Int), .int .u32 (ot : Int), .int .i64 ox] 65]) := hO6.two
                   clear hO6))
            all_goals
              go_wp2_with fail
              refine (same_o w _ _ p q kk (pS z kk L ot ox) z H6.out HB2.out HP.out HQ.out).mono ?_
              rintro e w9 ⟨rfl, hO9⟩
              have H9 : Hid (Own w w9 [RiO p kk (pS z kk L ot ox), RRiO q kk (pS z kk L ot ox)]) := hO9.three.tail
              clear hO9 H6
              go_wp2
              go_roundw
              case rel => exact ⟨k + 1, by omega, by go_num, pS z kk L ot ox, HB2.out, H9.out⟩
              case measure => simp [intOf]; omega
          · have H4b : Hid (Own w (wr.alloc (.cells #[.int .u8 (1 : Int), .int .u32 (ot : Int), .int .i64 ox] 65)) [Cells wr.heap.size #[.int .u8 (1 : Int), .int .u32 (ot : Int), .int .i64 ox] 65, RiO p kk L, RRiO q kk L]) := H4.out
            have HC2 : Hid (∀ w', Own w w' [RiO p kk (pS z kk L ot ox), Cells wr.heap.size #[.int .u8 (1 : Int), .int .u32 (ot : Int), .int .i64 ox] 65, RRiO q kk L] → Calls Try.prog 33 #[.pointer (pp q), .int .u32 (ot : Int), .int .i64 ox] w' fun e w'' => e = .returned (.int .i64 (pE z kk L ot ox)) ∧ Own w w'' [RRiO q kk (pS z kk L ot ox), RiO p kk (pS z kk L ot ox), Cells wr.heap.size #[.int .u8 (1 : Int), .int .u32 (ot : Int), .int .i64 ox] 65]) := fun w' h' => rput_o w w' _ q kk L z ot ox h'.three HB.out HQ.out hot
            have HC1 : Hid (Calls _ _ _ _ _) := put_o w _ _ p kk L z ot ox H4b.out.two.drew HB.out HP.out hot
            clear H4
            go_wp2_with fail
            go_region_held3 (fun w' => w'.cell? ⟨wr.heap.size, 1, none⟩ = some (.int .u32 (ot : Int)) ∧ w'.cell? ⟨wr.heap.size, 2, none⟩ = some (.int .i64 ox)) (go_keep)
              (first
                | (go_at_call 32; refine HC1.out.mono ?_; rintro e w5 ⟨rfl, hO5⟩
                   have b1 := hO5.two.cell 1
                   have b2 := hO5.two.cell 2
                   simp at b1 b2
                   have H5 : Hid (Own w w5 [RiO p kk (pS z kk L ot ox), Cells wr.heap.size #[.int .u8 (1 : Int), .int .u32 (ot : Int), .int .i64 ox] 65, RRiO q kk L]) := hO5
                   clear hO5)
                | (go_at_call 33; refine (HC2.out _ H5.out).mono ?_; rintro e w6 ⟨rfl, hO6⟩
                   have d1 := hO6.three.cell 1
                   have d2 := hO6.three.cell 2
                   simp at d1 d2
                   have H6 : Hid (Own w w6 [RiO p kk (pS z kk L ot ox), RRiO q kk (pS z kk L ot ox), Cells wr.heap.size #[.int .u8 (1 : Int), .int .u32 (ot : Int), .int .i64 ox] 65]) := hO6.two
                   clear hO6))
            all_goals
              go_wp2_with fail
              refine (same_o w _ _ p q kk (pS z kk L ot ox) z H6.out HB2.out HP.out HQ.out).mono ?_
              rintro e w9 ⟨rfl, hO9⟩
              have H9 : Hid (Own w w9 [RiO p kk (pS z kk L ot ox), RRiO q kk (pS z kk L ot ox)]) := hO9.three.tail
              clear hO9 H6
              go_wp2
              go_roundw
              case rel => exact ⟨k + 1, by omega, by go_num, pS z kk L ot ox, HB2.out, H9.out⟩
              case measure => simp [intOf]; omega
        · by_cases h2 : od = 2
          · subst h2
            have hgg : ∀ o : Option Int, ∃ (x : Int) (y : Bool), gva o = .tuple #[.int .i64 x, .bool y] := by
              intro o
              cases o with
              | none => exact ⟨0, false, rfl⟩
              | some x => exact ⟨x, true, rfl⟩
            obtain ⟨gx, gy, hgx⟩ := hgg (rget L ot)
            have HGX : Hid (gva (rget L ot) = .tuple #[.int .i64 gx, .bool gy]) := hgx
            have e1 : (gx != gx) = false := by simp
            have e2 : (gy != gy) = false := by simp
            clear hgg hgx
            go_wp2_with fail
            refine (get_o w _ _ p kk L z ot H4.out.two HB.out HP.out).mono ?_
            rw [HGX.out]
            rintro e w5 ⟨rfl, hO5⟩
            have b1 := hO5.two.cell 1
            simp at b1
            have H5 : Hid (Own w w5 _) := hO5
            clear hO5 H4
            go_wp2_with fail
            refine (rget_o w w5 _ q kk L z ot H5.out.three HB.out HQ.out).mono ?_
            rw [HGX.out]
            rintro e w6 ⟨rfl, hO6⟩
            have H6 : Hid (Own w w6 [RiO p kk L, RRiO q kk L, _]) := hO6.two
            clear hO6 H5
            go_wp2_with fail
            refine (same_o w w6 _ p q kk L z H6.out HB.out HP.out HQ.out).mono ?_
            rintro e w9 ⟨rfl, hO9⟩
            have H9 : Hid (Own w w9 [RiO p kk L, RRiO q kk L]) := hO9.three.tail
            clear hO9 H6
            go_wp2
            go_roundw
            case rel => exact ⟨k + 1, by omega, by go_num, L, HB.out, H9.out⟩
            case measure => simp [intOf]; omega
          · by_cases h3 : od = 3
            · subst h3
              have HB2 : Hid (Both z kk (L.drop (below ot L))) := HB.out.drop _
              have hee : ((below ot L : Int) != (below ot L : Int)) = false := by simp
              have hbl : below ot L ≤ 64 := by have := below_le ot L; have := HB.out.1.le; have := HB.out.1.k2; omega
              go_wp2_with fail
              go_region_with (first
                | (go_at_call 36; refine (cut_o w _ _ p kk L z ot H4.out.two.drew HB.out HP.out).mono ?_; rintro e w5 ⟨rfl, hO5⟩
                   have b1 := hO5.two.cell 1
                   simp at b1
                   have H5 : Hid (Own w w5 _) := hO5
                   clear hO5)
                | (go_at_call 37; refine (rcut_o w _ _ q kk L z ot H5.out.three HB.out HQ.out).mono ?_; rintro e w6 ⟨rfl, hO6⟩
                   have H6 : Hid (Own w w6 [RiO p kk (L.drop (below ot L)), RRiO q kk (L.drop (below ot L)), _]) := hO6.two
                   clear hO6 H5))
              all_goals
                go_wp2_with fail
                refine (same_o w _ _ p q kk (L.drop (below ot L)) z H6.out HB2.out HP.out HQ.out).mono ?_
                rintro e w9 ⟨rfl, hO9⟩
                have H9 : Hid (Own w w9 [RiO p kk (L.drop (below ot L)), RRiO q kk (L.drop (below ot L))]) := hO9.three.tail
                clear hO9 H6
                go_wp2
                go_roundw
                case rel => exact ⟨k + 1, by omega, by go_num, (L.drop (below ot L)), HB2.out, H9.out⟩
                case measure => simp [intOf]; omega
            · by_cases h4 : od = 4
              · subst h4
                have HB2 : Hid (Both z kk []) := HB.out.nil
                have hz := HP.out
                have hy := HQ.out
                cases p with
                | none =>
                  cases q with
                  | some c => rw [← hz] at hy; cases hy
                  | none =>
                    have hL : L = [] := HB.out.2 (by rw [← hz]; rfl)
                    subst hL
                    simp only [pp, Option.map_none]
                    go_wp2_with (first | (go_at_call 38; refine (clearnila _).mono ?_; rintro e w' ⟨rfl, hw⟩; subst hw))
                    refine (same_o w _ _ none none kk [] z H4.out.back3 HB.out HP.out HQ.out).mono ?_
                    rintro e w9 ⟨rfl, hO9⟩
                    have H9 : Hid (Own w w9 [RiO none kk [], RRiO none kk []]) := hO9.three.tail
                    clear hO9 H4
                    go_wp2
                    go_roundw
                    case rel => exact ⟨k + 1, by omega, by go_num, [], HB2.out, H9.out⟩
                    case measure => simp [intOf]; omega
                | some b =>
                  cases q with
                  | none => rw [← hz] at hy; cases hy
                  | some c =>
                    simp only [pp, Option.map_some]
                    go_wp2_with fail
                    refine (cleara w _ _ b kk L H4.out.two (by have := HB.out.1.le; have := HB.out.1.k2; omega)).mono ?_
                    rintro e w5 ⟨rfl, hO5⟩
                    obtain ⟨v, hv⟩ := Own.ex_iff.1 hO5.three
                    have d1 := hv.cell 1
                    have y1 := hv.froz 1
                    simp at d1
                    have H6 : Hid (Own w (w5.setCell ⟨c, 1, none⟩ (.slice none 0 0)) [RiO (some b) kk [], RRiO (some c) kk [], Cells wr.heap.size #[.int .u8 (4 : Int), .int .u32 (ot : Int), .int .i64 ox] 65]) := by
                      have h7 := (hv.setC 1 (.slice none 0 0)).two.tail
                      have h8 := ((h7.nilRow 104 2).view (by decide)).two
                      exact (Own.ex_iff.2 ⟨.slice none 0 0, h8⟩ : Own w _ (RRing c kk [] :: Ringa b kk [] :: _)).two
                    clear hv hO5 H4
                    go_wp2_with fail
                    refine (same_o w _ _ (some b) (some c) kk [] z H6.out HB2.out HP.out HQ.out).mono ?_
                    rintro e w9 ⟨rfl, hO9⟩
                    have H9 : Hid (Own w w9 [RiO (some b) kk [], RRiO (some c) kk []]) := hO9.three.tail
                    clear hO9 H6
                    go_wp2
                    go_roundw
                    case rel => exact ⟨k + 1, by omega, by go_num, [], HB2.out, H9.out⟩
                    case measure => simp [intOf]; omega
              · have e0 : ((od : Int) == 0) = false := by rw [beq_eq_false_iff_ne]; omega
                have e1 : ((od : Int) == 1) = false := by rw [beq_eq_false_iff_ne]; omega
                have e2 : ((od : Int) == 2) = false := by rw [beq_eq_false_iff_ne]; omega
                have e3 : ((od : Int) == 3) = false := by rw [beq_eq_false_iff_ne]; omega
                have e4 : ((od : Int) == 4) = false := by rw [beq_eq_false_iff_ne]; omega
                have n0 : ¬ od = 0 := by omega
                have n1 : ¬ od = 1 := by omega
                have H5 : Hid (Own w _ [RiO p kk L, RRiO q kk L, _]) := H4.out.back3
                clear h0 H4
                go_wp2_with fail
                refine (same_o w _ _ p q kk L z H5.out HB.out HP.out HQ.out).mono ?_
                rintro e w9 ⟨rfl, hO9⟩
                have H9 : Hid (Own w w9 [RiO p kk L, RRiO q kk L]) := hO9.three.tail
                clear hO9 H5
                go_wp2
                go_roundw
                case rel => exact ⟨k + 1, by omega, by go_num, L, HB.out, H9.out⟩
                case measure => simp [intOf]; omega
      · have h120' : (120 : Int) ≤ (k : Int) := by omega
        go_wp2
        go_ret
        exact ⟨rfl, HO.out.fr.alloc _⟩
    · have hlt' : ¬ (k : Int) < (len : Int) := by omega
      go_wp2
      go_ret
      exact ⟨rfl, HO.out.fr⟩

theorem ringPlays_walk (w : World) (a0 : Int) (w0 : (Lit.int .i64 a0).wf = true) (a1 : Option Addr) (len1 cap1 : Nat) (z1 : List (Nat × Nat × Int)) (w1 : IsOps w a1 len1 cap1 z1) :
    Calls Try.prog 7 #[.int .i64 a0, .slice a1 len1 cap1] w fun e w' => e = .returned (.bool true) ∧ Below w.heap.size w w' := by
  obtain ⟨h1, h2, h3, h4⟩ := w1
  exact (ringPlays_fr a0 w a1 len1 cap1 z1 (Nat.le_trans h2 h3) h1 h4).mono fun e w' ⟨h, f⟩ => ⟨h, f.below (Nat.le_refl _) (fun _ _ h => h)⟩

theorem laidOut : laidOutB Try.prog = true := by kernel_rfl

set_option maxRecDepth 100000 in
theorem ringPlays_lifted (os : Os) (started : os.Started) (H : Type) (enc : TypeId × Value → H) :
    ReturnsInHanded {} Try.checked os 7 .any (Rows.ringPlaysSpec.pre6 enc Try.prog Try.f7 Rows.ringPlaysRow.domain false) (Rows.ringPlaysSpec.post enc Try.prog Try.f7 false true false false) := by
  refine returnsInHanded_of_change (C := Try.checked) own started (by kernel_rfl) Try.func7
    (ChangeSpec.witness6 (enc := enc) (C := Try.checked) false ⟨#[], #[.int .i64 0, .slice none 0 0], []⟩ 8 (by kernel_rfl) (by kernel_rfl) (by kernel_rfl) (by kernel_rfl)) ?_
  intro W base args ds gs before hval0 hW hcnd _
  have hval : ∀ (j : Nat) t v, Try.f7.params[j]? = some t → args[j]? = some v → Value.okWide Try.prog W .any base t v := hval0
  have hW' := hW
  obtain ⟨p, q, hA0, hV, rfl, hfz, hnd⟩ := hW
  have hA : DataW.TrodAll enc Try.prog W 0 (fun _ => true) true Try.f7.params.toList args.toList ds p := hA0
  rw [Try.params7] at hA hval
  obtain ⟨v0, vs0, d0, ds0, p0, q0, hargs, rfl, rfl, h0, r0⟩ := trodAll_cons hA
  obtain ⟨v1, vs1, d1, ds1, p1, q1, rfl, rfl, rfl, h1, r1⟩ := trodAll_cons r0
  obtain ⟨rfl, rfl, rfl⟩ := trodAll_nil r1
  obtain rfl : args = #[v0, v1] := by cases args; simp_all
  obtain ⟨rfl, rfl⟩ := trodVars_none hV
  obtain ⟨a0, rfl, rfl, rfl, w0⟩ := open_int Try.underlying3 (hval 0 3 v0 rfl rfl) h0
  obtain ⟨a1, len1, cap1, rfl⟩ := okWide_slice Try.underlying57 (hval 1 57 v1 rfl rfl)
  have k1 := h1
  have lt1 : ∀ x ∈ p1, x.block < W.heap.size := by obtain ⟨m, hm⟩ := k1; exact DataW.trod_lt m _ _ _ hm
  obtain ⟨z1, w1⟩ := open_ops (hval 1 57 _ rfl rfl) h1
  clear hA0 hval0
  refine (ringPlays_walk W a0 w0 a1 len1 cap1 z1 w1).mono fun e W' ⟨he, bel⟩ => ?_
  subst he
  exact ⟨_, rfl, _, _, _, [], _, [], hW', trodAll_mk1 (shut_bool Try.underlying4 _), (trodAll_cons_mk (shut_int Try.underlying3 w0) (trodAll_cons_mk (Below.trod laidOut (by kernel_rfl) (of_decide_eq_true (by kernel_rfl)) k1 bel lt1) trodAll_mk0)), rfl, bel.frame _, fun h => by cases h⟩

theorem ringPlays_holds : Rows.RingPlaysSaid :=
  OpenClaim.holds_of_wide 7 Try.f7 rfl rfl rfl rfl rfl rfl rfl ⟨rfl, rfl, rfl, rfl, rfl⟩ rfl rfl rfl rfl rfl (by kernel_rfl) Try.func7 (by kernel_rfl)
    (of_decide_eq_true (by kernel_rfl)) (by unfold Func.isWrapper; first | (rw [if_pos (by decide +kernel)]; kernel_rfl) | (rw [if_neg (by decide +kernel)]; exact ⟨rfl, rfl⟩))
    (fun os started H enc _ => ringPlays_lifted os started H enc)


end Go.Proofs.Ytficpeghmkbdpaa
