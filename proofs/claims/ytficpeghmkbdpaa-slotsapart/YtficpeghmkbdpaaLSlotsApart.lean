/-
  No ID comes twice: whatever is taken and freed, each ID that is taken was never taken before: SlotsApart returns true, whatever its arguments, and changes nothing that was there.
-/
import Derived.Test.YtficpeghmkbdpaaXj
import Derived.ProofKit
import Derived.OpenShut
import Derived.ShutString
import Derived.ChangeOld
namespace Go.Proofs.Ytficpeghmkbdpaa
open Go.ChangeShapes Go.WideShapes Go.ChangeAt Go.RowKit
set_option linter.unusedVariables false

theorem own : ownKnob Try.prog.godebug = none := by kernel_rfl
theorem u8_rng {n : Int} (h : (Lit.int .u8 n).wf = true) : ∃ k : Nat, n = k ∧ k < 256 := by
  have : 0 ≤ n ∧ n ≤ 255 := by simpa [Lit.wf, IntKind.min, IntKind.max, IntKind.signed, IntKind.bits] using h
  exact ⟨n.toNat, by omega, by omega⟩

set_option maxHeartbeats 2000000 in
set_option maxRecDepth 100000 in
theorem slotsApart_fr (a : Nat) (ha : a < 256) (w : World) (ao : Option Addr) (len cap : Nat) (Z : List Int) (hmax : len ≤ maxLen) (hZl : Z.length = len) (hZa : Ints .u8 w ao Z) (hZb : ∀ n ∈ Z, (Lit.int .u8 n).wf = true) :
    Calls Try.prog 5 #[.int .u8 (a : Int), .slice ao len cap] w fun e w' => e = .returned (.bool true) ∧ Fr Nobody w w' := by
  unfold maxLen at hmax
  obtain ⟨k0, hk0⟩ : ∃ k : Nat, k = 1 + a % 8 := ⟨_, rfl⟩
  have k1 : 1 ≤ k0 := by omega
  have k2 : k0 ≤ 8 := by omega
  have ek : (1 : Int) + (a : Int) % 8 = (k0 : Int) := by omega
  have HZ : Hid (Z.length = len ∧ Ints .u8 w ao Z ∧ ∀ n ∈ Z, (Lit.int .u8 n).wf = true) := ⟨hZl, hZa, hZb⟩
  have hmm := @run_makeMap Try.prog
  clear hk0 hZl hZa hZb
  go_enter Try.func5, Try.ntmps5
  go_wp2_with fail
  refine (awake_any w w [] (Own.start _)).mono ?_
  rintro e w1 ⟨rfl, hO⟩
  have H1 : Hid (Own w w1 []) := hO
  clear hO
  go_wp2_with fail
  refine (new_ok w w1 [] k0 1 H1.out k1 (by omega) (by decide) (by decide)).mono ?_
  rintro e w2 ⟨bb, rfl, _, hO⟩
  have H2 : Hid (Own w (w2.alloc (.map #[] 0)) [Seen w2.heap.size 0 [], Slots bb (St.new k0 1)]) := hO.seenNew
  clear hO H1
  go_wp2
  clear hmm
  obtain ⟨mb, hmb⟩ : ∃ mb, mb = w2.heap.size := ⟨_, rfl⟩
  rw [← hmb]
  rw [← hmb] at H2
  clear hmb
  generalize w2.alloc (.map #[] 0) = w3 at *
  go_loopw [28] (fun c wr => ∃ k : Nat, k ≤ len ∧ c = .int .i64 k ∧ ∃ S L n, S.Ok ∧ Past S L ∧ n ≤ k ∧ Own w wr [Slots bb S, Seen mb n L]) (fun c _ => len - (intOf c).toNat)
  case atStart => exact ⟨0, Nat.zero_le _, rfl, _, [], 0, St.new_ok k0 1 k1 (by omega) (by decide) (by decide), fun x hx => by simp at hx, Nat.le_refl _, H2.out.two⟩
  case round =>
    obtain ⟨k, hk, rfl, S, L, n, hS, hP, hn, hO⟩ := hrel
    have HO : Hid (Own w wr [Slots bb S, Seen mb n L]) := hO
    have HS : Hid (S.Ok ∧ Past S L ∧ n ≤ k) := ⟨hS, hP, hn⟩
    clear hO H2 hS hP hn
    by_cases hlt : k < len
    · obtain ⟨z, hz⟩ : ∃ z, Z[k]? = some z := ⟨_, List.getElem?_eq_getElem (by rw [HZ.out.1]; exact hlt)⟩
      obtain ⟨o, rfl, ho⟩ := u8_rng (HZ.out.2.2 z (List.mem_of_getElem? hz))
      obtain ⟨g, o0, hao, cx⟩ : ∃ g o0, ao = some ⟨g, o0, none⟩ ∧ wr.cell? ⟨g, o0 + k, none⟩ = some (.int .u8 (o : Int)) := by
        rcases HZ.out.2.1.quiet HO.out.fr with h | ⟨g, o0, h1, h2⟩
        · subst h; simp at hz
        · exact ⟨g, o0, h1, h2 k _ hz⟩
      subst hao
      clear hz
      by_cases h200 : k < 200
      · have h200' : (k : Int) < 200 := by omega
        go_wp2_with fail
        refine (list_ok w wr _ bb S HO.out HS.out.1).mono ?_
        rintro e w4 ⟨v, rfl, hO⟩
        obtain ⟨va, vc, rfl⟩ := row_any hO.row
        have H4 : Hid (Own w w4 _) := hO
        have hll : S.list.length ≤ 8192 := by
          rw [St.list_length HS.out.1]; have := HS.out.1.cnt; have := HS.out.1.le; have := HS.out.1.n2; omega
        clear hO HO cx
        by_cases hodd : o % 2 = 1 ∧ 0 < S.list.length
        · obtain ⟨ho1, hpos⟩ := hodd
          have hb1 : ((o : Int) % 2 == 1) = true := by simp; omega
          have hpos' : (0 : Int) < (S.list.length : Int) := by omega
          obtain ⟨j, hj⟩ : ∃ j : Nat, j = o / 2 % S.list.length := ⟨_, rfl⟩
          have hjl : j < S.list.length := by rw [hj]; exact Nat.mod_lt _ hpos
          have ej : (o : Int) / 2 % (S.list.length : Int) = (j : Int) := by rw [hj]; simp
          obtain ⟨y, hy⟩ : ∃ y, S.list[j]? = some y := ⟨_, List.getElem?_eq_getElem hjl⟩
          obtain ⟨hyl, hy2⟩ := St.list_live HS.out.1 (List.mem_of_getElem? hy)
          have r := H4.out.row
          obtain ⟨g5, c5, he5, _⟩ := row_shape r hpos
          cases he5
          have cy : w4.cell? ⟨g5, j, none⟩ = some (.int .u32 (y : Int)) := by rw [r.cellAt _ (by omega), getElem?_irow, hy]; rfl
          have HF : Hid (S.free y = (0, S.less y)) := by show _ = _; unfold St.free; rw [if_pos hyl]
          have HJ : Hid (y < 4294967296 ∧ S.isLive y = true) := ⟨hy2, hyl⟩
          have hjl' : (j : Int) < (S.list.length : Int) := by omega
          clear hj hy hyl hy2 r hpos ho1
          generalize S.list.length = sl at *
          go_wp2_with fail
          refine (free_is w w4 [Seen mb n L] bb H4.out.tail HS.out.1 HJ.out.1 HF.out).mono ?_
          rintro e w5 ⟨rfl, hO⟩
          have H5 : Hid (Own w w5 [Slots bb (S.less y), Seen mb n L]) := hO
          clear hO H4 cy
          go_wp2
          go_roundw
          case rel => exact ⟨k + 1, by omega, by go_num, S.less y, L, n, St.less_ok HS.out.1 HJ.out.2, HS.out.2.1.free y, by have := HS.out.2.2; omega, H5.out⟩
          case measure => simp [intOf]; omega
        · have H5 : Hid (Own w w4 [Slots bb S, Seen mb n L]) := H4.out.tail
          clear H4
          have hcase : (((o : Int) % 2 == 1) = false) ∨ (((o : Int) % 2 == 1) = true ∧ S.list.length = 0) := by
            by_cases c : o % 2 = 1
            · right; exact ⟨by simp; omega, by omega⟩
            · left; simp; omega
          clear hodd
          have key := HS.out.2.1.take HS.out.1
          generalize S.list.length = sl at *
          rcases key with ⟨ht, hr⟩ | ⟨id, S', ht, hS', hid, hnot, hlv, hP', hnn⟩
          · have HT : Hid (S.take = (0, 8, S) ∧ S.room = 0) := ⟨ht, hr⟩
            clear ht hr
            rcases hcase with hc | ⟨hc, rfl⟩
            all_goals
              go_wp2_with fail
              refine (take_is w w4 [Seen mb n L] bb H5.out HS.out.1 HT.out.1).mono ?_
              rintro e w5 ⟨rfl, hO⟩
              have H6 : Hid (Own w w5 [Slots bb S, Seen mb n L]) := hO
              clear hO H5
              go_wp2_with fail
              refine (room_ok w w5 [Seen mb n L] bb S H6.out HS.out.1).mono ?_
              rw [HT.out.2]
              rintro e w6 ⟨rfl, hf⟩
              have H7 : Hid (Own w w6 [Slots bb S, Seen mb n L]) := H6.out.quiet hf
              clear hf H6
              go_wp2
              go_roundw
              case rel => exact ⟨k + 1, by omega, by go_num, S, L, n, HS.out.1, HS.out.2.1, by have := HS.out.2.2; omega, H7.out⟩
              case measure => simp [intOf]; omega
          · have HT : Hid (S.take = (id, 0, S') ∧ S'.Ok ∧ id < 4294967296 ∧ id ∉ L ∧ S'.isLive id = true ∧ Past S' (id :: L)) := ⟨ht, hS', hid, hnot, hlv, hP'⟩
            clear ht hS' hid hnot hlv hP' hnn
            rcases hcase with hc | ⟨hc, rfl⟩
            all_goals
              go_wp2_with fail
              refine (take_is w w4 [Seen mb n L] bb H5.out HS.out.1 HT.out.1).mono ?_
              rintro e w5 ⟨rfl, hO⟩
              have hsn := hO.two.seen id HT.out.2.2.1 HT.out.2.2.2.1
              have H6 : Hid (Own w w5 [Slots bb S', Seen mb n L]) := hO
              clear hO H5
              go_wp2_with fail
              refine (live_is w w5 [Seen mb n L] bb H6.out HT.out.2.1 HT.out.2.2.1 HT.out.2.2.2.2.1).mono ?_
              rintro e w6 ⟨rfl, hO⟩
              obtain ⟨w7, hup, hO7⟩ := hO.two.see id HT.out.2.2.1 (by have := HS.out.2.2; unfold maxLen; omega)
              have H7 : Hid (Own w w7 [Slots bb S', Seen mb (n + 1) (id :: L)]) := hO7.two
              clear hO hO7 H6 hsn
              go_wp2
              go_roundw
              case rel => exact ⟨k + 1, by omega, by go_num, S', id :: L, n + 1, HT.out.2.1, HT.out.2.2.2.2.2, by have := HS.out.2.2; omega, H7.out⟩
              case measure => simp [intOf]; omega
      · have h200' : (200 : Int) ≤ (k : Int) := by omega
        go_wp2
        go_ret
        exact ⟨rfl, HO.out.fr⟩
    · go_wp2
      go_ret
      exact ⟨rfl, HO.out.fr⟩

theorem slotsApart_walk (w : World) (a0 : Int) (w0 : (Lit.int .u8 a0).wf = true) (a1 : Option Addr) (len1 cap1 : Nat) (z1 : List Int) (w1 : IsRow .u8 w a1 len1 cap1 z1) :
    Calls Try.prog 5 #[.int .u8 a0, .slice a1 len1 cap1] w fun e w' => e = .returned (.bool true) ∧ Below w.heap.size w w' := by
  obtain ⟨a, rfl, ha⟩ := u8_rng w0
  obtain ⟨h1, h2, h3, h4⟩ := w1.ints
  exact (slotsApart_fr a ha w a1 len1 cap1 _ h2 h1 h3 h4).mono fun e w' ⟨h, f⟩ => ⟨h, f.below (Nat.le_refl _) (fun _ _ h => h)⟩

theorem laidOut : laidOutB Try.prog = true := by kernel_rfl

set_option maxRecDepth 100000 in
theorem slotsApart_lifted (os : Os) (started : os.Started) (H : Type) (enc : TypeId × Value → H) :
    ReturnsInHanded {} Try.checked os 5 .any (Rows.slotsApartSpec.pre6 enc Try.prog Try.f5 Rows.slotsApartRow.domain false) (Rows.slotsApartSpec.post enc Try.prog Try.f5 false true false false) := by
  refine returnsInHanded_of_change (C := Try.checked) own started (by kernel_rfl) Try.func5
    (ChangeSpec.witness6 (enc := enc) (C := Try.checked) false ⟨#[], #[.int .u8 0, .slice none 0 0], []⟩ 8 (by kernel_rfl) (by kernel_rfl) (by kernel_rfl) (by kernel_rfl)) ?_
  intro W base args ds gs before hval0 hW hcnd _
  have hval : ∀ (j : Nat) t v, Try.f5.params[j]? = some t → args[j]? = some v → Value.okWide Try.prog W .any base t v := hval0
  have hW' := hW
  obtain ⟨p, q, hA0, hV, rfl, hfz, hnd⟩ := hW
  have hA : DataW.TrodAll enc Try.prog W 0 (fun _ => true) true Try.f5.params.toList args.toList ds p := hA0
  rw [Try.params5] at hA hval
  obtain ⟨v0, vs0, d0, ds0, p0, q0, hargs, rfl, rfl, h0, r0⟩ := trodAll_cons hA
  obtain ⟨v1, vs1, d1, ds1, p1, q1, rfl, rfl, rfl, h1, r1⟩ := trodAll_cons r0
  obtain ⟨rfl, rfl, rfl⟩ := trodAll_nil r1
  obtain rfl : args = #[v0, v1] := by cases args; simp_all
  obtain ⟨rfl, rfl⟩ := trodVars_none hV
  obtain ⟨a0, rfl, rfl, rfl, w0⟩ := open_int Try.underlying5 (hval 0 5 v0 rfl rfl) h0
  obtain ⟨a1, len1, cap1, rfl⟩ := okWide_slice Try.underlying53 (hval 1 53 v1 rfl rfl)
  have k1 := h1
  have lt1 : ∀ x ∈ p1, x.block < W.heap.size := by obtain ⟨m, hm⟩ := k1; exact DataW.trod_lt m _ _ _ hm
  obtain ⟨z1, w1⟩ : ∃ zs, IsRow .u8 W a1 len1 cap1 zs := by
    obtain ⟨fuel, hf⟩ := h1
    rcases open_ints Try.underlying53 Try.underlying5 (by kernel_rfl) hf with ⟨hcs, _⟩ | ⟨x, l, c, zs, hcs, _, hl, hm, hz, _, hcell, hwz⟩
    · simp [Value.cells] at hcs
      obtain ⟨rfl, rfl, rfl⟩ := hcs
      exact ⟨[], .inl ⟨rfl, rfl, rfl, rfl⟩⟩
    · simp [Value.cells] at hcs
      obtain ⟨rfl, rfl, rfl⟩ := hcs
      exact ⟨zs, .inr ⟨_, rfl, hl, hm, by simpa using hz, hcell, hwz⟩⟩
  clear hA0 hval0
  refine (slotsApart_walk W a0 w0 a1 len1 cap1 z1 w1).mono fun e W' ⟨he, bel⟩ => ?_
  subst he
  exact ⟨_, rfl, _, _, _, [], _, [], hW', trodAll_mk1 (shut_bool Try.underlying4 _), (trodAll_cons_mk (shut_int Try.underlying5 w0) (trodAll_cons_mk (Below.trod laidOut (by kernel_rfl) (of_decide_eq_true (by kernel_rfl)) k1 bel lt1) trodAll_mk0)), rfl, bel.frame _, fun h => by cases h⟩

theorem slotsApart_holds : Rows.SlotsApartSaid :=
  OpenClaim.holds_of_wide 5 Try.f5 rfl rfl rfl rfl rfl rfl rfl ⟨rfl, rfl, rfl, rfl, rfl⟩ rfl rfl rfl rfl rfl (by kernel_rfl) Try.func5 (by kernel_rfl)
    (of_decide_eq_true (by kernel_rfl)) (by unfold Func.isWrapper; first | (rw [if_pos (by decide +kernel)]; kernel_rfl) | (rw [if_neg (by decide +kernel)]; exact ⟨rfl, rfl⟩))
    (fun os started H enc _ => slotsApart_lifted os started H enc)

end Go.Proofs.Ytficpeghmkbdpaa
