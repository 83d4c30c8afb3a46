/-
  Pages from any slot on, of any length, are parts of what is found: QueryPages returns true, whatever its arguments, where the table of the components lies as the program's text lays it, and changes nothing that was there.
-/
import Derived.Test.YtcpknpgeiafkoaaDoorIkg
import Derived.OpenShut
import Derived.SevenTiedAt
namespace Go.Proofs.YtcpknpgeiafkoaaDoor
open Go.ChangeShapes Go.WideShapes Go.ChangeAt Go.RowKit
set_option linter.unusedVariables false
set_option maxRecDepth 100000

theorem Nums.tk {k : IntKind} {w : World} {ao : Option Addr} {c c' m : Nat} {X : List Nat} (h : Nums k w (.slice ao X.length c) X) (hm : (X.take m).length = m) : Nums k w (.slice ao m c') (X.take m) := by
  obtain ⟨a2, c2, hv, h⟩ := h
  have ha := (Value.slice.inj hv).1
  subst ha
  refine ⟨ao, c', by rw [hm], ?_⟩
  rcases h with h | ⟨g, o, ha, hc⟩
  · subst h; exact .inl (by simp)
  · refine .inr ⟨g, o, ha, fun j x hx => hc j x ?_⟩
    rw [List.getElem?_take] at hx
    split at hx
    · exact hx
    · cases hx
theorem row_le {w : World} {base : Nat} {e : TypeId} {size n cap : Nat} {ao : Option Addr} {xs : List Value} (h : w.ownsRow base e size (.slice ao n cap) n xs) : n ≤ cap ∧ cap ≤ maxLen := by
  rcases h.2 with ⟨hv, hn⟩ | ⟨g, c, cur, hv, hb, hg, hnc, hcm, hcs, htake⟩
  · cases hv
    exact ⟨Nat.le_refl _, Nat.zero_le _⟩
  · cases hv
    exact ⟨hnc, hcm⟩
set_option maxHeartbeats 4000000 in
theorem queryPages_fr (w : World) (ht : Tab w) (ao : Option Addr) (len cap : Nat) (Q : List MkE) (hQl : Q.length = len) (hlc : len ≤ cap) (hcm : cap ≤ maxLen) (hM : Mks w ao Q) (hw : ∀ x ∈ Q, x.C.length ≤ x.cap ∧ x.cap ≤ 9223372036854775807 ∧ ∀ q ∈ x.C, q.k < 256) (a : Nat) (ha : a < 256) (n : Nat) (hn : n < 256) (f k : Int) :
    Calls Tryd.prog 4 #[.slice ao len cap, .int .u8 (a : Int), .int .u8 (n : Int), .int .i64 f, .int .i64 k] w fun e w' => e = .returned (.bool true) ∧ Fr Nobody w w' := by
  unfold maxLen at hcm
  have HT : Hid (Tab w) := ht
  have HFL : Hid (∀ w', Fr Nobody w w' → Calls Tryd.prog 8 #[.slice ao len cap] w' fun e w'' => ∃ b bx, e = .returned (.tuple #[.pointer (some ⟨b, 0, none⟩), .pointer (some ⟨bx, 0, none⟩)]) ∧ Own w w'' [Store b (fillS Q) 120, RSto bx (fillS Q) 120]) := fun w' hf => fill_ok w w' [] (Own.of_fr hf) ht ao len cap Q hQl (by omega) (fun w'' h'' => hM.quiet h''.fr) hw
  have hfl := Sto.find_len (fillS_ok Q).s a n
  obtain ⟨G, hG⟩ : ∃ G, ((fillS Q).find a n).filter (fun id => decide (f ≤ ((id % 1024 : Nat) : Int))) = G := ⟨_, rfl⟩
  have hgl : G.length ≤ 1024 := by rw [← hG]; exact Nat.le_trans (List.length_filter_le _ _) hfl
  have hpg : pgl f k.toNat ((fillS Q).find a n) = G.take k.toNat := by unfold pgl; rw [hG]
  obtain ⟨m, hm⟩ : ∃ m, (G.take k.toNat).length = m := ⟨_, rfl⟩
  have HPG : Hid (∀ w' b l', Own w w' (Store b (fillS Q) 120 :: l') → Calls Tryd.prog 14 #[.pointer (some ⟨b, 0, none⟩), .int .u8 (a : Int), .int .u8 (n : Int), .int .i64 f, .int .i64 k] w' fun e w'' => ∃ ao cap, e = .returned (.slice ao m cap) ∧ Own w w'' (Row 44 1 (.slice ao m cap) m (irow .u32 (G.take k.toNat)) :: Store b (fillS Q) 120 :: l')) := fun w' b l' h' => by
    have := page_g w w' l' (some ⟨b, 0, none⟩) (Store b (fillS Q) 120) _ h' a n f k (iter_s w b Q a n ha hn ht) hfl (find_lt Q a n)
    rw [hpg, hm] at this
    exact this
  have HPN : Hid (∀ w' l', Own w w' l' → Calls Tryd.prog 14 #[.pointer none, .int .u8 (a : Int), .int .u8 (n : Int), .int .i64 f, .int .i64 k] w' fun e w'' => ∃ ao cap, e = .returned (.slice ao 0 cap) ∧ Own w w'' l') := fun w' l' h' => by
    refine (page_g w w' l' none Nil [] (Own.nil_iff.2 h') a n f k (iter_nil w a n) (by decide) (by simp)).mono ?_
    rintro e w'' ⟨ao, cap, rfl, h2⟩
    have e0 : (pgl f k.toNat []).length = 0 := by simp [pgl]
    rw [e0] at h2
    exact ⟨ao, cap, by rw [e0], Own.nil_iff.1 h2.tail⟩
  have HR12 : Hid (∀ w' bx x la lc l', RXok (fillS Q) x 120 → Own w w' (Row 51 2 (.slice la (fillS Q).S.list.length lc) (fillS Q).S.list.length (cat rcells ((fillS Q).S.list.map (x.at (fillS Q)))) :: RSX bx (fillS Q).S x :: l') → Calls Tryd.prog 11 #[.slice la (fillS Q).S.list.length lc, .int .u8 (a : Int), .int .u8 (n : Int), .int .i64 f] w' fun e w'' => ∃ ra rc, e = .returned (.slice ra G.length rc) ∧ Own w w'' (Row 44 1 (.slice ra G.length rc) G.length (irow .u32 G) :: RSX bx (fillS Q).S x :: l')) := fun w' bx x la lc l' hx h' => by
    have := rw12 w w' l' bx Q x hx la lc h' a n ha hn f
    rw [hG] at this
    exact this
  have hmx : min (G.length : Int) (max k 0) = (m : Int) := by rw [← hm, List.length_take]; omega
  have hmG : m ≤ G.length := by rw [← hm, List.length_take]; exact Nat.min_le_right _ _
  have HMT : Hid (G.take k.toNat = G.take m ∧ (G.take m).length = m) := by
    have e1 : G.take m = G.take k.toNat := by
      rw [← hm, List.length_take]
      rcases Nat.le_total k.toNat G.length with q | q
      · rw [Nat.min_eq_left q]
      · rw [Nat.min_eq_right q, List.take_length, List.take_of_length_le q]
    exact ⟨e1.symm, by rw [e1]; exact hm⟩
  generalize hgn : G.length = gl at *
  have HGN : Hid (G.length = gl) := hgn
  clear ht hM hw hQl hG hm hpg hgn hfl
  go_enter Tryd.func4, Tryd.ntmps4
  go_wp2_with fail
  refine (awake12 w HT.out).mono ?_
  rintro e w1 ⟨rfl, hf1⟩
  have HF1 : Hid (Calls _ _ _ _ _) := HFL.out w1 hf1
  clear hf1 HFL
  go_wp2_with fail
  refine HF1.out.mono ?_
  rintro e w2 ⟨b, bx, rfl, hO2⟩
  obtain ⟨x, hx, hO2x⟩ := RSto.opn hO2.two
  have HX : Hid (RXok (fillS Q) x 120) := hx
  have HL : Hid (Calls _ _ _ _ _) := rlist12 w w2 _ bx Q x hO2x hx
  clear hO2 hO2x hx HF1
  go_wp2_with fail
  refine HL.out.mono ?_
  rintro e w4 ⟨la, lc, rfl, hO4⟩
  have HR : Hid (Calls _ _ _ _ _) := HR12.out _ _ _ _ _ _ HX.out hO4
  clear hO4 HL HR12
  go_wp2_with fail
  refine HR.out.mono ?_
  rintro e w5 ⟨ra, rc, rfl, hO5⟩
  obtain ⟨hc1, hc2⟩ := row_le hO5.row
  have HP1 : Hid (Calls _ _ _ _ _) := HPG.out _ _ _ hO5.three
  have hmr : m ≤ rc := by omega
  clear hO5 HR HPG
  have hm0 : (0 : Int) ≤ (m : Int) := by omega
  have hmrc : (m : Int) ≤ (rc : Int) := by omega
  go_wp2_with fail
  refine HP1.out.mono ?_
  rintro e w6 ⟨pa, pc, rfl, hO6⟩
  have h61 := hO6
  rw [HMT.out.1] at h61
  have h62 := hO6.three
  rw [← HGN.out] at h62
  have n1 : Nums .u32 w6 (.slice pa m pc) (G.take m) := by
    have k1 : Own w w6 (Row 44 1 (.slice pa (G.take m).length pc) (G.take m).length (irow .u32 (G.take m)) :: [Store b (fillS Q) 120, Row 44 1 (.slice ra gl rc) gl (irow .u32 G), RSX bx (fillS Q).S x]) := by rw [HMT.out.2]; exact h61
    have := Own.nums k1
    rw [HMT.out.2] at this
    exact this
  have n2 : Nums .u32 w6 (.slice ra m rc) (G.take m) := Nums.tk (Own.nums h62) HMT.out.2
  have HSM : Hid (Calls _ _ _ _ _) := same_ok w6 (.slice pa m pc) (.slice ra m rc) (G.take m) n1 n2 (by rw [HMT.out.2]; omega)
  have H6 : Hid (Own w w6 _) := hO6
  clear hO6 h61 h62 n1 n2 HP1
  go_wp2_with fail
  refine HSM.out.mono ?_
  rintro e w7 ⟨rfl, hf7⟩
  have HN1 : Hid (Calls _ _ _ _ _) := HPN.out _ _ (H6.out.quiet hf7)
  clear hf7 HSM H6 HPN
  go_wp2_with fail
  refine HN1.out.mono ?_
  rintro e w8 ⟨na, nc, rfl, hO8⟩
  have H8 : Hid (Own w w8 _) := hO8
  clear hO8 HN1
  go_wp2
  go_ret
  exact ⟨rfl, H8.out.fr⟩
theorem queryPages_walk (w : World) (ht : Tab w) (a0 : Option Addr) (len0 cap0 : Nat) (z0 : List MkE) (w0 : IsMks w a0 len0 cap0 z0) (a1 : Int) (w1 : ok8 a1) (a2 : Int) (w2 : ok8 a2) (a3 : Int) (w3 : (Lit.int .i64 a3).wf = true) (a4 : Int) (w4 : (Lit.int .i64 a4).wf = true) :
    Calls Tryd.prog 4 #[.slice a0 len0 cap0, .int .u8 a1, .int .u8 a2, .int .i64 a3, .int .i64 a4] w fun e w' => e = .returned (.bool true) ∧ Below w.heap.size w w' := by
  obtain ⟨h1, h2⟩ := w0.mks
  obtain ⟨a, rfl, ha⟩ := ok8_nat w1
  obtain ⟨n, rfl, hn⟩ := ok8_nat w2
  refine (queryPages_fr w ht a0 len0 cap0 z0 w0.1 w0.2.1 w0.2.2.1 h1 h2 a ha n hn a3 a4).mono ?_
  rintro e w' ⟨rfl, hf⟩
  exact ⟨rfl, hf.below (Nat.le_refl _) (fun _ _ h => h)⟩
theorem laidOut : laidOutB Tryd.prog = true := by kernel_rfl

set_option maxRecDepth 100000 in
theorem queryPages_lifted (os : Os) (started : os.Started) (H : Type) (enc : TypeId × Value → H) :
    ReturnsInHanded {} Tryd.checked os 4 .any (fun w args => (Rows.queryPagesSpec.pre enc Tryd.prog Tryd.f4 [] false w args ∧ laidMetH Tryd.prog laid1 w) ∧ sizedMet enc Tryd.prog Tryd.f4 (OpenSpec.ofChange Rows.queryPagesSpec) false w args) (Rows.queryPagesSpec.post enc Tryd.prog Tryd.f4 false true false false) := by
  refine returnsInHanded_of_change_and (C := Tryd.checked) (X := fun w _ => laidMetH Tryd.prog laid1 w) (fun _ _ _ hh h => h.of_heap hh) own started (by kernel_rfl) Tryd.func4
    (ChangeSpec.witness_shaped (enc := enc) (C := Tryd.checked) (os := os) (X := fun w _ => laidMetH Tryd.prog laid1 w) false (World.doorLaid Tryd.prog 400 os) #[.slice none 0 0, .int .u8 0, .int .u8 0, .int .i64 0, .int .i64 0] 8 rfl (World.shaped_of_RefB (by kernel_rfl) (by kernel_rfl)) (by kernel_rfl) (by kernel_rfl) (by kernel_rfl) (door_met os _)) ?_
  intro W base args ds gs before hval0 hW _ _ hL _
  have hval : ∀ (j : Nat) t v, Tryd.f4.params[j]? = some t → args[j]? = some v → Value.okWide Tryd.prog W .any base t v := hval0
  have hW' := hW
  obtain ⟨p, q, hA0, hV, rfl, hfz, hnd⟩ := hW
  have hA : DataW.TrodAll enc Tryd.prog W 0 (fun _ => true) true Tryd.f4.params.toList args.toList ds p := hA0
  rw [Tryd.params4] at hA hval
  obtain ⟨v0, vs0, d0, ds0, p0, q0, hargs, rfl, rfl, h0, r0⟩ := trodAll_cons hA
  obtain ⟨v1, vs1, d1, ds1, p1, q1, rfl, rfl, rfl, h1, r1⟩ := trodAll_cons r0
  obtain ⟨v2, vs2, d2, ds2, p2, q2, rfl, rfl, rfl, h2, r2⟩ := trodAll_cons r1
  obtain ⟨v3, vs3, d3, ds3, p3, q3, rfl, rfl, rfl, h3, r3⟩ := trodAll_cons r2
  obtain ⟨v4, vs4, d4, ds4, p4, q4, rfl, rfl, rfl, h4, r4⟩ := trodAll_cons r3
  obtain ⟨rfl, rfl, rfl⟩ := trodAll_nil r4
  obtain rfl : args = #[v0, v1, v2, v3, v4] := by cases args; simp_all
  obtain ⟨rfl, rfl⟩ := trodVars_none hV
  obtain ⟨a0, len0, cap0, rfl⟩ := okWide_slice Tryd.underlying22 (hval 0 22 v0 rfl rfl)
  have k0 := h0
  have lt0 : ∀ x ∈ p0, x.block < W.heap.size := by obtain ⟨m, hm⟩ := k0; exact DataW.trod_lt m _ _ _ hm
  obtain ⟨z0, w0⟩ := open_ops (hval 0 22 _ rfl rfl) h0
  obtain ⟨a1, rfl, rfl, rfl, w1⟩ := open_int Tryd.underlying5 (hval 1 5 v1 rfl rfl) h1
  obtain ⟨a2, rfl, rfl, rfl, w2⟩ := open_int Tryd.underlying5 (hval 2 5 v2 rfl rfl) h2
  obtain ⟨a3, rfl, rfl, rfl, w3⟩ := open_int Tryd.underlying3 (hval 3 3 v3 rfl rfl) h3
  obtain ⟨a4, rfl, rfl, rfl, w4⟩ := open_int Tryd.underlying3 (hval 4 3 v4 rfl rfl) h4
  clear hA0 hval0
  refine (queryPages_walk W (of_laid hL) a0 len0 cap0 z0 w0 a1 w1 a2 w2 a3 w3 a4 w4).mono fun e W' ⟨he, bel⟩ => ?_
  subst he
  exact ⟨_, rfl, _, _, _, [], _, [], hW', trodAll_mk1 (shut_bool Tryd.underlying4 _), (trodAll_cons_mk (Below.trod laidOut (by kernel_rfl) (of_decide_eq_true (by kernel_rfl)) k0 bel lt0) (trodAll_cons_mk (shut_int Tryd.underlying5 w1) (trodAll_cons_mk (shut_int Tryd.underlying5 w2) (trodAll_cons_mk (shut_int Tryd.underlying3 w3) (trodAll_cons_mk (shut_int Tryd.underlying3 w4) trodAll_mk0))))), rfl, bel.frame _, fun h => by cases h⟩

theorem queryPages_row : Rows.QueryPagesSaid :=
  OpenClaim.holds_of_wide 4 Tryd.f4 rfl rfl rfl rfl rfl rfl rfl ⟨rfl, rfl, rfl, rfl, rfl⟩ rfl rfl rfl rfl rfl (by kernel_rfl) Tryd.func4 (by kernel_rfl)
    (of_decide_eq_true (by kernel_rfl)) (by unfold Func.isWrapper; first | (rw [if_pos (by decide +kernel)]; kernel_rfl) | (rw [if_neg (by decide +kernel)]; exact ⟨rfl, rfl⟩))
    (fun os started H enc _ => queryPages_lifted os started H enc)

theorem queryPages_holds : Rows.QueryPagesCardSaid :=
  Claim7.holds_tied_plain_at .later [] [.data] true (true, "04556a4b6792fb26c75233f38e14627ada0434a2715b058dc1340f8fbd7debb7") false
    queryPages_row (fun _ h => by cases h) (by kernel_rfl) (fun _ h => by cases h) queryPages_row_tie rfl ⟨rfl, rfl⟩ (by kernel_rfl) rfl
    (fun f fn hf hfn => by
      obtain rfl : f = 4 := Option.some.inj ((show Tryd.prog.funcNamed "pinnace/pinnacelaw12.QueryPages" = some 4 by kernel_rfl).symm.trans hf) |>.symm
      obtain rfl : fn = Tryd.f4 := (Option.some.inj (Tryd.func4.symm.trans hfn)).symm
      exact ⟨by kernel_rfl, fun j t ht => by
        rw [Tryd.params4] at ht
        have hm : t ∈ [22, 5, 5, 3, 3] := by simpa using Array.mem_of_getElem? ht
        have hall : ([22, 5, 5, 3, 3].all fun u => !Tryd.prog.wantsStandIn u) = true := by kernel_rfl
        exact (show Tryd.prog.wantsStandIn t = false by simpa using List.all_eq_true.1 hall t hm)⟩)
    (by kernel_rfl)

end Go.Proofs.YtcpknpgeiafkoaaDoor
