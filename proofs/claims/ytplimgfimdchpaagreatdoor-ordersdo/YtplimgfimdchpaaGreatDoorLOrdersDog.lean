/-
  Any orders, done one by one, do what the document says, and tell it; what is refused changes nothing; they come back untouched: OrdersDo returns true, whatever its arguments, where the table of the components lies as the program's text lays it, and changes nothing that was there.
-/
import Derived.Test.YtplimgfimdchpaaGreatDoorDng
import Derived.Test.YtplimgfimdchpaaGreatDoorDog
import Derived.OpenShut
import Derived.SevenTiedAt
namespace Go.Proofs.YtplimgfimdchpaaGreatDoor
open Go.ChangeShapes Go.WideShapes Go.ChangeAt Go.RowKit
set_option linter.unusedVariables false
set_option maxRecDepth 100000

theorem is_at {A B : List OrdE} (h : A.map OrdE.is = B.map OrdE.is) {j : Nat} {x : OrdE} (hx : B[j]? = some x) : ∃ y, A[j]? = some y ∧ y.is = x.is := by
  have := congrArg (fun l => l[j]?) h
  simp only [List.getElem?_map, hx, Option.map_some] at this
  cases hy : A[j]? with
  | none => rw [hy] at this; simp at this
  | some y => rw [hy] at this; simp at this; exact ⟨y, rfl, this⟩
set_option maxHeartbeats 8000000 in
theorem ordersDo_fr (w : World) (ht : Tab w) (ao : Option Addr) (len cap : Nat) (Q : List OrdE) (hQl : Q.length = len) (hlc : len ≤ cap) (hcm : cap ≤ maxLen) (hOr : Ords w ao Q) (hw : ∀ o ∈ Q, o.d < 256 ∧ o.id < 4294967296 ∧ o.k < 256 ∧ IsComps w o.ao o.C.length o.cap o.C) (m : Nat) (hm : m < 256) :
    Calls Tryz.prog 3 #[.int .u8 (m : Int), .slice ao len cap] w fun e w' => e = .returned (.bool true) ∧ Fr Nobody w w' := by
  unfold maxLen at hcm
  have HT : Hid (Tab w) := ht
  obtain ⟨L, hL⟩ : ∃ L, few Q = L := ⟨_, rfl⟩
  obtain ⟨n, hn⟩ : ∃ n, L.length = n := ⟨_, rfl⟩
  have hn60 : n ≤ 60 := by rw [← hn, ← hL]; exact few_len Q
  have HLI : Hid (∀ x ∈ L, Cs w x.ao x.C ∧ x.In ∧ x.C.length ≤ 20) := by
    intro x hx
    rw [← hL] at hx
    obtain ⟨o, ho, rfl⟩ := List.mem_map.1 hx
    have ho := List.mem_of_mem_take ho
    obtain ⟨h1, h2, h3, h4⟩ := hw o ho
    have hl : (o.C.take 20).length ≤ 20 := by rw [List.length_take]; exact Nat.min_le_left _ _
    exact ⟨(hOr.2 o ho).take 20, ⟨h1, h2, h3, fun q hq => h4.cs.2 q (List.mem_of_mem_take hq), Nat.le_trans hl (by decide)⟩, hl⟩
  have HFW : Hid (∀ w', Own w w' [] → Calls Tryz.prog 5 #[.slice ao len cap, .int .i64 60] w' fun e w'' => ∃ ra rc, e = .returned (.slice ra n rc) ∧ Own w w'' [Row 40 4 (.slice ra n rc) n (cat OrdE.cs L)]) := by
    intro w' h'
    have := few_ok w w' [] h' ao len cap Q hQl (by omega) (fun w'' h'' => hOr.quiet h''.fr) (fun o ho => ⟨(hw o ho).2.2.2.2.1, (hw o ho).2.2.2.2.2.1⟩)
    rw [hL, hn] at this
    exact this
  have HN : Hid (L.length = n) := hn
  obtain ⟨r, hr⟩ : ∃ r, r = m % 12 := ⟨_, rfl⟩
  have hr12 : r < 12 := by omega
  have hmr : (m : Int) % 12 = (r : Int) := by omega
  have HRL : Hid (∀ w' la lc l', Own w w' (Row 40 4 (.slice la n lc) n (cat OrdE.cs L) :: l') → Ords w' la L) := fun w' la lc l' h' => Own.ords h' HN.out (fun x hx => (HLI.out x hx).1.quiet h'.fr)
  have HL20 : Hid (∀ x ∈ L, x.C.length ≤ 1000) := fun x hx => Nat.le_trans (HLI.out x hx).2.2 (by decide)
  obtain ⟨s0, hs0⟩ : ∃ s0 : Sto × Nat, s0 = (Sto.new (1 + r) 1, 0) := ⟨_, rfl⟩
  have HS0 : Hid (s0.1.Ok ∧ s0.2 = 0) := by rw [hs0]; exact ⟨Sto.new_ok (1 + r) 1 (by omega) (by omega) (by decide) (by decide), rfl⟩
  have HNW : Hid (∀ w' l', Own w w' l' → Calls Tryz.prog 6 #[.int .i64 (1 + (r : Int)), .int .i64 1] w' fun e w'' => ∃ b, e = .returned (.tuple #[.pointer (some ⟨b, 0, none⟩), .int .i64 0]) ∧ Own w w'' (Store b s0.1 s0.2 :: l')) := by
    intro w' l' h'
    rw [hs0]
    have := snew w w' l' (1 + r) 1 h' (by omega) (by omega) (by decide) (by decide)
    rw [show ((1 + r : Nat) : Int) = 1 + (r : Int) by omega] at this
    exact this
  have HNX : Hid (∀ w' l', Own w w' l' → Calls Tryz.prog 7 #[.int .i64 (1 + (r : Int)), .int .i64 1] w' fun e w'' => ∃ b, e = .returned (.tuple #[.pointer (some ⟨b, 0, none⟩), .int .i64 0]) ∧ Own w w'' (RSto b s0.1 s0.2 :: l')) := by
    intro w' l' h'
    rw [hs0]
    have := rnewS w w' l' h' (1 + r) 1 (by omega) (by omega) (by decide) (by decide)
    rw [show ((1 + r : Nat) : Int) = 1 + (r : Int) by omega] at this
    exact this
  have HTW : Hid (∀ w' la lc bs bx, Own w w' [RSto bx s0.1 s0.2, Store bs s0.1 s0.2, Row 40 4 (.slice la n lc) n (cat OrdE.cs L)] → Calls Tryz.prog 8 #[.slice la n lc] w' fun e w'' => ∃ E ra rc, e = .returned (.slice ra n rc) ∧ E.map OrdE.is = L.map OrdE.is ∧ E.length = n ∧ Own w w'' (Store bs s0.1 s0.2 :: RSto bx s0.1 s0.2 :: Row 40 4 (.slice la n lc) n (cat OrdE.cs L) :: (Row 40 4 (.slice ra n rc) n (cat OrdE.cs E) :: E.map orow))) := by
    intro w' la lc bs bx h'
    refine (twins_ok w w' _ h'.two la n lc L HN.out (by omega) (fun w'' h'' => HRL.out _ _ _ _ h''.three) HL20.out).mono ?_
    rintro e w'' ⟨E, ra, rc, rfl, h1, h2, h3⟩
    refine ⟨E, ra, rc, rfl, h1, h2, ?_⟩
    exact h3.perm (List.perm_append_comm (l₁ := Row 40 4 (.slice ra n rc) n (cat OrdE.cs E) :: E.map orow) (l₂ := [Store bs s0.1 s0.2, RSto bx s0.1 s0.2, Row 40 4 (.slice la n lc) n (cat OrdE.cs L)]))
  have HIL : Hid (∀ w' la lc (E : List OrdE), Own w w' (Row 40 4 (.slice la n lc) n (cat OrdE.cs E) :: E.map orow) → E.length = n → Ords w' la E) := by
    intro w' la lc E h' hE
    exact Own.ownOrds (l := []) (by simpa using h') hE
  have HAL : Hid (∀ w' la lc bs bx ea ec (E : List OrdE), E.map OrdE.is = L.map OrdE.is → E.length = n → Own w w' (Store bs s0.1 s0.2 :: RSto bx s0.1 s0.2 :: Row 40 4 (.slice la n lc) n (cat OrdE.cs L) :: (Row 40 4 (.slice ea n ec) n (cat OrdE.cs E) :: E.map orow)) → Calls Tryz.prog 9 #[.pointer (some ⟨bs, 0, none⟩), .slice ea n ec] w' fun e w'' => ∃ xa xc, e = .returned (.slice xa n xc) ∧ Own w w'' (Row 46 2 (.slice xa n xc) n (cat rcel (runs stq s0 L).1) :: Store bs (runs stq s0 L).2.1 (runs stq s0 L).2.2 :: RSto bx s0.1 s0.2 :: Row 40 4 (.slice la n lc) n (cat OrdE.cs L) :: (Row 40 4 (.slice ea n ec) n (cat OrdE.cs E) :: E.map orow)) ∧ (runs stq s0 L).2.1.Ok ∧ (runs stq s0 L).2.2 = 2 * n) := by
    intro w' la lc bs bx ea ec E hE hEl h'
    have := do_all w w' _ bs s0 HT.out h' HS0.out.1 ea n ec E hEl (by omega) (by rw [HS0.out.2]; omega) (is_in hE (fun x hx => (HLI.out x hx).2.1)) (fun w'' h'' => HIL.out _ _ _ _ h''.tail.tail hEl)
    rw [runs_is E L s0 hE] at this
    refine this.mono ?_
    rintro e w'' ⟨xa, xc, rfl, h1, h2, h3⟩
    exact ⟨xa, xc, rfl, h1, h2, by rw [h3, HS0.out.2]; omega⟩
  have HRA : Hid (∀ w' bx la lc l', Own w w' (RSto bx s0.1 s0.2 :: Row 40 4 (.slice la n lc) n (cat OrdE.cs L) :: l') → Calls Tryz.prog 12 #[.pointer (some ⟨bx, 0, none⟩), .slice la n lc] w' fun e w'' => ∃ ra rc, e = .returned (.slice ra n rc) ∧ Own w w'' (Row 46 2 (.slice ra n rc) n (cat rcel (runs stq s0 L).1) :: RSto bx (runs stq s0 L).2.1 (runs stq s0 L).2.2 :: Row 40 4 (.slice la n lc) n (cat OrdE.cs L) :: l')) := by
    intro w' bx la lc l' h'
    refine (rdo_all w w' _ bx s0 h' HS0.out.1 la n lc L HN.out (by omega) (by rw [HS0.out.2]; omega) (fun x hx => (HLI.out x hx).2.1) (fun w'' h'' => HRL.out _ _ _ _ h'')).mono ?_
    rintro e w'' ⟨ra, rc, rfl, h1, _, _⟩
    exact ⟨ra, rc, rfl, h1⟩
  have HRN : Hid ((runs stq s0 L).1.length = n) := by show _ = _; rw [runs_len, HN.out]
  clear ht hOr hw hQl hn hL hs0 hr
  generalize runs stq s0 L = Z at *
  obtain ⟨ZR, σ, K⟩ := Z
  simp only at HAL HRA HRN
  go_enter Tryz.func3, Tryz.ntmps3
  go_wp2_with fail
  refine (awake13 w w [] HT.out (Own.start _)).mono ?_
  rintro e w1 ⟨rfl, hO1⟩
  have H1 : Hid (Own w w1 []) := hO1
  clear hO1
  go_wp2_with fail
  refine (HFW.out _ H1.out).mono ?_
  rintro e w2 ⟨la, lc, rfl, hO2⟩
  have H2 : Hid (Own w w2 _) := hO2
  clear hO2 H1 HFW
  go_wp2_with fail
  refine (HNW.out _ _ H2.out).mono ?_
  rintro e w3 ⟨bs, rfl, hO3⟩
  have H3 : Hid (Own w w3 _) := hO3
  clear hO3 H2 HNW
  go_wp2_with fail
  refine (HNX.out _ _ H3.out).mono ?_
  rintro e w4 ⟨bx, rfl, hO4⟩
  have H4 : Hid (Own w w4 _) := hO4
  clear hO4 H3 HNX
  go_wp2_with fail
  refine (HTW.out _ _ _ _ _ H4.out).mono ?_
  rintro e w5 ⟨E, ea, ec, rfl, hE, hEl, hO5⟩
  have HE : Hid (E.map OrdE.is = L.map OrdE.is ∧ E.length = n) := ⟨hE, hEl⟩
  have HA1 : Hid (Calls _ _ _ _ _) := HAL.out _ _ _ _ _ _ _ _ hE hEl hO5
  clear hO5 hE hEl H4 HTW HAL
  go_wp2_with fail
  refine HA1.out.mono ?_
  rintro e w6 ⟨xa, xc, rfl, hO6, hSo, hSc⟩
  have HSX : Hid (σ.Ok ∧ K = 2 * n) := ⟨hSo, hSc⟩
  have H6 : Hid (Own w w6 _) := hO6
  clear hSo hSc HA1 hO6
  go_wp2
  go_loopw [38] (fun jv wr => ∃ j : Nat, j ≤ n ∧ jv = .int .i64 j ∧ Own w wr (Row 46 2 (.slice xa n xc) n (cat rcel ZR) :: Store bs σ K :: RSto bx s0.1 s0.2 :: Row 40 4 (.slice la n lc) n (cat OrdE.cs L) :: (Row 40 4 (.slice ea n ec) n (cat OrdE.cs E) :: E.map orow))) (fun jv _ => n - (intOf jv).toNat)
  case atStart => exact ⟨0, Nat.zero_le _, rfl, H6.out⟩
  case round =>
    obtain ⟨j, hj, rfl, hO⟩ := hrel
    have HO : Hid (Own w wr _) := hO
    clear H6
    by_cases hlt : j < n
    · have hlt' : (j : Int) < (n : Int) := by omega
      obtain ⟨x, hx⟩ : ∃ x, L[j]? = some x := ⟨_, List.getElem?_eq_getElem (by rw [HN.out]; exact hlt)⟩
      obtain ⟨y, hy, hyx⟩ := is_at HE.out.1 hx
      obtain ⟨hxC, hxI, hx20⟩ := HLI.out x (List.mem_of_getElem? hx)
      have hOE := HIL.out _ _ _ _ hO.tail.tail.tail.tail HE.out.2
      have hOL := HRL.out _ _ _ _ hO.tail.tail.tail
      obtain ⟨gg, og, hga, m0, m1, m2, m3⟩ := hOE.at j y hy
      obtain ⟨gw, ow, hwa, l0, l1, l2, l3⟩ := hOL.at j x hx
      have hyC : Cs wr y.ao y.C := hOE.2 y (List.mem_of_getElem? hy)
      have hyl : y.C.length ≤ 1000000 := by
        have e : y.C = x.C := by simp only [OrdE.is, Prod.mk.injEq] at hyx; exact hyx.2.2.2
        rw [e]; omega
      have HSO : Hid (Calls _ _ _ _ _) := sameOrder_any wr.drew y x hyx (hyC.quiet (Fr.refl _ _).drew) (hxC.quiet hO.fr.drew) hyl
      subst hga hwa
      obtain ⟨d, id, k, C, xa', xc'⟩ := x
      obtain ⟨d', id', k', C', ya, yc⟩ := y
      unfold OrdE.ag at HSO
      simp only at m0 m1 m2 m3 l0 l1 l2 l3 HSO
      clear hO hx hy hyx hxC hxI hx20 hyC hyl hOE hOL
      go_wp2_with fail
      go_region_with (
        go_at_call 10
        refine HSO.out.mono ?_
        rintro e w9 ⟨rfl, hf⟩
        have H9 : Hid (Own w w9 _) := HO.out.drew.quiet hf
        clear hf)
      all_goals
        go_wp2
        go_roundw
        case rel => exact ⟨j + 1, by omega, by go_num, H9.out⟩
        case measure => simp [intOf]; omega
    · have hlt' : ¬ (j : Int) < (n : Int) := by omega
      have HRA1 : Hid (Calls _ _ _ _ _) := HRA.out wr bx la lc _ (hO.three.in23.perm (List.Perm.cons _ (List.perm_middle (l₁ := [_, _]) (a := _) (l₂ := _))))
      clear hO HO HRA
      go_wp2_with fail
      refine HRA1.out.mono ?_
      rintro e w10 ⟨ra, rc, rfl, hO10⟩
      have HSR : Hid (Calls _ _ _ _ _) := same_res w10 xa ra n xc rc ZR (Own.rs hO10.tail.four HRN.out) (Own.rs hO10 HRN.out) HRN.out (by omega)
      have H10 : Hid (Own w w10 _) := hO10
      clear hO10 HRA1
      go_wp2_with fail
      refine HSR.out.mono ?_
      rintro e w11 ⟨rfl, hf⟩
      obtain ⟨x, hx, hO11⟩ := RSto.opn (H10.out.quiet hf).tail
      have HAK : Hid (Calls _ _ _ _ _) := alike_ok w w11 _ bs bx σ K K x hO11.three hx HSX.out.1 (by rw [HSX.out.2]; omega) (by rw [HSX.out.2]; omega) (fun id hid => St.list_is HSX.out.1.s hid)
      clear hO11 hx hf HSR H10
      go_wp2_with fail
      refine HAK.out.mono ?_
      rintro e w12 ⟨rfl, hO12⟩
      have H12 : Hid (Own w w12 _) := hO12
      clear hO12 HAK
      go_wp2
      go_ret
      exact ⟨rfl, H12.out.fr⟩
theorem ordersDo_walk (w : World) (ht : Tab w) (a0 : Int) (w0 : ok8 a0) (a1 : Option Addr) (len1 cap1 : Nat) (z1 : List OrdE) (w1 : IsOrds w a1 len1 cap1 z1) :
    Calls Tryz.prog 3 #[.int .u8 a0, .slice a1 len1 cap1] w fun e w' => e = .returned (.bool true) ∧ Below w.heap.size w w' := by
  obtain ⟨h1, h2⟩ := w1.ords
  obtain ⟨m, rfl, hm⟩ := ok8_nat w0
  refine (ordersDo_fr w ht a1 len1 cap1 z1 w1.1 w1.2.1 w1.2.2.1 h1 h2 m hm).mono ?_
  rintro e w' ⟨rfl, hf⟩
  exact ⟨rfl, hf.below (Nat.le_refl _) (fun _ _ h => h)⟩
theorem laidOut : laidOutB Tryz.prog = true := by kernel_rfl

set_option maxRecDepth 100000 in
theorem ordersDo_lifted (os : Os) (started : os.Started) (H : Type) (enc : TypeId × Value → H) :
    ReturnsInHanded {} Tryz.checked os 3 .any (fun w args => (Rows.ordersDoSpec.pre enc Tryz.prog Tryz.f3 [] false w args ∧ laidMetH Tryz.prog laid1 w) ∧ sizedMet enc Tryz.prog Tryz.f3 (OpenSpec.ofChange Rows.ordersDoSpec) false w args) (Rows.ordersDoSpec.post enc Tryz.prog Tryz.f3 false true false false) := by
  refine returnsInHanded_of_change_and (C := Tryz.checked) (X := fun w _ => laidMetH Tryz.prog laid1 w) (fun _ _ _ hh h => h.of_heap hh) own started (by kernel_rfl) Tryz.func3
    (ChangeSpec.witness_shaped (enc := enc) (C := Tryz.checked) (os := os) (X := fun w _ => laidMetH Tryz.prog laid1 w) false (World.doorLaid Tryz.prog 400 os) #[.int .u8 0, .slice none 0 0] 8 rfl (World.shaped_of_RefB (by kernel_rfl) (by kernel_rfl)) (by kernel_rfl) (by kernel_rfl) (by kernel_rfl) (door_met os _)) ?_
  intro W base args ds gs before hval0 hW _ _ hL _
  have hval : ∀ (j : Nat) t v, Tryz.f3.params[j]? = some t → args[j]? = some v → Value.okWide Tryz.prog W .any base t v := hval0
  have hW' := hW
  obtain ⟨p, q, hA0, hV, rfl, hfz, hnd⟩ := hW
  have hA : DataW.TrodAll enc Tryz.prog W 0 (fun _ => true) true Tryz.f3.params.toList args.toList ds p := hA0
  rw [Tryz.params3] at hA hval
  obtain ⟨v0, vs0, d0, ds0, p0, q0, hargs, rfl, rfl, h0, r0⟩ := trodAll_cons hA
  obtain ⟨v1, vs1, d1, ds1, p1, q1, rfl, rfl, rfl, h1, r1⟩ := trodAll_cons r0
  obtain ⟨rfl, rfl, rfl⟩ := trodAll_nil r1
  obtain rfl : args = #[v0, v1] := by cases args; simp_all
  obtain ⟨rfl, rfl⟩ := trodVars_none hV
  obtain ⟨a0, rfl, rfl, rfl, w0⟩ := open_int Tryz.underlying5 (hval 0 5 v0 rfl rfl) h0
  obtain ⟨a1, len1, cap1, rfl⟩ := okWide_slice Tryz.underlying22 (hval 1 22 v1 rfl rfl)
  have k1 := h1
  have lt1 : ∀ x ∈ p1, x.block < W.heap.size := by obtain ⟨m, hm⟩ := k1; exact DataW.trod_lt m _ _ _ hm
  obtain ⟨z1, w1⟩ := open_ops (hval 1 22 _ rfl rfl) h1
  clear hA0 hval0
  refine (ordersDo_walk W (of_laid hL) a0 w0 a1 len1 cap1 z1 w1).mono fun e W' ⟨he, bel⟩ => ?_
  subst he
  exact ⟨_, rfl, _, _, _, [], _, [], hW', trodAll_mk1 (shut_bool Tryz.underlying4 _), (trodAll_cons_mk (shut_int Tryz.underlying5 w0) (trodAll_cons_mk (Below.trod laidOut (by kernel_rfl) (of_decide_eq_true (by kernel_rfl)) k1 bel lt1) trodAll_mk0)), rfl, bel.frame _, fun h => by cases h⟩

theorem ordersDo_row : Rows.OrdersDoSaid :=
  OpenClaim.holds_of_wide 3 Tryz.f3 rfl rfl rfl rfl rfl rfl rfl ⟨rfl, rfl, rfl, rfl, rfl⟩ rfl rfl rfl rfl rfl (by kernel_rfl) Tryz.func3 (by kernel_rfl)
    (of_decide_eq_true (by kernel_rfl)) (by unfold Func.isWrapper; first | (rw [if_pos (by decide +kernel)]; kernel_rfl) | (rw [if_neg (by decide +kernel)]; exact ⟨rfl, rfl⟩))
    (fun os started H enc _ => ordersDo_lifted os started H enc)

theorem ordersDo_holds : Rows.OrdersDoCardSaid :=
  Claim7.holds_tied_plain_at .later [] [.data] true (true, "ade05ad015b7006decaf720f9c781343f4de0280451cd26dbf03f62483773cb8") false
    ordersDo_row (fun _ h => by cases h) (by kernel_rfl) (fun _ h => by cases h) ordersDo_row_tie rfl ⟨rfl, rfl⟩ (by kernel_rfl) rfl
    (fun f fn hf hfn => by
      obtain rfl : f = 3 := Option.some.inj ((show Tryz.prog.funcNamed "pinnace/pinnacelaw13.OrdersDo" = some 3 by kernel_rfl).symm.trans hf) |>.symm
      obtain rfl : fn = Tryz.f3 := (Option.some.inj (Tryz.func3.symm.trans hfn)).symm
      exact ⟨by kernel_rfl, fun j t ht => by
        rw [Tryz.params3] at ht
        have hm : t ∈ [5, 22] := by simpa using Array.mem_of_getElem? ht
        have hall : ([5, 22].all fun u => !Tryz.prog.wantsStandIn u) = true := by kernel_rfl
        exact (show Tryz.prog.wantsStandIn t = false by simpa using List.all_eq_true.1 hall t hm)⟩)
    (by kernel_rfl)

end Go.Proofs.YtplimgfimdchpaaGreatDoor
