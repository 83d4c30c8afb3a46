/-
  On no store every order is refused, by its own fault or for want of a store: OrdersNone returns true, whatever its argument, where the table of the components lies as the program's text lays it, and changes nothing that was there.
-/
import Derived.Test.YtoobfmedkhbkiaaDoorQg
import Derived.OpenShut
import Derived.SevenTiedAt
namespace Go.Proofs.YtoobfmedkhbkiaaDoor
open Go.ChangeShapes Go.WideShapes Go.ChangeAt Go.RowKit
set_option linter.unusedVariables false
set_option maxRecDepth 100000

set_option maxHeartbeats 2000000 in
theorem ordersNone_fr (w : World) (ht : Tab w) (d id k : Nat) (hd : d < 256) (hid : id < 4294967296) (hk : k < 256) (C : List Cp) (ao : Option Addr) (len cap : Nat) (hl : C.length = len) (hlc : len ≤ cap) (hcm : cap ≤ maxLen) (hc : Cs w ao C) (hCk : ∀ q ∈ C, q.k < 256) :
    Calls Tryd.prog 4 #[.agg #[.int .u8 (d : Int), .int .u32 (id : Int), .int .u8 (k : Int), .slice ao len cap]] w fun e w' => e = .returned (.bool true) ∧ Fr Nobody w w' := by
  unfold maxLen at hcm
  have HT : Hid (Tab w) := ht
  obtain ⟨n, hn⟩ : ∃ n, n = min len 20 := ⟨_, rfl⟩
  have hmin : min (len : Int) 20 = (n : Int) := by omega
  have hn1 : n ≤ 20 := by omega
  have hn2 : n ≤ len := by omega
  have hn3 : n ≤ cap := by omega
  obtain ⟨o, ho⟩ : ∃ o : OrdE, o = ⟨d, id, k, C.take n, ao, cap⟩ := ⟨_, rfl⟩
  have hol : o.C.length = n := by rw [ho]; simp; omega
  have hoi : o.In := by rw [ho]; exact ⟨hd, hid, hk, fun q hq => hCk q (List.mem_of_mem_take hq), by simp; omega⟩
  have hag : o.ag = .agg #[.int .u8 (d : Int), .int .u32 (id : Int), .int .u8 (k : Int), .slice ao n cap] := by
    unfold OrdE.ag; rw [hol, ho]
  have HDO : Hid (∀ w' l, Own w w' l → Calls Tryd.prog 16 #[.pointer none, .agg #[.int .u8 (d : Int), .int .u32 (id : Int), .int .u8 (k : Int), .slice ao n cap]] w' fun e w'' => e = .returned (rag (if o.ck = 0 then (10, 0) else ((o.ck : Int), 0))) ∧ Own w w'' l) := by
    intro w' l h'
    rw [← hag]
    exact do_none w w' l ht h' o hoi (fun w'' h'' => by rw [ho]; exact (hc.quiet h''.fr).take n)
  have HCK : Hid (∀ w' l, Own w w' l → Calls Tryd.prog 10 #[.agg #[.int .u8 (d : Int), .int .u32 (id : Int), .int .u8 (k : Int), .slice ao n cap]] w' fun e w'' => e = .returned (.int .i64 ((o.ck : Nat) : Int)) ∧ Fr Nobody w' w'') := by
    intro w' l h'
    rw [← hag]
    exact o.rcheck w' hoi (by rw [ho]; exact (hc.quiet h'.fr).take n)
  clear hn hol hoi hag ho hc hCk hl ht
  generalize o.ck = x at *
  by_cases hx : x = 0
  · subst hx
    rw [if_pos rfl] at HDO
    unfold rag at HDO
    simp only at HDO
    go_enter Tryd.func4, Tryd.ntmps4
    go_wp2_with fail
    refine (awake13 w _ [Cells w.heap.size #[.int .u8 (d : Int), .int .u32 (id : Int), .int .u8 (k : Int), .slice ao len cap] 32] HT.out ((Own.start w).allocC _ _)).mono ?_
    rintro e w1 ⟨rfl, hO1⟩
    have q3 := hO1.cell 3
    have z3 := hO1.froz 3
    simp at q3
    have H1 : Hid (Own w w1 _) := hO1
    have H2 : Hid (Own w _ _) := hO1.setC 3 (.slice ao n cap)
    have s0 := H2.out.cell 0
    have s1 := H2.out.cell 1
    have s2 := H2.out.cell 2
    have s3 := H2.out.cell 3
    simp at s0 s1 s2 s3
    have p0 := hO1.cell 0
    have p1 := hO1.cell 1
    have p2 := hO1.cell 2
    simp at p0 p1 p2
    clear hO1
    go_wp2_with fail
    refine (HDO.out _ _ H2.out).mono ?_
    rintro e w3 ⟨rfl, hO3⟩
    have hR := (hO3.allocC #[.int .i64 10, .int .u32 0] 44)
    have c0 := hR.two.cell 0
    have c1 := hR.two.cell 1
    have c2 := hR.two.cell 2
    have c3 := hR.two.cell 3
    simp at c0 c1 c2 c3
    have hne : w.heap.size ≠ w3.heap.size := by have := hO3.lt; omega
    have hne2 : w3.heap.size ≠ w.heap.size := fun q => hne q.symm
    have HR : Hid (Own w _ _) := hR
    clear hO3 hR H1 H2 HDO q3 z3 s0 s1 s2 s3 p0 p1 p2
    go_wp2_with fail
    refine (HCK.out _ _ HR.out).mono ?_
    rintro e w4 ⟨rfl, hf⟩
    have hR := HR.out.quiet hf
    have r0 := hR.cell 0
    have r1 := hR.cell 1
    simp at r0 r1
    have H4 : Hid (Fr Nobody w w4) := hR.fr
    clear hR hf HR HCK c0 c1 c2 c3
    go_wp2
    go_ret
    exact ⟨rfl, H4.out⟩
  · rw [if_neg hx] at HDO
    unfold rag at HDO
    simp only at HDO
    have hx1 : ¬ (x : Int) = 0 := by omega
    have hx2 : ((x : Int) == (x : Int)) = true := by simp
    go_enter Tryd.func4, Tryd.ntmps4
    go_wp2_with fail
    refine (awake13 w _ [Cells w.heap.size #[.int .u8 (d : Int), .int .u32 (id : Int), .int .u8 (k : Int), .slice ao len cap] 32] HT.out ((Own.start w).allocC _ _)).mono ?_
    rintro e w1 ⟨rfl, hO1⟩
    have q3 := hO1.cell 3
    have z3 := hO1.froz 3
    simp at q3
    have H1 : Hid (Own w w1 _) := hO1
    have H2 : Hid (Own w _ _) := hO1.setC 3 (.slice ao n cap)
    have s0 := H2.out.cell 0
    have s1 := H2.out.cell 1
    have s2 := H2.out.cell 2
    have s3 := H2.out.cell 3
    simp at s0 s1 s2 s3
    have p0 := hO1.cell 0
    have p1 := hO1.cell 1
    have p2 := hO1.cell 2
    simp at p0 p1 p2
    clear hO1
    go_wp2_with fail
    refine (HDO.out _ _ H2.out).mono ?_
    rintro e w3 ⟨rfl, hO3⟩
    have hR := (hO3.allocC #[.int .i64 (x : Int), .int .u32 0] 44)
    have c0 := hR.two.cell 0
    have c1 := hR.two.cell 1
    have c2 := hR.two.cell 2
    have c3 := hR.two.cell 3
    simp at c0 c1 c2 c3
    have hne : w.heap.size ≠ w3.heap.size := by have := hO3.lt; omega
    have hne2 : w3.heap.size ≠ w.heap.size := fun q => hne q.symm
    have HR : Hid (Own w _ _) := hR
    clear hO3 hR H1 H2 HDO q3 z3 s0 s1 s2 s3 p0 p1 p2
    go_wp2_with fail
    refine (HCK.out _ _ HR.out).mono ?_
    rintro e w4 ⟨rfl, hf⟩
    have hR := HR.out.quiet hf
    have r0 := hR.cell 0
    have r1 := hR.cell 1
    simp at r0 r1
    have H4 : Hid (Fr Nobody w w4) := hR.fr
    clear hR hf HR HCK c0 c1 c2 c3
    go_wp2
    go_ret
    exact ⟨rfl, H4.out⟩
theorem ordersNone_walk (w : World) (ht : Tab w) (o : OrdE) (hw : o.d < 256 ∧ o.id < 4294967296 ∧ o.k < 256 ∧ IsComps w o.ao o.C.length o.cap o.C) :
    Calls Tryd.prog 4 #[o.ag] w fun e w' => e = .returned (.bool true) ∧ Below w.heap.size w w' := by
  obtain ⟨h1, h2, h3, h4⟩ := hw
  refine (ordersNone_fr w ht o.d o.id o.k h1 h2 h3 o.C o.ao o.C.length o.cap rfl h4.2.1 h4.2.2.1 h4.cs.1 h4.cs.2).mono ?_
  rintro e w' ⟨rfl, hf⟩
  exact ⟨rfl, hf.below (Nat.le_refl _) (fun _ _ h => h)⟩
theorem laidOut : laidOutB Tryd.prog = true := by kernel_rfl

set_option maxRecDepth 100000 in
theorem ordersNone_lifted (os : Os) (started : os.Started) (H : Type) (enc : TypeId × Value → H) :
    ReturnsInHanded {} Tryd.checked os 4 .any (fun w args => (Rows.ordersNoneSpec.pre enc Tryd.prog Tryd.f4 [] false w args ∧ laidMetH Tryd.prog laid1 w) ∧ sizedMet enc Tryd.prog Tryd.f4 (OpenSpec.ofChange Rows.ordersNoneSpec) false w args) (Rows.ordersNoneSpec.post enc Tryd.prog Tryd.f4 false true false false) := by
  refine returnsInHanded_of_change_and (C := Tryd.checked) (X := fun w _ => laidMetH Tryd.prog laid1 w) (fun _ _ _ hh h => h.of_heap hh) own started (by kernel_rfl) Tryd.func4
    (ChangeSpec.witness_shaped (enc := enc) (C := Tryd.checked) (os := os) (X := fun w _ => laidMetH Tryd.prog laid1 w) false (World.doorLaid Tryd.prog 400 os) #[.agg #[.int .u8 0, .int .u32 0, .int .u8 0, .slice none 0 0]] 8 rfl (World.shaped_of_RefB (by kernel_rfl) (by kernel_rfl)) (by kernel_rfl) (by kernel_rfl) (by kernel_rfl) (door_met os _)) ?_
  intro W base args ds gs before hval0 hW _ _ hL _
  have hval : ∀ (j : Nat) t v, Tryd.f4.params[j]? = some t → args[j]? = some v → Value.okWide Tryd.prog W .any base t v := hval0
  have hW' := hW
  obtain ⟨p, q, hA0, hV, rfl, hfz, hnd⟩ := hW
  have hA : DataW.TrodAll enc Tryd.prog W 0 (fun _ => true) true Tryd.f4.params.toList args.toList ds p := hA0
  rw [Tryd.params4] at hA hval
  obtain ⟨v0, vs0, d0, ds0, p0, q0, hargs, rfl, rfl, h0, r0⟩ := trodAll_cons hA
  obtain ⟨rfl, rfl, rfl⟩ := trodAll_nil r0
  obtain rfl : args = #[v0] := by cases args; simp_all
  obtain ⟨rfl, rfl⟩ := trodVars_none hV
  have k0 := h0
  have lt0 : ∀ x ∈ p0, x.block < W.heap.size := by obtain ⟨m, hm⟩ := k0; exact DataW.trod_lt m _ _ _ hm
  obtain ⟨z0, rfl, w0⟩ := open_order (hval 0 32 v0 rfl rfl) h0
  clear hA0 hval0
  refine (ordersNone_walk W (of_laid hL) z0 w0).mono fun e W' ⟨he, bel⟩ => ?_
  subst he
  exact ⟨_, rfl, _, _, _, [], _, [], hW', trodAll_mk1 (shut_bool Tryd.underlying4 _), (trodAll_cons_mk (Below.trod laidOut (by kernel_rfl) (of_decide_eq_true (by kernel_rfl)) k0 bel lt0) trodAll_mk0), rfl, bel.frame _, fun h => by cases h⟩

theorem ordersNone_row : Rows.OrdersNoneSaid :=
  OpenClaim.holds_of_wide 4 Tryd.f4 rfl rfl rfl rfl rfl rfl rfl ⟨rfl, rfl, rfl, rfl, rfl⟩ rfl rfl rfl rfl rfl (by kernel_rfl) Tryd.func4 (by kernel_rfl)
    (of_decide_eq_true (by kernel_rfl)) (by unfold Func.isWrapper; first | (rw [if_pos (by decide +kernel)]; kernel_rfl) | (rw [if_neg (by decide +kernel)]; exact ⟨rfl, rfl⟩))
    (fun os started H enc _ => ordersNone_lifted os started H enc)

theorem ordersNone_holds : Rows.OrdersNoneCardSaid :=
  Claim7.holds_tied_plain_at .later [] [.data] true (true, "4723d8cf68faffe3bf4e039719e53f5780cf732191568c6d7ac14a548bb269ec") false
    ordersNone_row (fun _ h => by cases h) (by kernel_rfl) (fun _ h => by cases h) ordersNone_row_tie rfl ⟨rfl, rfl⟩ (by kernel_rfl) rfl
    (fun f fn hf hfn => by
      obtain rfl : f = 4 := Option.some.inj ((show Tryd.prog.funcNamed "pinnace/pinnacelaw13.OrdersNone" = some 4 by kernel_rfl).symm.trans hf) |>.symm
      obtain rfl : fn = Tryd.f4 := (Option.some.inj (Tryd.func4.symm.trans hfn)).symm
      exact ⟨by kernel_rfl, fun j t ht => by
        rw [Tryd.params4] at ht
        have hm : t ∈ [32] := by simpa using Array.mem_of_getElem? ht
        have hall : ([32].all fun u => !Tryd.prog.wantsStandIn u) = true := by kernel_rfl
        exact (show Tryd.prog.wantsStandIn t = false by simpa using List.all_eq_true.1 hall t hm)⟩)
    (by kernel_rfl)

end Go.Proofs.YtoobfmedkhbkiaaDoor
