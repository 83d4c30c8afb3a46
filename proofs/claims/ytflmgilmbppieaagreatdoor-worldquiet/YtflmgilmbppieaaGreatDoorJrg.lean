/-
  What moves: one entity, and all.
-/
import Derived.Test.YtflmgilmbppieaaGreatDoorIcg
import Derived.Deep.RegionWith
import Derived.Test.YtflmgilmbppieaaGreatDoorWoqg
import Derived.Test.YtflmgilmbppieaaGreatDoorOg
import Derived.Test.YtflmgilmbppieaaGreatDoorSn
import Derived.Test.YtflmgilmbppieaaGreatDoorUf
import Derived.Deep.RegionHeld3
namespace Go.Proofs.YtflmgilmbppieaaGreatDoor
open Go.RowKit Go.Maps
set_option linter.unusedVariables false
set_option maxRecDepth 100000

theorem gv_of {σ : Sto} (hσ : σ.Ok) {id k : Nat} (hl : σ.S.isLive id = true) (hh : hasK (σ.cps id) k = true) : (σ.gv id k).k = k ∧ (σ.gv id k).chk = 0 := by
  obtain ⟨r, C, hr, he, hlC, _⟩ := hσ.ent hl
  have hc := Sto.cps_of hr he
  rw [hc] at hh
  obtain ⟨q, hq, hqk⟩ := (hasK_iff C k).1 hh
  have e : σ.gv id k = q := by
    unfold Sto.gv
    rw [hc, if_pos hh, ← hqk, fv_of hlC hq]
    rfl
  rw [e]
  exact ⟨hqk, (lst_ok hlC).2 q hq |>.2⟩
def mvP (p v : Cp) : Cp := ⟨0, (gl1 p.a v.a).1, (gl1 p.b v.b).1, p.c⟩
def mvV (p v : Cp) : Cp := ⟨1, (gl1 p.a v.a).2, (gl1 p.b v.b).2, v.c⟩
def Sto.mv (σ : Sto) (id : Nat) : Bool × Sto :=
  (!(((gl1 (σ.gv id 0).a (σ.gv id 1).a).1 == (σ.gv id 0).a) && ((gl1 (σ.gv id 0).b (σ.gv id 1).b).1 == (σ.gv id 0).b)), ((σ.set id (mvP (σ.gv id 0) (σ.gv id 1))).2.set id (mvV (σ.gv id 0) (σ.gv id 1))).2)
theorem Sto.mv_ok {σ : Sto} (h : σ.Ok) (id : Nat) : (σ.mv id).2.Ok := Sto.set_ok (Sto.set_ok h _ _) _ _
set_option maxHeartbeats 4000000 in
theorem move1_ok (w0 w : World) (l : List Thing) (b : Nat) (σ : Sto) (K : Nat) (ht : Tab w0) (h : Own w0 w (Store b σ K :: l)) (hσ : σ.Ok) (hK : K < 1000000) (id : Nat) (hid : id < 4294967296) (hl : σ.S.isLive id = true) (h0 : hasK (σ.cps id) 0 = true) (h1 : hasK (σ.cps id) 1 = true) :
    Calls Tryz.prog 109 #[.pointer (some ⟨b, 0, none⟩), .int .u32 (id : Int)] w fun e w' => e = .returned (.bool (σ.mv id).1) ∧ Own w0 w' (Store b (σ.mv id).2 K :: l) := by
  have HG0 : Hid (Calls _ _ _ _ _) := sgetC w0 w l b σ K h hσ id hid hl 0 (by decide)
  have HG1 : Hid (∀ w' l', Own w0 w' (Store b σ K :: l') → Calls Tryz.prog 110 #[.pointer (some ⟨b, 0, none⟩), .int .u32 (id : Int), .int .u8 1] w' fun e w'' => e = .returned (.tuple #[(σ.gv id 1).ag, .int .i64 (if hasK (σ.cps id) 1 then 0 else 10)]) ∧ Own w0 w'' (Store b σ K :: l')) := fun w' l' h' => sgetC w0 w' l' b σ K h' hσ id hid hl 1 (by decide)
  rw [h0] at HG0
  rw [h1] at HG1
  obtain ⟨k0, c0⟩ := gv_of hσ hl h0
  obtain ⟨k1, c1⟩ := gv_of hσ hl h1
  have HMV : Hid (σ.mv id = (!(((gl1 (σ.gv id 0).a (σ.gv id 1).a).1 == (σ.gv id 0).a) && ((gl1 (σ.gv id 0).b (σ.gv id 1).b).1 == (σ.gv id 0).b)), ((σ.set id (mvP (σ.gv id 0) (σ.gv id 1))).2.set id (mvV (σ.gv id 0) (σ.gv id 1))).2)) := rfl
  generalize σ.gv id 0 = P at *
  generalize σ.gv id 1 = V at *
  obtain ⟨pk, pa, pb, pc⟩ := P
  obtain ⟨vk, va, vb, vc⟩ := V
  simp only at k0 k1 HMV
  subst k0 k1
  obtain ⟨p1, p2, p3, p4, p5⟩ := chk_pv (.inl rfl) c0
  obtain ⟨v1, v2, v3, v4, v5⟩ := chk_pv (.inr rfl) c1
  simp [lo, hi, fld, kinds] at p1 p2 p3 p4 v1 v2 v3 v4
  subst p5 v5
  have HGA : Hid (∀ w', Calls Tryz.prog 169 #[.int .i32 pa, .int .i32 va] w' fun e w'' => e = .returned (.tuple #[.int .i32 (gl1 pa va).1, .int .i32 (gl1 pa va).2]) ∧ w'' = w') := fun w' => glide_in w' pa va ⟨by omega, by omega⟩ ⟨by omega, by omega⟩
  have HGB : Hid (∀ w', Calls Tryz.prog 169 #[.int .i32 pb, .int .i32 vb] w' fun e w'' => e = .returned (.tuple #[.int .i32 (gl1 pb vb).1, .int .i32 (gl1 pb vb).2]) ∧ w'' = w') := fun w' => glide_in w' pb vb ⟨by omega, by omega⟩ ⟨by omega, by omega⟩
  have HS1 : Hid (∀ w' l', Own w0 w' (Store b σ K :: l') → Calls Tryz.prog 112 #[.pointer (some ⟨b, 0, none⟩), .int .u32 (id : Int), .agg #[.int .u8 0, .int .i32 (gl1 pa va).1, .int .i32 (gl1 pb vb).1, .int .i32 0]] w' fun e w'' => e = .returned (.int .i64 (σ.set id (mvP ⟨0, pa, pb, 0⟩ ⟨1, va, vb, 0⟩)).1) ∧ Own w0 w'' (Store b (σ.set id (mvP ⟨0, pa, pb, 0⟩ ⟨1, va, vb, 0⟩)).2 K :: l')) := fun w' l' h' => setC0 w0 w' l' b σ K ht h' hσ id hid (mvP ⟨0, pa, pb, 0⟩ ⟨1, va, vb, 0⟩) (show 0 < 256 by decide) hK
  have HS2 : Hid (∀ w' l', Own w0 w' (Store b (σ.set id (mvP ⟨0, pa, pb, 0⟩ ⟨1, va, vb, 0⟩)).2 K :: l') → Calls Tryz.prog 112 #[.pointer (some ⟨b, 0, none⟩), .int .u32 (id : Int), .agg #[.int .u8 1, .int .i32 (gl1 pa va).2, .int .i32 (gl1 pb vb).2, .int .i32 0]] w' fun e w'' => e = .returned (.int .i64 ((σ.set id (mvP ⟨0, pa, pb, 0⟩ ⟨1, va, vb, 0⟩)).2.set id (mvV ⟨0, pa, pb, 0⟩ ⟨1, va, vb, 0⟩)).1) ∧ Own w0 w'' (Store b ((σ.set id (mvP ⟨0, pa, pb, 0⟩ ⟨1, va, vb, 0⟩)).2.set id (mvV ⟨0, pa, pb, 0⟩ ⟨1, va, vb, 0⟩)).2 K :: l')) := fun w' l' h' => setC0 w0 w' l' b _ K ht h' (Sto.set_ok hσ _ _) id hid (mvV ⟨0, pa, pb, 0⟩ ⟨1, va, vb, 0⟩) (show 1 < 256 by decide) hK
  have eqa := eq_a3 9997
  rw [HMV.out]
  clear h hσ hl h0 h1 c0 c1 HMV ht
  generalize σ.set id (mvP ⟨0, pa, pb, 0⟩ ⟨1, va, vb, 0⟩) = s1 at *
  generalize s1.2.set id (mvV ⟨0, pa, pb, 0⟩ ⟨1, va, vb, 0⟩) = s2 at *
  generalize gl1 pa va = ga at *
  generalize gl1 pb vb = gb at *
  obtain ⟨ga1, ga2⟩ := ga
  obtain ⟨gb1, gb2⟩ := gb
  simp only at HGA HGB HS1 HS2 ⊢
  simp only [Cp.ag] at HG0 HG1
  go_enter Tryz.func109, Tryz.ntmps109
  go_wp2_with fail
  refine HG0.out.mono ?_
  rintro e w1 ⟨rfl, hO1⟩
  have HG2 : Hid (Calls _ _ _ _ _) := HG1.out _ _ (hO1.allocC #[.int .u8 0, .int .i32 pa, .int .i32 pb, .int .i32 0] 46).two
  clear hO1 HG0 HG1
  go_wp2_with fail
  refine HG2.out.mono ?_
  rintro e w2 ⟨rfl, hO2⟩
  have hB := hO2.allocC #[.int .u8 1, .int .i32 va, .int .i32 vb, .int .i32 0] 46
  have hC := (hB.allocC #[.int .u8 0, .int .i32 pa, .int .i32 pb, .int .i32 0] 46)
  simp only [World.size_alloc] at hC
  have x0 := hB.three.cell 0
  have x1 := hB.three.cell 1
  have x2 := hB.three.cell 2
  have x3 := hB.three.cell 3
  simp at x0 x1 x2 x3
  have hne1 : w1.heap.size < w2.heap.size := hO2.two.lt
  have HC : Hid (Own w0 _ (Cells (w2.heap.size + 1) #[.int .u8 0, .int .i32 pa, .int .i32 pb, .int .i32 0] 46 :: Cells w2.heap.size #[.int .u8 1, .int .i32 va, .int .i32 vb, .int .i32 0] 46 :: Cells w1.heap.size #[.int .u8 0, .int .i32 pa, .int .i32 pb, .int .i32 0] 46 :: Store b σ K :: l)) := hC.four.back4 |> fun h => (hC.perm ((List.Perm.swap _ _ _).cons _ |>.cons _))
  clear hO2 hB hC HG2
  go_wp2
  go_loopw [24] (fun v24 wr => (v24 = .int .i64 0 ∧ Own w0 wr (Cells (w2.heap.size + 1) #[.int .u8 0, .int .i32 pa, .int .i32 pb, .int .i32 0] 46 :: Cells w2.heap.size #[.int .u8 1, .int .i32 va, .int .i32 vb, .int .i32 0] 46 :: Cells w1.heap.size #[.int .u8 0, .int .i32 pa, .int .i32 pb, .int .i32 0] 46 :: Store b σ K :: l)) ∨ (v24 = .int .i64 1 ∧ Own w0 wr (Cells (w2.heap.size + 1) #[.int .u8 0, .int .i32 ga1, .int .i32 pb, .int .i32 0] 46 :: Cells w2.heap.size #[.int .u8 1, .int .i32 ga2, .int .i32 vb, .int .i32 0] 46 :: Cells w1.heap.size #[.int .u8 0, .int .i32 pa, .int .i32 pb, .int .i32 0] 46 :: Store b σ K :: l)) ∨ (v24 = .int .i64 2 ∧ Own w0 wr (Cells (w2.heap.size + 1) #[.int .u8 0, .int .i32 ga1, .int .i32 gb1, .int .i32 0] 46 :: Cells w2.heap.size #[.int .u8 1, .int .i32 ga2, .int .i32 gb2, .int .i32 0] 46 :: Cells w1.heap.size #[.int .u8 0, .int .i32 pa, .int .i32 pb, .int .i32 0] 46 :: Store b σ K :: l))) (fun v24 _ => 2 - (intOf v24).toNat)
  case atStart => exact .inl ⟨rfl, HC.out⟩
  case round =>
    clear HC x0 x1 x2 x3
    rcases hrel with ⟨rfl, hO⟩ | ⟨rfl, hO⟩ | ⟨rfl, hO⟩
    · have x1 := hO.three.cell 1
      have y1 := hO.two.cell 1
      have y2 := hO.two.froz 1
      have z1 := hO.cell 1
      have z2 := hO.froz 1
      simp at x1 y1 z1
      have HO : Hid (Own w0 wr _) := hO
      clear hO
      go_wp2
      go_region_with (go_at_call 169; refine (HGA.out _).mono ?_; rintro e w' ⟨rfl, rfl⟩)
      all_goals
        have H2 : Hid (Own w0 _ _) := ((HO.out.setC 1 (.int .i32 ga1)).two.setC 1 (.int .i32 ga2)).two.drew
        go_wp2
        go_roundw
        case rel => exact .inr (.inl ⟨rfl, H2.out⟩)
        case measure => simp [intOf]
    · have x1 := hO.three.cell 2
      have y1 := hO.two.cell 2
      have y2 := hO.two.froz 2
      have z1 := hO.cell 2
      have z2 := hO.froz 2
      simp at x1 y1 z1
      have HO : Hid (Own w0 wr _) := hO
      clear hO
      go_wp2
      go_region_with (go_at_call 169; refine (HGB.out _).mono ?_; rintro e w' ⟨rfl, rfl⟩)
      all_goals
        have H2 : Hid (Own w0 _ _) := ((HO.out.setC 2 (.int .i32 gb1)).two.setC 2 (.int .i32 gb2)).two.drew
        go_wp2
        go_roundw
        case rel => exact .inr (.inr ⟨rfl, H2.out⟩)
        case measure => simp [intOf]
    · have z0 := hO.cell 0
      have z1 := hO.cell 1
      have z2 := hO.cell 2
      have z3 := hO.cell 3
      simp at z0 z1 z2 z3
      have HA1 : Hid (Calls _ _ _ _ _) := HS1.out _ _ (Own.four hO)
      clear hO HS1 HGA HGB
      go_wp2_with fail
      refine HA1.out.mono ?_
      rintro e w5 ⟨rfl, hO5⟩
      have y0 := hO5.three.cell 0
      have y1 := hO5.three.cell 1
      have y2 := hO5.three.cell 2
      have y3 := hO5.three.cell 3
      simp at y0 y1 y2 y3
      have HA2 : Hid (Calls _ _ _ _ _) := HS2.out _ _ hO5
      clear hO5 HS2 HA1 z0 z1 z2 z3
      go_wp2_with fail
      refine HA2.out.mono ?_
      rintro e w6 ⟨rfl, hO6⟩
      have z0 := hO6.two.cell 0
      have z1 := hO6.two.cell 1
      have z2 := hO6.two.cell 2
      have z3 := hO6.two.cell 3
      have t0 := hO6.four.cell 0
      have t1 := hO6.four.cell 1
      have t2 := hO6.four.cell 2
      have t3 := hO6.four.cell 3
      simp at z0 z1 z2 z3 t0 t1 t2 t3
      have H6 : Hid (Own w0 w6 _) := hO6
      clear hO6 HA2 y0 y1 y2 y3
      have hpp : ∀ (x y : Bool), x = y → Ending.returned (Value.bool x) = Ending.returned (Value.bool y) := fun x y h => by rw [h]
      have HPP : Hid _ := hpp
      clear hpp
      go_wp2
      all_goals
        rename_i hc
        go_ret
        refine ⟨HPP.out _ _ ?_, H6.out.two.tail.two.tail.two.tail⟩
        clear HPP H6
        by_cases e1 : ga1 = pa <;> by_cases e2 : gb1 = pb <;> simp_all
end Go.Proofs.YtflmgilmbppieaaGreatDoor

/-
  Bits of a mask; who is listed lives.
-/
namespace Go.Proofs.YtflmgilmbppieaaGreatDoor
open Go.RowKit Go.Maps
set_option linter.unusedVariables false

theorem hasK_tb1 {C : List Cp} (hC : ∀ q ∈ C, q.k < 6) (k : Nat) : hasK C k = (msk C).testBit k := by
  rw [Nat.testBit_eq_decide_div_mod_eq]
  by_cases h6 : k < 6
  · exact (bt_msk C k h6).symm
  · have h1 : hasK C k = false := by
      cases hh : hasK C k with
      | false => rfl
      | true =>
        obtain ⟨q, hq, e⟩ := (hasK_iff _ _).1 hh
        have := hC q hq
        omega
    have h2 : decide (msk C / 2 ^ k % 2 = 1) = false := by
      rw [← Nat.testBit_eq_decide_div_mod_eq]
      refine Nat.testBit_lt_two_pow (Nat.lt_of_lt_of_le (msk_lt C) ?_)
      have := Nat.pow_le_pow_right (show 0 < 2 by decide) (show 6 ≤ k by omega)
      simpa using this
    rw [h1, h2]
theorem pick_mm1 : ∀ (l : List Nat) (m : List Bool) (x : Nat), x ∈ pick l m → ∃ i : Nat, l[i]? = some x ∧ m[i]? = some true
  | [], m, x, h => by simp [pick] at h
  | a :: l, [], x, h => by simp [pick] at h
  | a :: l, u :: m, x, h => by
    unfold pick at h
    split at h
    · rename_i hu
      rcases List.mem_cons.1 h with rfl | h
      · exact ⟨0, rfl, by simp [hu]⟩
      · obtain ⟨i, h1, h2⟩ := pick_mm1 l m x h
        exact ⟨i + 1, by simpa using h1, by simpa using h2⟩
    · obtain ⟨i, h1, h2⟩ := pick_mm1 l m x h
      exact ⟨i + 1, by simpa using h1, by simpa using h2⟩
theorem St.list_iv1 {S : St} (hS : S.Ok) {y : Nat} (h : y ∈ S.list) : S.isLive y = true ∧ y < 4294967296 := by
  obtain ⟨i, h1, h2⟩ := pick_mm1 _ _ _ h
  obtain ⟨a, _, c⟩ := hS.id i y h1
  refine ⟨?_, c⟩
  rw [St.isLive_iff hS, a]
  exact ⟨h2, h1⟩
end Go.Proofs.YtflmgilmbppieaaGreatDoor

/-
  Move: all that have a pos and a vel.
-/
namespace Go.Proofs.YtflmgilmbppieaaGreatDoor
open Go.RowKit Go.Maps
set_option linter.unusedVariables false
set_option maxRecDepth 100000

theorem Sto.set_S (σ : Sto) (id : Nat) (c : Cp) : (σ.set id c).2.S = σ.S := by
  unfold Sto.set
  split
  · rfl
  · split
    · rfl
    · split <;> rfl
theorem Sto.set_cps {σ : Sto} (h : σ.Ok) {id : Nat} {c : Cp} (hc : c.chk = 0) (hl : σ.S.isLive id = true) (hh : hasK (σ.cps id) c.k = true) {x : Nat} (hx : σ.S.isLive x = true) : (σ.set id c).2.cps x = if x = id then setc (σ.cps id) c else σ.cps x := by
  obtain ⟨r, C, hr, he, hC, hm, h6⟩ := h.ent hl
  obtain ⟨r', C', hr', he', hC', hm', h6'⟩ := h.ent hx
  have e : (σ.set id c).2 = { σ with T := upd σ.T (σ.hom id) ((σ.T (σ.hom id)).set r (id, setc (σ.cps id) c)) } := by
    unfold Sto.set
    rw [if_neg (by simp [hc]), if_neg (by simp [hl]), if_neg (by simp [hh]), hr]
    rfl
  rw [e]
  have hcx := Sto.cps_of hr' he'
  have hci := Sto.cps_of hr he
  have hom' : ∀ T, Sto.hom { σ with T := T } x = σ.hom x := fun T => rfl
  by_cases hk : σ.hom x = σ.hom id
  · have hT : (upd σ.T (σ.hom id) ((σ.T (σ.hom id)).set r (id, setc (σ.cps id) c))) (σ.hom x) = (σ.T (σ.hom id)).set r (id, setc (σ.cps id) c) := by rw [hk, upd_same]
    by_cases hxi : x = id
    · subst hxi
      rw [if_pos rfl]
      refine Sto.cps_of (r := r) ?_ ?_
      · show plc ((upd σ.T (σ.hom x) ((σ.T (σ.hom x)).set r (x, setc (σ.cps x) c))) (σ.hom x)) x = some r
        rw [hT, plc_same he]; exact hr
      · show ((upd σ.T (σ.hom x) ((σ.T (σ.hom x)).set r (x, setc (σ.cps x) c))) (σ.hom x))[r]? = _
        rw [hT, List.getElem?_set, if_pos rfl, if_pos (List.getElem?_eq_some_iff.1 he).1]
    · rw [if_neg hxi, hcx]
      refine Sto.cps_of (r := r') ?_ ?_
      · show plc ((upd σ.T (σ.hom id) ((σ.T (σ.hom id)).set r (id, setc (σ.cps id) c))) (σ.hom x)) x = some r'
        rw [hT, plc_same he, ← hk]; exact hr'
      · show ((upd σ.T (σ.hom id) ((σ.T (σ.hom id)).set r (id, setc (σ.cps id) c))) (σ.hom x))[r']? = _
        rw [hT, List.getElem?_set]
        have hne : r ≠ r' := by
          intro hrr
          subst hrr
          rw [hk, he] at he'
          exact hxi ((Prod.mk.inj (Option.some.inj he')).1.symm)
        rw [if_neg hne, ← hk]; exact he'
  · have hT : (upd σ.T (σ.hom id) ((σ.T (σ.hom id)).set r (id, setc (σ.cps id) c))) (σ.hom x) = σ.T (σ.hom x) := upd_other _ _ _ hk
    have hxi : ¬ x = id := fun hxi => hk (by rw [hxi])
    rw [if_neg hxi, hcx]
    refine Sto.cps_of (r := r') ?_ ?_
    · show plc ((upd σ.T (σ.hom id) ((σ.T (σ.hom id)).set r (id, setc (σ.cps id) c))) (σ.hom x)) x = some r'
      rw [hT]; exact hr'
    · show ((upd σ.T (σ.hom id) ((σ.T (σ.hom id)).set r (id, setc (σ.cps id) c))) (σ.hom x))[r']? = _
      rw [hT]; exact he'
theorem hasK_setc (C : List Cp) (c : Cp) (k : Nat) : hasK (setc C c) k = hasK C k := by
  rw [hasK_map, hasK_map, setc_kinds]
theorem Sto.set_has {σ : Sto} (h : σ.Ok) (id : Nat) (c : Cp) {x : Nat} (hx : σ.S.isLive x = true) (k : Nat) : hasK ((σ.set id c).2.cps x) k = hasK (σ.cps x) k := by
  by_cases hc : c.chk = 0
  · cases hl : σ.S.isLive id with
    | false => unfold Sto.set; rw [if_neg (by simp [hc]), if_pos (by simp [hl])]
    | true =>
      cases hh : hasK (σ.cps id) c.k with
      | false => unfold Sto.set; rw [if_neg (by simp [hc]), if_neg (by simp [hl]), if_pos (by simp [hh])]
      | true =>
        rw [Sto.set_cps h hc hl hh hx]
        by_cases hxi : x = id
        · rw [if_pos hxi, hasK_setc, hxi]
        · rw [if_neg hxi]
  · unfold Sto.set; rw [if_pos hc]
theorem Sto.mv_S (σ : Sto) (id : Nat) : (σ.mv id).2.S = σ.S := by
  unfold Sto.mv
  rw [Sto.set_S, Sto.set_S]
theorem Sto.mv_has {σ : Sto} (h : σ.Ok) (id : Nat) {x : Nat} (hx : σ.S.isLive x = true) (k : Nat) : hasK ((σ.mv id).2.cps x) k = hasK (σ.cps x) k := by
  unfold Sto.mv
  simp only
  rw [Sto.set_has (Sto.set_ok h _ _) _ _ (by rw [Sto.set_S]; exact hx), Sto.set_has h _ _ hx]
/-- these one after another: the store, and who isn't where it was -/
def Sto.mvs (σ : Sto) (L : List Nat) : Sto × List Nat := L.foldl (fun p id => ((p.1.mv id).2, if (p.1.mv id).1 then p.2 ++ [id] else p.2)) (σ, [])
theorem Sto.mvs_snoc (σ : Sto) (L : List Nat) (id : Nat) : σ.mvs (L ++ [id]) = (((σ.mvs L).1.mv id).2, if ((σ.mvs L).1.mv id).1 then (σ.mvs L).2 ++ [id] else (σ.mvs L).2) := by
  unfold Sto.mvs
  rw [List.foldl_append]
  rfl
theorem snoc_ind {α : Type} {P : List α → Prop} (h0 : P []) (h1 : ∀ L a, P L → P (L ++ [a])) (L : List α) : P L := by
  have : ∀ n, ∀ L : List α, L.length = n → P L := by
    intro n
    induction n with
    | zero => intro L hL; rw [List.length_eq_zero_iff.1 hL]; exact h0
    | succ n ih =>
      intro L hL
      have hne : L ≠ [] := by intro h; rw [h] at hL; simp at hL
      rw [← List.dropLast_concat_getLast hne]
      exact h1 _ _ (ih _ (by rw [List.length_dropLast, hL]; rfl))
  exact this _ L rfl
theorem Sto.mvs_inv {σ : Sto} (h : σ.Ok) (L : List Nat) : (σ.mvs L).1.Ok ∧ (σ.mvs L).1.S = σ.S ∧ (∀ x, σ.S.isLive x = true → ∀ k, hasK ((σ.mvs L).1.cps x) k = hasK (σ.cps x) k) ∧ (σ.mvs L).2.length ≤ L.length := by
  refine snoc_ind (P := fun L => (σ.mvs L).1.Ok ∧ (σ.mvs L).1.S = σ.S ∧ (∀ x, σ.S.isLive x = true → ∀ k, hasK ((σ.mvs L).1.cps x) k = hasK (σ.cps x) k) ∧ (σ.mvs L).2.length ≤ L.length) ⟨h, rfl, fun _ _ _ => rfl, Nat.le_refl _⟩ ?_ L
  rintro L id ⟨i1, i2, i3, i4⟩
  rw [Sto.mvs_snoc]
  refine ⟨Sto.mv_ok i1 id, by rw [Sto.mv_S, i2], fun x hx k => by rw [Sto.mv_has i1 id (by rw [i2]; exact hx), i3 x hx k], ?_⟩
  simp only [List.length_append, List.length_singleton]
  split
  · rw [List.length_append]; simp; exact i4
  · omega
theorem bit_one {C : List Cp} (hC : ∀ q ∈ C, q.k < 6) {a k : Nat} (h : msk C &&& a = a) (ha : a.testBit k = true) : hasK C k = true := by
  rw [hasK_tb1 hC]
  have := congrArg (fun y => y.testBit k) h
  simp only [Nat.testBit_and, ha, Bool.and_true] at this
  exact this
theorem mem_find {σ : Sto} (hσ : σ.Ok) {a x : Nat} (hx : x ∈ σ.find a 0) : σ.S.isLive x = true ∧ x < 4294967296 ∧ ∀ k, a.testBit k = true → hasK (σ.cps x) k = true := by
  obtain ⟨h1, h2⟩ := List.mem_filter.1 hx
  obtain ⟨hl, h32⟩ := St.list_iv1 hσ.s h1
  refine ⟨hl, h32, fun k hk => ?_⟩
  obtain ⟨r, C, hr, he, hlC, _⟩ := hσ.ent hl
  have hc := Sto.cps_of hr he
  unfold fitb at h2
  simp only [Bool.and_eq_true, decide_eq_true_iff] at h2
  exact bit_one (by rw [hc]; exact fun q hq => chk_k ((lst_ok hlC).2 q hq).2) h2.1 hk
end Go.Proofs.YtflmgilmbppieaaGreatDoor

/-
  Move: the loop.
-/
namespace Go.Proofs.YtflmgilmbppieaaGreatDoor
open Go.RowKit Go.Maps
set_option linter.unusedVariables false
set_option maxRecDepth 100000

set_option maxHeartbeats 4000000 in
theorem move_ok (w0 w : World) (l : List Thing) (b : Nat) (σ : Sto) (K : Nat) (ht : Tab w0) (h : Own w0 w (Store b σ K :: l)) (hσ : σ.Ok) (hK : K < 1000000) :
    Calls Tryz.prog 56 #[.pointer (some ⟨b, 0, none⟩)] w fun e w' => ∃ ao cap, e = .returned (.slice ao (σ.mvs (σ.find 3 0)).2.length cap) ∧ Own w0 w' (Row 38 1 (.slice ao (σ.mvs (σ.find 3 0)).2.length cap) (σ.mvs (σ.find 3 0)).2.length (irow .u32 (σ.mvs (σ.find 3 0)).2) :: Store b (σ.mvs (σ.find 3 0)).1 K :: l) := by
  obtain ⟨i0, hi, hz0, hz1, hz2⟩ := info_parts Tryz.infoID2
  have hLV : ∀ id ∈ σ.S.list, σ.S.isLive id = true ∧ id < 4294967296 := fun id hid => St.list_iv1 hσ.s hid
  have HW : Hid (Calls _ _ _ _ _) := with_g w0 w l (some ⟨b, 0, none⟩) (Store b σ K) _ h 3 0 (iter_store w0 b σ K hσ (by omega) hLV 3 0 (by decide) (by decide) ht) (Sto.find_len hσ.s 3 0)
  have hlen := Sto.find_len hσ.s 3 0
  have HIN : Hid (∀ id ∈ σ.find 3 0, σ.S.isLive id = true ∧ id < 4294967296 ∧ hasK (σ.cps id) 0 = true ∧ hasK (σ.cps id) 1 = true) := by
    intro id hid
    obtain ⟨h1, h2, h3⟩ := mem_find hσ hid
    exact ⟨h1, h2, h3 0 (by decide), h3 1 (by decide)⟩
  have HT : Hid (Tab w0) := ht
  have HSI : Hid (∀ j, (σ.mvs ((σ.find 3 0).take j)).1.Ok ∧ (σ.mvs ((σ.find 3 0).take j)).1.S = σ.S ∧ (∀ x, σ.S.isLive x = true → ∀ k, hasK ((σ.mvs ((σ.find 3 0).take j)).1.cps x) k = hasK (σ.cps x) k) ∧ (σ.mvs ((σ.find 3 0).take j)).2.length ≤ j) := by
    intro j
    obtain ⟨i1, i2, i3, i4⟩ := Sto.mvs_inv hσ ((σ.find 3 0).take j)
    exact ⟨i1, i2, i3, Nat.le_trans i4 (by rw [List.length_take]; omega)⟩
  obtain ⟨X, hX⟩ : ∃ X, σ.find 3 0 = X := ⟨_, rfl⟩
  rw [hX] at HW hlen HIN HSI ⊢
  obtain ⟨M, hM⟩ : ∃ M : Nat → Sto × List Nat, M = fun j => σ.mvs (X.take j) := ⟨_, rfl⟩
  have HM0 : Hid (M 0 = (σ, [])) := by show _ = _; rw [hM]; simp [Sto.mvs]
  have HMS : Hid (∀ (j id : Nat), X[j]? = some id → M (j + 1) = (((M j).1.mv id).2, if ((M j).1.mv id).1 then (M j).2 ++ [id] else (M j).2)) := by
    intro j id hd
    rw [hM]
    simp only
    rw [List.take_add_one, hd]
    exact Sto.mvs_snoc σ (X.take j) id
  have HME : Hid (M X.length = σ.mvs X) := by show _ = _; rw [hM]; simp
  have HMI : Hid (∀ j, (M j).1.Ok ∧ (M j).1.S = σ.S ∧ (∀ x, σ.S.isLive x = true → ∀ k, hasK ((M j).1.cps x) k = hasK (σ.cps x) k) ∧ (M j).2.length ≤ j) := by rw [hM]; exact HSI.out
  rw [← HME.out]
  clear h hX hLV hσ ht HSI hM HME
  generalize hxl : X.length = xl at *
  have HXL : Hid (X.length = xl) := hxl
  clear hxl
  go_enter Tryz.func56, Tryz.ntmps56
  go_wp2_with fail
  refine HW.out.mono ?_
  rintro e w1 ⟨la, lc, rfl, hO1⟩
  have H1 : Hid (Own w0 w1 _) := hO1.nilRow 38 1
  clear hO1 HW
  go_wp2
  go_loopw [3, 9] (fun v3 v9 wr => ∃ j : Nat, j ≤ xl ∧ v9 = .int .i64 j ∧ ∃ a1 c1, v3 = .slice a1 (M j).2.length c1 ∧ Own w0 wr (Row 38 1 (.slice a1 (M j).2.length c1) (M j).2.length (irow .u32 (M j).2) :: Row 38 1 (.slice la xl lc) xl (irow .u32 X) :: Store b (M j).1 K :: l)) (fun _ v9 _ => xl - (intOf v9).toNat)
  case atStart => exact ⟨0, Nat.zero_le _, rfl, none, 0, by rw [HM0.out]; rfl, by rw [HM0.out]; exact H1.out⟩
  case round =>
    obtain ⟨j, hj, rfl, a1, c1, rfl, hO⟩ := hrel
    have HO : Hid (Own w0 wr _) := hO
    clear H1 HM0
    by_cases hlt : j < xl
    · have hlt' : (j : Int) < (xl : Int) := by omega
      obtain ⟨id, hid⟩ : ∃ id, X[j]? = some id := ⟨_, List.getElem?_eq_getElem (by rw [HXL.out]; exact hlt)⟩
      obtain ⟨g, cp, hv, _⟩ := row_shape hO.two.row (by omega)
      have hla := (Value.slice.inj hv).1
      subst hla
      have e0 : wr.cell? ⟨g, j, none⟩ = some (.int .u32 (id : Int)) := by
        rw [hO.two.row.cellAt _ (by omega), getElem?_irow, hid]; rfl
      obtain ⟨hl, h32, hk0, hk1⟩ := HIN.out id (List.mem_of_getElem? hid)
      obtain ⟨i1, i2, i3, i4⟩ := HMI.out j
      have HST : Hid (M (j + 1) = (((M j).1.mv id).2, if ((M j).1.mv id).1 then (M j).2 ++ [id] else (M j).2)) := HMS.out j id hid
      have HMV : Hid (Calls _ _ _ _ _) := move1_ok w0 wr _ b (M j).1 K HT.out hO.three i1 hK id h32 (by rw [i2]; exact hl) (by rw [i3 id hl]; exact hk0) (by rw [i3 id hl]; exact hk1)
      clear hO hid hv hl hk0 hk1 i1 i2 i3
      generalize (M j).1 = sj at *
      generalize (M j).2 = Lj at *
      generalize hmv : sj.mv id = mv at *
      obtain ⟨mb, ms⟩ := mv
      simp only at HST HMV
      generalize hll : Lj.length = ll at *
      have HLL : Hid (Lj.length = ll) := hll
      clear hll hmv
      go_wp2_with fail
      refine HMV.out.mono ?_
      rintro e w2 ⟨rfl, hO2⟩
      have H2 : Hid (Own w0 w2 _) := hO2.back3
      clear hO2 HMV HO
      cases mb with
      | false =>
        simp only [Bool.false_eq_true, if_false] at HST
        go_wp2
        go_roundw
        case rel => exact ⟨j + 1, by omega, by go_num, a1, c1, by rw [HST.out, HLL.out], by rw [HST.out, HLL.out]; exact H2.out⟩
        case measure => simp [intOf]; omega
      | true =>
        simp only [if_true] at HST
        go_wp2_with (at_builtin; refine append1_own rfl _ _ 55 rfl 38 i0 (.int .u32 0) 1 4 Tryz.underlying55 hi hz0 hz1 hz2 rfl (by decide) _ _ _ rfl H2.out _ _ (by simp) rfl rfl (one_int _ _) (by unfold maxLen; omega) (by omega) ?_)
        intro g6 c6 w6 hO6 hsz6
        have H7 : Hid (Own w0 w6 (Row 38 1 (.slice (some ⟨g6, 0, none⟩) (ll + 1) c6) (ll + 1) (irow .u32 (M (j + 1)).2) :: Row 38 1 (.slice (some ⟨g, 0, none⟩) xl lc) xl (irow .u32 X) :: Store b (M (j + 1)).1 K :: l)) := by
          show Own _ _ _
          rw [HST.out]
          simpa [irow] using hO6
        have HRL2 : Hid ((M (j + 1)).2.length = ll + 1) := by show _ = _; rw [HST.out, List.length_append, HLL.out]; rfl
        clear hO6 hsz6 H2
        go_wp2
        go_roundw
        case rel => exact ⟨j + 1, by omega, by go_num, _, _, by rw [HRL2.out], by rw [HRL2.out]; exact H7.out⟩
        case measure => simp [intOf]; omega
    · have hlt' : ¬ (j : Int) < (xl : Int) := by omega
      have hjn : j = xl := by omega
      subst hjn
      clear hO
      go_wp2
      go_ret
      exact ⟨a1, c1, rfl, HO.out.two.tail⟩
end Go.Proofs.YtflmgilmbppieaaGreatDoor

/-
  Age: what is gone leaves the others as they are.
-/
namespace Go.Proofs.YtflmgilmbppieaaGreatDoor
open Go.RowKit Go.Maps
set_option linter.unusedVariables false
set_option maxRecDepth 100000

theorem mem_outr2 {α : Type} {L : List α} {r : Nat} {e x : α} (he : L[r]? = some e) (hx : x ∈ L) (hne : x ≠ e) : x ∈ outr L r := by
  obtain ⟨i, hi⟩ := List.mem_iff_getElem?.1 hx
  have hr := (List.getElem?_eq_some_iff.1 he).1
  have hil := (List.getElem?_eq_some_iff.1 hi).1
  have hir : i ≠ r := by
    intro h
    subst h
    rw [he] at hi
    exact hne (Option.some.inj hi).symm
  by_cases hlast : i = L.length - 1
  · refine List.mem_of_getElem? (i := r) ?_
    rw [outr_at L r r hr, if_pos (by omega), if_pos rfl, ← hlast]
    exact hi
  · refine List.mem_of_getElem? (i := i) ?_
    rw [outr_at L r i hr, if_pos (by omega), if_neg hir]
    exact hi
theorem Sto.cps_mem {σ : Sto} (h : σ.Ok) {m x : Nat} {C : List Cp} (hm : m < 64) (hx : (x, C) ∈ σ.T m) : σ.cps x = C := by
  obtain ⟨hl, hk⟩ := h.lv m hm (x, C) hx
  obtain ⟨r, C', hr, he, _⟩ := h.ent hl
  have hom : σ.hom x = m := gd_some hk
  rw [hom] at hr he
  obtain ⟨i, hi⟩ := List.mem_iff_getElem?.1 hx
  have := (h.t m hm).ap i r (x, C) (x, C') hi he rfl
  subst this
  rw [hi] at he
  have hC : C = C' := (Prod.mk.inj (Option.some.inj he)).2
  rw [hC]
  exact Sto.cps_of (by rw [hom]; exact hr) (by rw [hom, hi, hC])
theorem Sto.mem_cps {σ : Sto} (h : σ.Ok) {x : Nat} (hl : σ.S.isLive x = true) : σ.hom x < 64 ∧ (x, σ.cps x) ∈ σ.T (σ.hom x) := by
  obtain ⟨r, C, hr, he, _, _, h6⟩ := h.ent hl
  refine ⟨h6, ?_⟩
  rw [Sto.cps_of hr he]
  exact List.mem_of_getElem? he
theorem Sto.despawn_live {σ : Sto} (h : σ.Ok) {id x : Nat} (hl : σ.S.isLive id = true) (hx : σ.S.isLive x = true) (hne : x ≠ id) : (σ.despawn id).2.S.isLive x = true ∧ (σ.despawn id).2.cps x = σ.cps x := by
  obtain ⟨r, C, hr, he, _, _, h6⟩ := h.ent hl
  have hD := Sto.despawn_ok h id
  have e : (σ.despawn id).2 = { σ.out (σ.hom id) r with S := σ.S.less id } := by
    unfold Sto.despawn
    rw [if_pos hl, hr]
    rfl
  have hlv : (σ.despawn id).2.S.isLive x = true := by
    rw [e]
    show (σ.S.less id).isLive x = true
    rw [(St.free_live h.s hl).2, hx]
    simp [hne]
  refine ⟨hlv, ?_⟩
  obtain ⟨h64, hm⟩ := Sto.mem_cps h hx
  refine Sto.cps_mem hD h64 ?_
  rw [e]
  show (x, σ.cps x) ∈ upd σ.T (σ.hom id) (outr (σ.T (σ.hom id)) r) (σ.hom x)
  by_cases hk : σ.hom x = σ.hom id
  · rw [hk, upd_same]
    rw [hk] at hm
    exact mem_outr2 he hm (fun hh => hne (Prod.mk.inj hh).1)
  · rw [upd_other _ _ _ hk]
    exact hm
theorem pick_sub : ∀ (l : List Nat) (m : List Bool), (pick l m).Sublist l
  | [], m => by simp [pick]
  | a :: l, [] => by simp [pick]
  | a :: l, u :: m => by
    unfold pick
    split
    · exact (pick_sub l m).cons_cons a
    · exact (pick_sub l m).cons a
theorem St.list_nodup {S : St} (h : S.Ok) : S.list.Nodup := by
  refine (pick_sub S.last S.used).nodup ?_
  unfold List.Nodup
  rw [List.pairwise_iff_getElem]
  intro i j hi hj hij heq
  have h1 := (h.id i _ (List.getElem?_eq_getElem hi)).1
  have h2 := (h.id j _ (List.getElem?_eq_getElem hj)).1
  rw [heq] at h1
  omega
theorem find_nodup {σ : Sto} (h : σ.Ok) (a n : Nat) : (σ.find a n).Nodup := (St.list_nodup h.s).filter _
/-- one tick older: is it gone? -/
def Sto.ag (σ : Sto) (id : Nat) : Bool × Sto := if (σ.gv id 2).a = 0 then (true, (σ.despawn id).2) else (false, (σ.set id ⟨2, (σ.gv id 2).a - 1, (σ.gv id 2).b, (σ.gv id 2).c⟩).2)
theorem Sto.ag_ok {σ : Sto} (h : σ.Ok) (id : Nat) : (σ.ag id).2.Ok := by
  unfold Sto.ag
  split
  · exact Sto.despawn_ok h id
  · exact Sto.set_ok h _ _
theorem Sto.ag_live {σ : Sto} (h : σ.Ok) {id x : Nat} (hl : σ.S.isLive id = true) (hx : σ.S.isLive x = true) (hne : x ≠ id) : (σ.ag id).2.S.isLive x = true ∧ ∀ k, hasK ((σ.ag id).2.cps x) k = hasK (σ.cps x) k := by
  unfold Sto.ag
  split
  · obtain ⟨h1, h2⟩ := Sto.despawn_live h hl hx hne
    exact ⟨h1, fun k => by rw [h2]⟩
  · exact ⟨by rw [Sto.set_S]; exact hx, fun k => Sto.set_has h _ _ hx k⟩
def Sto.ags (σ : Sto) (L : List Nat) : Sto × List Nat := L.foldl (fun p id => ((p.1.ag id).2, if (p.1.ag id).1 then p.2 ++ [id] else p.2)) (σ, [])
theorem Sto.ags_snoc (σ : Sto) (L : List Nat) (id : Nat) : σ.ags (L ++ [id]) = (((σ.ags L).1.ag id).2, if ((σ.ags L).1.ag id).1 then (σ.ags L).2 ++ [id] else (σ.ags L).2) := by
  unfold Sto.ags
  rw [List.foldl_append]
  rfl
theorem Sto.ags_inv {σ : Sto} (h : σ.Ok) (L : List Nat) : L.Nodup → (∀ x ∈ L, σ.S.isLive x = true) → (σ.ags L).1.Ok ∧ (∀ x, σ.S.isLive x = true → x ∉ L → (σ.ags L).1.S.isLive x = true ∧ ∀ k, hasK ((σ.ags L).1.cps x) k = hasK (σ.cps x) k) ∧ (σ.ags L).2.length ≤ L.length := by
  refine snoc_ind (P := fun L => L.Nodup → (∀ x ∈ L, σ.S.isLive x = true) → (σ.ags L).1.Ok ∧ (∀ x, σ.S.isLive x = true → x ∉ L → (σ.ags L).1.S.isLive x = true ∧ ∀ k, hasK ((σ.ags L).1.cps x) k = hasK (σ.cps x) k) ∧ (σ.ags L).2.length ≤ L.length) (fun _ _ => ⟨h, fun x hx _ => ⟨hx, fun _ => rfl⟩, Nat.le_refl _⟩) ?_ L
  intro L id ih hnd hlv
  rw [List.nodup_append] at hnd
  obtain ⟨i1, i3, i4⟩ := ih hnd.1 (fun x hx => hlv x (by simp [hx]))
  have hid : id ∉ L := fun hm => hnd.2.2 id hm id (by simp) rfl
  obtain ⟨l1, l2⟩ := i3 id (hlv id (by simp)) hid
  rw [Sto.ags_snoc]
  refine ⟨Sto.ag_ok i1 id, fun x hx hxn => ?_, ?_⟩
  · obtain ⟨m1, m2⟩ := i3 x hx (fun hm => hxn (by simp [hm]))
    obtain ⟨n1, n2⟩ := Sto.ag_live i1 l1 m1 (fun hh => hxn (by simp [hh]))
    exact ⟨n1, fun k => by rw [n2 k, m2 k]⟩
  · simp only [List.length_append, List.length_singleton]
    split
    · rw [List.length_append]; simp; exact i4
    · omega
end Go.Proofs.YtflmgilmbppieaaGreatDoor

/-
  Age: the loop.
-/
namespace Go.Proofs.YtflmgilmbppieaaGreatDoor
open Go.RowKit Go.Maps
set_option linter.unusedVariables false
set_option maxRecDepth 100000

theorem life_in {q : Cp} (hk : q.k = 2) (h : q.chk = 0) : 0 ≤ q.a ∧ q.a ≤ 4095 := by
  unfold Cp.chk chk at h
  rw [if_neg (by omega)] at h
  split at h
  · cases h
  · split at h
    · cases h
    · rename_i ho
      have ho' : outside q.k (f3 q.a q.b q.c) = false := by simpa using ho
      unfold outside at ho'
      rw [List.any_eq_false] at ho'
      have := ho' 0 (by rw [hk]; decide)
      simp only [Bool.or_eq_true, decide_eq_true_iff, not_or, Int.not_lt] at this
      rw [hk] at this
      exact this
set_option maxHeartbeats 4000000 in
theorem age_ok (w0 w : World) (l : List Thing) (b : Nat) (σ : Sto) (K : Nat) (ht : Tab w0) (h : Own w0 w (Store b σ K :: l)) (hσ : σ.Ok) (hK : K ≤ 900000) :
    Calls Tryz.prog 57 #[.pointer (some ⟨b, 0, none⟩)] w fun e w' => ∃ ao cap, e = .returned (.slice ao (σ.ags (σ.find 4 0)).2.length cap) ∧ Own w0 w' (Row 38 1 (.slice ao (σ.ags (σ.find 4 0)).2.length cap) (σ.ags (σ.find 4 0)).2.length (irow .u32 (σ.ags (σ.find 4 0)).2) :: Store b (σ.ags (σ.find 4 0)).1 (K + (σ.ags (σ.find 4 0)).2.length) :: l) := by
  obtain ⟨i0, hi, hz0, hz1, hz2⟩ := info_parts Tryz.infoID2
  have hLV : ∀ id ∈ σ.S.list, σ.S.isLive id = true ∧ id < 4294967296 := fun id hid => St.list_iv1 hσ.s hid
  have HW : Hid (Calls _ _ _ _ _) := with_g w0 w l (some ⟨b, 0, none⟩) (Store b σ K) _ h 4 0 (iter_store w0 b σ K hσ (by omega) hLV 4 0 (by decide) (by decide) ht) (Sto.find_len hσ.s 4 0)
  have hlen := Sto.find_len hσ.s 4 0
  have HIN : Hid (∀ id ∈ σ.find 4 0, σ.S.isLive id = true ∧ id < 4294967296 ∧ hasK (σ.cps id) 2 = true) := by
    intro id hid
    obtain ⟨h1, h2, h3⟩ := mem_find hσ hid
    exact ⟨h1, h2, h3 2 (by decide)⟩
  have HT : Hid (Tab w0) := ht
  have hnd := find_nodup hσ 4 0
  obtain ⟨X, hX⟩ : ∃ X, σ.find 4 0 = X := ⟨_, rfl⟩
  rw [hX] at HW hlen HIN hnd ⊢
  obtain ⟨M, hM⟩ : ∃ M : Nat → Sto × List Nat, M = fun j => σ.ags (X.take j) := ⟨_, rfl⟩
  have HM0 : Hid (M 0 = (σ, [])) := by show _ = _; rw [hM]; simp [Sto.ags]
  have HMS : Hid (∀ (j id : Nat), X[j]? = some id → M (j + 1) = (((M j).1.ag id).2, if ((M j).1.ag id).1 then (M j).2 ++ [id] else (M j).2)) := by
    intro j id hd
    rw [hM]
    simp only
    rw [List.take_add_one, hd]
    exact Sto.ags_snoc σ (X.take j) id
  have HME : Hid (M X.length = σ.ags X) := by show _ = _; rw [hM]; simp
  have HMI : Hid (∀ (j id : Nat), X[j]? = some id → (M j).1.Ok ∧ (M j).1.S.isLive id = true ∧ hasK ((M j).1.cps id) 2 = true ∧ (M j).2.length ≤ j) := by
    intro j id hd
    obtain ⟨i1, i3, i4⟩ := Sto.ags_inv hσ (X.take j) (hnd.sublist (List.take_sublist _ _)) (fun x hx => (HIN.out x (List.mem_of_mem_take hx)).1)
    obtain ⟨q1, q2, q3⟩ := HIN.out id (List.mem_of_getElem? hd)
    have hni : id ∉ X.take j := by
      intro hm
      obtain ⟨i, hi'⟩ := List.mem_iff_getElem?.1 hm
      rw [List.getElem?_take] at hi'
      split at hi'
      · rename_i hij
        unfold List.Nodup at hnd
        rw [List.pairwise_iff_getElem] at hnd
        obtain ⟨p1, p2⟩ := List.getElem?_eq_some_iff.1 hi'
        obtain ⟨p3, p4⟩ := List.getElem?_eq_some_iff.1 hd
        exact hnd i j p1 p3 hij (by rw [p2, p4])
      · cases hi'
    obtain ⟨l1, l2⟩ := i3 id q1 hni
    rw [hM]
    exact ⟨i1, l1, by rw [l2]; exact q3, Nat.le_trans i4 (by rw [List.length_take]; omega)⟩
  rw [← HME.out]
  clear h hX hLV hσ ht hM HME hnd
  generalize hxl : X.length = xl at *
  have HXL : Hid (X.length = xl) := hxl
  clear hxl
  go_enter Tryz.func57, Tryz.ntmps57
  go_wp2_with fail
  refine HW.out.mono ?_
  rintro e w1 ⟨la, lc, rfl, hO1⟩
  have H1 : Hid (Own w0 w1 _) := hO1.nilRow 38 1
  clear hO1 HW
  go_wp2
  go_loopw [3, 11] (fun v3 v9 wr => ∃ j : Nat, j ≤ xl ∧ v9 = .int .i64 j ∧ ∃ a1 c1, v3 = .slice a1 (M j).2.length c1 ∧ Own w0 wr (Row 38 1 (.slice a1 (M j).2.length c1) (M j).2.length (irow .u32 (M j).2) :: Row 38 1 (.slice la xl lc) xl (irow .u32 X) :: Store b (M j).1 (K + (M j).2.length) :: l)) (fun _ v9 _ => xl - (intOf v9).toNat)
  case atStart => exact ⟨0, Nat.zero_le _, rfl, none, 0, by rw [HM0.out]; rfl, by rw [HM0.out]; exact H1.out⟩
  case round =>
    obtain ⟨j, hj, rfl, a1, c1, rfl, hO⟩ := hrel
    have HO : Hid (Own w0 wr _) := hO
    clear H1 HM0
    by_cases hlt : j < xl
    · have hlt' : (j : Int) < (xl : Int) := by omega
      obtain ⟨id, hid⟩ : ∃ id, X[j]? = some id := ⟨_, List.getElem?_eq_getElem (by rw [HXL.out]; exact hlt)⟩
      obtain ⟨g, cp, hv, _⟩ := row_shape hO.two.row (by omega)
      have hla := (Value.slice.inj hv).1
      subst hla
      have e0 : wr.cell? ⟨g, j, none⟩ = some (.int .u32 (id : Int)) := by
        rw [hO.two.row.cellAt _ (by omega), getElem?_irow, hid]; rfl
      obtain ⟨_, h32, _⟩ := HIN.out id (List.mem_of_getElem? hid)
      obtain ⟨i1, i2, i3, i4⟩ := HMI.out j id hid
      have HST : Hid (M (j + 1) = (((M j).1.ag id).2, if ((M j).1.ag id).1 then (M j).2 ++ [id] else (M j).2)) := HMS.out j id hid
      obtain ⟨gk, gc⟩ := gv_of i1 i2 i3
      obtain ⟨ga1, ga2⟩ := life_in gk gc
      have HG : Hid (Calls _ _ _ _ _) := sgetC w0 wr _ b (M j).1 _ hO.three i1 id h32 i2 2 (by decide)
      rw [i3] at HG
      have HAG : Hid ((M j).1.ag id = if ((M j).1.gv id 2).a = 0 then (true, ((M j).1.despawn id).2) else (false, ((M j).1.set id ⟨2, ((M j).1.gv id 2).a - 1, ((M j).1.gv id 2).b, ((M j).1.gv id 2).c⟩).2)) := rfl
      have HDS : Hid (∀ w' l', Own w0 w' (Store b (M j).1 (K + (M j).2.length) :: l') → Calls Tryz.prog 111 #[.pointer (some ⟨b, 0, none⟩), .int .u32 (id : Int)] w' fun e w'' => ∃ r, e = .returned (.int .i64 r) ∧ Own w0 w'' (Store b ((M j).1.despawn id).2 (K + (M j).2.length + 1) :: l')) := fun w' l' h' => by
        refine (despawnC w0 w' l' b (M j).1 _ h' i1 id h32 (by omega)).mono ?_
        rintro e w'' ⟨rfl, h2⟩
        exact ⟨_, rfl, h2⟩
      have HSE : Hid (∀ w' l' (c : Cp), c.k = 2 → Own w0 w' (Store b (M j).1 (K + (M j).2.length) :: l') → Calls Tryz.prog 112 #[.pointer (some ⟨b, 0, none⟩), .int .u32 (id : Int), c.ag] w' fun e w'' => ∃ r, e = .returned (.int .i64 r) ∧ Own w0 w'' (Store b ((M j).1.set id c).2 (K + (M j).2.length) :: l')) := fun w' l' c hc h' => by
        refine (setC0 w0 w' l' b (M j).1 _ HT.out h' i1 id h32 c (by omega) (by omega)).mono ?_
        rintro e w'' ⟨rfl, h2⟩
        exact ⟨_, rfl, h2⟩
      rw [HAG.out] at HST
      clear hO hid hv i1 i2 i3 HAG gc
      generalize (M j).1.gv id 2 = q at *
      generalize hds : (M j).1.despawn id = ds at *
      clear hds
      have HSE2 : Hid (∀ w' l', Own w0 w' (Store b (M j).1 (K + (M j).2.length) :: l') → Calls Tryz.prog 112 #[.pointer (some ⟨b, 0, none⟩), .int .u32 (id : Int), (⟨2, q.a - 1, q.b, q.c⟩ : Cp).ag] w' fun e w'' => ∃ r, e = .returned (.int .i64 r) ∧ Own w0 w'' (Store b ((M j).1.set id ⟨2, q.a - 1, q.b, q.c⟩).2 (K + (M j).2.length) :: l')) := fun w' l' h' => HSE.out w' l' _ rfl h'
      clear HSE
      generalize hse : (M j).1.set id ⟨2, q.a - 1, q.b, q.c⟩ = se at *
      clear hse
      generalize (M j).1 = sj at *
      generalize (M j).2 = Lj at *
      generalize hll : Lj.length = ll at *
      have HLL : Hid (Lj.length = ll) := hll
      clear hll
      obtain ⟨qk, qa, qb, qc⟩ := q
      simp only [Cp.ag] at HG HSE2 HST ga1 ga2 gk
      subst gk
      go_wp2_with fail
      refine HG.out.mono ?_
      rintro e w2 ⟨rfl, hO2⟩
      have hO3 := hO2.allocC #[.int .u8 2, .int .i32 qa, .int .i32 qb, .int .i32 qc] 46
      by_cases hq0 : qa = 0
      · subst hq0
        rw [if_pos rfl] at HST
        simp only [if_true] at HST
        have HD : Hid (Calls _ _ _ _ _) := HDS.out _ _ hO3.two
        clear hO2 hO3 HG HDS HSE2 HO
        go_wp2_with fail
        refine HD.out.mono ?_
        rintro e w3 ⟨r3, rfl, hO4⟩
        have H4 : Hid (Own w0 w3 _) := hO4.two.tail.two
        clear hO4 HD
        go_wp2_with (at_builtin; refine append1_own rfl _ _ 55 rfl 38 i0 (.int .u32 0) 1 4 Tryz.underlying55 hi hz0 hz1 hz2 rfl (by decide) _ _ _ rfl H4.out _ _ (by simp) rfl rfl (one_int _ _) (by unfold maxLen; omega) (by omega) ?_)
        intro g6 c6 w6 hO6 hsz6
        have H7 : Hid (Own w0 w6 (Row 38 1 (.slice (some ⟨g6, 0, none⟩) (ll + 1) c6) (ll + 1) (irow .u32 (M (j + 1)).2) :: Row 38 1 (.slice (some ⟨g, 0, none⟩) xl lc) xl (irow .u32 X) :: Store b (M (j + 1)).1 (K + (ll + 1)) :: l)) := by
          show Own _ _ _
          rw [HST.out, ← Nat.add_assoc]
          simpa [irow] using hO6.in23
        have HRL2 : Hid ((M (j + 1)).2.length = ll + 1) := by show _ = _; rw [HST.out, List.length_append, HLL.out]; rfl
        clear hO6 hsz6 H4
        go_wp2
        go_roundw
        case rel => exact ⟨j + 1, by omega, by go_num, _, _, by rw [HRL2.out], by rw [HRL2.out]; exact H7.out⟩
        case measure => simp [intOf]; omega
      · rw [if_neg hq0] at HST
        simp only [Bool.false_eq_true, if_false] at HST
        have hne : (qa == 0) = false := by simpa using hq0
        have hO4 := hO2.allocC #[.int .u8 2, .int .i32 (qa - 1), .int .i32 qb, .int .i32 qc] 46
        have HS : Hid (Calls _ _ _ _ _) := HSE2.out _ _ hO4.two
        clear hO2 hO3 HG HDS HSE2 HO hO4
        go_wp2_with fail
        refine HS.out.mono ?_
        rintro e w3 ⟨r3, rfl, hO5⟩
        have H5 : Hid (Own w0 w3 _) := hO5.two.tail
        clear hO5 HS
        go_wp2
        go_roundw
        case rel => exact ⟨j + 1, by omega, by go_num, a1, c1, by rw [HST.out, HLL.out], by rw [HST.out, HLL.out]; exact H5.out.back3⟩
        case measure => simp [intOf]; omega
    · have hlt' : ¬ (j : Int) < (xl : Int) := by omega
      have hjn : j = xl := by omega
      subst hjn
      clear hO
      go_wp2
      go_ret
      exact ⟨a1, c1, rfl, HO.out.two.tail⟩
end Go.Proofs.YtflmgilmbppieaaGreatDoor

/-
  What is bred, in the program and in the document.
-/
namespace Go.Proofs.YtflmgilmbppieaaGreatDoor
open Go.RowKit Go.Maps
set_option linter.unusedVariables false
set_option maxRecDepth 100000

/-- what one with such a shape begets at a place -/
def chl (s : Int) (at_ : Cp) (odd : Bool) : List Cp := [at_, ⟨1, if odd then -(64 * (s + 1)) else 64 * (s + 1), 32 * (s + 1), 0⟩, ⟨2, 30 + 10 * s, 0, 0⟩, ⟨3, s, 100, 1 + s⟩]
theorem chl_rest : ∀ s : Fin 16, ∀ odd : Bool, (⟨1, if odd then -(64 * ((s.1 : Int) + 1)) else 64 * ((s.1 : Int) + 1), 32 * ((s.1 : Int) + 1), 0⟩ : Cp).chk = 0 ∧ (⟨2, 30 + 10 * (s.1 : Int), 0, 0⟩ : Cp).chk = 0 ∧ (⟨3, (s.1 : Int), 100, 1 + (s.1 : Int)⟩ : Cp).chk = 0 := by decide
theorem chl_ok (s : Nat) (hs : s < 16) (at_ : Cp) (hk : at_.k = 0) (hc : at_.chk = 0) (odd : Bool) : lst (-1) (chl (s : Int) at_ odd) = 0 := by
  obtain ⟨h1, h2, h3⟩ := chl_rest ⟨s, hs⟩ odd
  rw [lst_iff]
  unfold chl
  refine ⟨?_, ?_⟩
  · simp [List.pairwise_cons, hk]
  · intro q hq
    simp at hq
    rcases hq with rfl | rfl | rfl | rfl
    · exact hc
    · exact h1
    · exact h2
    · exact h3
theorem cs16 {w0 w : World} {l : List Thing} {B : Nat} {cs : Array Value} {t : TypeId} (h : Own w0 w (Cells B cs t :: l)) (C : List Cp) (hX : ∀ (j : Nat) q, C[j]? = some q → cs[j * 4]? = some (.int .u8 (q.k : Int)) ∧ cs[j * 4 + 1]? = some (.int .i32 q.a) ∧ cs[j * 4 + 2]? = some (.int .i32 q.b) ∧ cs[j * 4 + 3]? = some (.int .i32 q.c)) : Cs w (some ⟨B, 0, none⟩) C := by
  refine .inr ⟨B, 0, rfl, fun j q hq => ?_⟩
  obtain ⟨h0, h1, h2, h3⟩ := hX j q hq
  rw [Nat.zero_add]
  exact ⟨by rw [h.cell, h0], by rw [h.cell, h1], by rw [h.cell, h2], by rw [h.cell, h3]⟩
def c16 (k a b c dx s : Int) : Array Value := #[.int .u8 k, .int .i32 a, .int .i32 b, .int .i32 c, .int .u8 1, .int .i32 dx, .int .i32 (32 * (s + 1)), .int .i32 0, .int .u8 2, .int .i32 (30 + 10 * s), .int .i32 0, .int .i32 0, .int .u8 3, .int .i32 s, .int .i32 100, .int .i32 (1 + s)]
theorem c16_at {w0 w : World} {l : List Thing} {B : Nat} {t : TypeId} {k : Nat} {a b c s : Int} {odd : Bool} (h : Own w0 w (Cells B (c16 (k : Int) a b c (if odd then -(64 * (s + 1)) else 64 * (s + 1)) s) t :: l)) : Cs w (some ⟨B, 0, none⟩) (chl s ⟨k, a, b, c⟩ odd) := by
  refine cs16 h _ (fun j q hq => ?_)
  match j, hq with
  | 0, hq => cases hq; exact ⟨rfl, rfl, rfl, rfl⟩
  | 1, hq => cases hq; exact ⟨rfl, rfl, rfl, rfl⟩
  | 2, hq => cases hq; exact ⟨rfl, rfl, rfl, rfl⟩
  | 3, hq => cases hq; exact ⟨rfl, rfl, rfl, rfl⟩
  | n + 4, hq => simp [chl] at hq
set_option maxHeartbeats 1000000 in
theorem child_ok (w0 w : World) (l : List Thing) (h : Own w0 w l) (kc : Nat) (ce cl : Int) (s : Int) (h0 : 0 ≤ s) (h1 : s < 16) (k : Nat) (a b c : Int) (odd : Bool) :
    Calls Tryz.prog 177 #[.agg #[.int .u8 (kc : Int), .int .i32 ce, .int .i32 cl, .int .i32 s], .agg #[.int .u8 (k : Int), .int .i32 a, .int .i32 b, .int .i32 c], .bool odd] w fun e w' => ∃ g, e = .returned (.slice (some ⟨g, 0, none⟩) 4 4) ∧ Own w0 w' (Cells g (c16 (k : Int) a b c (if odd then -(64 * (s + 1)) else 64 * (s + 1)) s) 46 :: l) := by
  have H := ((h.allocC #[.int .u8 (kc : Int), .int .i32 ce, .int .i32 cl, .int .i32 s] 46).allocC #[.int .u8 (k : Int), .int .i32 a, .int .i32 b, .int .i32 c] 46).allocC (c16 (k : Int) a b c (if odd then -(64 * (s + 1)) else 64 * (s + 1)) s) 46
  simp only [World.size_alloc] at H
  have HH : Hid (Own w0 _ _) := H
  clear H h
  cases odd with
  | true =>
    simp only [if_true] at HH ⊢
    unfold c16 at HH
    go_enter Tryz.func177, Tryz.ntmps177
    go_wp2
    go_ret
    exact ⟨_, rfl, HH.out.two.tail.two.tail⟩
  | false =>
    simp only [Bool.false_eq_true, if_false] at HH ⊢
    unfold c16 at HH
    go_enter Tryz.func177, Tryz.ntmps177
    go_wp2
    go_ret
    exact ⟨_, rfl, HH.out.two.tail.two.tail⟩
set_option maxHeartbeats 1000000 in
theorem rchild_ok (w0 w : World) (l : List Thing) (h : Own w0 w l) (s : Int) (h0 : 0 ≤ s) (h1 : s < 16) (k : Nat) (a b c : Int) (odd : Bool) :
    Calls Tryz.prog 124 #[.int .i32 s, .agg #[.int .u8 (k : Int), .int .i32 a, .int .i32 b, .int .i32 c], .bool odd] w fun e w' => ∃ g, e = .returned (.slice (some ⟨g, 0, none⟩) 4 4) ∧ Own w0 w' (Cells g (c16 (k : Int) a b c (if odd then -(64 * (s + 1)) else 64 * (s + 1)) s) 46 :: l) := by
  have H := ((h).allocC #[.int .u8 (k : Int), .int .i32 a, .int .i32 b, .int .i32 c] 46).allocC (c16 (k : Int) a b c (if odd then -(64 * (s + 1)) else 64 * (s + 1)) s) 46
  simp only [World.size_alloc] at H
  have HH : Hid (Own w0 _ _) := H
  clear H h
  cases odd with
  | true =>
    simp only [if_true] at HH ⊢
    unfold c16 at HH
    go_enter Tryz.func124, Tryz.ntmps124
    go_wp2
    go_ret
    exact ⟨_, rfl, HH.out.two.tail⟩
  | false =>
    simp only [Bool.false_eq_true, if_false] at HH ⊢
    unfold c16 at HH
    go_enter Tryz.func124, Tryz.ntmps124
    go_wp2
    go_ret
    exact ⟨_, rfl, HH.out.two.tail⟩
end Go.Proofs.YtflmgilmbppieaaGreatDoor

/-
  Breed: what comes leaves the others as they are.
-/
namespace Go.Proofs.YtflmgilmbppieaaGreatDoor
open Go.RowKit Go.Maps
set_option linter.unusedVariables false
set_option maxRecDepth 100000

theorem Sto.spawn_bad {σ : Sto} {C : List Cp} (h : (σ.spawn C).2.1 ≠ 0) : (σ.spawn C).2.2 = σ := by
  unfold Sto.spawn at h ⊢
  split
  · rfl
  · rename_i h0
    rw [if_neg h0] at h
    split
    · rfl
    · rename_i h1
      rw [if_neg h1] at h
      exact (h rfl).elim
theorem Sto.spawn_live {σ : Sto} (h : σ.Ok) {C : List Cp} {x : Nat} (hx : σ.S.isLive x = true) : (σ.spawn C).2.2.S.isLive x = true ∧ (σ.spawn C).2.2.cps x = σ.cps x := by
  by_cases hb : (σ.spawn C).2.1 = 0
  · have hok := Sto.spawn_ok h C
    have e : ∃ m L, (σ.spawn C).2.2.T = upd σ.T m (σ.T m ++ L) ∧ (σ.spawn C).2.2.S = σ.S.take.2.2 ∧ σ.S.take.2.1 = 0 := by
      unfold Sto.spawn at hb ⊢
      split
      · rename_i h0
        rw [if_pos h0] at hb
        exact (h0 (by simpa using hb)).elim
      · rename_i h0
        rw [if_neg h0] at hb
        split
        · rename_i h1
          rw [if_pos h1] at hb
          exact (h1 hb).elim
        · rename_i h1
          exact ⟨msk C, _, rfl, rfl, by simpa using h1⟩
    obtain ⟨m, L, hT, hS, h1⟩ := e
    refine ⟨by rw [hS, (St.take_live h.s h1).2, hx]; simp, ?_⟩
    obtain ⟨h64, hm⟩ := Sto.mem_cps h hx
    refine Sto.cps_mem hok h64 ?_
    rw [hT]
    by_cases hk : σ.hom x = m
    · rw [hk, upd_same]
      rw [hk] at hm
      exact List.mem_append_left _ hm
    · rw [upd_other _ _ _ hk]
      exact hm
  · rw [Sto.spawn_bad hb]
    exact ⟨hx, rfl⟩
/-- one that may beget: who is born -/
def Sto.br (σ : Sto) (id : Nat) : Option Nat × Sto :=
  if (σ.gv id 5).b = 0 then
    if (σ.spawn (chl (σ.gv id 5).c (σ.gv id 0) (decide (id % 1024 % 2 = 1)))).2.1 = 0 then
      (some (σ.spawn (chl (σ.gv id 5).c (σ.gv id 0) (decide (id % 1024 % 2 = 1)))).1, ((σ.spawn (chl (σ.gv id 5).c (σ.gv id 0) (decide (id % 1024 % 2 = 1)))).2.2.set id ⟨5, (σ.gv id 5).a, (σ.gv id 5).a - 1, (σ.gv id 5).c⟩).2)
    else (none, σ)
  else (none, (σ.set id ⟨5, (σ.gv id 5).a, (σ.gv id 5).b - 1, (σ.gv id 5).c⟩).2)
theorem Sto.br_ok {σ : Sto} (h : σ.Ok) (id : Nat) : (σ.br id).2.Ok := by
  unfold Sto.br
  split
  · split
    · exact Sto.set_ok (Sto.spawn_ok h _) _ _
    · exact h
  · exact Sto.set_ok h _ _
theorem Sto.br_live {σ : Sto} (h : σ.Ok) {id x : Nat} (hx : σ.S.isLive x = true) : (σ.br id).2.S.isLive x = true ∧ ∀ k, hasK ((σ.br id).2.cps x) k = hasK (σ.cps x) k := by
  unfold Sto.br
  split
  · split
    · obtain ⟨h1, h2⟩ := Sto.spawn_live h (C := chl (σ.gv id 5).c (σ.gv id 0) (decide (id % 1024 % 2 = 1))) hx
      exact ⟨by rw [Sto.set_S]; exact h1, fun k => by rw [Sto.set_has (Sto.spawn_ok h _) _ _ h1 k, h2]⟩
    · exact ⟨hx, fun _ => rfl⟩
  · exact ⟨by rw [Sto.set_S]; exact hx, fun k => Sto.set_has h _ _ hx k⟩
def Sto.brs (σ : Sto) (L : List Nat) : Sto × List Nat := L.foldl (fun p id => ((p.1.br id).2, p.2 ++ (p.1.br id).1.toList)) (σ, [])
theorem Sto.brs_snoc (σ : Sto) (L : List Nat) (id : Nat) : σ.brs (L ++ [id]) = (((σ.brs L).1.br id).2, (σ.brs L).2 ++ ((σ.brs L).1.br id).1.toList) := by
  unfold Sto.brs
  rw [List.foldl_append]
  rfl
theorem Sto.brs_inv {σ : Sto} (h : σ.Ok) (L : List Nat) : (σ.brs L).1.Ok ∧ (∀ x, σ.S.isLive x = true → (σ.brs L).1.S.isLive x = true ∧ ∀ k, hasK ((σ.brs L).1.cps x) k = hasK (σ.cps x) k) ∧ (σ.brs L).2.length ≤ L.length := by
  refine snoc_ind (P := fun L => (σ.brs L).1.Ok ∧ (∀ x, σ.S.isLive x = true → (σ.brs L).1.S.isLive x = true ∧ ∀ k, hasK ((σ.brs L).1.cps x) k = hasK (σ.cps x) k) ∧ (σ.brs L).2.length ≤ L.length) ⟨h, fun x hx => ⟨hx, fun _ => rfl⟩, Nat.le_refl _⟩ ?_ L
  rintro L id ⟨i1, i3, i4⟩
  rw [Sto.brs_snoc]
  refine ⟨Sto.br_ok i1 id, fun x hx => ?_, ?_⟩
  · obtain ⟨m1, m2⟩ := i3 x hx
    obtain ⟨n1, n2⟩ := Sto.br_live i1 (id := id) m1
    exact ⟨n1, fun k => by rw [n2 k, m2 k]⟩
  · simp only [List.length_append, List.length_singleton]
    have : ((σ.brs L).1.br id).1.toList.length ≤ 1 := by cases ((σ.brs L).1.br id).1 <;> simp
    omega
theorem spawn_in {q : Cp} (hk : q.k = 5) (h : q.chk = 0) : (1 ≤ q.a ∧ q.a ≤ 255) ∧ (0 ≤ q.b ∧ q.b ≤ 254) ∧ 0 ≤ q.c ∧ q.c ≤ 15 := by
  unfold Cp.chk chk at h
  rw [if_neg (by omega)] at h
  split at h
  · cases h
  · split at h
    · cases h
    · rename_i ho
      have ho' : outside q.k (f3 q.a q.b q.c) = false := by simpa using ho
      unfold outside at ho'
      rw [List.any_eq_false] at ho'
      have h0 := ho' 0 (by rw [hk]; decide)
      have h1 := ho' 1 (by rw [hk]; decide)
      have h2 := ho' 2 (by rw [hk]; decide)
      simp only [Bool.or_eq_true, decide_eq_true_iff, not_or, Int.not_lt] at h0 h1 h2
      rw [hk] at h0 h1 h2
      exact ⟨h0, h1, h2⟩
end Go.Proofs.YtflmgilmbppieaaGreatDoor

/-
  Breed: one that begets, and the loop.
-/
namespace Go.Proofs.YtflmgilmbppieaaGreatDoor
open Go.RowKit Go.Maps
set_option linter.unusedVariables false
set_option maxRecDepth 100000

set_option maxHeartbeats 4000000 in
theorem beget_ok (w0 w : World) (l : List Thing) (b : Nat) (σ : Sto) (K : Nat) (ht : Tab w0) (h : Own w0 w (Store b σ K :: l)) (hσ : σ.Ok) (hK : K < 1000000) (id : Nat) (hid : id < 4294967296) (hl : σ.S.isLive id = true) (h0 : hasK (σ.cps id) 0 = true) (kk : Nat) (qa qb qc : Int) (hc0 : 0 ≤ qc) (hc1 : qc < 16) :
    Calls Tryz.prog 113 #[.pointer (some ⟨b, 0, none⟩), .int .u32 (id : Int), .agg #[.int .u8 (kk : Int), .int .i32 qa, .int .i32 qb, .int .i32 qc]] w fun e w' => e = .returned (.tuple #[.int .u32 ((σ.spawn (chl qc (σ.gv id 0) (decide (id % 1024 % 2 = 1)))).1 : Int), .int .i64 (σ.spawn (chl qc (σ.gv id 0) (decide (id % 1024 % 2 = 1)))).2.1]) ∧ Own w0 w' (Store b (σ.spawn (chl qc (σ.gv id 0) (decide (id % 1024 % 2 = 1)))).2.2 (K + 1) :: l) := by
  have h1 := h.allocC #[.int .u8 (kk : Int), .int .i32 qa, .int .i32 qb, .int .i32 qc] 46
  have HG : Hid (Calls _ _ _ _ _) := sgetC w0 _ _ b σ K h1.two hσ id hid hl 0 (by decide)
  rw [h0] at HG
  obtain ⟨gk, gc⟩ := gv_of hσ hl h0
  have HSL : Hid (∀ w', Calls Tryz.prog 144 #[.int .u32 (id : Int)] w' fun e w'' => e = .returned (.int .i64 ((id % 1024 : Nat) : Int)) ∧ w'' = w') := fun w' => slot_any id w' hid
  generalize hsn : id % 1024 = sn at *
  have hsn2 : sn < 1024 := by omega
  generalize hP : σ.gv id 0 = P at *
  obtain ⟨pk, pa, pb, pc⟩ := P
  simp only at gk
  subst gk
  obtain ⟨od, hod⟩ : ∃ od, decide (sn % 2 = 1) = od := ⟨_, rfl⟩
  rw [hod]
  have hod2 : ((sn : Int).tmod 2 == 1) = od := by
    rw [← hod, Bool.eq_iff_iff, Int.tmod_eq_emod_of_nonneg (by omega)]
    simp only [beq_iff_eq, decide_eq_true_iff]
    omega
  have HCH : Hid (∀ w' l' o', o' = od → Own w0 w' l' → Calls Tryz.prog 177 #[.agg #[.int .u8 (kk : Int), .int .i32 qa, .int .i32 qb, .int .i32 qc], .agg #[.int .u8 0, .int .i32 pa, .int .i32 pb, .int .i32 pc], .bool o'] w' fun e w'' => ∃ g, e = .returned (.slice (some ⟨g, 0, none⟩) 4 4) ∧ Own w0 w'' (Cells g (c16 ((0 : Nat) : Int) pa pb pc (if od then -(64 * (qc + 1)) else 64 * (qc + 1)) qc) 46 :: l')) := fun w' l' o' ho h' => by subst ho; exact child_ok w0 w' l' h' kk qa qb qc hc0 hc1 0 pa pb pc o'
  have HSP : Hid (∀ w' g l', Own w0 w' (Store b σ K :: Cells g (c16 ((0 : Nat) : Int) pa pb pc (if od then -(64 * (qc + 1)) else 64 * (qc + 1)) qc) 46 :: l') → Calls Tryz.prog 176 #[.pointer (some ⟨b, 0, none⟩), .slice (some ⟨g, 0, none⟩) 4 4] w' fun e w'' => e = .returned (.tuple #[.int .u32 ((σ.spawn (chl qc ⟨0, pa, pb, pc⟩ od)).1 : Int), .int .i64 (σ.spawn (chl qc ⟨0, pa, pb, pc⟩ od)).2.1]) ∧ Own w0 w'' (Store b (σ.spawn (chl qc ⟨0, pa, pb, pc⟩ od)).2.2 (K + 1) :: Cells g (c16 ((0 : Nat) : Int) pa pb pc (if od then -(64 * (qc + 1)) else 64 * (qc + 1)) qc) 46 :: l')) := fun w' g l' h' => spawnC w0 w' _ b σ K ht h' hσ (some ⟨g, 0, none⟩) 4 4 (chl qc ⟨0, pa, pb, pc⟩ od) rfl (fun w'' h'' => c16_at h'') (by intro q hq; simp [chl] at hq; rcases hq with rfl | rfl | rfl | rfl <;> simp) (by decide) hK
  generalize σ.spawn (chl qc ⟨0, pa, pb, pc⟩ od) = sp at *
  obtain ⟨sp1, sp2, sp3⟩ := sp
  simp only at HSP ⊢
  clear h h1 hσ hl h0 gc hsn hP hod ht
  simp only [Cp.ag] at HG
  go_enter Tryz.func113, Tryz.ntmps113
  go_wp2_with fail
  refine HG.out.mono ?_
  rintro e w1 ⟨rfl, hO⟩
  have hB := (hO.allocC #[.int .u8 0, .int .i32 pa, .int .i32 pb, .int .i32 pc] 46).drew
  have z0 := hB.cell 0
  have z1 := hB.cell 1
  have z2 := hB.cell 2
  have z3 := hB.cell 3
  have y0 := hB.three.cell 0
  have y1 := hB.three.cell 1
  have y2 := hB.three.cell 2
  have y3 := hB.three.cell 3
  simp at z0 z1 z2 z3 y0 y1 y2 y3
  have HB : Hid (Own w0 _ _) := hB
  clear hO hB HG
  go_wp2_with fail
  go_region_held3 (fun w' : World => w'.cell? ⟨w1.heap.size, 0, none⟩ = some (.int .u8 0) ∧ w'.cell? ⟨w1.heap.size, 1, none⟩ = some (.int .i32 pa) ∧ w'.cell? ⟨w1.heap.size, 2, none⟩ = some (.int .i32 pb) ∧ w'.cell? ⟨w1.heap.size, 3, none⟩ = some (.int .i32 pc) ∧ w'.cell? ⟨w.heap.size, 0, none⟩ = some (.int .u8 (kk : Int)) ∧ w'.cell? ⟨w.heap.size, 1, none⟩ = some (.int .i32 qa) ∧ w'.cell? ⟨w.heap.size, 2, none⟩ = some (.int .i32 qb) ∧ w'.cell? ⟨w.heap.size, 3, none⟩ = some (.int .i32 qc)) (go_keep)
      (first
       | (go_at_call 144; refine (HSL.out _).mono ?_; rintro e w2 ⟨rfl, rfl⟩)
       | (go_at_call 177; refine (HCH.out _ _ _ rfl HB.out).mono ?_; rintro e w3 ⟨g, rfl, hO3⟩
          have z0 := hO3.two.cell 0
          have z1 := hO3.two.cell 1
          have z2 := hO3.two.cell 2
          have z3 := hO3.two.cell 3
          have y0 := hO3.four.cell 0
          have y1 := hO3.four.cell 1
          have y2 := hO3.four.cell 2
          have y3 := hO3.four.cell 3
          simp at z0 z1 z2 z3 y0 y1 y2 y3
          have H3 : Hid (Own w0 w3 _) := hO3
          clear hO3)
       | (go_at_call 176; refine (HSP.out _ _ _ H3.out.three).mono ?_; rintro e w4 ⟨rfl, hO4⟩
          have z0 := hO4.three.cell 0
          have z1 := hO4.three.cell 1
          have z2 := hO4.three.cell 2
          have z3 := hO4.three.cell 3
          have y0 := hO4.four.cell 0
          have y1 := hO4.four.cell 1
          have y2 := hO4.four.cell 2
          have y3 := hO4.four.cell 3
          simp at z0 z1 z2 z3 y0 y1 y2 y3
          have H4 : Hid (Own w0 w4 _) := hO4
          clear hO4))
  all_goals
    go_wp2
    go_ret2
    exact ⟨rfl, H4.out.two.tail.two.tail.two.tail⟩
set_option maxHeartbeats 4000000 in
theorem breed_ok (w0 w : World) (l : List Thing) (b : Nat) (σ : Sto) (K : Nat) (ht : Tab w0) (h : Own w0 w (Store b σ K :: l)) (hσ : σ.Ok) (hK : K ≤ 900000) :
    Calls Tryz.prog 58 #[.pointer (some ⟨b, 0, none⟩)] w fun e w' => ∃ ao cap, e = .returned (.slice ao (σ.brs (σ.find 33 0)).2.length cap) ∧ Own w0 w' (Row 38 1 (.slice ao (σ.brs (σ.find 33 0)).2.length cap) (σ.brs (σ.find 33 0)).2.length (irow .u32 (σ.brs (σ.find 33 0)).2) :: Store b (σ.brs (σ.find 33 0)).1 (K + 1024) :: l) := by
  obtain ⟨i0, hi, hz0, hz1, hz2⟩ := info_parts Tryz.infoID2
  have hLV : ∀ id ∈ σ.S.list, σ.S.isLive id = true ∧ id < 4294967296 := fun id hid => St.list_iv1 hσ.s hid
  have HW : Hid (Calls _ _ _ _ _) := with_g w0 w l (some ⟨b, 0, none⟩) (Store b σ K) _ h 33 0 (iter_store w0 b σ K hσ (by omega) hLV 33 0 (by decide) (by decide) ht) (Sto.find_len hσ.s 33 0)
  have hlen := Sto.find_len hσ.s 33 0
  have HIN : Hid (∀ id ∈ σ.find 33 0, σ.S.isLive id = true ∧ id < 4294967296 ∧ hasK (σ.cps id) 5 = true ∧ hasK (σ.cps id) 0 = true) := by
    intro id hid
    obtain ⟨h1, h2, h3⟩ := mem_find hσ hid
    exact ⟨h1, h2, h3 5 (by decide), h3 0 (by decide)⟩
  have HT : Hid (Tab w0) := ht
  have HSI : Hid (∀ j, (σ.brs ((σ.find 33 0).take j)).1.Ok ∧ (∀ x, σ.S.isLive x = true → (σ.brs ((σ.find 33 0).take j)).1.S.isLive x = true ∧ ∀ k, hasK ((σ.brs ((σ.find 33 0).take j)).1.cps x) k = hasK (σ.cps x) k) ∧ (σ.brs ((σ.find 33 0).take j)).2.length ≤ j) := by
    intro j
    obtain ⟨i1, i3, i4⟩ := Sto.brs_inv hσ ((σ.find 33 0).take j)
    exact ⟨i1, i3, Nat.le_trans i4 (by rw [List.length_take]; omega)⟩
  obtain ⟨X, hX⟩ : ∃ X, σ.find 33 0 = X := ⟨_, rfl⟩
  rw [hX] at HW hlen HIN HSI ⊢
  obtain ⟨M, hM⟩ : ∃ M : Nat → Sto × List Nat, M = fun j => σ.brs (X.take j) := ⟨_, rfl⟩
  have HM0 : Hid (M 0 = (σ, [])) := by show _ = _; rw [hM]; simp [Sto.brs]
  have HMS : Hid (∀ (j id : Nat), X[j]? = some id → M (j + 1) = (((M j).1.br id).2, (M j).2 ++ ((M j).1.br id).1.toList)) := by
    intro j id hd
    rw [hM]
    simp only
    rw [List.take_add_one, hd]
    exact Sto.brs_snoc σ (X.take j) id
  have HME : Hid (M X.length = σ.brs X) := by show _ = _; rw [hM]; simp
  have HMI : Hid (∀ j, (M j).1.Ok ∧ (∀ x, σ.S.isLive x = true → (M j).1.S.isLive x = true ∧ ∀ k, hasK ((M j).1.cps x) k = hasK (σ.cps x) k) ∧ (M j).2.length ≤ j) := by rw [hM]; exact HSI.out
  rw [← HME.out]
  clear h hX hLV hσ ht HSI hM HME
  generalize hxl : X.length = xl at *
  have HXL : Hid (X.length = xl) := hxl
  clear hxl
  go_enter Tryz.func58, Tryz.ntmps58
  go_wp2_with fail
  refine HW.out.mono ?_
  rintro e w1 ⟨la, lc, rfl, hO1⟩
  have H1 : Hid (Own w0 w1 _) := hO1.nilRow 38 1
  clear hO1 HW
  go_wp2
  go_loopw [3, 13] (fun v3 v9 wr => ∃ j : Nat, j ≤ xl ∧ v9 = .int .i64 j ∧ ∃ a1 c1, v3 = .slice a1 (M j).2.length c1 ∧ Own w0 wr (Row 38 1 (.slice a1 (M j).2.length c1) (M j).2.length (irow .u32 (M j).2) :: Row 38 1 (.slice la xl lc) xl (irow .u32 X) :: Store b (M j).1 (K + j) :: l)) (fun _ v9 _ => xl - (intOf v9).toNat)
  case atStart => exact ⟨0, Nat.zero_le _, rfl, none, 0, by rw [HM0.out]; rfl, by rw [HM0.out]; exact H1.out⟩
  case round =>
    obtain ⟨j, hj, rfl, a1, c1, rfl, hO⟩ := hrel
    have HO : Hid (Own w0 wr _) := hO
    clear H1 HM0
    by_cases hlt : j < xl
    · have hlt' : (j : Int) < (xl : Int) := by omega
      obtain ⟨id, hid⟩ : ∃ id, X[j]? = some id := ⟨_, List.getElem?_eq_getElem (by rw [HXL.out]; exact hlt)⟩
      obtain ⟨g, cp, hv, _⟩ := row_shape hO.two.row (by omega)
      have hla := (Value.slice.inj hv).1
      subst hla
      have e0 : wr.cell? ⟨g, j, none⟩ = some (.int .u32 (id : Int)) := by
        rw [hO.two.row.cellAt _ (by omega), getElem?_irow, hid]; rfl
      obtain ⟨hl0, h32, hk5, hk0⟩ := HIN.out id (List.mem_of_getElem? hid)
      obtain ⟨i1, i3, i4⟩ := HMI.out j
      obtain ⟨i2, i3⟩ := i3 id hl0
      rw [← i3 5] at hk5
      rw [← i3 0] at hk0
      have HST : Hid (M (j + 1) = (((M j).1.br id).2, (M j).2 ++ ((M j).1.br id).1.toList)) := HMS.out j id hid
      obtain ⟨gk, gc⟩ := gv_of i1 i2 hk5
      obtain ⟨⟨ga1, ga2⟩, ⟨gb1, gb2⟩, gc1, gc2⟩ := spawn_in gk gc
      have HG : Hid (Calls _ _ _ _ _) := sgetC w0 wr _ b (M j).1 _ hO.three i1 id h32 i2 5 (by decide)
      rw [hk5] at HG
      have HBR : Hid ((M j).1.br id = if ((M j).1.gv id 5).b = 0 then if ((M j).1.spawn (chl ((M j).1.gv id 5).c ((M j).1.gv id 0) (decide (id % 1024 % 2 = 1)))).2.1 = 0 then (some ((M j).1.spawn (chl ((M j).1.gv id 5).c ((M j).1.gv id 0) (decide (id % 1024 % 2 = 1)))).1, (((M j).1.spawn (chl ((M j).1.gv id 5).c ((M j).1.gv id 0) (decide (id % 1024 % 2 = 1)))).2.2.set id ⟨5, ((M j).1.gv id 5).a, ((M j).1.gv id 5).a - 1, ((M j).1.gv id 5).c⟩).2) else (none, (M j).1) else (none, ((M j).1.set id ⟨5, ((M j).1.gv id 5).a, ((M j).1.gv id 5).b - 1, ((M j).1.gv id 5).c⟩).2)) := rfl
      have HBG : Hid (∀ w' l' (kk : Nat) (qa qb : Int), Own w0 w' (Store b (M j).1 (K + j) :: l') → Calls Tryz.prog 113 #[.pointer (some ⟨b, 0, none⟩), .int .u32 (id : Int), .agg #[.int .u8 (kk : Int), .int .i32 qa, .int .i32 qb, .int .i32 ((M j).1.gv id 5).c]] w' fun e w'' => e = .returned (.tuple #[.int .u32 (((M j).1.spawn (chl ((M j).1.gv id 5).c ((M j).1.gv id 0) (decide (id % 1024 % 2 = 1)))).1 : Int), .int .i64 ((M j).1.spawn (chl ((M j).1.gv id 5).c ((M j).1.gv id 0) (decide (id % 1024 % 2 = 1)))).2.1]) ∧ Own w0 w'' (Store b ((M j).1.spawn (chl ((M j).1.gv id 5).c ((M j).1.gv id 0) (decide (id % 1024 % 2 = 1)))).2.2 (K + j + 1) :: l')) := fun w' l' kk qa qb h' => beget_ok w0 w' l' b (M j).1 (K + j) HT.out h' i1 (by omega) id h32 i2 hk0 kk qa qb _ gc1 (by omega)
      have hokS := Sto.spawn_ok i1 (chl ((M j).1.gv id 5).c ((M j).1.gv id 0) (decide (id % 1024 % 2 = 1)))
      have HSB : Hid (((M j).1.spawn (chl ((M j).1.gv id 5).c ((M j).1.gv id 0) (decide (id % 1024 % 2 = 1)))).2.1 ≠ 0 → ((M j).1.spawn (chl ((M j).1.gv id 5).c ((M j).1.gv id 0) (decide (id % 1024 % 2 = 1)))).2.2 = (M j).1) := fun hne => Sto.spawn_bad hne
      have HSE : Hid (∀ (τ : Sto), τ.Ok → ∀ w' l' (K' : Nat) (c : Cp), c.k = 5 → K' ≤ 950000 → Own w0 w' (Store b τ K' :: l') → Calls Tryz.prog 112 #[.pointer (some ⟨b, 0, none⟩), .int .u32 (id : Int), c.ag] w' fun e w'' => ∃ r, e = .returned (.int .i64 r) ∧ Own w0 w'' (Store b (τ.set id c).2 K' :: l')) := fun τ hτ w' l' K' c hc hK' h' => by
        refine (setC0 w0 w' l' b τ K' HT.out h' hτ id h32 c (by omega) (by omega)).mono ?_
        rintro e w'' ⟨rfl, h2⟩
        exact ⟨_, rfl, h2⟩
      rw [HBR.out] at HST
      generalize (M j).1.spawn (chl ((M j).1.gv id 5).c ((M j).1.gv id 0) (decide (id % 1024 % 2 = 1))) = sp at *
      have HS1 : Hid (∀ w' l', Own w0 w' (Store b (M j).1 (K + j) :: l') → Calls Tryz.prog 112 #[.pointer (some ⟨b, 0, none⟩), .int .u32 (id : Int), (⟨5, ((M j).1.gv id 5).a, ((M j).1.gv id 5).b - 1, ((M j).1.gv id 5).c⟩ : Cp).ag] w' fun e w'' => ∃ r, e = .returned (.int .i64 r) ∧ Own w0 w'' (Store b ((M j).1.set id ⟨5, ((M j).1.gv id 5).a, ((M j).1.gv id 5).b - 1, ((M j).1.gv id 5).c⟩).2 (K + j) :: l')) := fun w' l' h' => HSE.out _ i1 w' l' _ _ rfl (by omega) h'
      have HS2 : Hid (∀ w' l', Own w0 w' (Store b sp.2.2 (K + j + 1) :: l') → Calls Tryz.prog 112 #[.pointer (some ⟨b, 0, none⟩), .int .u32 (id : Int), (⟨5, ((M j).1.gv id 5).a, ((M j).1.gv id 5).a - 1, ((M j).1.gv id 5).c⟩ : Cp).ag] w' fun e w'' => ∃ r, e = .returned (.int .i64 r) ∧ Own w0 w'' (Store b (sp.2.2.set id ⟨5, ((M j).1.gv id 5).a, ((M j).1.gv id 5).a - 1, ((M j).1.gv id 5).c⟩).2 (K + j + 1) :: l')) := fun w' l' h' => HSE.out _ hokS w' l' _ _ rfl (by omega) h'
      clear hO hid hv i1 i2 i3 HBR gc HSE hokS hl0 hk0 hk5
      generalize (M j).1.gv id 5 = q at *
      generalize (M j).1.gv id 0 = pq at *
      generalize (M j).1 = sj at *
      generalize (M j).2 = Lj at *
      generalize hll : Lj.length = ll at *
      have HLL : Hid (Lj.length = ll) := hll
      clear hll
      obtain ⟨qk, qa, qb, qc⟩ := q
      obtain ⟨sp1, sp2, sp3⟩ := sp
      simp only [Cp.ag] at HG HS1 HS2 HST HBG HSB ga1 ga2 gb1 gb2 gc1 gc2 gk
      subst gk
      go_wp2_with fail
      refine HG.out.mono ?_
      rintro e w2 ⟨rfl, hO2⟩
      by_cases hq0 : qb = 0
      · subst hq0
        rw [if_pos rfl] at HST
        have hO3 := hO2.allocC #[.int .u8 5, .int .i32 qa, .int .i32 0, .int .i32 qc] 46
        have HB : Hid (Calls _ _ _ _ _) := HBG.out _ _ 5 qa 0 hO3.two
        clear hO2 hO3 HG HBG HS1 HO
        go_wp2_with fail
        refine HB.out.mono ?_
        rintro e w3 ⟨rfl, hO4⟩
        by_cases hs : sp2 = 0
        · subst hs
          rw [if_pos rfl] at HST
          simp only [Option.toList_some] at HST
          have z0 := hO4.two.cell 0
          have z1 := hO4.two.cell 1
          have z2 := hO4.two.cell 2
          have z3 := hO4.two.cell 3
          simp at z0 z1 z2 z3
          have H4 : Hid (Own w0 w3 _) := hO4.three
          clear hO4 HB HSB
          go_wp2_with (at_builtin; refine append1_own rfl _ _ 55 rfl 38 i0 (.int .u32 0) 1 4 Tryz.underlying55 hi hz0 hz1 hz2 rfl (by decide) _ _ _ rfl H4.out _ _ (by simp) rfl rfl (one_int _ _) (by unfold maxLen; omega) (by omega) ?_)
          intro g6 c6 w6 hO6 hsz6
          have z0 := hO6.three.cell 0
          have z1 := hO6.three.cell 1
          have z2 := hO6.three.cell 2
          have z3 := hO6.three.cell 3
          simp at z0 z1 z2 z3
          have y0 := hO6.three.froz 0
          have y1 := hO6.three.froz 1
          have y2 := hO6.three.froz 2
          have y3 := hO6.three.froz 3
          have hO7 := (hO6.three.setC 2 (.int .i32 qa)).setC 2 (.int .i32 (qa - 1))
          have HS : Hid (Calls _ _ _ _ _) := HS2.out _ _ hO7.three
          clear hO7 HS2 H4
          go_wp2_with fail
          refine HS.out.mono ?_
          rintro e w7 ⟨r7, rfl, hO8⟩
          have H8 : Hid (Own w0 w7 (Row 38 1 (.slice (some ⟨g6, 0, none⟩) (ll + 1) c6) (ll + 1) (irow .u32 (M (j + 1)).2) :: Row 38 1 (.slice (some ⟨g, 0, none⟩) xl lc) xl (irow .u32 X) :: Store b (M (j + 1)).1 (K + (j + 1)) :: l)) := by
            show Own _ _ _
            rw [HST.out, ← Nat.add_assoc]
            have h9 := hO8.two.tail.back3
            simpa [irow] using h9
          have HRL2 : Hid ((M (j + 1)).2.length = ll + 1) := by show _ = _; rw [HST.out, List.length_append, HLL.out]; rfl
          clear hO6 hsz6 hO8
          go_wp2
          go_roundw
          case rel => exact ⟨j + 1, by omega, by go_num, _, _, by rw [HRL2.out], by rw [HRL2.out]; exact H8.out⟩
          case measure => simp [intOf]; omega
        · rw [if_neg hs] at HST
          have hne : (sp2 != 0) = true := by simpa using hs
          have hsb : sp3 = sj := HSB.out hs
          subst hsb
          simp only [Option.toList_none, List.append_nil] at HST
          have H4 : Hid (Own w0 w3 _) := (Own.stoK (show K + j + 1 ≤ K + (j + 1) by omega) hO4).two.tail.back3
          clear hO4 HB HSB HS2
          go_wp2
          go_roundw
          case rel => exact ⟨j + 1, by omega, by go_num, a1, c1, by rw [HST.out, HLL.out], by rw [HST.out, HLL.out]; exact H4.out⟩
          case measure => simp [intOf]; omega
      · rw [if_neg hq0] at HST
        simp only [Option.toList_none, List.append_nil] at HST
        have hne : (qb == 0) = false := by simpa using hq0
        have hO4 := hO2.allocC #[.int .u8 5, .int .i32 qa, .int .i32 (qb - 1), .int .i32 qc] 46
        have HS : Hid (Calls _ _ _ _ _) := HS1.out _ _ hO4.two
        clear hO2 HG HS1 HS2 HBG HSB HO hO4
        go_wp2_with fail
        refine HS.out.mono ?_
        rintro e w3 ⟨r3, rfl, hO5⟩
        have H5 : Hid (Own w0 w3 _) := (Own.stoK (show K + j ≤ K + (j + 1) by omega) hO5).two.tail
        clear hO5 HS
        go_wp2
        go_roundw
        case rel => exact ⟨j + 1, by omega, by go_num, a1, c1, by rw [HST.out, HLL.out], by rw [HST.out, HLL.out]; exact H5.out.back3⟩
        case measure => simp [intOf]; omega
    · have hlt' : ¬ (j : Int) < (xl : Int) := by omega
      have hjn : j = xl := by omega
      subst hjn
      clear hO
      go_wp2
      go_ret
      exact ⟨a1, c1, rfl, (Own.stoK (show K + j ≤ K + 1024 by omega) HO.out.two.tail.two).two⟩
end Go.Proofs.YtflmgilmbppieaaGreatDoor
