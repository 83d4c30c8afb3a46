/-
  What moves: one entity, and all.
-/
import Derived.Test.YtakphfmblfdfnaaDoorOxg
import Derived.Test.YtakphfmblfdfnaaDoorIcg
import Derived.Deep.RegionWith
namespace Go.Proofs.YtakphfmblfdfnaaDoor
open Go.RowKit Go.Maps
set_option linter.unusedVariables false
set_option maxRecDepth 100000

theorem gv_of {σ : Sto} (hσ : σ.Ok) {id k : Nat} (hl : σ.S.isLive id = true) (hh : hasK (σ.cps id) k = true) : (σ.gv id k).k = k ∧ (σ.gv id k).chk = 0 := by
  obtain ⟨r, C, hr, he, hlC, _⟩ := hσ.ent hl
  have hc := Sto.cps_of hr he
  rw [hc] at hh
  obtain ⟨q, hq, hqk⟩ := (hasK_iff C k).1 hh
  have e : σ.gv id k = q := by
    unfold Sto.gv
    rw [hc, if_pos hh, ← hqk, fv_of hlC hq]
    rfl
  rw [e]
  exact ⟨hqk, (lst_ok hlC).2 q hq |>.2⟩
def mvP (p v : Cp) : Cp := ⟨0, (gl1 p.a v.a).1, (gl1 p.b v.b).1, p.c⟩
def mvV (p v : Cp) : Cp := ⟨1, (gl1 p.a v.a).2, (gl1 p.b v.b).2, v.c⟩
def Sto.mv (σ : Sto) (id : Nat) : Bool × Sto :=
  (!(((gl1 (σ.gv id 0).a (σ.gv id 1).a).1 == (σ.gv id 0).a) && ((gl1 (σ.gv id 0).b (σ.gv id 1).b).1 == (σ.gv id 0).b)), ((σ.set id (mvP (σ.gv id 0) (σ.gv id 1))).2.set id (mvV (σ.gv id 0) (σ.gv id 1))).2)
theorem Sto.mv_ok {σ : Sto} (h : σ.Ok) (id : Nat) : (σ.mv id).2.Ok := Sto.set_ok (Sto.set_ok h _ _) _ _
set_option maxHeartbeats 4000000 in
theorem move1_ok (w0 w : World) (l : List Thing) (b : Nat) (σ : Sto) (K : Nat) (ht : Tab w0) (h : Own w0 w (Store b σ K :: l)) (hσ : σ.Ok) (hK : K < 1000000) (id : Nat) (hid : id < 4294967296) (hl : σ.S.isLive id = true) (h0 : hasK (σ.cps id) 0 = true) (h1 : hasK (σ.cps id) 1 = true) :
    Calls Tryd.prog 23 #[.pointer (some ⟨b, 0, none⟩), .int .u32 (id : Int)] w fun e w' => e = .returned (.bool (σ.mv id).1) ∧ Own w0 w' (Store b (σ.mv id).2 K :: l) := by
  have HG0 : Hid (Calls _ _ _ _ _) := sgetC w0 w l b σ K h hσ id hid hl 0 (by decide)
  have HG1 : Hid (∀ w' l', Own w0 w' (Store b σ K :: l') → Calls Tryd.prog 14 #[.pointer (some ⟨b, 0, none⟩), .int .u32 (id : Int), .int .u8 1] w' fun e w'' => e = .returned (.tuple #[(σ.gv id 1).ag, .int .i64 (if hasK (σ.cps id) 1 then 0 else 10)]) ∧ Own w0 w'' (Store b σ K :: l')) := fun w' l' h' => sgetC w0 w' l' b σ K h' hσ id hid hl 1 (by decide)
  rw [h0] at HG0
  rw [h1] at HG1
  obtain ⟨k0, c0⟩ := gv_of hσ hl h0
  obtain ⟨k1, c1⟩ := gv_of hσ hl h1
  have HMV : Hid (σ.mv id = (!(((gl1 (σ.gv id 0).a (σ.gv id 1).a).1 == (σ.gv id 0).a) && ((gl1 (σ.gv id 0).b (σ.gv id 1).b).1 == (σ.gv id 0).b)), ((σ.set id (mvP (σ.gv id 0) (σ.gv id 1))).2.set id (mvV (σ.gv id 0) (σ.gv id 1))).2)) := rfl
  generalize σ.gv id 0 = P at *
  generalize σ.gv id 1 = V at *
  obtain ⟨pk, pa, pb, pc⟩ := P
  obtain ⟨vk, va, vb, vc⟩ := V
  simp only at k0 k1 HMV
  subst k0 k1
  obtain ⟨p1, p2, p3, p4, p5⟩ := chk_pv (.inl rfl) c0
  obtain ⟨v1, v2, v3, v4, v5⟩ := chk_pv (.inr rfl) c1
  simp [lo, hi, fld, kinds] at p1 p2 p3 p4 v1 v2 v3 v4
  subst p5 v5
  have HGA : Hid (∀ w', Calls Tryd.prog 36 #[.int .i32 pa, .int .i32 va] w' fun e w'' => e = .returned (.tuple #[.int .i32 (gl1 pa va).1, .int .i32 (gl1 pa va).2]) ∧ w'' = w') := fun w' => glide_in w' pa va ⟨by omega, by omega⟩ ⟨by omega, by omega⟩
  have HGB : Hid (∀ w', Calls Tryd.prog 36 #[.int .i32 pb, .int .i32 vb] w' fun e w'' => e = .returned (.tuple #[.int .i32 (gl1 pb vb).1, .int .i32 (gl1 pb vb).2]) ∧ w'' = w') := fun w' => glide_in w' pb vb ⟨by omega, by omega⟩ ⟨by omega, by omega⟩
  have HS1 : Hid (∀ w' l', Own w0 w' (Store b σ K :: l') → Calls Tryd.prog 25 #[.pointer (some ⟨b, 0, none⟩), .int .u32 (id : Int), .agg #[.int .u8 0, .int .i32 (gl1 pa va).1, .int .i32 (gl1 pb vb).1, .int .i32 0]] w' fun e w'' => e = .returned (.int .i64 (σ.set id (mvP ⟨0, pa, pb, 0⟩ ⟨1, va, vb, 0⟩)).1) ∧ Own w0 w'' (Store b (σ.set id (mvP ⟨0, pa, pb, 0⟩ ⟨1, va, vb, 0⟩)).2 K :: l')) := fun w' l' h' => setC0 w0 w' l' b σ K ht h' hσ id hid (mvP ⟨0, pa, pb, 0⟩ ⟨1, va, vb, 0⟩) (show 0 < 256 by decide) hK
  have HS2 : Hid (∀ w' l', Own w0 w' (Store b (σ.set id (mvP ⟨0, pa, pb, 0⟩ ⟨1, va, vb, 0⟩)).2 K :: l') → Calls Tryd.prog 25 #[.pointer (some ⟨b, 0, none⟩), .int .u32 (id : Int), .agg #[.int .u8 1, .int .i32 (gl1 pa va).2, .int .i32 (gl1 pb vb).2, .int .i32 0]] w' fun e w'' => e = .returned (.int .i64 ((σ.set id (mvP ⟨0, pa, pb, 0⟩ ⟨1, va, vb, 0⟩)).2.set id (mvV ⟨0, pa, pb, 0⟩ ⟨1, va, vb, 0⟩)).1) ∧ Own w0 w'' (Store b ((σ.set id (mvP ⟨0, pa, pb, 0⟩ ⟨1, va, vb, 0⟩)).2.set id (mvV ⟨0, pa, pb, 0⟩ ⟨1, va, vb, 0⟩)).2 K :: l')) := fun w' l' h' => setC0 w0 w' l' b _ K ht h' (Sto.set_ok hσ _ _) id hid (mvV ⟨0, pa, pb, 0⟩ ⟨1, va, vb, 0⟩) (show 1 < 256 by decide) hK
  have eqa := eq_a3 9997
  rw [HMV.out]
  clear h hσ hl h0 h1 c0 c1 HMV ht
  generalize σ.set id (mvP ⟨0, pa, pb, 0⟩ ⟨1, va, vb, 0⟩) = s1 at *
  generalize s1.2.set id (mvV ⟨0, pa, pb, 0⟩ ⟨1, va, vb, 0⟩) = s2 at *
  generalize gl1 pa va = ga at *
  generalize gl1 pb vb = gb at *
  obtain ⟨ga1, ga2⟩ := ga
  obtain ⟨gb1, gb2⟩ := gb
  simp only at HGA HGB HS1 HS2 ⊢
  simp only [Cp.ag] at HG0 HG1
  go_enter Tryd.func23, Tryd.ntmps23
  go_wp2_with fail
  refine HG0.out.mono ?_
  rintro e w1 ⟨rfl, hO1⟩
  have HG2 : Hid (Calls _ _ _ _ _) := HG1.out _ _ (hO1.allocC #[.int .u8 0, .int .i32 pa, .int .i32 pb, .int .i32 0] 24).two
  clear hO1 HG0 HG1
  go_wp2_with fail
  refine HG2.out.mono ?_
  rintro e w2 ⟨rfl, hO2⟩
  have hB := hO2.allocC #[.int .u8 1, .int .i32 va, .int .i32 vb, .int .i32 0] 24
  have hC := (hB.allocC #[.int .u8 0, .int .i32 pa, .int .i32 pb, .int .i32 0] 24)
  simp only [World.size_alloc] at hC
  have x0 := hB.three.cell 0
  have x1 := hB.three.cell 1
  have x2 := hB.three.cell 2
  have x3 := hB.three.cell 3
  simp at x0 x1 x2 x3
  have hne1 : w1.heap.size < w2.heap.size := hO2.two.lt
  have HC : Hid (Own w0 _ (Cells (w2.heap.size + 1) #[.int .u8 0, .int .i32 pa, .int .i32 pb, .int .i32 0] 24 :: Cells w2.heap.size #[.int .u8 1, .int .i32 va, .int .i32 vb, .int .i32 0] 24 :: Cells w1.heap.size #[.int .u8 0, .int .i32 pa, .int .i32 pb, .int .i32 0] 24 :: Store b σ K :: l)) := hC.four.back4 |> fun h => (hC.perm ((List.Perm.swap _ _ _).cons _ |>.cons _))
  clear hO2 hB hC HG2
  go_wp2
  go_loopw [24] (fun v24 wr => (v24 = .int .i64 0 ∧ Own w0 wr (Cells (w2.heap.size + 1) #[.int .u8 0, .int .i32 pa, .int .i32 pb, .int .i32 0] 24 :: Cells w2.heap.size #[.int .u8 1, .int .i32 va, .int .i32 vb, .int .i32 0] 24 :: Cells w1.heap.size #[.int .u8 0, .int .i32 pa, .int .i32 pb, .int .i32 0] 24 :: Store b σ K :: l)) ∨ (v24 = .int .i64 1 ∧ Own w0 wr (Cells (w2.heap.size + 1) #[.int .u8 0, .int .i32 ga1, .int .i32 pb, .int .i32 0] 24 :: Cells w2.heap.size #[.int .u8 1, .int .i32 ga2, .int .i32 vb, .int .i32 0] 24 :: Cells w1.heap.size #[.int .u8 0, .int .i32 pa, .int .i32 pb, .int .i32 0] 24 :: Store b σ K :: l)) ∨ (v24 = .int .i64 2 ∧ Own w0 wr (Cells (w2.heap.size + 1) #[.int .u8 0, .int .i32 ga1, .int .i32 gb1, .int .i32 0] 24 :: Cells w2.heap.size #[.int .u8 1, .int .i32 ga2, .int .i32 gb2, .int .i32 0] 24 :: Cells w1.heap.size #[.int .u8 0, .int .i32 pa, .int .i32 pb, .int .i32 0] 24 :: Store b σ K :: l))) (fun v24 _ => 2 - (intOf v24).toNat)
  case atStart => exact .inl ⟨rfl, HC.out⟩
  case round =>
    clear HC x0 x1 x2 x3
    rcases hrel with ⟨rfl, hO⟩ | ⟨rfl, hO⟩ | ⟨rfl, hO⟩
    · have x1 := hO.three.cell 1
      have y1 := hO.two.cell 1
      have y2 := hO.two.froz 1
      have z1 := hO.cell 1
      have z2 := hO.froz 1
      simp at x1 y1 z1
      have HO : Hid (Own w0 wr _) := hO
      clear hO
      go_wp2
      go_region_with (go_at_call 36; refine (HGA.out _).mono ?_; rintro e w' ⟨rfl, rfl⟩)
      all_goals
        have H2 : Hid (Own w0 _ _) := ((HO.out.setC 1 (.int .i32 ga1)).two.setC 1 (.int .i32 ga2)).two.drew
        go_wp2
        go_roundw
        case rel => exact .inr (.inl ⟨rfl, H2.out⟩)
        case measure => simp [intOf]
    · have x1 := hO.three.cell 2
      have y1 := hO.two.cell 2
      have y2 := hO.two.froz 2
      have z1 := hO.cell 2
      have z2 := hO.froz 2
      simp at x1 y1 z1
      have HO : Hid (Own w0 wr _) := hO
      clear hO
      go_wp2
      go_region_with (go_at_call 36; refine (HGB.out _).mono ?_; rintro e w' ⟨rfl, rfl⟩)
      all_goals
        have H2 : Hid (Own w0 _ _) := ((HO.out.setC 2 (.int .i32 gb1)).two.setC 2 (.int .i32 gb2)).two.drew
        go_wp2
        go_roundw
        case rel => exact .inr (.inr ⟨rfl, H2.out⟩)
        case measure => simp [intOf]
    · have z0 := hO.cell 0
      have z1 := hO.cell 1
      have z2 := hO.cell 2
      have z3 := hO.cell 3
      simp at z0 z1 z2 z3
      have HA1 : Hid (Calls _ _ _ _ _) := HS1.out _ _ (Own.four hO)
      clear hO HS1 HGA HGB
      go_wp2_with fail
      refine HA1.out.mono ?_
      rintro e w5 ⟨rfl, hO5⟩
      have y0 := hO5.three.cell 0
      have y1 := hO5.three.cell 1
      have y2 := hO5.three.cell 2
      have y3 := hO5.three.cell 3
      simp at y0 y1 y2 y3
      have HA2 : Hid (Calls _ _ _ _ _) := HS2.out _ _ hO5
      clear hO5 HS2 HA1 z0 z1 z2 z3
      go_wp2_with fail
      refine HA2.out.mono ?_
      rintro e w6 ⟨rfl, hO6⟩
      have z0 := hO6.two.cell 0
      have z1 := hO6.two.cell 1
      have z2 := hO6.two.cell 2
      have z3 := hO6.two.cell 3
      have t0 := hO6.four.cell 0
      have t1 := hO6.four.cell 1
      have t2 := hO6.four.cell 2
      have t3 := hO6.four.cell 3
      simp at z0 z1 z2 z3 t0 t1 t2 t3
      have H6 : Hid (Own w0 w6 _) := hO6
      clear hO6 HA2 y0 y1 y2 y3
      have hpp : ∀ (x y : Bool), x = y → Ending.returned (Value.bool x) = Ending.returned (Value.bool y) := fun x y h => by rw [h]
      have HPP : Hid _ := hpp
      clear hpp
      go_wp2
      all_goals
        rename_i hc
        go_ret
        refine ⟨HPP.out _ _ ?_, H6.out.two.tail.two.tail.two.tail⟩
        clear HPP H6
        by_cases e1 : ga1 = pa <;> by_cases e2 : gb1 = pb <;> simp_all
end Go.Proofs.YtakphfmblfdfnaaDoor
