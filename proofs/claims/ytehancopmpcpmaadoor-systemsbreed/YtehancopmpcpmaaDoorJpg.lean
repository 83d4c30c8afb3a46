/-
  Two entities that are alike.
-/
import Derived.Test.YtehancopmpcpmaaDoorSm
import Derived.Test.YtehancopmpcpmaaDoorGfg
import Derived.Test.YtehancopmpcpmaaDoorOxg
import Derived.Test.YtehancopmpcpmaaDoorIcg
import Derived.Deep.RegionHeld3
import Derived.Test.YtehancopmpcpmaaDoorJjg
import Derived.Test.YtehancopmpcpmaaDoorZo
namespace Go.Proofs.YtehancopmpcpmaaDoor
open Go.RowKit
set_option linter.unusedVariables false
set_option maxRecDepth 100000

set_option maxHeartbeats 1000000 in
theorem sameEnt_any (w : World) (id : Nat) (a1 a2 : Option Addr) (n c1 c2 : Nat) (C : List Cp) (h1 : Cs w a1 C) (h2 : Cs w a2 C) (hn : C.length = n) (hm : n ≤ 1000000) :
    Calls Tryd.prog 33 #[.agg #[.int .u32 (id : Int), .slice a1 n c1], .agg #[.int .u32 (id : Int), .slice a2 n c2]] w fun e w' => e = .returned (.bool true) ∧ Fr Nobody w w' := by
  have HF : Hid (Fr Nobody w ((w.alloc (.cells #[.int .u32 (id : Int), .slice a1 n c1] 41)).alloc (.cells #[.int .u32 (id : Int), .slice a2 n c2] 41))) := ((Fr.refl _ _).alloc _).alloc _
  have HS : Hid (Calls _ _ _ _ _) := same_cs _ a1 a2 n c1 c2 C (h1.quiet HF.out) (h2.quiet HF.out) hn hm
  have hii : ((id : Int) == (id : Int)) = true := by simp
  clear h1 h2 hn
  go_enter Tryd.func33, Tryd.ntmps33
  go_wp2_with fail
  refine HS.out.mono ?_
  rintro e w1 ⟨rfl, hf⟩
  have H1 : Hid (Fr Nobody w w1) := HF.out.trans hf
  clear hf HS
  go_wp2
  go_ret
  exact ⟨rfl, H1.out⟩

end Go.Proofs.YtehancopmpcpmaaDoor

/-
  A store and the document's that have the same are alike.
-/
namespace Go.Proofs.YtehancopmpcpmaaDoor
open Go.RowKit Go.Maps
set_option linter.unusedVariables false
set_option maxRecDepth 100000

set_option maxHeartbeats 4000000 in
theorem alike14 (w0 w : World) (l : List Thing) (b b2 : Nat) (σ : Sto) (K K2 : Nat) (x : RX) (h : Own w0 w (Store b σ K :: RSX b2 σ.S x :: l)) (hx : RXok σ x K2) (hσ : σ.Ok) (hK : K ≤ 1000000) (hK2 : K2 ≤ 1000000) (hLV : ∀ id ∈ σ.S.list, σ.S.isLive id = true ∧ id < 4294967296) :
    Calls Tryd.prog 12 #[.pointer (some ⟨b, 0, none⟩), .pointer (some ⟨b2, 0, none⟩)] w fun e w' => e = .returned (.bool true) ∧ Own w0 w' (Store b σ K :: RSX b2 σ.S x :: l) := by
  have HL : Hid (Calls _ _ _ _ _) := rlistS w0 w _ b2 σ K2 x h.two hx hσ hK2 (fun id hi => (hLV id hi).1)
  have HLN : Hid (∀ w' l', Own w0 w' (Store b σ K :: l') → Calls Tryd.prog 32 #[.pointer (some ⟨b, 0, none⟩)] w' fun e w'' => e = .returned (.int .i64 (σ.S.list.length : Int)) ∧ Own w0 w'' (Store b σ K :: l')) := by
    intro w' l' h'
    rw [St.list_length hσ.s]
    exact slen w0 w' l' b σ K h'
  have HLI : Hid (∀ w' l', Own w0 w' (Store b σ K :: l') → Calls Tryd.prog 17 #[.pointer (some ⟨b, 0, none⟩)] w' fun e w'' => ∃ v, e = .returned v ∧ Own w0 w'' (Row 38 1 v σ.S.list.length (irow .u32 σ.S.list) :: Store b σ K :: l')) := fun w' l' h' => slist w0 w' l' b σ K h' hσ.s
  have HEN : Hid (∀ w' l' (j id : Nat), σ.S.list[j]? = some id → Own w0 w' (Store b σ K :: l') → Calls Tryd.prog 18 #[.pointer (some ⟨b, 0, none⟩), .int .u32 (id : Int)] w' fun e w'' => ∃ ao cap, e = .returned (.tuple #[.agg #[.int .u32 (id : Int), .slice ao (σ.cps id).length cap], .int .i64 0]) ∧ Own w0 w'' (Row 49 4 (.slice ao (σ.cps id).length cap) (σ.cps id).length (ccat (σ.cps id)) :: Store b σ K :: l')) := by
    intro w' l' j id hj h'
    obtain ⟨hl, h32⟩ := hLV id (List.mem_of_getElem? hj)
    obtain ⟨r, C, hr, he, _⟩ := hσ.ent hl
    rw [Sto.cps_of hr he]
    exact sent w0 w' l' b σ K h' hσ id h32 hl r C he hK
  have HAT : Hid (∀ (j id : Nat), σ.S.list[j]? = some id → (x.at σ id).1 = id ∧ (x.at σ id).2.1 = σ.cps id ∧ (σ.cps id).length ≤ 6 ∧ ∀ w' l', Own w0 w' (RSX b2 σ.S x :: l') → Cs w' (x.at σ id).2.2.1 (σ.cps id)) := by
    intro j id hj
    obtain ⟨hl, h32⟩ := hLV id (List.mem_of_getElem? hj)
    obtain ⟨_, h1, h2, _⟩ := hx.at hσ hl
    obtain ⟨r, C, hr, he, _⟩ := hσ.ent hl
    refine ⟨h1, h2, ?_, fun w' l' h' => hx.atCs hσ hl h'⟩
    rw [Sto.cps_of hr he]
    exact (hσ.t _ (hσ.home hl).1).c6 he
  have hn24 := list_len hσ.s
  clear h hx hσ hLV
  obtain ⟨IL, hIL⟩ : ∃ I, I = σ.S.list := ⟨_, rfl⟩
  simp only [← hIL] at HL HLN HLI HEN HAT hn24 ⊢
  generalize hln : IL.length = n at *
  have HN : Hid (IL.length = n) := hln
  have hnn : ((n : Int) != (n : Int)) = false := by simp
  clear hln hIL
  go_enter Tryd.func12, Tryd.ntmps12
  go_wp2_with fail
  refine HL.out.mono ?_
  rintro e w1 ⟨la, lc, rfl, hO⟩
  have H1 : Hid (Own w0 w1 _) := hO.three
  clear hO HL
  go_wp2_with fail
  refine (HLN.out _ _ H1.out).mono ?_
  rintro e w2 ⟨rfl, hO⟩
  have H2 : Hid (Own w0 w2 (Row 41 2 (.slice la n lc) n (cat rcells (IL.map (x.at σ))) :: Store b σ K :: RSX b2 σ.S x :: l)) := hO.two
  clear hO H1 HLN
  go_wp2
  go_loopw [19] (fun cv wr => ∃ j : Nat, j ≤ n ∧ cv = .int .i64 j ∧ Own w0 wr (Row 41 2 (.slice la n lc) n (cat rcells (IL.map (x.at σ))) :: Store b σ K :: RSX b2 σ.S x :: l)) (fun cv _ => n - (intOf cv).toNat)
  case atStart => exact ⟨0, Nat.zero_le _, rfl, H2.out⟩
  case round =>
    obtain ⟨j, hj, rfl, hO⟩ := hrel
    have HO : Hid (Own w0 wr _) := hO
    clear H2
    by_cases hlt : j < n
    · have hlt' : (j : Int) < (n : Int) := by omega
      obtain ⟨id, hid⟩ : ∃ id, IL[j]? = some id := ⟨_, List.getElem?_eq_getElem (by rw [HN.out]; exact hlt)⟩
      obtain ⟨g, cp, hv, _⟩ := row_shape hO.row (by omega)
      have hla := (Value.slice.inj hv).1
      subst hla
      obtain ⟨a1, a2, a3, a4⟩ := HAT.out j id hid
      have hml : (IL.map (x.at σ)).length = n := by rw [List.length_map, HN.out]
      have hO' := hO
      rw [← hml] at hO'
      obtain ⟨c0, c1⟩ := ecell hO' j (x.at σ id) (by rw [List.getElem?_map, hid]; rfl)
      rw [a1] at c0
      rw [a2] at c1
      have HC : Hid (∀ w' l', Own w0 w' (RSX b2 σ.S x :: l') → Cs w' (x.at σ id).2.2.1 (σ.cps id)) := a4
      have HE : Hid (∀ w' l', Own w0 w' (Store b σ K :: l') → Calls Tryd.prog 18 #[.pointer (some ⟨b, 0, none⟩), .int .u32 (id : Int)] w' fun e w'' => ∃ ao cap, e = .returned (.tuple #[.agg #[.int .u32 (id : Int), .slice ao (σ.cps id).length cap], .int .i64 0]) ∧ Own w0 w'' (Row 49 4 (.slice ao (σ.cps id).length cap) (σ.cps id).length (ccat (σ.cps id)) :: Store b σ K :: l')) := fun w' l' h' => HEN.out w' l' j id hid h'
      have HID : Hid (IL[j]? = some id) := hid
      generalize (x.at σ id).2.2.1 = da at *
      generalize (x.at σ id).2.2.2 = dc at *
      generalize σ.cps id = C at *
      have hii : ((id : Int) != (id : Int)) = false := by simp
      clear hO hO' hv hid a1 a2 a4 hml
      generalize hcl : C.length = cl at *
      have HCL : Hid (C.length = cl) := hcl
      have hA := HO.out.allocC #[.int .u32 (id : Int), .slice da cl dc] 41
      have HEA : Hid (Calls _ _ _ _ _) := HE.out _ _ hA.three
      clear hA hcl
      go_wp2_with fail
      refine HEA.out.mono ?_
      rintro e w3 ⟨ga, gc, rfl, hO3⟩
      have hB := (hO3.allocC #[.int .u32 (id : Int), .slice ga cl gc] 41).drew
      have x0 := hB.cell 0
      have x1 := hB.cell 1
      have y0 := hB.four.cell 0
      have y1 := hB.four.cell 1
      simp at x0 x1 y0 y1
      have hne1 : w3.heap.size ≠ wr.heap.size := by have := hO3.three.lt; omega
      have hne2 : wr.heap.size ≠ w3.heap.size := fun q => hne1 q.symm
      have HSE : Hid (Calls _ _ _ _ _) := sameEnt_any _ id ga da cl gc dc C (Own.rcs hB.two HCL.out) (HC.out _ _ (hB.tail.tail.tail.three)) HCL.out (by omega)
      have HB : Hid (Own w0 _ _) := hB
      clear hO3 hB HEA HE c0 c1
      obtain ⟨X, hX⟩ : ∃ X, X = wr.heap.size := ⟨_, rfl⟩
      obtain ⟨Y, hY⟩ : ∃ Y, Y = w3.heap.size := ⟨_, rfl⟩
      go_wp2_with fail
      go_region_with
        (first
         | (go_at_call 33; refine HSE.out.mono ?_; rintro e w5 ⟨rfl, hf5⟩
            have hO5 := HB.out.quiet hf5
            have x0' := hO5.cell 0
            have x1' := hO5.cell 1
            have y0' := hO5.four.cell 0
            have y1' := hO5.four.cell 1
            simp at x0' x1' y0' y1'
            have HL5 : Hid (Calls _ _ _ _ _) := HLI.out _ _ hO5.three
            clear hO5 hf5)
         | (go_at_call 17; refine HL5.out.mono ?_; rintro e w6 ⟨v6, rfl, hO6⟩
            obtain ⟨g6, c6, rfl, _⟩ := row_shape hO6.row (by omega)
            have z0 : w6.cell? ⟨g6, j, none⟩ = some (.int .u32 (id : Int)) := by
              rw [hO6.row.cellAt _ (by omega), getElem?_irow, HID.out]; rfl
            have x0'' := hO6.three.cell 0
            have x1'' := hO6.three.cell 1
            have y0'' := (hO6.tail.four).cell 0
            have y1'' := (hO6.tail.four).cell 1
            simp at x0'' x1'' y0'' y1''
            have H6 : Hid (Own w0 w6 _) := hO6
            clear hO6))
      all_goals
        go_wp2
        go_roundw
        case rel => exact ⟨j + 1, by omega, by go_num, H6.out.tail.two.tail.two.tail.two.tail.two⟩
        case measure => simp [intOf]; omega
    · have hlt' : ¬ (j : Int) < (n : Int) := by omega
      clear hO
      go_wp2
      go_ret
      exact ⟨rfl, HO.out.tail⟩
end Go.Proofs.YtehancopmpcpmaaDoor

/-
  Lists of lists of components, as they come in.
-/
namespace Go.Proofs.YtehancopmpcpmaaDoor
open Go.ChangeShapes Go.WideShapes Go.ChangeAt Go.RowKit Go.Deep
set_option linter.unusedVariables false
set_option maxRecDepth 100000

theorem cellsLC : Tryd.prog.cellsOf 39 = 1 := by kernel_rfl
def LsT (W : World) (cs : List Value) (x : LsE) : Prop := cs = [.slice x.ao x.C.length x.cap] ∧ IsComps W x.ao x.C.length x.cap x.C
theorem ls_is {H : Type} {enc : TypeId × Value → H} {W : World} (fuel : Nat) (cs : List Value) (x : DataW H × List MemPlace)
    (h : DataW.trod enc Tryd.prog W 0 (fun _ => true) true fuel 39 cs = some x) : ∃ o, LsT W cs o := by
  obtain ⟨ao, len, cap, hv⟩ : ∃ ao len cap, cs = [.slice ao len cap] := by
    rcases open_slice Tryd.underlying39 h with ⟨hc, _⟩ | ⟨a, l, c, m, n, D, Pl, hc, _⟩
    · exact ⟨_, _, _, hc⟩
    · exact ⟨_, _, _, hc⟩
  subst hv
  obtain ⟨d, p⟩ := x
  obtain ⟨Q, hQ⟩ : ∃ Q, IsComps W ao len cap Q := open_rows 4 Tryd.underlying39 cellsComp (by decide) CompIs (fun fuel cs x hx => by
    obtain ⟨k, a, b, c, h1, h2, h3, h4, hcs, _⟩ := comp_cells hx
    obtain ⟨n, rfl, hn⟩ := ok8_nat h1
    exact ⟨⟨n, a, b, c⟩, hcs, hn⟩) ⟨_, h⟩
  have hql := hQ.1
  subst hql
  exact ⟨⟨Q, ao, cap⟩, rfl, hQ⟩
def IsLss (w : World) (ao : Option Addr) (len cap : Nat) (Q : List LsE) : Prop := Q.length = len ∧ len ≤ cap ∧ cap ≤ maxLen ∧ RowsAt (LsT w) 1 w ao Q
theorem open_ops {H : Type} {enc : TypeId × Value → H} {W : World} {base : Nat} {ao : Option Addr} {len cap : Nat} {d : DataW H} {p : List MemPlace}
    (hv : Value.okWide Tryd.prog W .any base 22 (.slice ao len cap)) (h : DataW.Trod enc Tryd.prog W 0 (fun _ => true) true 22 (.slice ao len cap) d p) : ∃ Q, IsLss W ao len cap Q := by
  haveI : Inhabited LsE := ⟨⟨[], none, 0⟩⟩
  exact open_rows 1 Tryd.underlying22 cellsLC (by decide) (LsT W) (fun fuel cs x hx => ls_is fuel cs x hx) h
theorem IsLss.lss {w : World} {ao : Option Addr} {len cap : Nat} {Q : List LsE} (h : IsLss w ao len cap Q) : Lss w ao Q ∧ ∀ x ∈ Q, x.C.length ≤ x.cap ∧ x.cap ≤ 9223372036854775807 ∧ ∀ q ∈ x.C, q.k < 256 := by
  obtain ⟨hl, _, _, hR⟩ := h
  have key : ∀ x ∈ Q, IsComps w x.ao x.C.length x.cap x.C := by
    intro o ho
    obtain ⟨j, hj⟩ := List.getElem?_of_mem ho
    rcases hR with h | ⟨g, of, ha, hc⟩
    · subst h; simp at hj
    · obtain ⟨cs, ⟨_, h4⟩, _⟩ := hc j o hj
      exact h4
  refine ⟨⟨?_, fun o ho => (key o ho).cs.1⟩, fun x hx => ⟨(key x hx).2.1, ?_, (key x hx).cs.2⟩⟩
  · rcases hR with h | ⟨g, of, ha, hc⟩
    · exact .inl h
    · refine .inr ⟨g, of, ha, fun j o hj => ?_⟩
      obtain ⟨cs, ⟨rfl, _⟩, _, h3⟩ := hc j o hj
      have := h3 0 (by decide)
      simpa using this
  · have := (key x hx).2.2.1
    unfold maxLen at this
    omega
end Go.Proofs.YtehancopmpcpmaaDoor

/-
  Nobody moves, and nobody grows older, in a nil store.
-/
namespace Go.Proofs.YtehancopmpcpmaaDoor
open Go.RowKit Go.Maps
set_option linter.unusedVariables false
set_option maxRecDepth 100000

theorem with_nil (w0 w : World) (l : List Thing) (h : Own w0 w l) (a : Nat) : Calls Tryd.prog 26 #[.pointer none, .int .u8 (a : Int), .int .u8 0] w fun e w'' => ∃ ao cap, e = .returned (.slice ao 0 cap) ∧ Own w0 w'' l := by
  refine (with_g w0 w l none Nil [] (Own.nil_iff.2 h) a 0 (iter_nil w0 a 0) (by decide)).mono ?_
  rintro e w'' ⟨ao, cap, rfl, h2⟩
  exact ⟨ao, cap, rfl, Own.nil_iff.1 h2.tail⟩
set_option maxHeartbeats 1000000 in
theorem move_nil (w0 w : World) (l : List Thing) (h : Own w0 w l) : Calls Tryd.prog 10 #[.pointer none] w fun e w'' => ∃ ao cap, e = .returned (.slice ao 0 cap) ∧ Own w0 w'' l := by
  have HW : Hid (Calls _ _ _ _ _) := with_nil w0 w l h 3
  clear h
  go_enter Tryd.func10, Tryd.ntmps10
  go_wp2_with fail
  refine HW.out.mono ?_
  rintro e w1 ⟨la, lc, rfl, hO⟩
  have H1 : Hid (Own w0 w1 _) := hO
  clear hO HW
  go_wp2
  go_loopw [3, 9] (fun v3 v9 wr => v3 = .slice none 0 0 ∧ v9 = .int .i64 0 ∧ Own w0 wr l) (fun _ _ _ => 0)
  case atStart => exact ⟨rfl, rfl, H1.out⟩
  case round =>
    obtain ⟨rfl, rfl, hO⟩ := hrel
    have HO : Hid (Own w0 wr _) := hO
    clear hO H1
    go_wp2
    go_ret
    exact ⟨_, _, rfl, HO.out⟩
set_option maxHeartbeats 1000000 in
theorem age_nil (w0 w : World) (l : List Thing) (h : Own w0 w l) : Calls Tryd.prog 13 #[.pointer none] w fun e w'' => ∃ ao cap, e = .returned (.slice ao 0 cap) ∧ Own w0 w'' l := by
  have HW : Hid (Calls _ _ _ _ _) := with_nil w0 w l h 4
  clear h
  go_enter Tryd.func13, Tryd.ntmps13
  go_wp2_with fail
  refine HW.out.mono ?_
  rintro e w1 ⟨la, lc, rfl, hO⟩
  have H1 : Hid (Own w0 w1 _) := hO
  clear hO HW
  go_wp2
  go_loopw [3, 11] (fun v3 v9 wr => v3 = .slice none 0 0 ∧ v9 = .int .i64 0 ∧ Own w0 wr l) (fun _ _ _ => 0)
  case atStart => exact ⟨rfl, rfl, H1.out⟩
  case round =>
    obtain ⟨rfl, rfl, hO⟩ := hrel
    have HO : Hid (Own w0 wr _) := hO
    clear hO H1
    go_wp2
    go_ret
    exact ⟨_, _, rfl, HO.out⟩
set_option maxHeartbeats 1000000 in
theorem breed_nil (w0 w : World) (l : List Thing) (h : Own w0 w l) : Calls Tryd.prog 15 #[.pointer none] w fun e w'' => ∃ ao cap, e = .returned (.slice ao 0 cap) ∧ Own w0 w'' l := by
  have HW : Hid (Calls _ _ _ _ _) := with_nil w0 w l h 33
  clear h
  go_enter Tryd.func15, Tryd.ntmps15
  go_wp2_with fail
  refine HW.out.mono ?_
  rintro e w1 ⟨la, lc, rfl, hO⟩
  have H1 : Hid (Own w0 w1 _) := hO
  clear hO HW
  go_wp2
  go_loopw [3, 13] (fun v3 v9 wr => v3 = .slice none 0 0 ∧ v9 = .int .i64 0 ∧ Own w0 wr l) (fun _ _ _ => 0)
  case atStart => exact ⟨rfl, rfl, H1.out⟩
  case round =>
    obtain ⟨rfl, rfl, hO⟩ := hrel
    have HO : Hid (Own w0 wr _) := hO
    clear hO H1
    go_wp2
    go_ret
    exact ⟨_, _, rfl, HO.out⟩
end Go.Proofs.YtehancopmpcpmaaDoor
