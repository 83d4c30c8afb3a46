/-
  Orders that wait: Push of a right one, Take, Len; the document's example of orders.
-/
import Derived.Test.YtmblhaoapinbiaaDoorQdg
namespace Go.Proofs.YtmblhaoapinbiaaDoor
open Go.RowKit
set_option linter.unusedVariables false
set_option maxRecDepth 100000

theorem ord_one (x : OrdE) : ∀ u ∈ x.cs, u.oneCell' = true := by
  intro u hu; simp [OrdE.cs] at hu; rcases hu with rfl | rfl | rfl | rfl <;> rfl
theorem Own.bufO {w0 w : World} {l : List Thing} {b : Nat} {E : List OrdE} (h : Own w0 w (Buf b E :: l)) : ∃ ao cap, Own w0 w (Cells b #[.slice ao E.length cap] 73 :: Row 46 4 (.slice ao E.length cap) E.length (cat OrdE.cs E) :: (E.map orow ++ l)) := by
  obtain ⟨v, h⟩ := Own.ex_iff.1 h
  obtain ⟨ao, cap, rfl⟩ := row_any h.two.row
  exact ⟨ao, cap, h⟩
theorem Own.bufS {w0 w : World} {l : List Thing} {b : Nat} {E : List OrdE} {v : Value} (h : Own w0 w (Cells b #[v] 73 :: Row 46 4 v E.length (cat OrdE.cs E) :: (E.map orow ++ l))) : Own w0 w (Buf b E :: l) := Own.ex_iff.2 ⟨v, h⟩
set_option maxHeartbeats 1000000 in
theorem push_full (w0 w : World) (l : List Thing) (b : Nat) (E : List OrdE) (ht : Tab w0) (h : Own w0 w (Buf b E :: l)) (o : OrdE) (hi : o.In) (hCs : ∀ w', Own w0 w' l → Cs w' o.ao o.C) (hb : o.ck = 0) (hE : 256 ≤ E.length) :
    Calls Tryd.prog 15 #[.pointer (some ⟨b, 0, none⟩), o.ag] w fun e w' => e = .returned (.int .i64 8) ∧ Own w0 w' (Buf b E :: l) := by
  have hA := h.alloc (.cells #[.int .u8 (o.d : Int), .int .u32 (o.id : Int), .int .u8 (o.k : Int), .slice o.ao o.C.length o.cap] 46)
  have HC : Hid (Calls _ _ _ _ _) := o.check _ (ht.quiet hA.fr) hi (hCs _ hA.tail)
  rw [hb] at HC
  have HA : Hid (Own w0 _ _) := hA
  have hE' : (256 : Int) ≤ (E.length : Int) := by omega
  unfold OrdE.ag at HC ⊢
  obtain ⟨d, id, k, C, ao, cap⟩ := o
  simp only at HC HA ⊢
  clear h hA hb hCs hi
  go_enter Tryd.func15, Tryd.ntmps15
  go_wp2_with fail
  refine HC.out.mono ?_
  rintro e w1 ⟨rfl, hf⟩
  have hB := HA.out.quiet hf
  have HB : Hid (Own w0 w1 _) := hB
  obtain ⟨ea, ec, hO⟩ := hB.bufO
  have q0 := hO.cell 0
  simp at q0
  clear hB hO hf HC HA
  go_wp2
  go_ret
  exact ⟨rfl, HB.out⟩
set_option maxHeartbeats 2000000 in
theorem push_ok (w0 w : World) (l : List Thing) (b : Nat) (E : List OrdE) (ht : Tab w0) (h : Own w0 w (Buf b E :: l)) (o : OrdE) (hi : o.In) (hCs : ∀ w', Own w0 w' l → Cs w' o.ao o.C) (hb : o.ck = 0) (hE : E.length < 256) :
    Calls Tryd.prog 15 #[.pointer (some ⟨b, 0, none⟩), o.ag] w fun e w' => e = .returned (.int .i64 0) ∧ ∃ a c, Own w0 w' (Buf b (E ++ [{ o with ao := a, cap := c }]) :: l) := by
  obtain ⟨i0, hi0, hz0, hz1, hz2⟩ := info_parts Tryd.infoOrd
  have hA := h.allocC #[.int .u8 (o.d : Int), .int .u32 (o.id : Int), .int .u8 (o.k : Int), .slice o.ao o.C.length o.cap] 46
  have HC : Hid (Calls _ _ _ _ _) := o.check _ (ht.quiet hA.fr) hi (hCs _ hA.tail.tail)
  rw [hb] at HC
  have HA : Hid (Own w0 _ _) := hA
  have hE' : (E.length : Int) < 256 := by omega
  have HCL : Hid (∀ w', Own w0 w' (Cells w.heap.size #[.int .u8 (o.d : Int), .int .u32 (o.id : Int), .int .u8 (o.k : Int), .slice o.ao o.C.length o.cap] 46 :: Buf b E :: l) → Calls Tryd.prog 27 #[.slice o.ao o.C.length o.cap] w' fun e w'' => ∃ a c, e = .returned (.slice a o.C.length c) ∧ Own w0 w'' (Row 76 4 (.slice a o.C.length c) o.C.length (ccat o.C) :: Cells w.heap.size #[.int .u8 (o.d : Int), .int .u32 (o.id : Int), .int .u8 (o.k : Int), .slice o.ao o.C.length o.cap] 46 :: Buf b E :: l)) := fun w' h' => clone_cs w0 w' _ h' o.ao o.C.length o.cap o.C rfl (hCs _ h'.tail.tail) hi.len
  have HEND : Hid (∀ w' a c v, Own w0 w' (Cells b #[v] 73 :: Row 46 4 v (E.length + 1) (cat OrdE.cs E ++ [.int .u8 (o.d : Int), .int .u32 (o.id : Int), .int .u8 (o.k : Int), .slice a o.C.length c]) :: Row 76 4 (.slice a o.C.length c) o.C.length (ccat o.C) :: (E.map orow ++ l)) → Own w0 w' (Buf b (E ++ [{ o with ao := a, cap := c }]) :: l)) := by
    intro w' a c v h'
    refine Own.bufS (v := v) ?_
    rw [List.length_append, List.length_singleton, cat_append, List.map_append]
    have hp : List.Perm (Cells b #[v] 73 :: Row 46 4 v (E.length + 1) (cat OrdE.cs E ++ [.int .u8 (o.d : Int), .int .u32 (o.id : Int), .int .u8 (o.k : Int), .slice a o.C.length c]) :: Row 76 4 (.slice a o.C.length c) o.C.length (ccat o.C) :: (E.map orow ++ l)) (Cells b #[v] 73 :: Row 46 4 v (E.length + 1) (cat OrdE.cs E ++ [.int .u8 (o.d : Int), .int .u32 (o.id : Int), .int .u8 (o.k : Int), .slice a o.C.length c]) :: ((E.map orow ++ [Row 76 4 (.slice a o.C.length c) o.C.length (ccat o.C)]) ++ l)) := by
      refine List.Perm.cons _ (List.Perm.cons _ ?_)
      rw [List.append_assoc]
      exact List.perm_middle.symm
    have := h'.perm hp
    simpa [cat, OrdE.cs, orow] using this
  unfold OrdE.ag at HC ⊢
  obtain ⟨d, id, k, C, ao, cap⟩ := o
  simp only at HC HA HCL HEND ⊢
  clear h hA hb hCs hi
  go_enter Tryd.func15, Tryd.ntmps15
  go_wp2_with fail
  refine HC.out.mono ?_
  rintro e w1 ⟨rfl, hf⟩
  have hB := HA.out.quiet hf
  have HB : Hid (Own w0 w1 _) := hB
  obtain ⟨ea, ec, hO⟩ := hB.two.bufO
  have q0 := hO.cell 0
  have p0 := hB.cell 3
  simp at q0 p0
  clear hB hO hf HC HA
  go_wp2_with fail
  refine (HCL.out _ HB.out).mono ?_
  rintro e w2 ⟨a, c, rfl, hO⟩
  clear HCL HB q0 p0
  have hO := hO.two
  have s3 := hO.cell 3
  have z3 := hO.froz 3
  simp at s3
  have HO2 : Hid (Own w0 w2 _) := hO
  clear hO
  go_wp2_with fail
  have hO3 := HO2.out.setC 3 (.slice a C.length c)
  generalize hw3 : w2.setCell ⟨w.heap.size, 3, none⟩ (.slice a C.length c) = w3 at *
  have c0 := hO3.cell 0
  have c1 := hO3.cell 1
  have c2 := hO3.cell 2
  have c3 := hO3.cell 3
  simp at c0 c1 c2 c3
  obtain ⟨ea, ec, hB⟩ := hO3.three.bufO
  have q0 := hB.cell 0
  simp at q0
  have hbw := hB.lt
  have hBw := hO3.lt
  have n1 : b ≠ w3.heap.size := by omega
  have n2 : w3.heap.size ≠ b := by omega
  have n3 : w.heap.size ≠ w3.heap.size := by omega
  have n4 : w3.heap.size ≠ w.heap.size := by omega
  obtain ⟨g', c', w4, hrun, hO4⟩ := run1_own (P := Tryd.prog) 22 22 46 i0 (.agg #[.int .u8 0, .int .u32 0, .int .u8 0, .slice none 0 0]) 4 40 Tryd.underlying22 hi0 hz0 hz1 hz2 rfl (by decide) _ E.length _ hB.two.drew #[.int .u8 (d : Int), .int .u32 (id : Int), .int .u8 (k : Int), .slice a C.length c] rfl (by intro u hu; simp at hu; rcases hu with rfl | rfl | rfl | rfl <;> rfl) (by unfold maxLen; omega) (by omega)
  have hszz : w3.drew.heap.size = w3.heap.size := rfl
  rw [hszz] at hrun
  have HRUN : Hid _ := hrun
  clear hrun hszz
  have k2 := hO4.two.cell 0
  have z2 := hO4.two.froz 0
  simp at k2
  have HF : Hid (Own w0 (w4.setCell ⟨b, 0, none⟩ (.slice (some ⟨g', 0, none⟩) (E.length + 1) c')) (Buf b (E ++ [⟨d, id, k, C, a, c⟩]) :: l)) := by
    refine HEND.out _ a c (.slice (some ⟨g', 0, none⟩) (E.length + 1) c') ?_
    have h5 := hO4.two.setC 0 (.slice (some ⟨g', 0, none⟩) (E.length + 1) c')
    have h6 := (h5.perm (List.Perm.cons _ (List.Perm.cons _ (List.perm_middle.trans (List.perm_middle.cons _))))).three.tail
    exact h6
  clear hO3 hB hO4 HEND s3 z3 hw3 HO2
  go_region_law (refine step_run rfl (.tmp 27) (.tmp 29) 22 22 22 rfl rfl (.slice ea E.length ec) (.slice (some ⟨w3.heap.size, 0, none⟩) 1 1) (.slice (some ⟨g', 0, none⟩) (E.length + 1) c') w4 (by simp [Act.eval]) (by simp [Act.eval]) HRUN.out ?_)
  all_goals
    go_wp2
    go_ret
    exact ⟨rfl, a, c, HF.out⟩
end Go.Proofs.YtmblhaoapinbiaaDoor

/-
  The document's example of orders.
-/
namespace Go.Proofs.YtmblhaoapinbiaaDoor
open Go.RowKit
set_option linter.unusedVariables false
set_option maxRecDepth 100000

/-- what becomes of a store by an order to spawn or to despawn -/
def stp (s : Sto × Nat) (o : OrdE) : (Int × Nat) × (Sto × Nat) :=
  if o.d = 1 then (res (s.1.spawn o.C).2.1 (s.1.spawn o.C).1, ((s.1.spawn o.C).2.2, s.2 + 1)) else (res (s.1.despawn o.id).1 o.id, ((s.1.despawn o.id).2, s.2 + 1))
theorem do12 (w0 w : World) (l : List Thing) (b : Nat) (s : Sto × Nat) (ht : Tab w0) (h : Own w0 w (Store b s.1 s.2 :: l)) (hσ : s.1.Ok) (hK : s.2 < 1000000) (o : OrdE) (hi : o.In) (hCs : ∀ w', Own w0 w' l → Cs w' o.ao o.C) (hb : o.ck = 0) (hd : o.d = 1 ∨ o.d = 2) :
    Calls Tryd.prog 17 #[.pointer (some ⟨b, 0, none⟩), o.ag] w fun e w' => e = .returned (rag (stp s o).1) ∧ Own w0 w' (Store b (stp s o).2.1 (stp s o).2.2 :: l) := by
  rcases hd with hd | hd
  · have e : stp s o = (res (s.1.spawn o.C).2.1 (s.1.spawn o.C).1, ((s.1.spawn o.C).2.2, s.2 + 1)) := by unfold stp; rw [if_pos hd]
    rw [e]
    exact do_of w0 w _ (Store b (s.1.spawn o.C).2.2 (s.2 + 1)) l h ht _ o hi hCs hb _ _ (fun w' l' h' hC => tell_spawn w0 w' l' b s.1 s.2 ht h' hσ o hi hd hC hK)
  · have e : stp s o = (res (s.1.despawn o.id).1 o.id, ((s.1.despawn o.id).2, s.2 + 1)) := by unfold stp; rw [if_neg (by omega)]
    rw [e]
    exact do_of w0 w _ (Store b (s.1.despawn o.id).2 (s.2 + 1)) l h ht _ o hi hCs hb _ _ (fun w' l' h' _ => tell_despawn w0 w' l' b s.1 s.2 h' hσ o hi hd hK)
def o1 : OrdE := ⟨1, 0, 0, [], none, 0⟩
def o2 : OrdE := ⟨2, 1024, 0, [], none, 0⟩
def o3 : OrdE := ⟨3, 0, 0, [], none, 0⟩
theorem o1_in : o1.In := ⟨by decide, by decide, by decide, by simp [o1], by decide⟩
theorem o2_in : o2.In := ⟨by decide, by decide, by decide, by simp [o2], by decide⟩
theorem o3_in : o3.In := ⟨by decide, by decide, by decide, by simp [o3], by decide⟩
theorem o1_ck : o1.ck = 0 := rfl
theorem o2_ck : o2.ck = 0 := rfl
theorem o3_ck : o3.ck = 4 := rfl
def ol : List OrdE := [o1, o2, o2]
def orr : List (Int × Nat) := [(0, 1024), (0, 1024), (7, 0)]
theorem ol_run : (runs stp (Sto.new 3 1, 0) ol).1 = orr := by kernel_rfl
theorem st_inv (s : Sto × Nat) (h : s.1.Ok) (o : OrdE) : (stp s o).2.1.Ok ∧ (stp s o).2.2 = s.2 + 1 := by
  unfold stp
  split
  · exact ⟨Sto.spawn_ok h _, rfl⟩
  · exact ⟨Sto.despawn_ok h _, rfl⟩
theorem ol_at {j : Nat} {o : OrdE} (h : ol[j]? = some o) : j < 3 ∧ o.In ∧ o.ck = 0 ∧ (o.d = 1 ∨ o.d = 2) ∧ o.C = [] := by
  match j, h with
  | 0, h => cases h; exact ⟨by decide, o1_in, o1_ck, .inl rfl, rfl⟩
  | 1, h => cases h; exact ⟨by decide, o2_in, o2_ck, .inr rfl, rfl⟩
  | 2, h => cases h; exact ⟨by decide, o2_in, o2_ck, .inr rfl, rfl⟩
  | n + 3, h => simp [ol] at h
def olc : Array Value := #[.int .u8 1, .int .u32 0, .int .u8 0, .slice none 0 0, .int .u8 2, .int .u32 1024, .int .u8 0, .slice none 0 0, .int .u8 2, .int .u32 1024, .int .u8 0, .slice none 0 0]
def orc : Array Value := #[.int .i64 0, .int .u32 1024, .int .i64 0, .int .u32 1024, .int .i64 7, .int .u32 0]
theorem ol_os {w0 w : World} {l : List Thing} {B : Nat} {t : TypeId} (h : Own w0 w (Cells B olc t :: l)) : Ords w (some ⟨B, 0, none⟩) ol := by
  refine ⟨.inr ⟨B, 0, rfl, fun j x hx => ?_⟩, fun x hx => ?_⟩
  · match j, hx with
    | 0, hx => cases hx; exact ⟨by rw [h.cell]; rfl, by rw [h.cell]; rfl, by rw [h.cell]; rfl, by rw [h.cell]; rfl⟩
    | 1, hx => cases hx; exact ⟨by rw [h.cell]; rfl, by rw [h.cell]; rfl, by rw [h.cell]; rfl, by rw [h.cell]; rfl⟩
    | 2, hx => cases hx; exact ⟨by rw [h.cell]; rfl, by rw [h.cell]; rfl, by rw [h.cell]; rfl, by rw [h.cell]; rfl⟩
    | n + 3, hx => simp [ol] at hx
  · obtain ⟨j, hj⟩ := List.getElem?_of_mem hx
    exact .inl (ol_at hj).2.2.2.2
theorem or_rs {w0 w : World} {l : List Thing} {B : Nat} {t : TypeId} (h : Own w0 w (Cells B orc t :: l)) : Rs w (some ⟨B, 0, none⟩) orr := by
  refine .inr ⟨B, 0, rfl, fun j x hx => ?_⟩
  match j, hx with
  | 0, hx => cases hx; exact ⟨by rw [h.cell]; rfl, by rw [h.cell]; rfl⟩
  | 1, hx => cases hx; exact ⟨by rw [h.cell]; rfl, by rw [h.cell]; rfl⟩
  | 2, hx => cases hx; exact ⟨by rw [h.cell]; rfl, by rw [h.cell]; rfl⟩
  | n + 3, hx => simp [orr] at hx

set_option maxHeartbeats 1000000 in
theorem awake13 (w0 w : World) (l : List Thing) (ht : Tab w0) (h : Own w0 w l) : Calls Tryd.prog 4 #[] w fun e w' => e = .returned (.bool true) ∧ Own w0 w' l := by
  have H : Hid (Own w0 w l) := h
  have HT : Hid (Tab w0) := ht
  clear h ht
  go_enter Tryd.func4, Tryd.ntmps4
  go_wp2_with fail
  refine (snew w0 w l 3 1 H.out (by decide) (by decide) (by decide) (by decide)).mono ?_
  rintro e w1 ⟨b, rfl, hO⟩
  have hA := (hO.allocC olc 46).two
  have HALL : Hid (Calls _ _ _ _ _) := all_of (fun s : Sto × Nat => Store b s.1 s.2) (fun j s => s.1.Ok ∧ s.2 = j) stp w0 _ _ (some ⟨b, 0, none⟩) (Sto.new 3 1, 0) hA (some ⟨w1.heap.size, 0, none⟩) 3 3 ol rfl (by decide) (fun w' h' => ol_os h') ⟨Sto.new_ok 3 1 (by decide) (by decide) (by decide) (by decide), rfl⟩
    (fun j s o w' l' ho hI h' hC => by
      obtain ⟨h3, h4, h5, h6, _⟩ := ol_at ho
      exact do12 w0 w' l' b s HT.out h' hI.1 (by rw [hI.2]; omega) o h4 hC h5 h6)
    (fun j s o ho hI => ⟨(st_inv s hI.1 o).1, by rw [(st_inv s hI.1 o).2, hI.2]⟩)
  clear hO hA H
  go_wp2_with fail
  refine HALL.out.mono ?_
  rintro e w2 ⟨ra, rc, rfl, hO, _⟩
  rw [ol_run] at hO
  have hB := hO.allocC orc 48
  have HSM : Hid (Calls _ _ _ _ _) := same_res _ ra (some ⟨w2.heap.size, 0, none⟩) 3 rc 3 orr (Own.rs hB.two rfl) (or_rs hB) rfl (by decide)
  have HB : Hid (Own w0 _ l) := hB.tail.tail.tail.tail
  clear hO hB HALL
  go_wp2_with fail
  refine HSM.out.mono ?_
  rintro e w3 ⟨rfl, hf⟩
  have H3 : Hid (Own w0 w3 l) := HB.out.quiet hf
  clear HB HSM hf
  go_wp2_with fail
  refine (onew w0 w3 l H3.out).mono ?_
  rintro e w4 ⟨bb, rfl, hO⟩
  have HP : Hid (Calls _ _ _ _ _) := push_bad w0 w4 _ bb HT.out hO.tail o3 o3_in (fun _ _ => .inl rfl) (by rw [o3_ck]; decide)
  rw [o3_ck] at HP
  clear hO H3
  go_wp2_with fail
  refine HP.out.mono ?_
  rintro e w5 ⟨rfl, hO⟩
  have H5 : Hid (Own w0 w5 l) := hO
  clear hO HP
  go_wp2
  go_ret
  exact ⟨rfl, H5.out⟩
end Go.Proofs.YtmblhaoapinbiaaDoor

/-
  Orders that come in; orders on no store.
-/
namespace Go.Proofs.YtmblhaoapinbiaaDoor
open Go.ChangeShapes Go.WideShapes Go.ChangeAt Go.RowKit Go.Deep
set_option linter.unusedVariables false
set_option maxRecDepth 100000

theorem cellsOrd : Tryd.prog.cellsOf 46 = 4 := by kernel_rfl
theorem cellsOB : Tryd.prog.cellsOf 5 = 1 := by kernel_rfl
theorem cellsOU : Tryd.prog.cellsOf 37 = 1 := by kernel_rfl
theorem cellsOC : Tryd.prog.cellsOf 38 = 1 := by kernel_rfl
theorem lst4 {β : Type} {l : List β} (h : l.length = 4) : ∃ a b c d, l = [a, b, c, d] := by
  match l, h with
  | [a, b, c, d], _ => exact ⟨a, b, c, d, rfl⟩
/-- an order that comes in -/
def OrdT (W : World) (cs : List Value) (o : OrdE) : Prop := cs = o.cs ∧ o.d < 256 ∧ o.id < 4294967296 ∧ o.k < 256 ∧ IsComps W o.ao o.C.length o.cap o.C
theorem ord_is {H : Type} {enc : TypeId × Value → H} {W : World} (fuel : Nat) (cs : List Value) (x : DataW H × List MemPlace)
    (h : DataW.trod enc Tryd.prog W 0 (fun _ => true) true fuel 46 cs = some x) : ∃ o, OrdT W cs o := by
  obtain ⟨xs, n, _, hx, hl, hlen, hf⟩ := DataW.trod_struct Tryd.underlying46 h
  rw [cellsOrd] at hl
  obtain ⟨c0, c1, c2, c3, rfl⟩ := lst4 hl
  obtain ⟨y0, y1, y2, y3, rfl⟩ := lst4 hlen
  have h0 := hf 0 _ rfl
  have h1 := hf 1 _ rfl
  have h2 := hf 2 _ rfl
  have h3 := hf 3 _ rfl
  simp [cellsOB, cellsOU, cellsOC] at h0 h1 h2 h3
  obtain ⟨a, a0, _, wa⟩ := DataW.trod_int Tryd.underlying5 h0
  obtain ⟨b, b0, _, wb⟩ := DataW.trod_int Tryd.underlying37 h1
  obtain ⟨c, e0, _, wc⟩ := DataW.trod_int Tryd.underlying5 h2
  simp at a0 b0 e0
  subst a0 b0 e0
  have ha : 0 ≤ a ∧ a ≤ 255 := by simpa [Lit.wf, IntKind.min, IntKind.max, IntKind.signed, IntKind.bits] using wa
  have hb : 0 ≤ b ∧ b ≤ 4294967295 := by simpa [Lit.wf, IntKind.min, IntKind.max, IntKind.signed, IntKind.bits] using wb
  have hc : 0 ≤ c ∧ c ≤ 255 := by simpa [Lit.wf, IntKind.min, IntKind.max, IntKind.signed, IntKind.bits] using wc
  obtain ⟨an, rfl⟩ := Int.eq_ofNat_of_zero_le ha.1
  obtain ⟨bn, rfl⟩ := Int.eq_ofNat_of_zero_le hb.1
  obtain ⟨cn, rfl⟩ := Int.eq_ofNat_of_zero_le hc.1
  obtain ⟨ao, len, cap, hv⟩ : ∃ ao len cap, c3 = .slice ao len cap := by
    rcases open_slice Tryd.underlying38 h3 with ⟨hc, _⟩ | ⟨a, l, c, m, n, D, Pl, hc, _⟩
    · simp at hc; exact ⟨_, _, _, hc⟩
    · simp at hc; exact ⟨_, _, _, hc⟩
  subst hv
  obtain ⟨d, p⟩ := y3
  obtain ⟨Q, hQ⟩ : ∃ Q, IsComps W ao len cap Q := open_rows 4 Tryd.underlying38 cellsComp (by decide) CompIs (fun fuel cs x hx => by
    obtain ⟨k, a, b, c, h1, h2, h3, h4, hcs, _⟩ := comp_cells hx
    obtain ⟨n, rfl, hn⟩ := ok8_nat h1
    exact ⟨⟨n, a, b, c⟩, hcs, hn⟩) ⟨_, h3⟩
  have hql := hQ.1
  subst hql
  exact ⟨⟨an, bn, cn, Q, ao, cap⟩, rfl, by show an < _; omega, by show bn < _; omega, by show cn < _; omega, hQ⟩
theorem open_order {H : Type} {enc : TypeId × Value → H} {W : World} {base : Nat} {v : Value} {d : DataW H} {p : List MemPlace}
    (hv : Value.okWide Tryd.prog W .any base 46 v) (h : DataW.Trod enc Tryd.prog W 0 (fun _ => true) true 46 v d p) : ∃ o : OrdE, v = o.ag ∧ o.d < 256 ∧ o.id < 4294967296 ∧ o.k < 256 ∧ IsComps W o.ao o.C.length o.cap o.C := by
  obtain ⟨cs, rfl, hsz, _⟩ : ∃ cs, v = .agg cs ∧ cs.size = Tryd.prog.cellsOf 46 ∧ Row.okWide Tryd.prog W .any base 46 cs := by
    simpa [Value.okWide, Tryd.underlying46] using hv
  obtain ⟨fuel, hf⟩ := h
  obtain ⟨o, he, h1, h2, h3, h4⟩ := ord_is fuel _ _ hf
  refine ⟨o, ?_, h1, h2, h3, h4⟩
  have : cs.toList = o.cs := he
  unfold OrdE.ag
  congr 1
  apply Array.toList_inj.1
  rw [this]; rfl

theorem Own.emp {w0 w : World} {l : List Thing} (h : Own w0 w l) : Own w0 w (Emp :: l) := h.new Emp (fun _ => False) (fun _ h => h) (Fr.refl _ _) (fun _ h => h.elim)
set_option maxHeartbeats 1000000 in
theorem tell_nil1 (w0 w : World) (l : List Thing) (h : Own w0 w l) (id k : Nat) (C : List Cp) (ao : Option Addr) (len cap : Nat) (hl : C.length = len) (hCs : ∀ w', Own w0 w' l → Cs w' ao C) :
    Calls Tryd.prog 29 #[.pointer none, .agg #[.int .u8 1, .int .u32 (id : Int), .int .u8 (k : Int), .slice ao len cap]] w fun e w' => e = .returned (.tuple #[.int .u32 0, .int .i64 10]) ∧ Own w0 w' l := by
  have hA := h.allocC #[.int .u8 1, .int .u32 (id : Int), .int .u8 (k : Int), .slice ao len cap] 46
  have HA : Hid (Own w0 _ _) := hA
  have b1 := hA.cell 1
  have b2 := hA.cell 2
  have b3 := hA.cell 3
  simp at b1 b2 b3
  clear h hA hCs
  go_enter Tryd.func29, Tryd.ntmps29
  go_wp2_with fail
  refine (spawn_nil _ _).mono ?_
  rintro e w1 ⟨rfl, hf⟩
  go_wp2
  go_ret2
  exact ⟨rfl, HA.out.tail.quiet hf⟩
set_option maxHeartbeats 1000000 in
theorem tell_nil2 (w0 w : World) (l : List Thing) (h : Own w0 w l) (id k : Nat) (C : List Cp) (ao : Option Addr) (len cap : Nat) (hl : C.length = len) (hCs : ∀ w', Own w0 w' l → Cs w' ao C) :
    Calls Tryd.prog 29 #[.pointer none, .agg #[.int .u8 2, .int .u32 (id : Int), .int .u8 (k : Int), .slice ao len cap]] w fun e w' => e = .returned (.tuple #[.int .u32 (id : Int), .int .i64 10]) ∧ Own w0 w' l := by
  have hA := h.allocC #[.int .u8 2, .int .u32 (id : Int), .int .u8 (k : Int), .slice ao len cap] 46
  have HA : Hid (Own w0 _ _) := hA
  have b1 := hA.cell 1
  have b2 := hA.cell 2
  have b3 := hA.cell 3
  simp at b1 b2 b3
  clear h hA hCs
  go_enter Tryd.func29, Tryd.ntmps29
  go_wp2_with fail
  go_region_held3 (fun w' => w'.cell? ⟨w.heap.size, 1, none⟩ = some (.int .u32 (id : Int))) (go_keep)
    (first
     | (go_at_call 39; refine (despawn_nil _ _).mono ?_; rintro e w1 ⟨rfl, hf⟩
        have hB := HA.out.drew.quiet hf
        have t1 := hB.cell 1
        simp at t1
        have HB : Hid (Own w0 w1 _) := hB
        clear hB hf))
  all_goals
    go_wp2
    go_ret2
    exact ⟨rfl, HB.out.tail⟩
set_option maxHeartbeats 1000000 in
theorem tell_nil3 (w0 w : World) (l : List Thing) (h : Own w0 w l) (id k : Nat) (C : List Cp) (ao : Option Addr) (len cap : Nat) (hl : C.length = len) (hCs : ∀ w', Own w0 w' l → Cs w' ao C) (h1 : len = 1) :
    Calls Tryd.prog 29 #[.pointer none, .agg #[.int .u8 3, .int .u32 (id : Int), .int .u8 (k : Int), .slice ao len cap]] w fun e w' => e = .returned (.tuple #[.int .u32 (id : Int), .int .i64 10]) ∧ Own w0 w' l := by
  have hA := h.allocC #[.int .u8 3, .int .u32 (id : Int), .int .u8 (k : Int), .slice ao len cap] 46
  subst h1
  obtain ⟨q, rfl⟩ : ∃ q, C = [q] := List.length_eq_one_iff.1 (by omega)
  obtain ⟨g, o, rfl, _, c0, c1, c2, c3⟩ := (hCs _ hA.tail).at 0 q rfl
  simp only [Nat.zero_mul, Nat.add_zero] at c0 c1 c2 c3
  obtain ⟨qk, qa, qb, qc⟩ := q
  have HCE : Hid (∀ w', Own w0 w' l → At4 w' g o ⟨qk, qa, qb, qc⟩) := by
    intro w' h'
    obtain ⟨g', o', he, _, hat⟩ := (hCs _ h').at 0 _ rfl
    cases he
    simpa using hat
  simp only at c0 c1 c2 c3
  have HA : Hid (Own w0 _ _) := hA
  have b1 := hA.cell 1
  have b2 := hA.cell 2
  have b3 := hA.cell 3
  simp at b1 b2 b3
  clear h hA hCs
  go_enter Tryd.func29, Tryd.ntmps29
  go_wp2_with fail
  go_region_held3 (fun w' => w'.cell? ⟨w.heap.size, 1, none⟩ = some (.int .u32 (id : Int)) ∧ w'.cell? ⟨w.heap.size, 3, none⟩ = some (.slice (some ⟨g, o, none⟩) 1 cap) ∧ w'.cell? ⟨g, o, none⟩ = some (.int .u8 (qk : Int)) ∧ w'.cell? ⟨g, o + 1, none⟩ = some (.int .i32 qa) ∧ w'.cell? ⟨g, o + 2, none⟩ = some (.int .i32 qb) ∧ w'.cell? ⟨g, o + 3, none⟩ = some (.int .i32 qc)) (go_keep)
    (first
     | (go_at_call 40; refine (set_nil _ _ _ _ _ _).mono ?_; rintro e w1 ⟨rfl, hf⟩
        have hB := HA.out.drew.quiet hf
        have t1 := hB.cell 1
        simp at t1
        have t3 := hB.cell 3
        simp at t3
        obtain ⟨s0, s1, s2, s3⟩ := HCE.out _ hB.tail
        have HB : Hid (Own w0 w1 _) := hB
        clear hB hf))
  all_goals
    go_wp2
    go_ret2
    exact ⟨rfl, HB.out.tail⟩
set_option maxHeartbeats 1000000 in
theorem tell_nil4 (w0 w : World) (l : List Thing) (h : Own w0 w l) (id k : Nat) (C : List Cp) (ao : Option Addr) (len cap : Nat) (hl : C.length = len) (hCs : ∀ w', Own w0 w' l → Cs w' ao C) (h1 : len = 1) :
    Calls Tryd.prog 29 #[.pointer none, .agg #[.int .u8 4, .int .u32 (id : Int), .int .u8 (k : Int), .slice ao len cap]] w fun e w' => e = .returned (.tuple #[.int .u32 (id : Int), .int .i64 10]) ∧ Own w0 w' l := by
  have hA := h.allocC #[.int .u8 4, .int .u32 (id : Int), .int .u8 (k : Int), .slice ao len cap] 46
  subst h1
  obtain ⟨q, rfl⟩ : ∃ q, C = [q] := List.length_eq_one_iff.1 (by omega)
  obtain ⟨g, o, rfl, _, c0, c1, c2, c3⟩ := (hCs _ hA.tail).at 0 q rfl
  simp only [Nat.zero_mul, Nat.add_zero] at c0 c1 c2 c3
  obtain ⟨qk, qa, qb, qc⟩ := q
  have HCE : Hid (∀ w', Own w0 w' l → At4 w' g o ⟨qk, qa, qb, qc⟩) := by
    intro w' h'
    obtain ⟨g', o', he, _, hat⟩ := (hCs _ h').at 0 _ rfl
    cases he
    simpa using hat
  simp only at c0 c1 c2 c3
  have HA : Hid (Own w0 _ _) := hA
  have b1 := hA.cell 1
  have b2 := hA.cell 2
  have b3 := hA.cell 3
  simp at b1 b2 b3
  clear h hA hCs
  go_enter Tryd.func29, Tryd.ntmps29
  go_wp2_with fail
  go_region_held3 (fun w' => w'.cell? ⟨w.heap.size, 1, none⟩ = some (.int .u32 (id : Int)) ∧ w'.cell? ⟨w.heap.size, 3, none⟩ = some (.slice (some ⟨g, o, none⟩) 1 cap) ∧ w'.cell? ⟨g, o, none⟩ = some (.int .u8 (qk : Int)) ∧ w'.cell? ⟨g, o + 1, none⟩ = some (.int .i32 qa) ∧ w'.cell? ⟨g, o + 2, none⟩ = some (.int .i32 qb) ∧ w'.cell? ⟨g, o + 3, none⟩ = some (.int .i32 qc)) (go_keep)
    (first
     | (go_at_call 41; refine (add_nil _ _ _ _ _ _).mono ?_; rintro e w1 ⟨rfl, hf⟩
        have hB := HA.out.drew.quiet hf
        have t1 := hB.cell 1
        simp at t1
        have t3 := hB.cell 3
        simp at t3
        obtain ⟨s0, s1, s2, s3⟩ := HCE.out _ hB.tail
        have HB : Hid (Own w0 w1 _) := hB
        clear hB hf))
  all_goals
    go_wp2
    go_ret2
    exact ⟨rfl, HB.out.tail⟩
set_option maxHeartbeats 1000000 in
theorem tell_nil5 (w0 w : World) (l : List Thing) (h : Own w0 w l) (id k : Nat) (C : List Cp) (ao : Option Addr) (len cap : Nat) (hl : C.length = len) (hCs : ∀ w', Own w0 w' l → Cs w' ao C) :
    Calls Tryd.prog 29 #[.pointer none, .agg #[.int .u8 5, .int .u32 (id : Int), .int .u8 (k : Int), .slice ao len cap]] w fun e w' => e = .returned (.tuple #[.int .u32 (id : Int), .int .i64 10]) ∧ Own w0 w' l := by
  have hA := h.allocC #[.int .u8 5, .int .u32 (id : Int), .int .u8 (k : Int), .slice ao len cap] 46
  have HA : Hid (Own w0 _ _) := hA
  have b1 := hA.cell 1
  have b2 := hA.cell 2
  have b3 := hA.cell 3
  simp at b1 b2 b3
  clear h hA hCs
  go_enter Tryd.func29, Tryd.ntmps29
  go_wp2_with fail
  go_region_held3 (fun w' => w'.cell? ⟨w.heap.size, 1, none⟩ = some (.int .u32 (id : Int)) ∧ w'.cell? ⟨w.heap.size, 2, none⟩ = some (.int .u8 (k : Int))) (go_keep)
    (first
     | (go_at_call 42; refine (remove_nil _ _ _).mono ?_; rintro e w1 ⟨rfl, hf⟩
        have hB := HA.out.drew.quiet hf
        have t1 := hB.cell 1
        simp at t1
        have t2 := hB.cell 2
        simp at t2
        have HB : Hid (Own w0 w1 _) := hB
        clear hB hf))
  all_goals
    go_wp2
    go_ret2
    exact ⟨rfl, HB.out.tail⟩
theorem ock_one {d k : Nat} {C : List Cp} (hd : d = 3 ∨ d = 4) (h : ock d k C = 0) : C.length = 1 := by
  unfold ock at h
  rw [if_neg (by omega), if_neg (by omega), if_pos hd] at h
  split at h
  · assumption
  · cases h
theorem ock_ways {d k : Nat} {C : List Cp} (h : ock d k C = 0) : d = 1 ∨ d = 2 ∨ d = 3 ∨ d = 4 ∨ d = 5 := by
  rcases Nat.lt_or_ge d 1 with c | c
  · rw [ock_bad d k C (.inl c)] at h; cases h
  · rcases Nat.lt_or_ge 5 d with e | e
    · rw [ock_bad d k C (.inr e)] at h; cases h
    · omega
theorem do_none (w0 w : World) (l : List Thing) (ht : Tab w0) (h : Own w0 w l) (o : OrdE) (hi : o.In) (hCs : ∀ w', Own w0 w' l → Cs w' o.ao o.C) :
    Calls Tryd.prog 17 #[.pointer none, o.ag] w fun e w' => e = .returned (rag (if o.ck = 0 then (10, 0) else ((o.ck : Int), 0))) ∧ Own w0 w' l := by
  by_cases hb : o.ck = 0
  · rw [if_pos hb]
    have key : ∀ id : Nat, (∀ w' l', Own w0 w' (Emp :: l') → (∀ w'', Own w0 w'' l' → Cs w'' o.ao o.C) → Calls Tryd.prog 29 #[.pointer none, o.ag] w' fun e w'' => e = .returned (.tuple #[.int .u32 (id : Int), .int .i64 10]) ∧ Own w0 w'' (Emp :: l')) → Calls Tryd.prog 17 #[.pointer none, o.ag] w fun e w' => e = .returned (rag (10, 0)) ∧ Own w0 w' l := by
      intro id HT
      refine (do_of w0 w Emp Emp l h.emp ht none o hi hCs hb id 10 HT).mono ?_
      rintro e w' ⟨rfl, h'⟩
      exact ⟨rfl, h'.tail⟩
    obtain ⟨d, id, k, C, ao, cap⟩ := o
    have hw := ock_ways hb
    simp only at hw key
    rcases hw with rfl | rfl | rfl | rfl | rfl
    · exact key 0 (fun w' l' h' hC => (tell_nil1 w0 w' l' h'.tail id k C ao C.length cap rfl hC).mono fun e w'' ⟨he, h2⟩ => ⟨he, h2.emp⟩)
    · exact key id (fun w' l' h' hC => (tell_nil2 w0 w' l' h'.tail id k C ao C.length cap rfl hC).mono fun e w'' ⟨he, h2⟩ => ⟨he, h2.emp⟩)
    · exact key id (fun w' l' h' hC => (tell_nil3 w0 w' l' h'.tail id k C ao C.length cap rfl hC (ock_one (.inl rfl) hb)).mono fun e w'' ⟨he, h2⟩ => ⟨he, h2.emp⟩)
    · exact key id (fun w' l' h' hC => (tell_nil4 w0 w' l' h'.tail id k C ao C.length cap rfl hC (ock_one (.inr rfl) hb)).mono fun e w'' ⟨he, h2⟩ => ⟨he, h2.emp⟩)
    · exact key id (fun w' l' h' hC => (tell_nil5 w0 w' l' h'.tail id k C ao C.length cap rfl hC).mono fun e w'' ⟨he, h2⟩ => ⟨he, h2.emp⟩)
  · rw [if_neg hb]
    exact do_bad w0 w l h ht none o hi hCs hb
end Go.Proofs.YtmblhaoapinbiaaDoor
