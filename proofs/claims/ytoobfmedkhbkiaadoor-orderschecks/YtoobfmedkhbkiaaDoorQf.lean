/-
  The document's example of orders.
-/
import Derived.Test.YtoobfmedkhbkiaaDoorQe
namespace Go.Proofs.YtoobfmedkhbkiaaDoor
open Go.RowKit
set_option linter.unusedVariables false
set_option maxRecDepth 100000

/-- what becomes of a store by an order to spawn or to despawn -/
def stp (s : Sto × Nat) (o : OrdE) : (Int × Nat) × (Sto × Nat) :=
  if o.d = 1 then (res (s.1.spawn o.C).2.1 (s.1.spawn o.C).1, ((s.1.spawn o.C).2.2, s.2 + 1)) else (res (s.1.despawn o.id).1 o.id, ((s.1.despawn o.id).2, s.2 + 1))
theorem do12 (w0 w : World) (l : List Thing) (b : Nat) (s : Sto × Nat) (ht : Tab w0) (h : Own w0 w (Store b s.1 s.2 :: l)) (hσ : s.1.Ok) (hK : s.2 < 1000000) (o : OrdE) (hi : o.In) (hCs : ∀ w', Own w0 w' l → Cs w' o.ao o.C) (hb : o.ck = 0) (hd : o.d = 1 ∨ o.d = 2) :
    Calls Tryd.prog 16 #[.pointer (some ⟨b, 0, none⟩), o.ag] w fun e w' => e = .returned (rag (stp s o).1) ∧ Own w0 w' (Store b (stp s o).2.1 (stp s o).2.2 :: l) := by
  rcases hd with hd | hd
  · have e : stp s o = (res (s.1.spawn o.C).2.1 (s.1.spawn o.C).1, ((s.1.spawn o.C).2.2, s.2 + 1)) := by unfold stp; rw [if_pos hd]
    rw [e]
    exact do_of w0 w _ (Store b (s.1.spawn o.C).2.2 (s.2 + 1)) l h ht _ o hi hCs hb _ _ (fun w' l' h' hC => tell_spawn w0 w' l' b s.1 s.2 ht h' hσ o hi hd hC hK)
  · have e : stp s o = (res (s.1.despawn o.id).1 o.id, ((s.1.despawn o.id).2, s.2 + 1)) := by unfold stp; rw [if_neg (by omega)]
    rw [e]
    exact do_of w0 w _ (Store b (s.1.despawn o.id).2 (s.2 + 1)) l h ht _ o hi hCs hb _ _ (fun w' l' h' _ => tell_despawn w0 w' l' b s.1 s.2 h' hσ o hi hd hK)
def o1 : OrdE := ⟨1, 0, 0, [], none, 0⟩
def o2 : OrdE := ⟨2, 1024, 0, [], none, 0⟩
def o3 : OrdE := ⟨3, 0, 0, [], none, 0⟩
theorem o1_in : o1.In := ⟨by decide, by decide, by decide, by simp [o1], by decide⟩
theorem o2_in : o2.In := ⟨by decide, by decide, by decide, by simp [o2], by decide⟩
theorem o3_in : o3.In := ⟨by decide, by decide, by decide, by simp [o3], by decide⟩
theorem o1_ck : o1.ck = 0 := rfl
theorem o2_ck : o2.ck = 0 := rfl
theorem o3_ck : o3.ck = 4 := rfl
def ol : List OrdE := [o1, o2, o2]
def orr : List (Int × Nat) := [(0, 1024), (0, 1024), (7, 0)]
theorem ol_run : (runs stp (Sto.new 3 1, 0) ol).1 = orr := by kernel_rfl
theorem st_inv (s : Sto × Nat) (h : s.1.Ok) (o : OrdE) : (stp s o).2.1.Ok ∧ (stp s o).2.2 = s.2 + 1 := by
  unfold stp
  split
  · exact ⟨Sto.spawn_ok h _, rfl⟩
  · exact ⟨Sto.despawn_ok h _, rfl⟩
theorem ol_at {j : Nat} {o : OrdE} (h : ol[j]? = some o) : j < 3 ∧ o.In ∧ o.ck = 0 ∧ (o.d = 1 ∨ o.d = 2) ∧ o.C = [] := by
  match j, h with
  | 0, h => cases h; exact ⟨by decide, o1_in, o1_ck, .inl rfl, rfl⟩
  | 1, h => cases h; exact ⟨by decide, o2_in, o2_ck, .inr rfl, rfl⟩
  | 2, h => cases h; exact ⟨by decide, o2_in, o2_ck, .inr rfl, rfl⟩
  | n + 3, h => simp [ol] at h
def olc : Array Value := #[.int .u8 1, .int .u32 0, .int .u8 0, .slice none 0 0, .int .u8 2, .int .u32 1024, .int .u8 0, .slice none 0 0, .int .u8 2, .int .u32 1024, .int .u8 0, .slice none 0 0]
def orc : Array Value := #[.int .i64 0, .int .u32 1024, .int .i64 0, .int .u32 1024, .int .i64 7, .int .u32 0]
theorem ol_os {w0 w : World} {l : List Thing} {B : Nat} {t : TypeId} (h : Own w0 w (Cells B olc t :: l)) : Ords w (some ⟨B, 0, none⟩) ol := by
  refine ⟨.inr ⟨B, 0, rfl, fun j x hx => ?_⟩, fun x hx => ?_⟩
  · match j, hx with
    | 0, hx => cases hx; exact ⟨by rw [h.cell]; rfl, by rw [h.cell]; rfl, by rw [h.cell]; rfl, by rw [h.cell]; rfl⟩
    | 1, hx => cases hx; exact ⟨by rw [h.cell]; rfl, by rw [h.cell]; rfl, by rw [h.cell]; rfl, by rw [h.cell]; rfl⟩
    | 2, hx => cases hx; exact ⟨by rw [h.cell]; rfl, by rw [h.cell]; rfl, by rw [h.cell]; rfl, by rw [h.cell]; rfl⟩
    | n + 3, hx => simp [ol] at hx
  · obtain ⟨j, hj⟩ := List.getElem?_of_mem hx
    exact .inl (ol_at hj).2.2.2.2
theorem or_rs {w0 w : World} {l : List Thing} {B : Nat} {t : TypeId} (h : Own w0 w (Cells B orc t :: l)) : Rs w (some ⟨B, 0, none⟩) orr := by
  refine .inr ⟨B, 0, rfl, fun j x hx => ?_⟩
  match j, hx with
  | 0, hx => cases hx; exact ⟨by rw [h.cell]; rfl, by rw [h.cell]; rfl⟩
  | 1, hx => cases hx; exact ⟨by rw [h.cell]; rfl, by rw [h.cell]; rfl⟩
  | 2, hx => cases hx; exact ⟨by rw [h.cell]; rfl, by rw [h.cell]; rfl⟩
  | n + 3, hx => simp [orr] at hx

set_option maxHeartbeats 1000000 in
theorem awake13 (w0 w : World) (l : List Thing) (ht : Tab w0) (h : Own w0 w l) : Calls Tryd.prog 6 #[] w fun e w' => e = .returned (.bool true) ∧ Own w0 w' l := by
  have H : Hid (Own w0 w l) := h
  have HT : Hid (Tab w0) := ht
  clear h ht
  go_enter Tryd.func6, Tryd.ntmps6
  go_wp2_with fail
  refine (snew w0 w l 3 1 H.out (by decide) (by decide) (by decide) (by decide)).mono ?_
  rintro e w1 ⟨b, rfl, hO⟩
  have hA := (hO.allocC olc 32).two
  have HALL : Hid (Calls _ _ _ _ _) := all_of (fun s : Sto × Nat => Store b s.1 s.2) (fun j s => s.1.Ok ∧ s.2 = j) stp w0 _ _ (some ⟨b, 0, none⟩) (Sto.new 3 1, 0) hA (some ⟨w1.heap.size, 0, none⟩) 3 3 ol rfl (by decide) (fun w' h' => ol_os h') ⟨Sto.new_ok 3 1 (by decide) (by decide) (by decide) (by decide), rfl⟩
    (fun j s o w' l' ho hI h' hC => by
      obtain ⟨h3, h4, h5, h6, _⟩ := ol_at ho
      exact do12 w0 w' l' b s HT.out h' hI.1 (by rw [hI.2]; omega) o h4 hC h5 h6)
    (fun j s o ho hI => ⟨(st_inv s hI.1 o).1, by rw [(st_inv s hI.1 o).2, hI.2]⟩)
  clear hO hA H
  go_wp2_with fail
  refine HALL.out.mono ?_
  rintro e w2 ⟨ra, rc, rfl, hO, _⟩
  rw [ol_run] at hO
  have hB := hO.allocC orc 44
  have HSM : Hid (Calls _ _ _ _ _) := same_res _ ra (some ⟨w2.heap.size, 0, none⟩) 3 rc 3 orr (Own.rs hB.two rfl) (or_rs hB) rfl (by decide)
  have HB : Hid (Own w0 _ l) := hB.tail.tail.tail.tail
  clear hO hB HALL
  go_wp2_with fail
  refine HSM.out.mono ?_
  rintro e w3 ⟨rfl, hf⟩
  have H3 : Hid (Own w0 w3 l) := HB.out.quiet hf
  clear HB HSM hf
  go_wp2_with fail
  refine (onew w0 w3 l H3.out).mono ?_
  rintro e w4 ⟨bb, rfl, hO⟩
  have HP : Hid (Calls _ _ _ _ _) := push_bad w0 w4 _ bb HT.out hO.tail o3 o3_in (fun _ _ => .inl rfl) (by rw [o3_ck]; decide)
  rw [o3_ck] at HP
  clear hO H3
  go_wp2_with fail
  refine HP.out.mono ?_
  rintro e w5 ⟨rfl, hO⟩
  have H5 : Hid (Own w0 w5 l) := hO
  clear hO HP
  go_wp2
  go_ret
  exact ⟨rfl, H5.out⟩
end Go.Proofs.YtoobfmedkhbkiaaDoor
