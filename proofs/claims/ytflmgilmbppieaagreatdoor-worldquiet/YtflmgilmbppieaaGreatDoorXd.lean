/-
  Package slots: Take, Free, Live, Len, Room on slots.
-/
import Derived.Test.YtflmgilmbppieaaGreatDoorXc
namespace Go.Proofs.YtflmgilmbppieaaGreatDoor
open Go.RowKit
set_option linter.unusedVariables false

theorem takeAgain_ok (w0 w : World) (l : List Thing) (b : Nat) (S : St) (f : Nat) (h : Own w0 w (Slots b S :: l)) (hS : S.Ok) (hf : S.freed.getLast? = some f) :
    Calls Tryz.prog 243 #[.pointer (some ⟨b, 0, none⟩)] w fun e w' => e = .returned (.int .u32 ((S.last.getD f 0 + 1024 : Nat) : Int)) ∧ Own w0 w' (Slots b (S.again f) :: l) := by
  obtain ⟨⟨v1, v2, v3⟩, h⟩ := Own.ex_iff.1 h
  have e := dropLast_of _ _ hf
  have hlen : S.freed.length = S.freed.dropLast.length + 1 := by
    have := congrArg List.length e
    rw [List.length_append, List.length_singleton] at this; exact this
  have hm : f ∈ S.freed := by rw [e]; simp
  obtain ⟨hu, x, hx, hg⟩ := hS.fr f hm
  have hgd := hS.getD hx
  have hid := hS.id f x hx
  have hf1 := hS.lt hm
  have hf2 : f < S.used.length := by rw [hS.ul]; exact hf1
  have hn := hS.n2
  have hle := hS.le
  have hcnt := hS.cnt
  have r1 := h.two.row
  have r2 := h.three.row
  have r3 := h.four.row
  obtain ⟨g1, c1, rfl, _⟩ := row_shape r1 (by show 0 < S.last.length; omega)
  obtain ⟨g2, c2, rfl, _⟩ := row_shape r2 (by show 0 < S.used.length; omega)
  obtain ⟨g3, c3, rfl, _⟩ := row_shape r3 (by show 0 < S.freed.length; omega)
  have q2 := h.cell 2
  have q3 := h.cell 3
  have q4 := h.cell 4
  have q5 := h.cell 5
  have d1 := h.ne
  have d2 := h.in23.ne
  have d3 := h.four.two.ne
  have d12 := h.tail.neR g1 rfl
  rw [hgd]
  have hk := (row_cap r3).2.1
  refine (again0 w b g1 g2 g3 S.last.length S.used.length S.freed.dropLast.length c1 c2 c3 f x (S.live : Int) (by omega) hf1 hf2 (by omega) (by omega) (by omega) (by omega) q2 q3 (by rw [← hlen]; exact q4) q5 (h.froz 4) (h.froz 5) ?_ ?_ (r1.frozenAt f) (r2.frozenAt f) (fun q => d1 (by rw [q]; rfl)) (fun q => d2 (by rw [q]; rfl)) (fun q => d3 (by rw [q]; rfl)) (fun q => d12 (by rw [q]; rfl)) ?_).mono ?_
  · rw [r3.cellAt _ (by omega), getElem?_irow, e, List.getElem?_append_right (by simp)]; simp
  · rw [r1.cellAt _ (by omega), getElem?_irow, hx]; rfl
  · exact ⟨_, by rw [r2.cellAt _ (by omega), getElem?_brow, hu]; rfl⟩
  rintro e' w' ⟨rfl, rfl⟩
  refine ⟨rfl, Own.ex_iff.2 ⟨(.slice (some ⟨g1, 0, none⟩) S.last.length c1, .slice (some ⟨g2, 0, none⟩) S.used.length c2, .slice (some ⟨g3, 0, none⟩) S.freed.dropLast.length c3), ?_⟩⟩
  have k1 := (h.four.cut (m := S.freed.dropLast.length) (by omega)).back4.two.two
  have k2 := ((k1.setC 4 (.slice (some ⟨g3, 0, none⟩) S.freed.dropLast.length c3)).two.setR f (.int .u32 ((x + 1024 : Nat) : Int))).two
  have k3 := ((k2.three.setR f (.bool true)).back3.setC 5 (.int .i64 ((S.live : Int) + 1)))
  have e1 : irow .u32 (S.again f).last = (irow .u32 S.last).set f (.int .u32 ((x + 1024 : Nat) : Int)) := by simp only [St.again, hgd]; exact irow_set _ _ _ _
  have e2 : brow (S.again f).used = (brow S.used).set f (.bool true) := by simp only [St.again]; exact brow_set _ _ _
  have e3 : irow .i64 (S.again f).freed = (irow .i64 S.freed).take (S.freed.dropLast.length * 1) := by
    simp only [St.again]; rw [← irow_take, Nat.mul_one]; congr 1
    rw [List.length_dropLast, List.dropLast_eq_take]
  have e5 : ((S.again f).live : Int) = (S.live : Int) + 1 := by simp [St.again]
  have e6 : (S.again f).last.length = S.last.length := by simp [St.again]
  have e7 : (S.again f).used.length = S.used.length := by simp [St.again]
  rw [e1, e2, e3, e5, e6, e7]
  exact k3

set_option maxHeartbeats 1000000 in
set_option maxRecDepth 100000 in
theorem take_ok (w0 w : World) (l : List Thing) (b : Nat) (S : St) (h : Own w0 w (Slots b S :: l)) (hS : S.Ok) :
    Calls Tryz.prog 212 #[.pointer (some ⟨b, 0, none⟩)] w fun e w' => e = .returned (.tuple #[.int .u32 (S.take.1 : Int), .int .i64 S.take.2.1]) ∧ Own w0 w' (Slots b S.take.2.2 :: l) := by
  have H : Hid (Own w0 w (Slots b S :: l)) := h
  obtain ⟨⟨v1, v2, v3⟩, h⟩ := Own.ex_iff.1 h
  have q0 := h.cell 0
  have q2 := h.cell 2
  have q4 := h.cell 4
  obtain ⟨a1, c1, rfl⟩ := row_any h.two.row
  obtain ⟨a3, c3, rfl⟩ := row_any h.four.row
  have hn := hS.n2
  have hle := hS.le
  have hcnt := hS.cnt
  have hfl : S.freed.length ≤ 1024 := by omega
  clear h
  simp at q0 q2 q4
  have HS : Hid S.Ok := hS
  clear hS hcnt
  unfold St.take
  cases hf : S.freed.getLast? with
  | some f =>
    have hpos : (0 : Int) < (S.freed.length : Int) := by
      have e := dropLast_of _ _ hf
      have := congrArg List.length e
      rw [List.length_append, List.length_singleton] at this; omega
    have HF : Hid (S.freed.getLast? = some f) := hf
    clear hf
    go_enter Tryz.func212, Tryz.ntmps212
    go_wp2_with fail
    refine (takeAgain_ok w0 w l b S f H.out HS.out HF.out).mono ?_
    rintro e w1 ⟨rfl, hO⟩
    have H1 : Hid (Own w0 w1 _) := hO
    clear hO H
    go_wp2
    go_ret2
    exact ⟨rfl, H1.out⟩
  | none =>
    have hf' : S.freed = [] := List.getLast?_eq_none_iff.1 hf
    have hz : S.freed.length = 0 := by rw [hf']; rfl
    rw [hz] at q4
    clear hf hf' hz
    by_cases hl : S.last.length < S.n
    · rw [if_pos hl]
      have hl' : (S.last.length : Int) < (S.n : Int) := by omega
      go_enter Tryz.func212, Tryz.ntmps212
      go_wp2
      go_region
      go_wp2_with fail
      refine (takeNew_ok w0 _ l b S H.out.drew HS.out hl).mono ?_
      rintro e w1 ⟨rfl, hO⟩
      have H1 : Hid (Own w0 w1 _) := hO
      clear hO H
      go_wp2
      go_ret2
      exact ⟨rfl, H1.out⟩
    · rw [if_neg hl]
      have hl' : (S.n : Int) ≤ (S.last.length : Int) := by omega
      go_enter Tryz.func212, Tryz.ntmps212
      go_wp2
      go_region
      go_wp2
      go_ret2
      exact ⟨rfl, H.out.drew⟩
set_option maxHeartbeats 400000 in
theorem take_nil (w : World) : Calls Tryz.prog 212 #[.pointer none] w fun e w' => e = .returned (.tuple #[.int .u32 0, .int .i64 10]) ∧ w' = w := by
  go_enter Tryz.func212, Tryz.ntmps212
  go_wp2
  go_ret2
  exact ⟨rfl, rfl⟩
end Go.Proofs.YtflmgilmbppieaaGreatDoor
