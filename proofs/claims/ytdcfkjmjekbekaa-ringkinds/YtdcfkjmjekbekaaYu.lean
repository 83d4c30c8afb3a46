/-
  The document's example of rings.
-/
import Derived.Test.YtdcfkjmjekbekaaYta
namespace Go.Proofs.Ytdcfkjmjekbekaa
open Go.RowKit
set_option linter.unusedVariables false

def ra1 : List (Nat × Int) := [(5, 1)]
def ra2 : List (Nat × Int) := [(5, 1), (9, 2)]
def ra3 : List (Nat × Int) := [(9, 2), (12, 3)]
theorem pa0 : rput 2 ([] : List (Nat × Int)) 5 1 = (0, ra1) := by unfold rput; simp [ra1]
theorem pa1 : rput 2 ra1 9 2 = (0, ra2) := by unfold rput; simp [ra1, ra2]
theorem pa2 : rput 2 ra2 9 3 = (12, ra2) := by unfold rput; simp [ra2]
theorem pa3 : rput 2 ra2 12 3 = (0, ra3) := by unfold rput; simp [ra2, ra3]
theorem qa0 : ROk 2 ([] : List (Nat × Int)) := ROk.nil (by decide) (by decide)
theorem qa1 : ROk 2 ra1 := by have := rput_ok qa0 5 (1 : Int) (by decide); rw [pa0] at this; exact this
theorem qa2 : ROk 2 ra2 := by have := rput_ok qa1 9 (2 : Int) (by decide); rw [pa1] at this; exact this
theorem qa3 : ROk 2 ra3 := by have := rput_ok qa2 12 (3 : Int) (by decide); rw [pa3] at this; exact this
theorem ba3 : below 12 ra3 = 1 := by simp [below, ra3]

theorem put_is {k : Nat} {L M : List (Nat × Int)} {r : Int} (w0 w : World) (l : List Thing) (b t : Nat) (x : Int) (h : Own w0 w (Ringa b k L :: l)) (hR : ROk k L) (ht : t < 4294967296) (e : rput k L t x = (r, M)) :
    Calls Try.prog 12 #[.pointer (some ⟨b, 0, none⟩), .int .u32 (t : Int), .int .i64 x] w fun e w' => e = .returned (.int .i64 r) ∧ Own w0 w' (Ringa b k M :: l) := by
  have := puta w0 w l b k L t x h hR ht
  rw [e] at this
  exact this

set_option maxHeartbeats 1000000 in
theorem awake8 (w0 w : World) (l : List Thing) (h : Own w0 w l) : Calls Try.prog 4 #[] w fun e w' => e = .returned (.bool true) ∧ Own w0 w' l := by
  have H : Hid (Own w0 w l) := h
  clear h
  go_enter Try.func4, Try.ntmps4
  go_wp2_with fail
  refine (newa w0 w l 2 H.out (by decide) (by decide)).mono ?_
  rintro e w1 ⟨b, rfl, hO⟩
  have H1 : Hid (Own w0 w1 (Ringa b 2 [] :: l)) := hO
  clear hO H
  go_wp2_with fail
  refine (put_is w0 w1 l b 5 1 H1.out qa0 (by decide) pa0).mono ?_
  rintro e w2 ⟨rfl, hO⟩
  have H2 : Hid (Own w0 w2 (Ringa b 2 ra1 :: l)) := hO
  clear hO H1
  go_wp2_with fail
  refine (put_is w0 w2 l b 9 2 H2.out qa1 (by decide) pa1).mono ?_
  rintro e w3 ⟨rfl, hO⟩
  have H3 : Hid (Own w0 w3 (Ringa b 2 ra2 :: l)) := hO
  clear hO H2
  go_wp2_with fail
  refine (put_is w0 w3 l b 9 3 H3.out qa2 (by decide) pa2).mono ?_
  rintro e w4 ⟨rfl, hO⟩
  have H4 : Hid (Own w0 w4 (Ringa b 2 ra2 :: l)) := hO
  clear hO H3
  go_wp2_with fail
  refine (put_is w0 w4 l b 12 3 H4.out qa2 (by decide) pa3).mono ?_
  rintro e w5 ⟨rfl, hO⟩
  have H5 : Hid (Own w0 w5 (Ringa b 2 ra3 :: l)) := hO
  clear hO H4
  go_wp2_with fail
  refine (ticksa w0 w5 l b 2 ra3 H5.out qa3).mono ?_
  rintro e w6 ⟨ao, cap, rfl, hO⟩
  obtain ⟨g, c, hv, _⟩ := row_shape hO.row (by decide)
  have hg := (Value.slice.inj hv).1
  subst hg
  have c0 : w6.cell? ⟨g, 0, none⟩ = some (.int .u32 9) := by rw [hO.row.cellAt 0 (by decide)]; rfl
  have c1 : w6.cell? ⟨g, 1, none⟩ = some (.int .u32 12) := by rw [hO.row.cellAt 1 (by decide)]; rfl
  have H6 : Hid (Own w0 w6 (Ringa b 2 ra3 :: l)) := hO.tail
  have hl2 : ra3.length = 2 := rfl
  rw [hl2]
  clear hO H5 hv hl2
  go_wp2_with fail
  refine (cuta w0 w6 l b 2 ra3 12 H6.out qa3).mono ?_
  rw [ba3]
  rintro e w7 ⟨rfl, hO⟩
  have H7 : Hid (Own w0 w7 l) := hO.tail
  clear hO H6
  go_wp2
  go_ret
  exact ⟨rfl, H7.out⟩
end Go.Proofs.Ytdcfkjmjekbekaa
