/-
  Package ring at int64: Get, Last, Ticks, Len, Cut, Clear.
-/
import Derived.Test.YtdcfkjmjekbekaaYra
namespace Go.Proofs.Ytdcfkjmjekbekaa
open Go.RowKit
set_option linter.unusedVariables false

set_option maxHeartbeats 1000000 in
set_option maxRecDepth 100000 in
theorem belowa (w0 w : World) (l : List Thing) (b k : Nat) (L : List (Nat × Int)) (t : Nat) (h : Own w0 w (Ringa b k L :: l)) (hL : L.length ≤ 1000) (hLt : ∀ e ∈ L, e.1 < 4294967296) :
    Calls Try.prog 20 #[.pointer (some ⟨b, 0, none⟩), .int .u32 (t : Int)] w fun e w' => e = .returned (.int .i64 (below t L : Int)) ∧ Own w0 w' (Ringa b k L :: l) := by
  obtain ⟨v, h⟩ := Own.ex_iff.1 h
  obtain ⟨ao, cap, rfl⟩ := row_any h.two.row
  have H : Hid (Own w0 w (Cells b #[.int .i64 (k : Int), .slice ao L.length cap] 61 :: Row 63 2 (.slice ao L.length cap) L.length (cat ela L) :: l)) := h
  have hbl := below_le t L
  have HLT : Hid (∀ e ∈ L, e.1 < 4294967296) := hLt
  clear h hLt
  go_enter Try.func20, Try.ntmps20
  go_wp2
  go_loopw [5] (fun c wr => ∃ n : Nat, n ≤ below t L ∧ c = .int .i64 n ∧ Own w0 wr (Cells b #[.int .i64 (k : Int), .slice ao L.length cap] 61 :: Row 63 2 (.slice ao L.length cap) L.length (cat ela L) :: l)) (fun c _ => L.length - (intOf c).toNat)
  case atStart => exact ⟨0, Nat.zero_le _, rfl, H.out⟩
  case round =>
    obtain ⟨n, hn, rfl, hO⟩ := hrel
    have q1 := hO.cell 1
    simp at q1
    have HO : Hid (Own w0 wr _) := hO
    clear H
    by_cases hlt : n < L.length
    · obtain ⟨e, he⟩ : ∃ e, L[n]? = some e := ⟨_, List.getElem?_eq_getElem hlt⟩
      obtain ⟨g, cap', hv, _⟩ := row_shape hO.two.row (by omega)
      have hg := (Value.slice.inj hv).1
      subst hg
      obtain ⟨c0, _⟩ := rcella hO.two rfl n e he
      have he2 := HLT.out e (List.mem_of_getElem? he)
      have hlt' : (n : Int) < (L.length : Int) := by omega
      clear hO hv
      by_cases hb : n < below t L
      · have het := below_lt t L n e hb he
        have het' : (e.1 : Int) < (t : Int) := by omega
        clear he
        generalize e.1 = et at *
        generalize below t L = bl at *
        generalize L.length = ln at *
        go_wp2
        go_roundw
        case rel => exact ⟨n + 1, by omega, by go_num, HO.out⟩
        case measure => simp [intOf]; omega
      · have hnb : n = below t L := by omega
        have het : t ≤ e.1 := below_at t L e (by rw [← hnb]; exact he)
        have HNB : Hid (n = below t L) := hnb
        have het' : decide ((e.1 : Int) < (t : Int)) = false := decide_eq_false (by omega)
        have het2 : ¬ e.1 < t := by omega
        clear he hnb hb
        generalize e.1 = et at *
        go_wp2
        go_ret
        exact ⟨by rw [← HNB.out]; rfl, Own.ex_iff.2 ⟨_, HO.out⟩⟩
    · have HNB : Hid (n = below t L) := by show n = below t L; omega
      have hd : decide ((n : Int) < (L.length : Int)) = false := decide_eq_false (by omega)
      clear hO
      go_wp2
      go_ret
      exact ⟨by rw [← HNB.out]; rfl, Own.ex_iff.2 ⟨_, HO.out⟩⟩

/-- what Get answers -/
def gva (o : Option Int) : Value := match o with
  | some x => .tuple #[(.int .i64 x), .bool true]
  | none => .tuple #[.int .i64 0, .bool false]

set_option maxHeartbeats 400000 in
theorem cuta (w0 w : World) (l : List Thing) (b k : Nat) (L : List (Nat × Int)) (t : Nat) (h : Own w0 w (Ringa b k L :: l)) (hR : ROk k L) :
    Calls Try.prog 14 #[.pointer (some ⟨b, 0, none⟩), .int .u32 (t : Int)] w fun e w' => e = .returned (.int .i64 (below t L : Int)) ∧ Own w0 w' (Ringa b k (L.drop (below t L)) :: l) := by
  have hk := hR.k2
  have hle := hR.le
  have HB : Hid (Calls _ _ _ _ _) := belowa w0 w l b k L t h (by omega) hR.lt
  have hbl := below_le t L
  clear h hR
  go_enter Try.func14, Try.ntmps14
  go_wp2_with fail
  refine HB.out.mono ?_
  rintro e w1 ⟨rfl, hO⟩
  have H1 : Hid (Own w0 w1 _) := hO
  clear hO HB
  go_wp2_with fail
  refine (dropa w0 w1 l b k L (below t L) H1.out hbl (by omega)).mono ?_
  rintro e w2 ⟨rfl, hO⟩
  have H2 : Hid (Own w0 w2 _) := hO
  clear hO H1
  go_wp2
  go_ret
  exact ⟨rfl, H2.out⟩
set_option maxHeartbeats 400000 in
theorem cutnila (w : World) (t : Int) : Calls Try.prog 14 #[.pointer none, .int .u32 t] w fun e w' => e = .returned (.int .i64 0) ∧ w' = w := by
  go_enter Try.func14, Try.ntmps14
  go_wp2
  go_ret
  exact ⟨rfl, rfl⟩
end Go.Proofs.Ytdcfkjmjekbekaa
