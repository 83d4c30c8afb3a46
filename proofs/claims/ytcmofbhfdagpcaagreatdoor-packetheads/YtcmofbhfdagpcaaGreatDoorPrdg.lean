/-
  Readers as things: Read, Get, End; GetVar and GetIn of package nums where the bits are a number's.
-/
import Derived.Test.YtcmofbhfdagpcaaGreatDoorPkag
import Derived.Test.YtcmofbhfdagpcaaGreatDoorVig
import Derived.Deep.RegionHeld3
namespace Go.Proofs.YtcmofbhfdagpcaaGreatDoor
open Go.RowKit
set_option linter.unusedVariables false
set_option maxRecDepth 100000

/-- a reader: its block and its bytes' -/
def RdT (b : Nat) (P : List Nat) (t : Nat) : Thing where
  is := fun w A => ∃ g, Rd 0 w b g P t ∧ ∀ j, A j ↔ At b g j
  lt := by
    rintro w A j ⟨g, h, hA⟩ a
    rcases (hA j).1 a with rfl | e
    · exact h.lt
    · exact h.glt j e.symm
  keep := by
    rintro w w' A B ⟨g, h, hA⟩ hf hn
    exact ⟨g, h.keep hf (hn b ((hA b).2 (.inl rfl))) (fun k hk => hn k ((hA k).2 (.inr hk.symm))), hA⟩
theorem Own.rd {w0 w : World} {l : List Thing} {b : Nat} {P : List Nat} {t : Nat} (h : Own w0 w (RdT b P t :: l)) : ∃ g, Rd 0 w b g P t ∧ ∀ (w' : World) (t' : Nat), Rd 0 w' b g P t' → Fr (At b none) w w' → Own w0 w' (RdT b P t' :: l) := by
  obtain ⟨A, ⟨g, hw, hA⟩, hlo, act⟩ := h.act
  refine ⟨g, hw, fun w' t' hw' hs => act w' (RdT b P t') (At b g) ⟨g, hw', fun _ => Iff.rfl⟩ (hs.mono (fun k _ hk => (hA k).2 ?_)) (fun k hk => .inl ((hA k).2 hk))⟩
  rcases hk with e | e
  · exact .inl e
  · cases e
theorem read_own (w0 w : World) (l : List Thing) (h : Own w0 w l) (v : Value) (P : List Nat) (hv : Src w v P.length (vrow P)) (hb : ∀ x ∈ P, x < 256) (hn : P.length ≤ 1048576) :
    Calls Tryz.prog 36 #[v] w fun e w' => ∃ b, e = .returned (.pointer (some ⟨b, 0, none⟩)) ∧ Own w0 w' (RdT b P 0 :: l) := by
  refine (read_any w.heap.size w v P hv hb hn (Nat.le_refl _)).mono ?_
  rintro e w' ⟨b, g, rfl, hb0, hk, hR, hF⟩
  refine ⟨b, rfl, h.new (RdT b P 0) (At b g) ⟨g, ⟨Nat.zero_le _, fun _ _ => Nat.zero_le _, hR.ne, hR.byt, hR.len, hR.le, hR.obj⟩, fun _ => Iff.rfl⟩ hF (fun k hk2 => hR.lowAt k hk2)⟩
theorem get_own (w0 w : World) (l : List Thing) (b : Nat) (P : List Nat) (t n : Nat) (h : Own w0 w (RdT b P t :: l)) (hn : n ≤ 64) (hl : t + n ≤ 8 * P.length) :
    Calls Tryz.prog 88 #[.pointer (some ⟨b, 0, none⟩), .int .i64 n] w fun e w' => e = .returned (.tuple #[.int .u64 (numAt P t n : Nat), .int .i64 0]) ∧ Own w0 w' (RdT b P (t + n) :: l) := by
  obtain ⟨g, hR, k⟩ := h.rd
  refine (get_ok2 0 w b g P t n hR hn hl).mono ?_
  rintro e w' ⟨rfl, hR', hf⟩
  exact ⟨rfl, k w' _ hR' hf⟩
theorem getVar_own (w0 w : World) (l : List Thing) (b : Nat) (P : List Nat) (t v : Nat) (R : List Bool) (h : Own w0 w (RdT b P t :: l)) (hv : v < 18446744073709551616) (hb : (bitsB P).drop t = var v ++ R) :
    Calls Tryz.prog 112 #[.pointer (some ⟨b, 0, none⟩)] w fun e w' => e = .returned (.tuple #[.int .u64 (v : Int), .int .i64 0]) ∧ Own w0 w' (RdT b P (t + 5 * grp v) :: l) := by
  obtain ⟨g, hR, k⟩ := h.rd
  have hc := getVar_rd 0 w b g P t hR
  rw [hb, gv_var v hv R] at hc
  refine hc.mono ?_
  rintro e w' ⟨rfl, hR', hf⟩
  exact ⟨rfl, k w' _ hR' hf⟩
theorem gi_backN (x y : Int) (d : Nat) (R : List Bool) (h0 : -9223372036854775808 ≤ x) (h1 : y ≤ 9223372036854775807) (hb : x + (d : Int) ≤ y) : gi x y (bitsN (wid x y) d ++ R) = (0, x + (d : Int), wid x y) := by
  have hlt := in_lt (x + (d : Int)) x y h0 h1 (by omega) hb
  have e : (x + (d : Int) - x).toNat = d := by omega
  rw [e] at hlt
  have htk : (bitsN (wid x y) d ++ R).take (wid x y) = bitsN (wid x y) d := List.take_left' (length_bitsN _ _)
  unfold gi
  rw [htk, num_bitsN, Nat.mod_eq_of_lt hlt, List.length_append, length_bitsN]
  rw [if_neg (by omega), if_neg (by omega), if_neg (by omega)]
theorem getIn_own (w0 w : World) (l : List Thing) (b : Nat) (P : List Nat) (t d : Nat) (R : List Bool) (lo hi : Int) (h : Own w0 w (RdT b P t :: l)) (h0 : -9223372036854775808 ≤ lo) (h1 : hi ≤ 9223372036854775807) (hb : (bitsB P).drop t = bitsN (wid lo hi) d ++ R) (hd : lo + (d : Int) ≤ hi) :
    Calls Tryz.prog 86 #[.pointer (some ⟨b, 0, none⟩), .int .i64 lo, .int .i64 hi] w fun e w' => e = .returned (.tuple #[.int .i64 (lo + (d : Int)), .int .i64 0]) ∧ Own w0 w' (RdT b P (t + wid lo hi) :: l) := by
  obtain ⟨g, hR, k⟩ := h.rd
  have hc := getIn_rd 0 w b g P t lo hi hR h0 h1 (by omega) (by omega)
  rw [hb, gi_backN lo hi d R h0 h1 hd] at hc
  refine hc.mono ?_
  rintro e w' ⟨rfl, hR', hf⟩
  exact ⟨rfl, k w' _ hR' hf⟩
theorem end_own (w0 w : World) (l : List Thing) (b : Nat) (P : List Nat) (t : Nat) (h : Own w0 w (RdT b P t :: l)) (hl : 8 * P.length - t < 8) (hz : numAt P t (8 * P.length - t) = 0) :
    Calls Tryz.prog 41 #[.pointer (some ⟨b, 0, none⟩)] w fun e w' => e = .returned (.int .i64 0) ∧ Own w0 w' (RdT b P t :: l) := by
  obtain ⟨g, hR, k⟩ := h.rd
  refine (end_zero 0 w b g P t hR hl hz).mono ?_
  rintro e w' ⟨rfl, hf⟩
  exact ⟨rfl, h.quiet hf⟩
end Go.Proofs.YtcmofbhfdagpcaaGreatDoor

/-
  The pen of a packet: as long as there is room.
-/
namespace Go.Proofs.YtcmofbhfdagpcaaGreatDoor
open Go.RowKit
set_option linter.unusedVariables false
set_option maxRecDepth 100000

/-- a pen at block p whose writer is at block b; no error has been noted -/
def penC (p b : Nat) : Thing := Cells p #[.pointer (some ⟨b, 0, none⟩), .int .i64 0] 43
set_option maxHeartbeats 400000 in
theorem note0 (w0 w : World) (l : List Thing) (p b : Nat) (h : Own w0 w (penC p b :: l)) :
    Calls Tryz.prog 43 #[.pointer (some ⟨p, 0, none⟩), .int .i64 0] w fun e w' => e = .returned (.tuple #[]) ∧ Own w0 w' (penC p b :: l) := by
  unfold penC at h
  have q0 := Own.cell h 0
  have q1 := Own.cell h 1
  have q2 := Own.froz h 1
  simp at q0 q1
  have H : Hid (Own w0 _ _) := Own.setC h 1 (.int .i64 0)
  clear h
  go_enter Tryz.func43, Tryz.ntmps43
  go_wp2
  go_end0
  exact ⟨rfl, by unfold penC; simpa using H.out⟩
set_option maxHeartbeats 400000 in
theorem pput (w0 w : World) (l : List Thing) (p b : Nat) (L : List Bool) (v n : Nat) (h : Own w0 w (penC p b :: WrT b L :: l)) (hn : n ≤ 64) (hv : v < 2 ^ n) (hv2 : v < 18446744073709551616) (hl : L.length + n ≤ 1048576) :
    Calls Tryz.prog 27 #[.pointer (some ⟨p, 0, none⟩), .int .u64 v, .int .i64 n] w fun e w' => e = .returned (.tuple #[]) ∧ Own w0 w' (penC p b :: WrT b (L ++ bitsN n v) :: l) := by
  have H1 : Hid (Calls _ _ _ _ _) := putW_own w0 w _ b L v n _ _ rfl rfl h.two hn hv hv2 hl
  unfold penC at h
  have q0 := Own.cell h 0
  simp at q0
  clear h hv hv2 hl
  go_enter Tryz.func27, Tryz.ntmps27
  go_wp2_with fail
  refine H1.out.mono ?_
  rintro e w1 ⟨rfl, h1⟩
  have H2 : Hid (Calls _ _ _ _ _) := note0 w0 w1 _ p b h1.two
  clear h1 H1 q0
  go_wp2_with fail
  refine H2.out.mono ?_
  rintro e w2 ⟨rfl, h2⟩
  have H3 : Hid (Own w0 w2 _) := h2
  clear h2 H2
  go_wp2
  go_end0
  exact ⟨rfl, H3.out⟩
set_option maxHeartbeats 400000 in
theorem pputVar (w0 w : World) (l : List Thing) (p b : Nat) (L : List Bool) (v : Nat) (h : Own w0 w (penC p b :: WrT b L :: l)) (hv : v < 18446744073709551616) (hl : L.length + 5 * grp v ≤ 1048576) :
    Calls Tryz.prog 25 #[.pointer (some ⟨p, 0, none⟩), .int .u64 v] w fun e w' => e = .returned (.tuple #[]) ∧ Own w0 w' (penC p b :: WrT b (L ++ var v) :: l) := by
  have H1 : Hid (Calls _ _ _ _ _) := putVarW w0 w _ b L v h.two hv hl
  unfold penC at h
  have q0 := Own.cell h 0
  simp at q0
  clear h hv hl
  go_enter Tryz.func25, Tryz.ntmps25
  go_wp2_with fail
  refine H1.out.mono ?_
  rintro e w1 ⟨rfl, h1⟩
  have H2 : Hid (Calls _ _ _ _ _) := note0 w0 w1 _ p b h1.two
  clear h1 H1 q0
  go_wp2_with fail
  refine H2.out.mono ?_
  rintro e w2 ⟨rfl, h2⟩
  have H3 : Hid (Own w0 w2 _) := h2
  clear h2 H2
  go_wp2
  go_end0
  exact ⟨rfl, H3.out⟩
set_option maxHeartbeats 400000 in
theorem pputIn (w0 w : World) (l : List Thing) (p b : Nat) (L : List Bool) (n lo hi : Int) (d : Nat) (hd : n = lo + (d : Int)) (h : Own w0 w (penC p b :: WrT b L :: l)) (h0 : -9223372036854775808 ≤ lo) (h1 : hi ≤ 9223372036854775807) (ha : lo ≤ n) (hb : n ≤ hi) (hl : L.length + 64 ≤ 1048576) :
    Calls Tryz.prog 24 #[.pointer (some ⟨p, 0, none⟩), .int .i64 n, .int .i64 lo, .int .i64 hi] w fun e w' => e = .returned (.tuple #[]) ∧ Own w0 w' (penC p b :: WrT b (L ++ bitsN (wid lo hi) d) :: l) := by
  have H1 : Hid (Calls _ _ _ _ _) := putInW w0 w _ b L n lo hi d hd h.two h0 h1 ha hb hl
  unfold penC at h
  have q0 := Own.cell h 0
  simp at q0
  clear h hd hl h0 h1 ha hb
  go_enter Tryz.func24, Tryz.ntmps24
  go_wp2_with fail
  refine H1.out.mono ?_
  rintro e w1 ⟨rfl, h1⟩
  have H2 : Hid (Calls _ _ _ _ _) := note0 w0 w1 _ p b h1.two
  clear h1 H1 q0
  go_wp2_with fail
  refine H2.out.mono ?_
  rintro e w2 ⟨rfl, h2⟩
  have H3 : Hid (Own w0 w2 _) := h2
  clear h2 H2
  go_wp2
  go_end0
  exact ⟨rfl, H3.out⟩
set_option maxHeartbeats 400000 in
theorem pcount (w0 w : World) (l : List Thing) (p b : Nat) (L : List Bool) (n : Nat) (h : Own w0 w (penC p b :: WrT b L :: l)) (hv : n < 9223372036854775808) (hl : L.length + 5 * grp n ≤ 1048576) :
    Calls Tryz.prog 51 #[.pointer (some ⟨p, 0, none⟩), .int .i64 n] w fun e w' => e = .returned (.tuple #[]) ∧ Own w0 w' (penC p b :: WrT b (L ++ var n) :: l) := by
  have H1 : Hid (Calls _ _ _ _ _) := pputVar w0 w l p b L n h (by omega) hl
  clear h hl
  go_enter Tryz.func51, Tryz.ntmps51
  go_wp2_with fail
  refine H1.out.mono ?_
  rintro e w1 ⟨rfl, h1⟩
  have H3 : Hid (Own w0 w1 _) := h1
  clear h1 H1
  go_wp2
  go_end0
  exact ⟨rfl, H3.out⟩

set_option maxHeartbeats 400000 in
theorem pids0 (w0 w : World) (l : List Thing) (p b : Nat) (L : List Bool) (a : Option Addr) (c : Nat) (h : Own w0 w (penC p b :: WrT b L :: l)) (hl : L.length + 80 ≤ 1048576) :
    Calls Tryz.prog 57 #[.pointer (some ⟨p, 0, none⟩), .slice a 0 c] w fun e w' => e = .returned (.tuple #[]) ∧ Own w0 w' (penC p b :: WrT b (L ++ var 0) :: l) := by
  have H1 : Hid (Calls _ _ _ _ _) := pcount w0 w l p b L 0 h (by decide) (by have := (grp_bd 0 (by decide)).2; omega)
  clear h hl
  go_enter Tryz.func57, Tryz.ntmps57
  go_wp2_with fail
  refine H1.out.mono ?_
  rintro e w1 ⟨rfl, h1⟩
  have H3 : Hid (Own w0 w1 _) := h1
  clear h1 H1
  go_wp2
  go_loopw [13] (fun cc wr => cc = .int .i64 0 ∧ Own w0 wr (penC p b :: WrT b (L ++ var 0) :: l)) (fun _ _ => 0)
  case atStart => exact ⟨rfl, H3.out⟩
  case round =>
    obtain ⟨rfl, hO⟩ := hrel
    have HO : Hid (Own w0 wr _) := hO
    clear hO H3
    go_wp2
    go_end0
    exact ⟨rfl, HO.out⟩
set_option maxHeartbeats 400000 in
theorem pents0 (w0 w : World) (l : List Thing) (p b : Nat) (L : List Bool) (a : Option Addr) (c : Nat) (h : Own w0 w (penC p b :: WrT b L :: l)) (hl : L.length + 80 ≤ 1048576) :
    Calls Tryz.prog 29 #[.pointer (some ⟨p, 0, none⟩), .slice a 0 c] w fun e w' => e = .returned (.tuple #[]) ∧ Own w0 w' (penC p b :: WrT b (L ++ var 0) :: l) := by
  have H1 : Hid (Calls _ _ _ _ _) := pcount w0 w l p b L 0 h (by decide) (by have := (grp_bd 0 (by decide)).2; omega)
  clear h hl
  go_enter Tryz.func29, Tryz.ntmps29
  go_wp2_with fail
  refine H1.out.mono ?_
  rintro e w1 ⟨rfl, h1⟩
  have H3 : Hid (Own w0 w1 _) := h1
  clear h1 H1
  go_wp2
  go_loopw [13] (fun cc wr => cc = .int .i64 0 ∧ Own w0 wr (penC p b :: WrT b (L ++ var 0) :: l)) (fun _ _ => 0)
  case atStart => exact ⟨rfl, H3.out⟩
  case round =>
    obtain ⟨rfl, hO⟩ := hrel
    have HO : Hid (Own w0 wr _) := hO
    clear hO H3
    go_wp2
    go_end0
    exact ⟨rfl, HO.out⟩
set_option maxHeartbeats 400000 in
theorem pchanges0 (w0 w : World) (l : List Thing) (p b : Nat) (L : List Bool) (wv : Value) (a : Option Addr) (c : Nat) (h : Own w0 w (penC p b :: WrT b L :: l)) (hl : L.length + 80 ≤ 1048576) :
    Calls Tryz.prog 58 #[.pointer (some ⟨p, 0, none⟩), wv, .slice a 0 c] w fun e w' => e = .returned (.tuple #[]) ∧ Own w0 w' (penC p b :: WrT b (L ++ var 0) :: l) := by
  have H1 : Hid (Calls _ _ _ _ _) := pcount w0 w l p b L 0 h (by decide) (by have := (grp_bd 0 (by decide)).2; omega)
  clear h hl
  go_enter Tryz.func58, Tryz.ntmps58
  go_wp2_with fail
  refine H1.out.mono ?_
  rintro e w1 ⟨rfl, h1⟩
  have H3 : Hid (Own w0 w1 _) := h1
  clear h1 H1
  go_wp2
  go_loopw [15] (fun cc wr => cc = .int .i64 0 ∧ Own w0 wr (penC p b :: WrT b (L ++ var 0) :: l)) (fun _ _ => 0)
  case atStart => exact ⟨rfl, H3.out⟩
  case round =>
    obtain ⟨rfl, hO⟩ := hrel
    have HO : Hid (Own w0 wr _) := hO
    clear hO H3
    go_wp2
    go_end0
    exact ⟨rfl, HO.out⟩
theorem length_var0 : (var 0).length = 5 := by decide +kernel
set_option maxHeartbeats 400000 in
theorem pdelta0 (w0 w : World) (l : List Thing) (p b : Nat) (L : List Bool) (wv : Value) (ga ma ha : Option Addr) (gc mc hc : Nat) (h : Own w0 w (penC p b :: WrT b L :: l)) (hl : L.length + 128 ≤ 1048576) :
    Calls Tryz.prog 31 #[.pointer (some ⟨p, 0, none⟩), wv, .agg #[.slice ga 0 gc, .slice ma 0 mc, .slice ha 0 hc]] w fun e w' => e = .returned (.tuple #[]) ∧ Own w0 w' (penC p b :: WrT b (((L ++ var 0) ++ var 0) ++ var 0) :: l) := by
  have hB := h.allocC #[.slice ga 0 gc, .slice ma 0 mc, .slice ha 0 hc] 70
  have q0 := hB.cell 0
  simp at q0
  have h5 := length_var0
  have HB : Hid (Own w0 _ _) := hB
  have H1 : Hid (Calls _ _ _ _ _) := pids0 w0 _ _ p b L ga gc (hB.two.in23) (by omega)
  clear h hB
  go_enter Tryz.func31, Tryz.ntmps31
  go_wp2_with fail
  refine H1.out.mono ?_
  rintro e w1 ⟨rfl, h1⟩
  have q1 := h1.three.cell 1
  simp at q1
  have H2 : Hid (Calls _ _ _ _ _) := pents0 w0 w1 _ p b (L ++ var 0) ma mc h1 (by rw [List.length_append, h5]; omega)
  clear h1 H1 q0
  go_wp2_with fail
  refine H2.out.mono ?_
  rintro e w2 ⟨rfl, h2⟩
  have q2 := h2.three.cell 2
  simp at q2
  have H3 : Hid (Calls _ _ _ _ _) := pchanges0 w0 w2 _ p b ((L ++ var 0) ++ var 0) wv ha hc h2 (by rw [List.length_append, List.length_append, h5]; omega)
  clear h2 H2 q1
  go_wp2_with fail
  refine H3.out.mono ?_
  rintro e w3 ⟨rfl, h3⟩
  have H4 : Hid (Own w0 w3 _) := h3.three.tail
  clear h3 H3 q2
  go_wp2
  go_end0
  exact ⟨rfl, H4.out⟩
end Go.Proofs.YtcmofbhfdagpcaaGreatDoor

/-
  The head of a packet: is it right, and its bits.
-/
namespace Go.Proofs.YtcmofbhfdagpcaaGreatDoor
open Go.RowKit
set_option linter.unusedVariables false
set_option maxRecDepth 100000

def hvs (k c e t s : Nat) : Array Value := #[.int .u8 (k : Int), .int .u8 (c : Int), .int .u32 (e : Int), .int .u32 (t : Int), .int .u32 (s : Int)]
/-- what a head's fields may be -/
structure HIn (k c e t s : Nat) : Prop where
  k : k < 256
  c : c < 256
  e : e < 4294967296
  t : t < 4294967296
  s : s < 4294967296
def hasT (k : Nat) : Bool := decide (k = 1) || decide (k = 2) || decide (k = 3)
set_option maxHeartbeats 400000 in
theorem hasTick_any (w : World) (k : Nat) (hk : k < 256) : Calls Tryz.prog 26 #[.int .u8 (k : Int)] w fun e w' => e = .returned (.bool (hasT k)) ∧ w' = w := by
  by_cases h1 : k = 1
  · subst h1
    go_enter Tryz.func26, Tryz.ntmps26
    go_wp2
    go_ret
    exact ⟨rfl, rfl⟩
  · have e1 : ((k : Int) == 1) = false := by rw [beq_eq_false_iff_ne]; omega
    by_cases h2 : k = 2
    · subst h2
      go_enter Tryz.func26, Tryz.ntmps26
      go_wp2
      go_ret
      exact ⟨rfl, rfl⟩
    · have e2 : ((k : Int) == 2) = false := by rw [beq_eq_false_iff_ne]; omega
      by_cases h3 : k = 3
      · subst h3
        go_enter Tryz.func26, Tryz.ntmps26
        go_wp2
        go_ret
        exact ⟨rfl, rfl⟩
      · have e3 : ((k : Int) == 3) = false := by rw [beq_eq_false_iff_ne]; omega
        have hT : hasT k = false := by unfold hasT; simp [h1, h2, h3]
        rw [hT]
        clear h1 h2 h3 hT
        go_enter Tryz.func26, Tryz.ntmps26
        go_wp2
        go_ret
        exact ⟨rfl, rfl⟩
def tfit (k t : Nat) : Bool := hasT k || decide (t = 0)
set_option maxHeartbeats 400000 in
theorem tickFits_any (w : World) (k c e t s : Nat) (hI : HIn k c e t s) : Calls Tryz.prog 22 #[.agg (hvs k c e t s)] w fun x w' => x = .returned (.bool (tfit k t)) ∧ Fr Nobody w w' := by
  have HH : Hid (∀ W, Calls Tryz.prog 26 #[.int .u8 (k : Int)] W fun e w' => e = .returned (.bool (hasT k)) ∧ w' = W) := fun W => hasTick_any W k hI.k
  have HF : Hid (∀ o, Fr Nobody w (w.alloc o)) := fun o => (Fr.refl _ _).alloc o
  unfold tfit hvs
  clear hI
  generalize hasT k = r at *
  cases r
  · by_cases ht : t = 0
    · subst ht
      go_enter Tryz.func22, Tryz.ntmps22
      go_wp2_with fail
      refine (HH.out _).mono ?_
      rintro e w' ⟨rfl, rfl⟩
      go_wp2
      go_ret
      exact ⟨rfl, HF.out _⟩
    · have e1 : ((t : Int) == 0) = false := by rw [beq_eq_false_iff_ne]; omega
      rw [decide_eq_false ht]
      clear ht
      go_enter Tryz.func22, Tryz.ntmps22
      go_wp2_with fail
      refine (HH.out _).mono ?_
      rintro e w' ⟨rfl, rfl⟩
      go_wp2
      go_ret
      exact ⟨rfl, HF.out _⟩
  · go_enter Tryz.func22, Tryz.ntmps22
    go_wp2_with fail
    refine (HH.out _).mono ?_
    rintro e w' ⟨rfl, rfl⟩
    go_wp2
    go_ret
    exact ⟨rfl, HF.out _⟩
def bfit (k t s : Nat) : Bool := if k = 2 then decide (s < t) else decide (s = 0)
set_option maxHeartbeats 400000 in
theorem baseFits_any (w : World) (k c e t s : Nat) (hI : HIn k c e t s) : Calls Tryz.prog 23 #[.agg (hvs k c e t s)] w fun x w' => x = .returned (.bool (bfit k t s)) ∧ Fr Nobody w w' := by
  have HF : Hid (∀ o, Fr Nobody w (w.alloc o)) := fun o => (Fr.refl _ _).alloc o
  unfold bfit hvs
  clear hI
  by_cases hk : k = 2
  · subst hk
    rw [if_pos rfl]
    by_cases h : s < t
    · have h' : (s : Int) < (t : Int) := by omega
      rw [decide_eq_true h]
      go_enter Tryz.func23, Tryz.ntmps23
      go_wp2
      go_ret
      exact ⟨by simp, HF.out _⟩
    · have h' : ¬ (s : Int) < (t : Int) := by omega
      rw [decide_eq_false h]
      go_enter Tryz.func23, Tryz.ntmps23
      go_wp2
      go_ret
      exact ⟨by simp, HF.out _⟩
  · have e1 : ((k : Int) == 2) = false := by rw [beq_eq_false_iff_ne]; omega
    rw [if_neg hk]
    by_cases h : s = 0
    · subst h
      go_enter Tryz.func23, Tryz.ntmps23
      go_wp2
      go_ret
      exact ⟨rfl, HF.out _⟩
    · have e2 : ((s : Int) == 0) = false := by rw [beq_eq_false_iff_ne]; omega
      rw [decide_eq_false h]
      clear h hk
      go_enter Tryz.func23, Tryz.ntmps23
      go_wp2
      go_ret
      exact ⟨by simp, HF.out _⟩
/-- is a head right? -/
def hchk (k c e t s : Nat) : Nat := if k < 1 ∨ 5 < k ∨ 16 ≤ c then 1 else if e = 0 ∨ tfit k t = false ∨ bfit k t s = false then 4 else 0
structure Right (k c e t s : Nat) : Prop where
  k1 : 1 ≤ k
  k5 : k ≤ 5
  c15 : c ≤ 15
  e1 : 1 ≤ e
  e32 : e < 4294967296
  t32 : t < 4294967296
  s32 : s < 4294967296
  tf : tfit k t = true
  bf : bfit k t s = true
theorem Right.hIn {k c e t s : Nat} (h : Right k c e t s) : HIn k c e t s := ⟨by have := h.k5; omega, by have := h.c15; omega, h.e32, h.t32, h.s32⟩
set_option maxHeartbeats 800000 in
theorem check_ok (w : World) (k c e t s : Nat) (h : Right k c e t s) : Calls Tryz.prog 10 #[.agg (hvs k c e t s)] w fun x w' => x = .returned (.int .i64 0) ∧ Fr Nobody w w' := by
  have HT : Hid (∀ W, Calls Tryz.prog 22 #[.agg (hvs k c e t s)] W fun x w' => x = .returned (.bool true) ∧ Fr Nobody W w') := fun W => by rw [← h.tf]; exact tickFits_any W k c e t s h.hIn
  have HB : Hid (∀ W, Calls Tryz.prog 23 #[.agg (hvs k c e t s)] W fun x w' => x = .returned (.bool true) ∧ Fr Nobody W w') := fun W => by rw [← h.bf]; exact baseFits_any W k c e t s h.hIn
  have hA := (Own.start w).allocC (hvs k c e t s) 24
  have HA : Hid (Own w _ _) := hA
  have g1 : ¬ (k : Int) < 1 := by have := h.k1; omega
  have g2 : ¬ (5 : Int) < (k : Int) := by have := h.k5; omega
  have g3 : ¬ (16 : Int) ≤ (c : Int) := by have := h.c15; omega
  have g4 : ((e : Int) == 0) = false := by rw [beq_eq_false_iff_ne]; have := h.e1; omega
  clear h hA
  unfold hvs at *
  go_enter Tryz.func10, Tryz.ntmps10
  go_wp2_with fail
  refine (HT.out _).mono ?_
  rintro x w1 ⟨rfl, hf1⟩
  have hA1 := HA.out.quiet hf1
  have r0 := hA1.cell 0
  have r1 := hA1.cell 1
  have r2 := hA1.cell 2
  have r3 := hA1.cell 3
  have r4 := hA1.cell 4
  simp at r0 r1 r2 r3 r4
  have HA1 : Hid (Own w w1 _) := hA1
  clear hf1 hA1 HA HT
  go_wp2_with fail
  refine (HB.out _).mono ?_
  rintro x w2 ⟨rfl, hf2⟩
  have HF : Hid (Fr Nobody w w2) := HA1.out.fr.trans hf2
  clear hf2 HA1 HB r0 r1 r2 r3 r4
  go_wp2
  go_ret
  exact ⟨rfl, HF.out⟩
/-- a head's bits -/
def headB (k c e t s : Nat) : List Bool := bitsN (wid 1 5) (k - 1) ++ bitsN (wid 0 15) c ++ var e ++ (if hasT k = true then bitsN 32 t else []) ++ (if k = 2 then var (t - s - 1) else [])
theorem wid15 : wid 1 5 = 3 := by decide +kernel
theorem wid015 : wid 0 15 = 4 := by decide +kernel
theorem grp32 (v : Nat) (h : v < 4294967296) : grp v ≤ 16 := (grp_bd v (by omega)).2
theorem headB_le (k c e t s : Nat) (he : e < 4294967296) (ht : t < 4294967296) : (headB k c e t s).length ≤ 300 := by
  unfold headB
  have h1 := grp32 e he
  have h2 := grp32 (t - s - 1) (by omega)
  simp only [List.length_append, length_bitsN, length_var, wid15, wid015]
  split <;> split <;> simp [length_bitsN, length_var] <;> omega
set_option maxHeartbeats 4000000 in
theorem phead (w0 w : World) (l : List Thing) (p b : Nat) (h : Own w0 w (penC p b :: WrT b [] :: l)) (k c e t s : Nat) (hR : Right k c e t s) :
    Calls Tryz.prog 12 #[.pointer (some ⟨p, 0, none⟩), .agg (hvs k c e t s)] w fun x w' => x = .returned (.tuple #[]) ∧ Own w0 w' (penC p b :: WrT b (headB k c e t s) :: l) := by
  have hB := (h.allocC (hvs k c e t s) 24).two.in23
  have q0 := hB.three.cell 0
  simp [hvs] at q0
  have ge := grp32 e hR.e32
  have gt := grp32 (t - s - 1) (by have := hR.t32; omega)
  have H1 : Hid (Calls _ _ _ _ _) := pputIn w0 _ _ p b [] (k : Int) 1 5 (k - 1) (by have := hR.k1; omega) hB (by omega) (by omega) (by have := hR.k1; omega) (by have := hR.k5; omega) (by simp)
  have HR : Hid (Right k c e t s) := hR
  have hk8 : k < 256 := hR.hIn.k
  have hc8 : c < 256 := hR.hIn.c
  have he8 : e < 4294967296 := hR.e32
  have ht8 : t < 4294967296 := hR.t32
  have hs8 : s < 4294967296 := hR.s32
  clear h hB hR
  unfold hvs
  go_enter Tryz.func12, Tryz.ntmps12
  go_wp2_with fail
  refine H1.out.mono ?_
  rintro x w1 ⟨rfl, h1⟩
  have q1 := h1.three.cell 1
  simp [hvs] at q1
  have H2 : Hid (Calls _ _ _ _ _) := pputIn w0 _ _ p b _ (c : Int) 0 15 c (by omega) h1 (by omega) (by omega) (by omega) (by have := HR.out.c15; omega) (by simp [length_bitsN, wid15])
  clear h1 H1 q0
  go_wp2_with fail
  refine H2.out.mono ?_
  rintro x w2 ⟨rfl, h2⟩
  have q2 := h2.three.cell 2
  simp [hvs] at q2
  have H3 : Hid (Calls _ _ _ _ _) := pputVar w0 _ _ p b _ e h2 (by omega) (by simp [length_bitsN, wid15, wid015]; omega)
  clear h2 H2 q1
  go_wp2_with fail
  refine H3.out.mono ?_
  rintro x w3 ⟨rfl, h3⟩
  have q3 := h3.three.cell 0
  simp [hvs] at q3
  have HT : Hid (∀ W, Calls Tryz.prog 26 #[.int .u8 (k : Int)] W fun e w' => e = .returned (.bool (hasT k)) ∧ w' = W) := fun W => hasTick_any W k hk8
  have H3 : Hid (Own w0 w3 _) := h3
  clear h3 q2
  go_wp2_with fail
  refine (HT.out _).mono ?_
  rintro x w3' ⟨rfl, rfl⟩
  clear HT q3
  by_cases hT : hasT k = true
  · have q3 := H3.out.three.cell 3
    simp [hvs] at q3
    have H4 : Hid (Calls _ _ _ _ _) := pput w0 _ _ p b _ t 32 H3.out (by decide) (by omega) (by omega) (by simp [length_bitsN, wid15, wid015, length_var]; omega)
    rw [hT]
    have HTT : Hid (hasT k = true) := hT
    clear H3 hT
    go_wp2_with fail
    refine H4.out.mono ?_
    rintro x w4 ⟨rfl, h4⟩
    have q0 := h4.three.cell 0
    simp [hvs] at q0
    clear H4 q3
    by_cases hk : k = 2
    · subst hk
      have q1 := h4.three.cell 3
      have q2 := h4.three.cell 4
      simp [hvs] at q1 q2
      have hst : s < t := by have := HR.out.bf; unfold bfit at this; simpa using this
      have e1 : ((t : Int) - (s : Int)) % 4294967296 = ((t - s : Nat) : Int) := by omega
      have e2 : (((t : Int) - (s : Int) - 1) % 4294967296) = ((t - s - 1 : Nat) : Int) := by omega
      have hP := pputVar w0 _ _ p b _ (t - s - 1) h4 (by omega) (by simp [length_bitsN, wid15, wid015, length_var]; omega)
      have H5 : Hid (∀ v : Int, v = ((t - s - 1 : Nat) : Int) → Calls Tryz.prog 25 #[.pointer (some ⟨p, 0, none⟩), .int .u64 v] w4 _) := fun v hv => by rw [hv]; exact hP
      clear h4 e1 e2 hP
      go_wp2_with fail
      refine (H5.out _ (by omega)).mono ?_
      rintro x w5 ⟨rfl, h5⟩
      have H6 : Hid (Own w0 w5 _) := h5.three.tail
      clear h5 H5 q0 q1 q2
      go_wp2
      go_end0
      exact ⟨rfl, by unfold headB; rw [if_pos HTT.out, if_pos rfl]; simpa using H6.out⟩
    · have e1 : ((k : Int) == 2) = false := by rw [beq_eq_false_iff_ne]; omega
      have H6 : Hid (Own w0 w4 _) := h4.three.tail
      have HK : Hid (k ≠ 2) := hk
      clear h4 hk
      go_wp2
      go_end0
      exact ⟨rfl, by unfold headB; rw [if_pos HTT.out, if_neg HK.out]; simpa using H6.out⟩
  · have hT' : hasT k = false := by simpa using hT
    have hk : k ≠ 2 := by rintro rfl; exact hT rfl
    have e1 : ((k : Int) == 2) = false := by rw [beq_eq_false_iff_ne]; omega
    have q0 := H3.out.three.cell 0
    simp [hvs] at q0
    have H6 : Hid (Own w0 w3' _) := H3.out.three.tail
    have HK : Hid (k ≠ 2 ∧ ¬ hasT k = true) := ⟨hk, hT⟩
    rw [hT']
    clear H3 hT hT' hk
    go_wp2
    go_end0
    exact ⟨rfl, by unfold headB; rw [if_neg HK.out.2, if_neg HK.out.1]; simpa using H6.out⟩
end Go.Proofs.YtcmofbhfdagpcaaGreatDoor

/-
  The packet's reader: numbers that are there are read.
-/
namespace Go.Proofs.YtcmofbhfdagpcaaGreatDoor
open Go.RowKit
set_option linter.unusedVariables false
set_option maxRecDepth 100000

set_option maxHeartbeats 400000 in
theorem must_ok (w : World) : Calls Tryz.prog 40 #[.int .i64 0] w fun e w' => e = .returned (.tuple #[]) ∧ w' = w := by
  go_enter Tryz.func40, Tryz.ntmps40
  go_wp2
  go_end0
  exact ⟨rfl, rfl⟩
set_option maxHeartbeats 400000 in
theorem rdget (w0 w : World) (l : List Thing) (b : Nat) (P : List Nat) (t n v : Nat) (h : Own w0 w (RdT b P t :: l)) (hn : n ≤ 64) (hl : t + n ≤ 8 * P.length) (hv : numAt P t n = v) :
    Calls Tryz.prog 61 #[.agg #[.pointer (some ⟨b, 0, none⟩)], .int .i64 n] w fun e w' => e = .returned (.int .u64 (v : Int)) ∧ Own w0 w' (RdT b P (t + n) :: l) := by
  have hB := h.allocC #[.pointer (some ⟨b, 0, none⟩)] 54
  have q0 := hB.cell 0
  simp at q0
  have H1 : Hid (Calls _ _ _ _ _) := get_own w0 _ _ b P t n hB.two hn hl
  rw [hv] at H1
  clear h hB hv hn hl
  go_enter Tryz.func61, Tryz.ntmps61
  go_wp2_with fail
  refine H1.out.mono ?_
  rintro e w1 ⟨rfl, h1⟩
  have HM : Hid (Calls _ _ _ _ _) := must_ok w1
  have H2 : Hid (Own w0 w1 (RdT b P (t + n) :: l)) := h1.two.tail
  clear h1 H1 q0
  go_wp2_with fail
  refine HM.out.mono ?_
  rintro e w2 ⟨rfl, rfl⟩
  clear HM
  go_wp2
  go_ret
  exact ⟨rfl, H2.out⟩
set_option maxHeartbeats 400000 in
theorem rdgetVar (w0 w : World) (l : List Thing) (b : Nat) (P : List Nat) (t v : Nat) (R : List Bool) (h : Own w0 w (RdT b P t :: l)) (hv : v < 18446744073709551616) (hb : (bitsB P).drop t = var v ++ R) :
    Calls Tryz.prog 87 #[.agg #[.pointer (some ⟨b, 0, none⟩)]] w fun e w' => e = .returned (.int .u64 (v : Int)) ∧ Own w0 w' (RdT b P (t + 5 * grp v) :: l) := by
  have hB := h.allocC #[.pointer (some ⟨b, 0, none⟩)] 54
  have q0 := hB.cell 0
  simp at q0
  have H1 : Hid (Calls _ _ _ _ _) := getVar_own w0 _ _ b P t v R hB.two hv hb
  clear h hB hb
  go_enter Tryz.func87, Tryz.ntmps87
  go_wp2_with fail
  refine H1.out.mono ?_
  rintro e w1 ⟨rfl, h1⟩
  have HM : Hid (Calls _ _ _ _ _) := must_ok w1
  have H2 : Hid (Own w0 w1 (RdT b P (t + 5 * grp v) :: l)) := h1.two.tail
  clear h1 H1 q0
  go_wp2_with fail
  refine HM.out.mono ?_
  rintro e w2 ⟨rfl, rfl⟩
  clear HM
  go_wp2
  go_ret
  exact ⟨rfl, H2.out⟩
set_option maxHeartbeats 400000 in
theorem rdbelow (w0 w : World) (l : List Thing) (b : Nat) (P : List Nat) (t v n : Nat) (R : List Bool) (h : Own w0 w (RdT b P t :: l)) (hv : v < 18446744073709551616) (hb : (bitsB P).drop t = var v ++ R) (hn : v < n) (hn2 : n < 18446744073709551616) :
    Calls Tryz.prog 60 #[.agg #[.pointer (some ⟨b, 0, none⟩)], .int .u64 (n : Int)] w fun e w' => e = .returned (.int .u64 (v : Int)) ∧ Own w0 w' (RdT b P (t + 5 * grp v) :: l) := by
  have hB := h.allocC #[.pointer (some ⟨b, 0, none⟩)] 54
  have q0 := hB.cell 0
  simp at q0
  have H1 : Hid (Calls _ _ _ _ _) := rdgetVar w0 _ _ b P t v R hB.two hv hb
  have hlt : ¬ (n : Int) ≤ (v : Int) := by omega
  clear h hB hb
  go_enter Tryz.func60, Tryz.ntmps60
  go_wp2_with fail
  refine H1.out.mono ?_
  rintro e w1 ⟨rfl, h1⟩
  have H2 : Hid (Own w0 w1 (RdT b P (t + 5 * grp v) :: l)) := h1.two.tail
  clear h1 H1 q0
  go_wp2
  go_ret
  exact ⟨rfl, H2.out⟩
set_option maxHeartbeats 400000 in
theorem rdgetIn (w0 w : World) (l : List Thing) (b : Nat) (P : List Nat) (t d : Nat) (R : List Bool) (lo hi v : Int) (h : Own w0 w (RdT b P t :: l)) (h0 : -9223372036854775808 ≤ lo) (h1 : hi ≤ 9223372036854775807) (hb : (bitsB P).drop t = bitsN (wid lo hi) d ++ R) (hd : lo + (d : Int) ≤ hi) (hv : lo + (d : Int) = v) :
    Calls Tryz.prog 59 #[.agg #[.pointer (some ⟨b, 0, none⟩)], .int .i64 lo, .int .i64 hi] w fun e w' => e = .returned (.int .i64 v) ∧ Own w0 w' (RdT b P (t + wid lo hi) :: l) := by
  have hB := h.allocC #[.pointer (some ⟨b, 0, none⟩)] 54
  have q0 := hB.cell 0
  simp at q0
  have H1 : Hid (Calls _ _ _ _ _) := getIn_own w0 _ _ b P t d R lo hi hB.two h0 h1 hb hd
  rw [hv] at H1
  clear h hB hb hd hv h0 h1
  generalize wid lo hi = wd at *
  go_enter Tryz.func59, Tryz.ntmps59
  go_wp2_with fail
  refine H1.out.mono ?_
  rintro e w1 ⟨rfl, h1⟩
  have HM : Hid (Calls _ _ _ _ _) := must_ok w1
  have H2 : Hid (Own w0 w1 (RdT b P (t + wd) :: l)) := h1.two.tail
  clear h1 H1 q0
  go_wp2_with fail
  refine HM.out.mono ?_
  rintro e w2 ⟨rfl, rfl⟩
  clear HM
  go_wp2
  go_ret
  exact ⟨rfl, H2.out⟩
theorem drop_next {L A B : List Bool} {t n : Nat} (h : L.drop t = A ++ B) (hn : A.length = n) : L.drop (t + n) = B := by
  rw [← List.drop_drop, h, ← hn, List.drop_left]
theorem numAt_of {P : List Nat} {t n v : Nat} {R : List Bool} (h : (bitsB P).drop t = bitsN n v ++ R) (hv : v < 2 ^ n) : numAt P t n = v := by
  unfold numAt
  rw [h, List.take_left' (length_bitsN _ _), num_bitsN, Nat.mod_eq_of_lt hv]
theorem room_of {P : List Nat} {t n v : Nat} {R : List Bool} (h : (bitsB P).drop t = bitsN n v ++ R) (hn : 0 < n) : t + n ≤ 8 * P.length := by
  have h1 := congrArg List.length h
  rw [List.length_drop, length_bitsB, List.length_append, length_bitsN] at h1
  omega
end Go.Proofs.YtcmofbhfdagpcaaGreatDoor

/-
  The packet's reader: a head that is there is read.
-/
namespace Go.Proofs.YtcmofbhfdagpcaaGreatDoor
open Go.RowKit
set_option linter.unusedVariables false
set_option maxRecDepth 100000

theorem bfit2 {t s : Nat} (h : bfit 2 t s = true) : s < t := by unfold bfit at h; simpa using h
theorem headB_split {k c e tk s : Nat} {L R : List Bool} (h : L = headB k c e tk s ++ R) : L = bitsN (wid 1 5) (k - 1) ++ (bitsN (wid 0 15) c ++ (var e ++ ((if hasT k = true then bitsN 32 tk else []) ++ ((if k = 2 then var (tk - s - 1) else []) ++ R)))) := by
  rw [h]; unfold headB; simp only [List.append_assoc]
set_option maxHeartbeats 4000000 in
theorem rdhead1 (w0 w : World) (l : List Thing) (b : Nat) (P : List Nat) (t : Nat) (h : Own w0 w (RdT b P t :: l)) (c e tk s : Nat) (hR : Right 2 c e tk s) (R : List Bool) (hb : (bitsB P).drop t = headB 2 c e tk s ++ R) (hT : hasT 2 = true) :
    Calls Tryz.prog 37 #[.agg #[.pointer (some ⟨b, 0, none⟩)]] w fun x w' => x = .returned (.agg (hvs 2 c e tk s)) ∧ Own w0 w' (RdT b P (t + (headB 2 c e tk s).length) :: l) := by
  have h1 := ((h.allocC #[.pointer (some ⟨b, 0, none⟩)] 54).allocC #[.int .u8 0, .int .u8 0, .int .u32 0, .int .u32 0, .int .u32 0] 24).allocC #[.int .u8 0, .int .u8 0, .int .u32 0, .int .u32 0, .int .u32 0] 24
  have s1 : (w.alloc (.cells #[.pointer (some ⟨b, 0, none⟩)] 54)).heap.size = w.heap.size + 1 := Array.size_push _
  have s2 : ((w.alloc (.cells #[.pointer (some ⟨b, 0, none⟩)] 54)).alloc (.cells #[.int .u8 0, .int .u8 0, .int .u32 0, .int .u32 0, .int .u32 0] 24)).heap.size = w.heap.size + 1 + 1 := (Array.size_push _).trans (by rw [s1])
  rw [s1, s2] at h1
  have q0 := h1.three.cell 0
  simp at q0
  have d0 := headB_split hb
  have wd3 := wid15
  have wd4 := wid015
  rw [wd3, wd4] at d0
  have d1 := drop_next d0 (length_bitsN _ _)
  have d2 := drop_next d1 (length_bitsN _ _)
  have d3 := drop_next d2 (length_var _)
  have c15 := hR.c15
  have e32 := hR.e32
  have t32 := hR.t32
  have s32 := hR.s32
  have H1 : Hid (Calls _ _ _ _ _) := rdgetIn w0 _ _ b P t 1 _ 1 5 2 h1.four (by omega) (by omega) (by rw [wd3]; exact d0) (by omega) (by omega)
  rw [wd3] at H1
  have HR : Hid (Right 2 c e tk s) := hR
  have m2 : (c : Int) % 256 = (c : Int) := by omega
  have m3 : (e : Int) % 4294967296 = (e : Int) := by omega
  have m4 : (tk : Int) % 4294967296 = (tk : Int) := by omega
  clear h h1 hb hR d0 s1 s2
  go_enter Tryz.func37, Tryz.ntmps37
  go_wp2_with fail
  refine H1.out.mono ?_
  rintro x w1 ⟨rfl, h1⟩
  generalize hbx : w.heap.size = bx at *
  clear hbx
  have z0 := h1.two.froz 0
  have y0 := h1.two.cell 0
  simp at y0
  have h2 : Own w0 (w1.setCell ⟨bx + 1 + 1, 0, none⟩ (.int .u8 2)) (Cells (bx + 1 + 1) #[.int .u8 2, .int .u8 0, .int .u32 0, .int .u32 0, .int .u32 0] 24 :: RdT b P (t + 3) :: Cells (bx + 1) #[.int .u8 0, .int .u8 0, .int .u32 0, .int .u32 0, .int .u32 0] 24 :: Cells bx #[.pointer (some ⟨b, 0, none⟩)] 54 :: l) := h1.two.setC 0 (.int .u8 2)
  have q1 := h2.four.cell 0
  simp at q1
  have H2 : Hid (Calls _ _ _ _ _) := rdgetIn w0 _ _ b P (t + 3) c _ 0 15 (c : Int) h2.two (by omega) (by omega) (by rw [wd4]; exact d1) (by omega) (by omega)
  rw [wd4] at H2
  clear h1 h2 H1 q0 d1
  go_wp2_with fail
  refine H2.out.mono ?_
  rintro x w2 ⟨rfl, h3⟩
  have z1 := h3.two.froz 1
  have y1 := h3.two.cell 1
  simp at y1
  have h4 : Own w0 (w2.setCell ⟨bx + 1 + 1, 1, none⟩ (.int .u8 (c : Int))) (Cells (bx + 1 + 1) #[.int .u8 2, .int .u8 (c : Int), .int .u32 0, .int .u32 0, .int .u32 0] 24 :: RdT b P (t + 3 + 4) :: Cells (bx + 1) #[.int .u8 0, .int .u8 0, .int .u32 0, .int .u32 0, .int .u32 0] 24 :: Cells bx #[.pointer (some ⟨b, 0, none⟩)] 54 :: l) := h3.two.setC 1 (.int .u8 (c : Int))
  have q2 := h4.four.cell 0
  simp at q2
  have H3 : Hid (Calls Tryz.prog 60 #[.agg #[.pointer (some ⟨b, 0, none⟩)], .int .u64 4294967296] _ _) := rdbelow w0 _ _ b P (t + 3 + 4) e 4294967296 _ h4.two (by omega) d2 (by omega) (by omega)
  clear h3 h4 H2 q1 d2 z0 y0
  go_wp2_with fail
  refine H3.out.mono ?_
  rintro x w3 ⟨rfl, h5⟩
  have z2 := h5.two.froz 2
  have y2 := h5.two.cell 2
  simp at y2
  have h6 : Own w0 (w3.setCell ⟨bx + 1 + 1, 2, none⟩ (.int .u32 (e : Int))) (Cells (bx + 1 + 1) #[.int .u8 2, .int .u8 (c : Int), .int .u32 (e : Int), .int .u32 0, .int .u32 0] 24 :: RdT b P (t + 3 + 4 + 5 * grp e) :: Cells (bx + 1) #[.int .u8 0, .int .u8 0, .int .u32 0, .int .u32 0, .int .u32 0] 24 :: Cells bx #[.pointer (some ⟨b, 0, none⟩)] 54 :: l) := h5.two.setC 2 (.int .u32 (e : Int))
  have q3 := h6.cell 0
  simp at q3
  have HTK : Hid (∀ W, Calls Tryz.prog 26 #[.int .u8 2] W fun e w' => e = .returned (.bool (hasT 2)) ∧ w' = W) := fun W => hasTick_any W 2 (by omega)
  have H6 : Hid (Own w0 _ _) := h6
  clear h5 h6 H3 q2 z1 y1
  go_wp2_with fail
  refine (HTK.out _).mono ?_
  rintro x w4' ⟨rfl, rfl⟩
  clear HTK q3
  rw [if_pos hT] at d3
  have d4 := drop_next d3 (length_bitsN _ _)
  have H4 : Hid (Calls Tryz.prog 61 #[.agg #[.pointer (some ⟨b, 0, none⟩)], .int .i64 32] _ _) := rdget w0 _ _ b P (t + 3 + 4 + 5 * grp e) 32 tk H6.out.two (by decide) (room_of d3 (by decide)) (numAt_of d3 (by show _ < 4294967296; omega))
  have q4 := H6.out.four.cell 0
  simp at q4
  rw [hT]
  have HTT : Hid (hasT 2 = true) := hT
  clear H6 d3 hT z2 y2
  go_wp2_with fail
  refine H4.out.mono ?_
  rintro x w5 ⟨rfl, h7⟩
  have z3 := h7.two.froz 3
  have y3 := h7.two.cell 3
  simp at y3
  have h8 : Own w0 (w5.setCell ⟨bx + 1 + 1, 3, none⟩ (.int .u32 (tk : Int))) (Cells (bx + 1 + 1) #[.int .u8 2, .int .u8 (c : Int), .int .u32 (e : Int), .int .u32 (tk : Int), .int .u32 0] 24 :: RdT b P (t + 3 + 4 + 5 * grp e + 32) :: Cells (bx + 1) #[.int .u8 0, .int .u8 0, .int .u32 0, .int .u32 0, .int .u32 0] 24 :: Cells bx #[.pointer (some ⟨b, 0, none⟩)] 54 :: l) := h7.two.setC 3 (.int .u32 (tk : Int))
  have q5 := h8.cell 0
  have q6 := h8.cell 3
  simp at q5 q6
  clear h7 H4 q4
  have d4 := (show List.drop _ (bitsB P) = var (tk - s - 1) ++ R by first | (rw [if_pos rfl] at d4; exact d4) | (rw [if_pos trivial] at d4; exact d4))
  have hst : s < tk := bfit2 HR.out.bf
  have q7 := h8.four.cell 0
  simp at q7
  have m8 : IntKind.u64.wrap (tk : Int) = (tk : Int) := by rw [IntKind.wrap_u64]; omega
  have H5 : Hid (∀ W v, v = (tk : Int) → Own w0 W (Cells (bx + 1 + 1) #[.int .u8 2, .int .u8 (c : Int), .int .u32 (e : Int), .int .u32 (tk : Int), .int .u32 0] 24 :: RdT b P (t + 3 + 4 + 5 * grp e + 32) :: Cells (bx + 1) #[.int .u8 0, .int .u8 0, .int .u32 0, .int .u32 0, .int .u32 0] 24 :: Cells bx #[.pointer (some ⟨b, 0, none⟩)] 54 :: l) → Calls Tryz.prog 60 #[.agg #[.pointer (some ⟨b, 0, none⟩)], .int .u64 v] W fun x w' => x = .returned (.int .u64 ((tk - s - 1 : Nat) : Int)) ∧ Own w0 w' (RdT b P (t + 3 + 4 + 5 * grp e + 32 + 5 * grp (tk - s - 1)) :: Cells (bx + 1 + 1) #[.int .u8 2, .int .u8 (c : Int), .int .u32 (e : Int), .int .u32 (tk : Int), .int .u32 0] 24 :: Cells (bx + 1) #[.int .u8 0, .int .u8 0, .int .u32 0, .int .u32 0, .int .u32 0] 24 :: Cells bx #[.pointer (some ⟨b, 0, none⟩)] 54 :: l)) := fun W v hv hW => by rw [hv]; exact rdbelow w0 W _ b P (t + 3 + 4 + 5 * grp e + 32) (tk - s - 1) tk _ hW.two (by omega) d4 (by omega) (by omega)
  have m6 : ((tk - s - 1 : Nat) : Int) % 4294967296 = ((tk - s - 1 : Nat) : Int) := by omega
  have m5 : ((tk : Int) - ((tk - s - 1 : Nat) : Int) - 1) % 4294967296 = (s : Int) := by omega
  have m7 : ((tk : Int) - ((tk - s - 1 : Nat) : Int)) % 4294967296 = (s : Int) + 1 := by omega
  have m9 : IntKind.u32.wrap (IntKind.u32.wrap ((tk : Int) - IntKind.u32.wrap ((tk - s - 1 : Nat) : Int)) - 1) = (s : Int) := by rw [IntKind.wrap_u32, IntKind.wrap_u32, IntKind.wrap_u32]; omega
  have O1 := h8.drew
  clear h8 d4
  go_wp2
  go_region_held3 (fun w' => w'.cell? ⟨bx + 1 + 1, 3, none⟩ = some (.int .u32 (tk : Int)) ∧ w'.cell? ⟨bx, 0, none⟩ = some (.pointer (some ⟨b, 0, none⟩))) (first | go_keep | exact ⟨K3 _, K0 _⟩)
    ((go_at_call 60; with_reducible refine (H5.out _ _ (by first | rfl | exact m8) O1).mono ?_; rintro x w6 ⟨rfl, h9⟩
      have u3 := (Own.two h9).cell 3
      have u4 := (Own.two h9).cell 4
      have u0 := (Own.four h9).cell 0
      have v4 := (Own.two h9).froz 4
      simp at u0 u3 u4
      have K3 : ∀ u, (w6.setCell ⟨bx + 1 + 1, 4, none⟩ u).cell? ⟨bx + 1 + 1, 3, none⟩ = some (.int .u32 (tk : Int)) := fun u => by have := ((Own.two h9).setC 4 u).cell 3; simpa using this
      have K0 : ∀ u, (w6.setCell ⟨bx + 1 + 1, 4, none⟩ u).cell? ⟨bx, 0, none⟩ = some (.pointer (some ⟨b, 0, none⟩)) := fun u => by have := (Own.four ((Own.two h9).setC 4 u)).cell 0; simpa using this))
  have hn : (t + 3 + 4 + 5 * grp e + 32 + 5 * grp (tk - s - 1)) = t + (headB 2 c e tk s).length := by
    unfold headB; rw [if_pos HTT.out, if_pos rfl]
    simp only [List.length_append, length_bitsN, length_var, wd3, wd4]; omega
  generalize tk - s - 1 = dd at *
  have h8 : Own w0 (w6.setCell ⟨bx + 1 + 1, 4, none⟩ (.int .u32 (s : Int))) (Cells (bx + 1 + 1) #[.int .u8 2, .int .u8 (c : Int), .int .u32 (e : Int), .int .u32 (tk : Int), .int .u32 (s : Int)] 24 :: RdT b P (t + (headB 2 c e tk s).length) :: Cells (bx + 1) #[.int .u8 0, .int .u8 0, .int .u32 0, .int .u32 0, .int .u32 0] 24 :: Cells bx #[.pointer (some ⟨b, 0, none⟩)] 54 :: l) := by rw [← hn]; exact h9.two.setC 4 (.int .u32 (s : Int))
  clear hn h9 H5 O1 q5 q6 q7 z3 y3 u0 u3 u4 v4 K3 K0
  have p0 := h8.cell 0
  have p1 := h8.cell 1
  have p2 := h8.cell 2
  have p3 := h8.cell 3
  have p4 := h8.cell 4
  simp at p0 p1 p2 p3 p4
  have HC : Hid (∀ W, Calls Tryz.prog 10 #[.agg #[.int .u8 2, .int .u8 (c : Int), .int .u32 (e : Int), .int .u32 (tk : Int), .int .u32 (s : Int)]] W fun x w' => x = .returned (.int .i64 0) ∧ Fr Nobody W w') := fun W => check_ok W 2 c e tk s HR.out
  have H8 : Hid (Own w0 _ _) := h8
  clear h8
  go_wp2_with fail
  refine (HC.out _).mono ?_
  rintro x w7 ⟨rfl, hf7⟩
  have h9 := H8.out.quiet hf7
  have HM : Hid (Calls _ _ _ _ _) := must_ok w7
  have H9 : Hid (Own w0 w7 _) := h9
  clear hf7 H8 HC p0 p1 p2 p3 p4 h9
  go_wp2_with fail
  refine HM.out.mono ?_
  rintro x w8 ⟨rfl, rfl⟩
  have p0 := H9.out.cell 0
  have p1 := H9.out.cell 1
  have p2 := H9.out.cell 2
  have p3 := H9.out.cell 3
  have p4 := H9.out.cell 4
  simp at p0 p1 p2 p3 p4
  have f0 := H9.out.three.froz 0
  have f1 := H9.out.three.froz 1
  have f2 := H9.out.three.froz 2
  have f3 := H9.out.three.froz 3
  have f4 := H9.out.three.froz 4
  have r0 := H9.out.three.cell 0
  have r1 := H9.out.three.cell 1
  have r2 := H9.out.three.cell 2
  have r3 := H9.out.three.cell 3
  have r4 := H9.out.three.cell 4
  simp at r0 r1 r2 r3 r4
  have H10 : Hid (Own w0 (((((w8.setCell ⟨bx + 1, 0, none⟩ (.int .u8 2)).setCell ⟨bx + 1, 1, none⟩ (.int .u8 (c : Int))).setCell ⟨bx + 1, 2, none⟩ (.int .u32 (e : Int))).setCell ⟨bx + 1, 3, none⟩ (.int .u32 (tk : Int))).setCell ⟨bx + 1, 4, none⟩ (.int .u32 (s : Int))) (Cells (bx + 1) #[.int .u8 2, .int .u8 (c : Int), .int .u32 (e : Int), .int .u32 (tk : Int), .int .u32 (s : Int)] 24 :: Cells (bx + 1 + 1) #[.int .u8 2, .int .u8 (c : Int), .int .u32 (e : Int), .int .u32 (tk : Int), .int .u32 (s : Int)] 24 :: RdT b P (t + (headB 2 c e tk s).length) :: Cells bx #[.pointer (some ⟨b, 0, none⟩)] 54 :: l)) := ((((H9.out.three.setC 0 (.int .u8 2)).setC 1 (.int .u8 (c : Int))).setC 2 (.int .u32 (e : Int))).setC 3 (.int .u32 (tk : Int))).setC 4 (.int .u32 (s : Int))
  clear H9 HM
  go_wp2
  (try simp only [Exit.inBlock, Exit.then])
  refine bodyPost_ret (results_cell_row rfl _ _ (bx + 1) 24 #[.int .u8 2, .int .u8 (c : Int), .int .u32 (e : Int), .int .u32 (tk : Int), .int .u32 (s : Int)] _ _ rfl H10.out.obj Tryz.underlying24 rfl (by kernel_rfl)) rfl ?_
  exact ⟨rfl, H10.out.tail.tail.two.tail⟩
set_option maxHeartbeats 4000000 in
theorem rdhead2 (w0 w : World) (l : List Thing) (b : Nat) (P : List Nat) (t : Nat) (h : Own w0 w (RdT b P t :: l)) (k c e tk s : Nat) (hR : Right k c e tk s) (R : List Bool) (hb : (bitsB P).drop t = headB k c e tk s ++ R) (k2 : k ≠ 2) (hT : hasT k = true) :
    Calls Tryz.prog 37 #[.agg #[.pointer (some ⟨b, 0, none⟩)]] w fun x w' => x = .returned (.agg (hvs k c e tk s)) ∧ Own w0 w' (RdT b P (t + (headB k c e tk s).length) :: l) := by
  have h1 := ((h.allocC #[.pointer (some ⟨b, 0, none⟩)] 54).allocC #[.int .u8 0, .int .u8 0, .int .u32 0, .int .u32 0, .int .u32 0] 24).allocC #[.int .u8 0, .int .u8 0, .int .u32 0, .int .u32 0, .int .u32 0] 24
  have s1 : (w.alloc (.cells #[.pointer (some ⟨b, 0, none⟩)] 54)).heap.size = w.heap.size + 1 := Array.size_push _
  have s2 : ((w.alloc (.cells #[.pointer (some ⟨b, 0, none⟩)] 54)).alloc (.cells #[.int .u8 0, .int .u8 0, .int .u32 0, .int .u32 0, .int .u32 0] 24)).heap.size = w.heap.size + 1 + 1 := (Array.size_push _).trans (by rw [s1])
  rw [s1, s2] at h1
  have q0 := h1.three.cell 0
  simp at q0
  have d0 := headB_split hb
  have wd3 := wid15
  have wd4 := wid015
  rw [wd3, wd4] at d0
  have d1 := drop_next d0 (length_bitsN _ _)
  have d2 := drop_next d1 (length_bitsN _ _)
  have d3 := drop_next d2 (length_var _)
  have k1 := hR.k1
  have k5 := hR.k5
  have c15 := hR.c15
  have e32 := hR.e32
  have t32 := hR.t32
  have s32 := hR.s32
  have H1 : Hid (Calls _ _ _ _ _) := rdgetIn w0 _ _ b P t (k - 1) _ 1 5 (k : Int) h1.four (by omega) (by omega) (by rw [wd3]; exact d0) (by omega) (by omega)
  rw [wd3] at H1
  have HR : Hid (Right k c e tk s) := hR
  have m1 : (k : Int) % 256 = (k : Int) := by omega
  have m2 : (c : Int) % 256 = (c : Int) := by omega
  have m3 : (e : Int) % 4294967296 = (e : Int) := by omega
  have m4 : (tk : Int) % 4294967296 = (tk : Int) := by omega
  clear h h1 hb hR d0 s1 s2
  go_enter Tryz.func37, Tryz.ntmps37
  go_wp2_with fail
  refine H1.out.mono ?_
  rintro x w1 ⟨rfl, h1⟩
  generalize hbx : w.heap.size = bx at *
  clear hbx
  have z0 := h1.two.froz 0
  have y0 := h1.two.cell 0
  simp at y0
  have h2 : Own w0 (w1.setCell ⟨bx + 1 + 1, 0, none⟩ (.int .u8 (k : Int))) (Cells (bx + 1 + 1) #[.int .u8 (k : Int), .int .u8 0, .int .u32 0, .int .u32 0, .int .u32 0] 24 :: RdT b P (t + 3) :: Cells (bx + 1) #[.int .u8 0, .int .u8 0, .int .u32 0, .int .u32 0, .int .u32 0] 24 :: Cells bx #[.pointer (some ⟨b, 0, none⟩)] 54 :: l) := h1.two.setC 0 (.int .u8 (k : Int))
  have q1 := h2.four.cell 0
  simp at q1
  have H2 : Hid (Calls _ _ _ _ _) := rdgetIn w0 _ _ b P (t + 3) c _ 0 15 (c : Int) h2.two (by omega) (by omega) (by rw [wd4]; exact d1) (by omega) (by omega)
  rw [wd4] at H2
  clear h1 h2 H1 q0 d1
  go_wp2_with fail
  refine H2.out.mono ?_
  rintro x w2 ⟨rfl, h3⟩
  have z1 := h3.two.froz 1
  have y1 := h3.two.cell 1
  simp at y1
  have h4 : Own w0 (w2.setCell ⟨bx + 1 + 1, 1, none⟩ (.int .u8 (c : Int))) (Cells (bx + 1 + 1) #[.int .u8 (k : Int), .int .u8 (c : Int), .int .u32 0, .int .u32 0, .int .u32 0] 24 :: RdT b P (t + 3 + 4) :: Cells (bx + 1) #[.int .u8 0, .int .u8 0, .int .u32 0, .int .u32 0, .int .u32 0] 24 :: Cells bx #[.pointer (some ⟨b, 0, none⟩)] 54 :: l) := h3.two.setC 1 (.int .u8 (c : Int))
  have q2 := h4.four.cell 0
  simp at q2
  have H3 : Hid (Calls Tryz.prog 60 #[.agg #[.pointer (some ⟨b, 0, none⟩)], .int .u64 4294967296] _ _) := rdbelow w0 _ _ b P (t + 3 + 4) e 4294967296 _ h4.two (by omega) d2 (by omega) (by omega)
  clear h3 h4 H2 q1 d2 z0 y0
  go_wp2_with fail
  refine H3.out.mono ?_
  rintro x w3 ⟨rfl, h5⟩
  have z2 := h5.two.froz 2
  have y2 := h5.two.cell 2
  simp at y2
  have h6 : Own w0 (w3.setCell ⟨bx + 1 + 1, 2, none⟩ (.int .u32 (e : Int))) (Cells (bx + 1 + 1) #[.int .u8 (k : Int), .int .u8 (c : Int), .int .u32 (e : Int), .int .u32 0, .int .u32 0] 24 :: RdT b P (t + 3 + 4 + 5 * grp e) :: Cells (bx + 1) #[.int .u8 0, .int .u8 0, .int .u32 0, .int .u32 0, .int .u32 0] 24 :: Cells bx #[.pointer (some ⟨b, 0, none⟩)] 54 :: l) := h5.two.setC 2 (.int .u32 (e : Int))
  have q3 := h6.cell 0
  simp at q3
  have HTK : Hid (∀ W, Calls Tryz.prog 26 #[.int .u8 (k : Int)] W fun e w' => e = .returned (.bool (hasT k)) ∧ w' = W) := fun W => hasTick_any W k (by omega)
  have H6 : Hid (Own w0 _ _) := h6
  clear h5 h6 H3 q2 z1 y1
  go_wp2_with fail
  refine (HTK.out _).mono ?_
  rintro x w4' ⟨rfl, rfl⟩
  clear HTK q3
  rw [if_pos hT] at d3
  have d4 := drop_next d3 (length_bitsN _ _)
  have H4 : Hid (Calls Tryz.prog 61 #[.agg #[.pointer (some ⟨b, 0, none⟩)], .int .i64 32] _ _) := rdget w0 _ _ b P (t + 3 + 4 + 5 * grp e) 32 tk H6.out.two (by decide) (room_of d3 (by decide)) (numAt_of d3 (by show _ < 4294967296; omega))
  have q4 := H6.out.four.cell 0
  simp at q4
  rw [hT]
  have HTT : Hid (hasT k = true) := hT
  clear H6 d3 hT z2 y2
  go_wp2_with fail
  refine H4.out.mono ?_
  rintro x w5 ⟨rfl, h7⟩
  have z3 := h7.two.froz 3
  have y3 := h7.two.cell 3
  simp at y3
  have h8 : Own w0 (w5.setCell ⟨bx + 1 + 1, 3, none⟩ (.int .u32 (tk : Int))) (Cells (bx + 1 + 1) #[.int .u8 (k : Int), .int .u8 (c : Int), .int .u32 (e : Int), .int .u32 (tk : Int), .int .u32 0] 24 :: RdT b P (t + 3 + 4 + 5 * grp e + 32) :: Cells (bx + 1) #[.int .u8 0, .int .u8 0, .int .u32 0, .int .u32 0, .int .u32 0] 24 :: Cells bx #[.pointer (some ⟨b, 0, none⟩)] 54 :: l) := h7.two.setC 3 (.int .u32 (tk : Int))
  have q5 := h8.cell 0
  have q6 := h8.cell 3
  simp at q5 q6
  clear h7 H4 q4
  have e1 : ((k : Int) == 2) = false := by rw [beq_eq_false_iff_ne]; omega
  have s0 : s = 0 := by have := HR.out.bf; unfold bfit at this; rw [if_neg k2] at this; simpa using this
  subst s0
  rw [if_neg k2] at d4
  have hn : (t + 3 + 4 + 5 * grp e + 32) = t + (headB k c e tk 0).length := by
    unfold headB; rw [if_pos HTT.out, if_neg k2]
    simp only [List.length_append, length_bitsN, length_var, wd3, wd4, List.length_nil]; omega
  rw [hn] at h8
  clear hn d4 k2
  have p0 := h8.cell 0
  have p1 := h8.cell 1
  have p2 := h8.cell 2
  have p3 := h8.cell 3
  have p4 := h8.cell 4
  simp at p0 p1 p2 p3 p4
  have HC : Hid (∀ W, Calls Tryz.prog 10 #[.agg #[.int .u8 (k : Int), .int .u8 (c : Int), .int .u32 (e : Int), .int .u32 (tk : Int), .int .u32 0]] W fun x w' => x = .returned (.int .i64 0) ∧ Fr Nobody W w') := fun W => check_ok W k c e tk 0 HR.out
  have H8 : Hid (Own w0 _ _) := h8
  clear h8
  go_wp2_with fail
  refine (HC.out _).mono ?_
  rintro x w7 ⟨rfl, hf7⟩
  have h9 := H8.out.quiet hf7
  have HM : Hid (Calls _ _ _ _ _) := must_ok w7
  have H9 : Hid (Own w0 w7 _) := h9
  clear hf7 H8 HC p0 p1 p2 p3 p4 h9
  go_wp2_with fail
  refine HM.out.mono ?_
  rintro x w8 ⟨rfl, rfl⟩
  have p0 := H9.out.cell 0
  have p1 := H9.out.cell 1
  have p2 := H9.out.cell 2
  have p3 := H9.out.cell 3
  have p4 := H9.out.cell 4
  simp at p0 p1 p2 p3 p4
  have f0 := H9.out.three.froz 0
  have f1 := H9.out.three.froz 1
  have f2 := H9.out.three.froz 2
  have f3 := H9.out.three.froz 3
  have f4 := H9.out.three.froz 4
  have r0 := H9.out.three.cell 0
  have r1 := H9.out.three.cell 1
  have r2 := H9.out.three.cell 2
  have r3 := H9.out.three.cell 3
  have r4 := H9.out.three.cell 4
  simp at r0 r1 r2 r3 r4
  have H10 : Hid (Own w0 (((((w8.setCell ⟨bx + 1, 0, none⟩ (.int .u8 (k : Int))).setCell ⟨bx + 1, 1, none⟩ (.int .u8 (c : Int))).setCell ⟨bx + 1, 2, none⟩ (.int .u32 (e : Int))).setCell ⟨bx + 1, 3, none⟩ (.int .u32 (tk : Int))).setCell ⟨bx + 1, 4, none⟩ (.int .u32 0)) (Cells (bx + 1) #[.int .u8 (k : Int), .int .u8 (c : Int), .int .u32 (e : Int), .int .u32 (tk : Int), .int .u32 0] 24 :: Cells (bx + 1 + 1) #[.int .u8 (k : Int), .int .u8 (c : Int), .int .u32 (e : Int), .int .u32 (tk : Int), .int .u32 0] 24 :: RdT b P (t + (headB k c e tk 0).length) :: Cells bx #[.pointer (some ⟨b, 0, none⟩)] 54 :: l)) := ((((H9.out.three.setC 0 (.int .u8 (k : Int))).setC 1 (.int .u8 (c : Int))).setC 2 (.int .u32 (e : Int))).setC 3 (.int .u32 (tk : Int))).setC 4 (.int .u32 0)
  clear H9 HM
  go_wp2
  (try simp only [Exit.inBlock, Exit.then])
  refine bodyPost_ret (results_cell_row rfl _ _ (bx + 1) 24 #[.int .u8 (k : Int), .int .u8 (c : Int), .int .u32 (e : Int), .int .u32 (tk : Int), .int .u32 0] _ _ rfl H10.out.obj Tryz.underlying24 rfl (by kernel_rfl)) rfl ?_
  exact ⟨rfl, H10.out.tail.tail.two.tail⟩
set_option maxHeartbeats 4000000 in
theorem rdhead3 (w0 w : World) (l : List Thing) (b : Nat) (P : List Nat) (t : Nat) (h : Own w0 w (RdT b P t :: l)) (k c e tk s : Nat) (hR : Right k c e tk s) (R : List Bool) (hb : (bitsB P).drop t = headB k c e tk s ++ R) (hT : hasT k = false) :
    Calls Tryz.prog 37 #[.agg #[.pointer (some ⟨b, 0, none⟩)]] w fun x w' => x = .returned (.agg (hvs k c e tk s)) ∧ Own w0 w' (RdT b P (t + (headB k c e tk s).length) :: l) := by
  have h1 := ((h.allocC #[.pointer (some ⟨b, 0, none⟩)] 54).allocC #[.int .u8 0, .int .u8 0, .int .u32 0, .int .u32 0, .int .u32 0] 24).allocC #[.int .u8 0, .int .u8 0, .int .u32 0, .int .u32 0, .int .u32 0] 24
  have s1 : (w.alloc (.cells #[.pointer (some ⟨b, 0, none⟩)] 54)).heap.size = w.heap.size + 1 := Array.size_push _
  have s2 : ((w.alloc (.cells #[.pointer (some ⟨b, 0, none⟩)] 54)).alloc (.cells #[.int .u8 0, .int .u8 0, .int .u32 0, .int .u32 0, .int .u32 0] 24)).heap.size = w.heap.size + 1 + 1 := (Array.size_push _).trans (by rw [s1])
  rw [s1, s2] at h1
  have q0 := h1.three.cell 0
  simp at q0
  have d0 := headB_split hb
  have wd3 := wid15
  have wd4 := wid015
  rw [wd3, wd4] at d0
  have d1 := drop_next d0 (length_bitsN _ _)
  have d2 := drop_next d1 (length_bitsN _ _)
  have d3 := drop_next d2 (length_var _)
  have k1 := hR.k1
  have k5 := hR.k5
  have c15 := hR.c15
  have e32 := hR.e32
  have t32 := hR.t32
  have s32 := hR.s32
  have H1 : Hid (Calls _ _ _ _ _) := rdgetIn w0 _ _ b P t (k - 1) _ 1 5 (k : Int) h1.four (by omega) (by omega) (by rw [wd3]; exact d0) (by omega) (by omega)
  rw [wd3] at H1
  have HR : Hid (Right k c e tk s) := hR
  have m1 : (k : Int) % 256 = (k : Int) := by omega
  have m2 : (c : Int) % 256 = (c : Int) := by omega
  have m3 : (e : Int) % 4294967296 = (e : Int) := by omega
  have m4 : (tk : Int) % 4294967296 = (tk : Int) := by omega
  clear h h1 hb hR d0 s1 s2
  go_enter Tryz.func37, Tryz.ntmps37
  go_wp2_with fail
  refine H1.out.mono ?_
  rintro x w1 ⟨rfl, h1⟩
  generalize hbx : w.heap.size = bx at *
  clear hbx
  have z0 := h1.two.froz 0
  have y0 := h1.two.cell 0
  simp at y0
  have h2 : Own w0 (w1.setCell ⟨bx + 1 + 1, 0, none⟩ (.int .u8 (k : Int))) (Cells (bx + 1 + 1) #[.int .u8 (k : Int), .int .u8 0, .int .u32 0, .int .u32 0, .int .u32 0] 24 :: RdT b P (t + 3) :: Cells (bx + 1) #[.int .u8 0, .int .u8 0, .int .u32 0, .int .u32 0, .int .u32 0] 24 :: Cells bx #[.pointer (some ⟨b, 0, none⟩)] 54 :: l) := h1.two.setC 0 (.int .u8 (k : Int))
  have q1 := h2.four.cell 0
  simp at q1
  have H2 : Hid (Calls _ _ _ _ _) := rdgetIn w0 _ _ b P (t + 3) c _ 0 15 (c : Int) h2.two (by omega) (by omega) (by rw [wd4]; exact d1) (by omega) (by omega)
  rw [wd4] at H2
  clear h1 h2 H1 q0 d1
  go_wp2_with fail
  refine H2.out.mono ?_
  rintro x w2 ⟨rfl, h3⟩
  have z1 := h3.two.froz 1
  have y1 := h3.two.cell 1
  simp at y1
  have h4 : Own w0 (w2.setCell ⟨bx + 1 + 1, 1, none⟩ (.int .u8 (c : Int))) (Cells (bx + 1 + 1) #[.int .u8 (k : Int), .int .u8 (c : Int), .int .u32 0, .int .u32 0, .int .u32 0] 24 :: RdT b P (t + 3 + 4) :: Cells (bx + 1) #[.int .u8 0, .int .u8 0, .int .u32 0, .int .u32 0, .int .u32 0] 24 :: Cells bx #[.pointer (some ⟨b, 0, none⟩)] 54 :: l) := h3.two.setC 1 (.int .u8 (c : Int))
  have q2 := h4.four.cell 0
  simp at q2
  have H3 : Hid (Calls Tryz.prog 60 #[.agg #[.pointer (some ⟨b, 0, none⟩)], .int .u64 4294967296] _ _) := rdbelow w0 _ _ b P (t + 3 + 4) e 4294967296 _ h4.two (by omega) d2 (by omega) (by omega)
  clear h3 h4 H2 q1 d2 z0 y0
  go_wp2_with fail
  refine H3.out.mono ?_
  rintro x w3 ⟨rfl, h5⟩
  have z2 := h5.two.froz 2
  have y2 := h5.two.cell 2
  simp at y2
  have h6 : Own w0 (w3.setCell ⟨bx + 1 + 1, 2, none⟩ (.int .u32 (e : Int))) (Cells (bx + 1 + 1) #[.int .u8 (k : Int), .int .u8 (c : Int), .int .u32 (e : Int), .int .u32 0, .int .u32 0] 24 :: RdT b P (t + 3 + 4 + 5 * grp e) :: Cells (bx + 1) #[.int .u8 0, .int .u8 0, .int .u32 0, .int .u32 0, .int .u32 0] 24 :: Cells bx #[.pointer (some ⟨b, 0, none⟩)] 54 :: l) := h5.two.setC 2 (.int .u32 (e : Int))
  have q3 := h6.cell 0
  simp at q3
  have HTK : Hid (∀ W, Calls Tryz.prog 26 #[.int .u8 (k : Int)] W fun e w' => e = .returned (.bool (hasT k)) ∧ w' = W) := fun W => hasTick_any W k (by omega)
  have H6 : Hid (Own w0 _ _) := h6
  clear h5 h6 H3 q2 z1 y1
  go_wp2_with fail
  refine (HTK.out _).mono ?_
  rintro x w4' ⟨rfl, rfl⟩
  clear HTK q3
  have h8 := H6.out
  have q5 := h8.cell 0
  simp at q5
  rw [hT]
  clear H6 z2 y2
  have k2 : k ≠ 2 := by rintro rfl; cases hT
  have e1 : ((k : Int) == 2) = false := by rw [beq_eq_false_iff_ne]; omega
  have s0 : s = 0 := by have := HR.out.bf; unfold bfit at this; rw [if_neg k2] at this; simpa using this
  have t0 : tk = 0 := by have := HR.out.tf; unfold tfit at this; rw [hT] at this; simpa using this
  subst s0 t0
  have hn : (t + 3 + 4 + 5 * grp e) = t + (headB k c e 0 0).length := by
    unfold headB; rw [if_neg (by rw [hT]; decide), if_neg k2]
    simp only [List.length_append, length_bitsN, length_var, wd3, wd4, List.length_nil]; omega
  rw [hn] at h8
  clear hn d3 k2 hT
  have p0 := h8.cell 0
  have p1 := h8.cell 1
  have p2 := h8.cell 2
  have p3 := h8.cell 3
  have p4 := h8.cell 4
  simp at p0 p1 p2 p3 p4
  have HC : Hid (∀ W, Calls Tryz.prog 10 #[.agg #[.int .u8 (k : Int), .int .u8 (c : Int), .int .u32 (e : Int), .int .u32 0, .int .u32 0]] W fun x w' => x = .returned (.int .i64 0) ∧ Fr Nobody W w') := fun W => check_ok W k c e 0 0 HR.out
  have H8 : Hid (Own w0 _ _) := h8
  clear h8
  go_wp2_with fail
  refine (HC.out _).mono ?_
  rintro x w7 ⟨rfl, hf7⟩
  have h9 := H8.out.quiet hf7
  have HM : Hid (Calls _ _ _ _ _) := must_ok w7
  have H9 : Hid (Own w0 w7 _) := h9
  clear hf7 H8 HC p0 p1 p2 p3 p4 h9
  go_wp2_with fail
  refine HM.out.mono ?_
  rintro x w8 ⟨rfl, rfl⟩
  have p0 := H9.out.cell 0
  have p1 := H9.out.cell 1
  have p2 := H9.out.cell 2
  have p3 := H9.out.cell 3
  have p4 := H9.out.cell 4
  simp at p0 p1 p2 p3 p4
  have f0 := H9.out.three.froz 0
  have f1 := H9.out.three.froz 1
  have f2 := H9.out.three.froz 2
  have f3 := H9.out.three.froz 3
  have f4 := H9.out.three.froz 4
  have r0 := H9.out.three.cell 0
  have r1 := H9.out.three.cell 1
  have r2 := H9.out.three.cell 2
  have r3 := H9.out.three.cell 3
  have r4 := H9.out.three.cell 4
  simp at r0 r1 r2 r3 r4
  have H10 : Hid (Own w0 (((((w8.setCell ⟨bx + 1, 0, none⟩ (.int .u8 (k : Int))).setCell ⟨bx + 1, 1, none⟩ (.int .u8 (c : Int))).setCell ⟨bx + 1, 2, none⟩ (.int .u32 (e : Int))).setCell ⟨bx + 1, 3, none⟩ (.int .u32 0)).setCell ⟨bx + 1, 4, none⟩ (.int .u32 0)) (Cells (bx + 1) #[.int .u8 (k : Int), .int .u8 (c : Int), .int .u32 (e : Int), .int .u32 0, .int .u32 0] 24 :: Cells (bx + 1 + 1) #[.int .u8 (k : Int), .int .u8 (c : Int), .int .u32 (e : Int), .int .u32 0, .int .u32 0] 24 :: RdT b P (t + (headB k c e 0 0).length) :: Cells bx #[.pointer (some ⟨b, 0, none⟩)] 54 :: l)) := ((((H9.out.three.setC 0 (.int .u8 (k : Int))).setC 1 (.int .u8 (c : Int))).setC 2 (.int .u32 (e : Int))).setC 3 (.int .u32 0)).setC 4 (.int .u32 0)
  clear H9 HM
  go_wp2
  (try simp only [Exit.inBlock, Exit.then])
  refine bodyPost_ret (results_cell_row rfl _ _ (bx + 1) 24 #[.int .u8 (k : Int), .int .u8 (c : Int), .int .u32 (e : Int), .int .u32 0, .int .u32 0] _ _ rfl H10.out.obj Tryz.underlying24 rfl (by kernel_rfl)) rfl ?_
  exact ⟨rfl, H10.out.tail.tail.two.tail⟩
theorem rdhead (w0 w : World) (l : List Thing) (b : Nat) (P : List Nat) (t : Nat) (h : Own w0 w (RdT b P t :: l)) (k c e tk s : Nat) (hR : Right k c e tk s) (R : List Bool) (hb : (bitsB P).drop t = headB k c e tk s ++ R) :
    Calls Tryz.prog 37 #[.agg #[.pointer (some ⟨b, 0, none⟩)]] w fun x w' => x = .returned (.agg (hvs k c e tk s)) ∧ Own w0 w' (RdT b P (t + (headB k c e tk s).length) :: l) := by
  by_cases hT : hasT k = true
  · by_cases k2 : k = 2
    · subst k2
      exact rdhead1 w0 w l b P t h c e tk s hR R hb hT
    · exact rdhead2 w0 w l b P t h k c e tk s hR R hb k2 hT
  · exact rdhead3 w0 w l b P t h k c e tk s hR R hb (by simpa using hT)
end Go.Proofs.YtcmofbhfdagpcaaGreatDoor
