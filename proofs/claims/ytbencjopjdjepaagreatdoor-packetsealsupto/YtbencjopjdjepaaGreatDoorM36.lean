/-
  The document's Seal of any packet; Peek and Open of what isn't a frame.
-/
import Derived.Test.YtbencjopjdjepaaGreatDoorM35
import Derived.Test.YtbencjopjdjepaaGreatDoorM19
import Derived.Test.YtbencjopjdjepaaGreatDoorM16
import Derived.Test.YtbencjopjdjepaaGreatDoorM13
import Derived.Test.YtbencjopjdjepaaGreatDoorM17
namespace Go.Proofs.YtbencjopjdjepaaGreatDoor
open Go.RowKit
set_option linter.unusedVariables false
set_option maxRecDepth 100000

theorem rseal20 (w0 w : World) (l : List Thing) (h : Own w0 w l) (k c e t s : Nat) (hI : HIn k c e t s) (aw an : Option Addr) (nw nn cw cn : Nat) (W N : List EnE) (hQ : ∀ w', Own w0 w' l → EntsAt w' aw W ∧ EntsAt w' an N) (hW : W.length = nw) (hN : N.length = nn) (hIW : EIn W) (hIN : EIn N) (hzW : esz W ≤ 400) (hzN : esz N ≤ 400) :
    Calls Tryz.prog 14 #[.agg (hvs k c e t s), .slice aw nw cw, .slice an nn cn] w fun x w' => ∃ v code P, x = .returned (.tuple #[v, .int .i64 ((code : Nat) : Int)]) ∧ SealR k c e t s (evs W) (evs N) code P ∧ Own w0 w' (Row 5 1 v P.length (vrow P) :: l) := by
  by_cases hc : hchk k c e t s = 0
  · by_cases k1 : k = 1
    · subst k1
      exact rseal_1 w0 w l h c e t s hI hc aw an nw nn cw cn W N hQ hW hN hIW hIN hzW hzN
    · by_cases k2 : k = 2
      · subst k2
        exact rseal_2 w0 w l h c e t s hI hc aw an nw nn cw cn W N hQ hW hN hIW hIN hzW hzN
      · exact rseal_3 w0 w l h k c e t s hI hc k1 k2 aw an nw nn cw cn W N hQ hW hN hIW hIN hzW hzN
  · exact rseal_bad w0 w l h k c e t s hI hc aw an nw nn cw cn W N hQ hW hN hIW hIN hzW hzN
theorem results_cell_tmp_tmp {fn : Func} {p u v : Tmp} {ty : TypeId} (h : fn.results = #[.cell p ty, .tmp u, .tmp v]) (tmps : Array Value) (P : Program) (w : World) :
    (results fn tmps).run P w =
      ((asAddr (tmps.getD p undef)).run P w).andThen fun a w₁ => ((loadVar ty a).run P w₁).andThen fun x w₂ => .ok (.tuple #[x, tmps.getD u undef, tmps.getD v undef]) w₂ := by
  simp only [results, h]
  simp [Sem.run_bind, Result.andThen]
end Go.Proofs.YtbencjopjdjepaaGreatDoor

/-
  Readers as things: Read, Get, End; GetVar and GetIn of package nums where the bits are a number's.
-/
namespace Go.Proofs.YtbencjopjdjepaaGreatDoor
open Go.RowKit
set_option linter.unusedVariables false
set_option maxRecDepth 100000

/-- a reader: its block and its bytes' -/
def RdT (b : Nat) (P : List Nat) (t : Nat) : Thing where
  is := fun w A => ∃ g, Rd 0 w b g P t ∧ ∀ j, A j ↔ At b g j
  lt := by
    rintro w A j ⟨g, h, hA⟩ a
    rcases (hA j).1 a with rfl | e
    · exact h.lt
    · exact h.glt j e.symm
  keep := by
    rintro w w' A B ⟨g, h, hA⟩ hf hn
    exact ⟨g, h.keep hf (hn b ((hA b).2 (.inl rfl))) (fun k hk => hn k ((hA k).2 (.inr hk.symm))), hA⟩
theorem Own.rd {w0 w : World} {l : List Thing} {b : Nat} {P : List Nat} {t : Nat} (h : Own w0 w (RdT b P t :: l)) : ∃ g, Rd 0 w b g P t ∧ ∀ (w' : World) (t' : Nat), Rd 0 w' b g P t' → Fr (At b none) w w' → Own w0 w' (RdT b P t' :: l) := by
  obtain ⟨A, ⟨g, hw, hA⟩, hlo, act⟩ := h.act
  refine ⟨g, hw, fun w' t' hw' hs => act w' (RdT b P t') (At b g) ⟨g, hw', fun _ => Iff.rfl⟩ (hs.mono (fun k _ hk => (hA k).2 ?_)) (fun k hk => .inl ((hA k).2 hk))⟩
  rcases hk with e | e
  · exact .inl e
  · cases e
theorem read_own (w0 w : World) (l : List Thing) (h : Own w0 w l) (v : Value) (P : List Nat) (hv : Src w v P.length (vrow P)) (hb : ∀ x ∈ P, x < 256) (hn : P.length ≤ 1048576) :
    Calls Tryz.prog 111 #[v] w fun e w' => ∃ b, e = .returned (.pointer (some ⟨b, 0, none⟩)) ∧ Own w0 w' (RdT b P 0 :: l) := by
  refine (read_any w.heap.size w v P hv hb hn (Nat.le_refl _)).mono ?_
  rintro e w' ⟨b, g, rfl, hb0, hk, hR, hF⟩
  refine ⟨b, rfl, h.new (RdT b P 0) (At b g) ⟨g, ⟨Nat.zero_le _, fun _ _ => Nat.zero_le _, hR.ne, hR.byt, hR.len, hR.le, hR.obj⟩, fun _ => Iff.rfl⟩ hF (fun k hk2 => hR.lowAt k hk2)⟩
theorem get_own (w0 w : World) (l : List Thing) (b : Nat) (P : List Nat) (t n : Nat) (h : Own w0 w (RdT b P t :: l)) (hn : n ≤ 64) (hl : t + n ≤ 8 * P.length) :
    Calls Tryz.prog 150 #[.pointer (some ⟨b, 0, none⟩), .int .i64 n] w fun e w' => e = .returned (.tuple #[.int .u64 (numAt P t n : Nat), .int .i64 0]) ∧ Own w0 w' (RdT b P (t + n) :: l) := by
  obtain ⟨g, hR, k⟩ := h.rd
  refine (get_ok2 0 w b g P t n hR hn hl).mono ?_
  rintro e w' ⟨rfl, hR', hf⟩
  exact ⟨rfl, k w' _ hR' hf⟩
theorem getVar_own (w0 w : World) (l : List Thing) (b : Nat) (P : List Nat) (t v : Nat) (R : List Bool) (h : Own w0 w (RdT b P t :: l)) (hv : v < 18446744073709551616) (hb : (bitsB P).drop t = var v ++ R) :
    Calls Tryz.prog 177 #[.pointer (some ⟨b, 0, none⟩)] w fun e w' => e = .returned (.tuple #[.int .u64 (v : Int), .int .i64 0]) ∧ Own w0 w' (RdT b P (t + 5 * grp v) :: l) := by
  obtain ⟨g, hR, k⟩ := h.rd
  have hc := getVar_rd 0 w b g P t hR
  rw [hb, gv_var v hv R] at hc
  refine hc.mono ?_
  rintro e w' ⟨rfl, hR', hf⟩
  exact ⟨rfl, k w' _ hR' hf⟩
theorem gi_backN (x y : Int) (d : Nat) (R : List Bool) (h0 : -9223372036854775808 ≤ x) (h1 : y ≤ 9223372036854775807) (hb : x + (d : Int) ≤ y) : gi x y (bitsN (wid x y) d ++ R) = (0, x + (d : Int), wid x y) := by
  have hlt := in_lt (x + (d : Int)) x y h0 h1 (by omega) hb
  have e : (x + (d : Int) - x).toNat = d := by omega
  rw [e] at hlt
  have htk : (bitsN (wid x y) d ++ R).take (wid x y) = bitsN (wid x y) d := List.take_left' (length_bitsN _ _)
  unfold gi
  rw [htk, num_bitsN, Nat.mod_eq_of_lt hlt, List.length_append, length_bitsN]
  rw [if_neg (by omega), if_neg (by omega), if_neg (by omega)]
theorem getIn_own (w0 w : World) (l : List Thing) (b : Nat) (P : List Nat) (t d : Nat) (R : List Bool) (lo hi : Int) (h : Own w0 w (RdT b P t :: l)) (h0 : -9223372036854775808 ≤ lo) (h1 : hi ≤ 9223372036854775807) (hb : (bitsB P).drop t = bitsN (wid lo hi) d ++ R) (hd : lo + (d : Int) ≤ hi) :
    Calls Tryz.prog 148 #[.pointer (some ⟨b, 0, none⟩), .int .i64 lo, .int .i64 hi] w fun e w' => e = .returned (.tuple #[.int .i64 (lo + (d : Int)), .int .i64 0]) ∧ Own w0 w' (RdT b P (t + wid lo hi) :: l) := by
  obtain ⟨g, hR, k⟩ := h.rd
  have hc := getIn_rd 0 w b g P t lo hi hR h0 h1 (by omega) (by omega)
  rw [hb, gi_backN lo hi d R h0 h1 hd] at hc
  refine hc.mono ?_
  rintro e w' ⟨rfl, hR', hf⟩
  exact ⟨rfl, k w' _ hR' hf⟩
theorem end_own (w0 w : World) (l : List Thing) (b : Nat) (P : List Nat) (t : Nat) (h : Own w0 w (RdT b P t :: l)) (hl : 8 * P.length - t < 8) (hz : numAt P t (8 * P.length - t) = 0) :
    Calls Tryz.prog 119 #[.pointer (some ⟨b, 0, none⟩)] w fun e w' => e = .returned (.int .i64 0) ∧ Own w0 w' (RdT b P t :: l) := by
  obtain ⟨g, hR, k⟩ := h.rd
  refine (end_zero 0 w b g P t hR hl hz).mono ?_
  rintro e w' ⟨rfl, hf⟩
  exact ⟨rfl, h.quiet hf⟩
end Go.Proofs.YtbencjopjdjepaaGreatDoor

/-
  The packet's reader: numbers that are there are read.
-/
namespace Go.Proofs.YtbencjopjdjepaaGreatDoor
open Go.RowKit
set_option linter.unusedVariables false
set_option maxRecDepth 100000

set_option maxHeartbeats 400000 in
theorem must_ok (w : World) : Calls Tryz.prog 115 #[.int .i64 0] w fun e w' => e = .returned (.tuple #[]) ∧ w' = w := by
  go_enter Tryz.func115, Tryz.ntmps115
  go_wp2
  go_end0
  exact ⟨rfl, rfl⟩
set_option maxHeartbeats 400000 in
theorem rdget (w0 w : World) (l : List Thing) (b : Nat) (P : List Nat) (t n v : Nat) (h : Own w0 w (RdT b P t :: l)) (hn : n ≤ 64) (hl : t + n ≤ 8 * P.length) (hv : numAt P t n = v) :
    Calls Tryz.prog 114 #[.agg #[.pointer (some ⟨b, 0, none⟩)], .int .i64 n] w fun e w' => e = .returned (.int .u64 (v : Int)) ∧ Own w0 w' (RdT b P (t + n) :: l) := by
  have hB := h.allocC #[.pointer (some ⟨b, 0, none⟩)] 123
  have q0 := hB.cell 0
  simp at q0
  have H1 : Hid (Calls _ _ _ _ _) := get_own w0 _ _ b P t n hB.two hn hl
  rw [hv] at H1
  clear h hB hv hn hl
  go_enter Tryz.func114, Tryz.ntmps114
  go_wp2_with fail
  refine H1.out.mono ?_
  rintro e w1 ⟨rfl, h1⟩
  have HM : Hid (Calls _ _ _ _ _) := must_ok w1
  have H2 : Hid (Own w0 w1 (RdT b P (t + n) :: l)) := h1.two.tail
  clear h1 H1 q0
  go_wp2_with fail
  refine HM.out.mono ?_
  rintro e w2 ⟨rfl, rfl⟩
  clear HM
  go_wp2
  go_ret
  exact ⟨rfl, H2.out⟩
set_option maxHeartbeats 400000 in
theorem rdgetVar (w0 w : World) (l : List Thing) (b : Nat) (P : List Nat) (t v : Nat) (R : List Bool) (h : Own w0 w (RdT b P t :: l)) (hv : v < 18446744073709551616) (hb : (bitsB P).drop t = var v ++ R) :
    Calls Tryz.prog 149 #[.agg #[.pointer (some ⟨b, 0, none⟩)]] w fun e w' => e = .returned (.int .u64 (v : Int)) ∧ Own w0 w' (RdT b P (t + 5 * grp v) :: l) := by
  have hB := h.allocC #[.pointer (some ⟨b, 0, none⟩)] 123
  have q0 := hB.cell 0
  simp at q0
  have H1 : Hid (Calls _ _ _ _ _) := getVar_own w0 _ _ b P t v R hB.two hv hb
  clear h hB hb
  go_enter Tryz.func149, Tryz.ntmps149
  go_wp2_with fail
  refine H1.out.mono ?_
  rintro e w1 ⟨rfl, h1⟩
  have HM : Hid (Calls _ _ _ _ _) := must_ok w1
  have H2 : Hid (Own w0 w1 (RdT b P (t + 5 * grp v) :: l)) := h1.two.tail
  clear h1 H1 q0
  go_wp2_with fail
  refine HM.out.mono ?_
  rintro e w2 ⟨rfl, rfl⟩
  clear HM
  go_wp2
  go_ret
  exact ⟨rfl, H2.out⟩
set_option maxHeartbeats 400000 in
theorem rdbelow (w0 w : World) (l : List Thing) (b : Nat) (P : List Nat) (t v n : Nat) (R : List Bool) (h : Own w0 w (RdT b P t :: l)) (hv : v < 18446744073709551616) (hb : (bitsB P).drop t = var v ++ R) (hn : v < n) (hn2 : n < 18446744073709551616) :
    Calls Tryz.prog 113 #[.agg #[.pointer (some ⟨b, 0, none⟩)], .int .u64 (n : Int)] w fun e w' => e = .returned (.int .u64 (v : Int)) ∧ Own w0 w' (RdT b P (t + 5 * grp v) :: l) := by
  have hB := h.allocC #[.pointer (some ⟨b, 0, none⟩)] 123
  have q0 := hB.cell 0
  simp at q0
  have H1 : Hid (Calls _ _ _ _ _) := rdgetVar w0 _ _ b P t v R hB.two hv hb
  have hlt : ¬ (n : Int) ≤ (v : Int) := by omega
  clear h hB hb
  go_enter Tryz.func113, Tryz.ntmps113
  go_wp2_with fail
  refine H1.out.mono ?_
  rintro e w1 ⟨rfl, h1⟩
  have H2 : Hid (Own w0 w1 (RdT b P (t + 5 * grp v) :: l)) := h1.two.tail
  clear h1 H1 q0
  go_wp2
  go_ret
  exact ⟨rfl, H2.out⟩
set_option maxHeartbeats 400000 in
theorem rdgetIn (w0 w : World) (l : List Thing) (b : Nat) (P : List Nat) (t d : Nat) (R : List Bool) (lo hi v : Int) (h : Own w0 w (RdT b P t :: l)) (h0 : -9223372036854775808 ≤ lo) (h1 : hi ≤ 9223372036854775807) (hb : (bitsB P).drop t = bitsN (wid lo hi) d ++ R) (hd : lo + (d : Int) ≤ hi) (hv : lo + (d : Int) = v) :
    Calls Tryz.prog 112 #[.agg #[.pointer (some ⟨b, 0, none⟩)], .int .i64 lo, .int .i64 hi] w fun e w' => e = .returned (.int .i64 v) ∧ Own w0 w' (RdT b P (t + wid lo hi) :: l) := by
  have hB := h.allocC #[.pointer (some ⟨b, 0, none⟩)] 123
  have q0 := hB.cell 0
  simp at q0
  have H1 : Hid (Calls _ _ _ _ _) := getIn_own w0 _ _ b P t d R lo hi hB.two h0 h1 hb hd
  rw [hv] at H1
  clear h hB hb hd hv h0 h1
  generalize wid lo hi = wd at *
  go_enter Tryz.func112, Tryz.ntmps112
  go_wp2_with fail
  refine H1.out.mono ?_
  rintro e w1 ⟨rfl, h1⟩
  have HM : Hid (Calls _ _ _ _ _) := must_ok w1
  have H2 : Hid (Own w0 w1 (RdT b P (t + wd) :: l)) := h1.two.tail
  clear h1 H1 q0
  go_wp2_with fail
  refine HM.out.mono ?_
  rintro e w2 ⟨rfl, rfl⟩
  clear HM
  go_wp2
  go_ret
  exact ⟨rfl, H2.out⟩
theorem drop_next {L A B : List Bool} {t n : Nat} (h : L.drop t = A ++ B) (hn : A.length = n) : L.drop (t + n) = B := by
  rw [← List.drop_drop, h, ← hn, List.drop_left]
theorem numAt_of {P : List Nat} {t n v : Nat} {R : List Bool} (h : (bitsB P).drop t = bitsN n v ++ R) (hv : v < 2 ^ n) : numAt P t n = v := by
  unfold numAt
  rw [h, List.take_left' (length_bitsN _ _), num_bitsN, Nat.mod_eq_of_lt hv]
theorem room_of {P : List Nat} {t n v : Nat} {R : List Bool} (h : (bitsB P).drop t = bitsN n v ++ R) (hn : 0 < n) : t + n ≤ 8 * P.length := by
  have h1 := congrArg List.length h
  rw [List.length_drop, length_bitsB, List.length_append, length_bitsN] at h1
  omega
end Go.Proofs.YtbencjopjdjepaaGreatDoor

/-
  Try of package reading, of components.
-/
namespace Go.Proofs.YtbencjopjdjepaaGreatDoor
open Go.RowKit
set_option linter.unusedVariables false
set_option maxRecDepth 100000

/-- a closure that reads a component: it answers rc, beside no error the component, and leaves the reader somewhere -/
def ReadsC (f : FuncId) (c1 c2 : Value) (B : Nat) (w0 : World) (br : Nat) (g : Option Nat) (P : List Nat) (t : Nat) (rc : Int) (k : Nat) (F : Nat → Int) (rn : Nat) : Prop :=
  ∀ w, Rd B w br g P t → Fr (At br none) w0 w → Calls Tryz.prog f #[c1, c2] w fun e w' => ∃ k' F', e = .returned (.tuple #[.agg (cmp k' F'), .int .i64 rc]) ∧ (rc = 0 → cmp k' F' = cmp k F) ∧ GvEnd B w w' br g P t rc rn

theorem put4_fr1 {w0 w : World} {br b k : Nat} {F : Nat → Int} (h : Fr (At br none) w0 w) (hb : w0.heap.size ≤ b) : Fr (At br none) w0 (put4 w b k F) := put4_fr h (.inr hb)
theorem Rd.fresh {B : Nat} {w w' : World} {br : Nat} {g : Option Nat} {P : List Nat} {t b : Nat} (h : Rd B w br g P t) (hf : Fr (fun k => k = b) w w') (h1 : b ≠ br) (h2 : g ≠ some b) : Rd B w' br g P t :=
  h.keep hf (fun e => h1 e.symm) (fun k hk e => h2 (by rw [hk, e]))
/-- a component laid over a block leaves a reader -/
theorem Rd.put4 {B : Nat} {w : World} {br : Nat} {g : Option Nat} {P : List Nat} {t b k k0 : Nat} {F F0 : Nat → Int} (h : Rd B w br g P t) (hb : Box w b k0 F0) : Rd B (put4 w b k F) br g P t := by
  have h1 : b ≠ br := by
    rintro rfl
    obtain ⟨v, hv, _⟩ := h.obj
    unfold Box at hb
    rw [hv] at hb
    simp at hb
  have h2 : g ≠ some b := by
    intro e
    obtain ⟨v, hv, ho, hg⟩ := h.obj
    rcases ho.2 with ⟨rfl, _⟩ | ⟨g', cap, cur, rfl, _, hgg, _⟩
    · rw [← hg] at e; simp [Value.ownBlock] at e
    · rw [← hg] at e
      simp [Value.ownBlock] at e
      subst e
      unfold Box at hb
      rw [hgg] at hb
      simp at hb
  exact h.fresh (put4_fr (S := fun k => k = b) (Fr.refl _ _) (.inl rfl)) h1 h2
theorem Box.fr1 {w w' : World} {b k br : Nat} {F : Nat → Int} (h : Box w b k F) (hf : Fr (At br none) w w') (hb : b ≠ br) : Box w' b k F :=
  (hf.block b (Array.getElem?_eq_some_iff.1 h).1 (by rintro (e | e); exact hb e; cases e)).trans h

set_option maxHeartbeats 1000000 in
theorem tryC_get (c1 c2 : Value) (B : Nat) (w : World) (br : Nat) (g : Option Nat) (P : List Nat) (t : Nat) (rc : Int) (k : Nat) (F : Nat → Int) (rn : Nat) (h : Rd B w br g P t) (hr : ReadsC 218 c1 c2 B w br g P t rc k F rn) (hz : rc ≠ 0 → rn = 0) (RV : Array Value) (hv1 : rc = 0 → RV = cmp k F) (hv2 : rc ≠ 0 → RV = cmp 0 (f3 0 0 0)) :
    Calls Tryz.prog 217 #[.pointer (some ⟨br, 0, none⟩), .func (.func 218) #[] #[c1, c2]] w fun e w' => e = .returned (.tuple #[.agg RV, .int .i64 rc]) ∧ Rd B w' br g P (t + rn) ∧ Fr (At br none) w w' := by
  obtain ⟨v, hb, ho, hv⟩ := h.obj
  have c0 := cell0 hb
  have c1' := cell1 hb
  obtain ⟨ao, cap, hvs⟩ : ∃ ao cap, v = .slice ao P.length cap := by
    rcases ho.2 with ⟨rfl, h0⟩ | ⟨g, cap, cur, rfl, _⟩
    · exact ⟨none, 0, by rw [h0]⟩
    · exact ⟨_, _, rfl⟩
  subst hvs
  have hlt := h.lt
  have H : Hid (Rd B w br g P t ∧ ReadsC 218 c1 c2 B w br g P t rc k F rn ∧ (rc ≠ 0 → rn = 0)) := ⟨h, hr, hz⟩
  have HO : Hid (w.ownsRow 0 5 1 (.slice ao P.length cap) P.length (vrow P) ∧ (Value.slice ao P.length cap).ownBlock = g) := ⟨ho, hv⟩
  clear h hr hz hb ho hv
  obtain ⟨W, hW⟩ : ∃ W, W = (((w.alloc (.cells #[.int .u8 0, .int .i32 0, .int .i32 0, .int .i32 0] 68)).alloc (.cells #[.int .u8 0, .int .i32 0, .int .i32 0, .int .i32 0] 68)).alloc (.cells #[.slice ao P.length cap, .int .i64 (t : Int)] 233)) := ⟨_, rfl⟩
  have HQ : Hid (Fr Nobody w W) := by subst hW; exact ((((Fr.refl _ _).alloc _).alloc _).alloc _)
  have HS : Hid (W.heap.size = w.heap.size + 1 + 1 + 1) := by subst hW; show _ = _; simp
  have HX : Hid (Box W w.heap.size 0 (f3 0 0 0)) := by
    subst hW
    exact ((Box.new w 0 (f3 0 0 0)).quiet ((Fr.refl _ _).alloc _)).quiet ((Fr.refl _ _).alloc _)
  have HY : Hid (Box W (w.heap.size + 1) 0 (f3 0 0 0)) := by
    subst hW
    exact (Box.new' (w.alloc _) (w.heap.size + 1) 0 (f3 0 0 0) (by simp)).quiet ((Fr.refl _ _).alloc _)
  have HZ : Hid (W.heap[w.heap.size + 1 + 1]? = some (.cells #[.slice ao P.length cap, .int .i64 (t : Int)] 233 (0, 0))) := by
    subst hW
    show _ = _
    have := heap_alloc_new ((w.alloc (.cells #[.int .u8 0, .int .i32 0, .int .i32 0, .int .i32 0] 68)).alloc (.cells #[.int .u8 0, .int .i32 0, .int .i32 0, .int .i32 0] 68)) (.cells #[.slice ao P.length cap, .int .i64 (t : Int)] 233)
    simpa using this
  have HC : Hid (Calls Tryz.prog 218 #[c1, c2] W fun e w' => ∃ k' F', e = .returned (.tuple #[.agg (cmp k' F'), .int .i64 rc]) ∧ (rc = 0 → cmp k' F' = cmp k F) ∧ GvEnd B W w' br g P t rc rn) := H.out.2.1 W (H.out.1.quiet HQ.out) (HQ.out.mono (fun _ _ k => k.elim))
  go_enter Tryz.func217, Tryz.ntmps217
  go_wp2_with fail
  rw [← hW]
  refine HC.out.mono ?_
  rintro e w2 ⟨k', F', rfl, hcm, t', hR', hf', ht'⟩
  have hs2 := hf'.size
  have HF : Hid (Fr (At br none) w w2 ∧ Rd B w2 br g P t' ∧ (rc = 0 → t' = t + rn)) := ⟨(HQ.out.mono (fun _ _ k => k.elim)).trans hf', hR', ht'⟩
  have hn0 : w.heap.size ≠ br := by omega
  have hn1 : w.heap.size + 1 ≠ br := by omega
  have hn2 : w.heap.size + 1 + 1 ≠ br := by omega
  have X2 : Hid (Box w2 w.heap.size 0 (f3 0 0 0)) := HX.out.fr1 hf' hn0
  have Y2 : Hid (Box w2 (w.heap.size + 1) 0 (f3 0 0 0)) := HY.out.fr1 hf' hn1
  have hnew : w2.heap[w.heap.size + 1 + 1]? = some (.cells #[.slice ao P.length cap, .int .i64 (t : Int)] 233 (0, 0)) := (hf'.block _ (by rw [HS.out]; omega) (by rintro (e | e); exact hn2 e; cases e)).trans HZ.out
  have d0 := cell0 hnew
  have d1 := cell1 hnew
  obtain ⟨v2, hb2, hx1, hx2⟩ := hR'.obj
  clear hx1 hx2
  have HB2 : Hid (w2.heap[br]? = some (.cells #[v2, .int .i64 (t' : Int)] 233 (0, 0))) := hb2
  have e0 := cell0 hb2
  have e1 := cell1 hb2
  have g0 : w2.frozen? ⟨br, 0, none⟩ = false := froz hb2
  have g1 : w2.frozen? ⟨br, 1, none⟩ = false := froz hb2
  have hl2 := hR'.lt
  have HSZ : Hid (w.heap.size + 1 + 1 + 1 ≤ w2.heap.size) := by have := HS.out; show _ ≤ _; omega
  obtain ⟨x0, x1, x2, x3⟩ := X2.out.cells
  obtain ⟨y0, y1, y2, y3⟩ := Y2.out.cells
  have z0 := X2.out.frozen 0
  have z1 := X2.out.frozen 1
  have z2 := X2.out.frozen 2
  have z3 := X2.out.frozen 3
  have q0 : w2.heap.size ≠ w.heap.size := by have := HSZ.out; omega
  have q1 : w2.heap.size ≠ br := by omega
  have q2 : w.heap.size < w2.heap.size := by have := HSZ.out; omega
  have q3 : w.heap.size + 1 < w2.heap.size := by have := HSZ.out; omega
  have q4 : w.heap.size + 1 + 1 < w2.heap.size := by have := HSZ.out; omega
  clear hR' hf' ht' hb2 hnew HQ HS HX HY HZ HC c0 c1' hs2 hW
  simp only [f3] at x1 x2 x3 y1 y2 y3
  have HSB : Hid (Box (w2.alloc (.cells (cmp k' F') 68)) w2.heap.size k' F') := Box.new w2 k' F'
  by_cases hrc : rc = 0
  · have HT : Hid (Rd B w2 br g P (t + rn) ∧ Fr (At br none) w w2) := ⟨by rw [← HF.out.2.2 hrc]; exact HF.out.2.1, HF.out.1⟩
    have hcm' := hcm hrc
    have HV : Hid (RV = cmp k' F') := (hv1 hrc).trans hcm'.symm
    clear HF H hcm hcm' hv1 hv2 y0 y1 y2 y3 d0 d1 e0 e1 g0 g1 Y2 HB2 HO hn0 hn1 hn2 q1
    subst hrc
    have HR3 : Hid (Rd B ((put4 w2 w.heap.size k' F').alloc (.cells (cmp k' F') 68)) br g P (t + rn)) := (HT.out.1.put4 X2.out).quiet ((Fr.refl _ _).alloc _)
    have HF3 : Hid (Fr (At br none) w ((put4 w2 w.heap.size k' F').alloc (.cells (cmp k' F') 68))) := (put4_fr1 HT.out.2 (Nat.le_refl _)).alloc _
    have HRR : Hid (Box ((put4 w2 w.heap.size k' F').alloc (.cells (cmp k' F') 68)) w.heap.size k' F') := (put4_box X2.out).quiet ((Fr.refl _ _).alloc _)
    unfold cmp at *
    go_wp2
    (try simp only [Exit.inBlock, Exit.then])
    refine bodyPost_ret (v := .tuple #[.agg #[.int .u8 (k' : Int), .int .i32 (F' 0), .int .i32 (F' 1), .int .i32 (F' 2)], .int .i64 0]) ?_ rfl ⟨by rw [HV.out], HR3.out, HF3.out⟩
    rw [results_cell_tmp rfl]
    obtain ⟨r0, r1, r2, r3⟩ := HRR.out.cells
    simp only [put4] at r0 r1 r2 r3
    go_simp
  · have tr : (rc != 0) = true := by rw [bne_iff_ne]; exact hrc
    have hz2 := H.out.2.2 hrc
    subst hz2
    have HV : Hid (RV = cmp 0 (f3 0 0 0)) := hv2 hrc
    clear hv1 hv2
    have HT : Hid (Rd B ((w2.setCell ⟨br, 0, none⟩ (.slice ao P.length cap)).setCell ⟨br, 1, none⟩ (.int .i64 (t : Int))) br g P (t + 0) ∧ Fr (At br none) w ((w2.setCell ⟨br, 0, none⟩ (.slice ao P.length cap)).setCell ⟨br, 1, none⟩ (.int .i64 (t : Int)))) := by
      have R := H.out.1
      have hgne : g ≠ some br := R.ne
      have ho2 : w2.ownsRow 0 5 1 (.slice ao P.length cap) P.length (vrow P) := HF.out.1.row HO.out.1 (fun k hk => by
        rintro (e | e)
        · subst e; exact hgne (HO.out.2.symm.trans hk)
        · cases e)
      have hk1 : (Value.slice ao P.length cap).ownBlock ≠ some br := by rw [HO.out.2]; exact hgne
      refine ⟨⟨R.low, R.glow, R.ne, R.byt, R.len, R.le, ⟨.slice ao P.length cap, ?_, row_setCell (row_setCell ho2 _ _ hk1) _ _ hk1, HO.out.2⟩⟩, (HF.out.1.setCell (.inl (.inl rfl)) _).setCell (.inl (.inl rfl)) _⟩
      refine (setCell_heap _ br 1 _ _ _ (setCell_heap w2 br 0 _ _ _ HB2.out)).trans ?_
      simp
    have X3 : Hid (Box ((w2.setCell ⟨br, 0, none⟩ (.slice ao P.length cap)).setCell ⟨br, 1, none⟩ (.int .i64 (t : Int))) w.heap.size 0 (f3 0 0 0)) := X2.out.fr1 (((Fr.refl _ w2).setCell (p := ⟨br, 0, none⟩) (.inl (.inl rfl)) _).setCell (p := ⟨br, 1, none⟩) (.inl (.inl rfl)) _) hn0
    have HR3 : Hid (Rd B ((put4 ((w2.setCell ⟨br, 0, none⟩ (.slice ao P.length cap)).setCell ⟨br, 1, none⟩ (.int .i64 (t : Int))) w.heap.size 0 (f3 0 0 0)).alloc (.cells (cmp k' F') 68)) br g P (t + 0)) := (HT.out.1.put4 X3.out).quiet ((Fr.refl _ _).alloc _)
    have HF3 : Hid (Fr (At br none) w ((put4 ((w2.setCell ⟨br, 0, none⟩ (.slice ao P.length cap)).setCell ⟨br, 1, none⟩ (.int .i64 (t : Int))) w.heap.size 0 (f3 0 0 0)).alloc (.cells (cmp k' F') 68))) := (put4_fr1 HT.out.2 (Nat.le_refl _)).alloc _
    have HRR : Hid (Box ((put4 ((w2.setCell ⟨br, 0, none⟩ (.slice ao P.length cap)).setCell ⟨br, 1, none⟩ (.int .i64 (t : Int))) w.heap.size 0 (f3 0 0 0)).alloc (.cells (cmp k' F') 68)) w.heap.size 0 (f3 0 0 0)) := (put4_box X3.out).quiet ((Fr.refl _ _).alloc _)
    clear HF H HB2 HO hcm
    unfold cmp at *
    go_wp2
    (try simp only [Exit.inBlock, Exit.then])
    refine bodyPost_ret (v := .tuple #[.agg #[.int .u8 0, .int .i32 0, .int .i32 0, .int .i32 0], .int .i64 rc]) ?_ rfl ⟨by rw [HV.out]; rfl, HR3.out, HF3.out⟩
    rw [results_cell_tmp rfl]
    obtain ⟨r0, r1, r2, r3⟩ := HRR.out.cells
    simp only [put4, f3] at r0 r1 r2 r3
    go_simp


set_option maxHeartbeats 1000000 in
theorem tryC_step (c1 c2 : Value) (B : Nat) (w : World) (br : Nat) (g : Option Nat) (P : List Nat) (t : Nat) (rc : Int) (k : Nat) (F : Nat → Int) (rn : Nat) (h : Rd B w br g P t) (hr : ReadsC 222 c1 c2 B w br g P t rc k F rn) (hz : rc ≠ 0 → rn = 0) (RV : Array Value) (hv1 : rc = 0 → RV = cmp k F) (hv2 : rc ≠ 0 → RV = cmp 0 (f3 0 0 0)) :
    Calls Tryz.prog 217 #[.pointer (some ⟨br, 0, none⟩), .func (.func 222) #[] #[c1, c2]] w fun e w' => e = .returned (.tuple #[.agg RV, .int .i64 rc]) ∧ Rd B w' br g P (t + rn) ∧ Fr (At br none) w w' := by
  obtain ⟨v, hb, ho, hv⟩ := h.obj
  have c0 := cell0 hb
  have c1' := cell1 hb
  obtain ⟨ao, cap, hvs⟩ : ∃ ao cap, v = .slice ao P.length cap := by
    rcases ho.2 with ⟨rfl, h0⟩ | ⟨g, cap, cur, rfl, _⟩
    · exact ⟨none, 0, by rw [h0]⟩
    · exact ⟨_, _, rfl⟩
  subst hvs
  have hlt := h.lt
  have H : Hid (Rd B w br g P t ∧ ReadsC 222 c1 c2 B w br g P t rc k F rn ∧ (rc ≠ 0 → rn = 0)) := ⟨h, hr, hz⟩
  have HO : Hid (w.ownsRow 0 5 1 (.slice ao P.length cap) P.length (vrow P) ∧ (Value.slice ao P.length cap).ownBlock = g) := ⟨ho, hv⟩
  clear h hr hz hb ho hv
  obtain ⟨W, hW⟩ : ∃ W, W = (((w.alloc (.cells #[.int .u8 0, .int .i32 0, .int .i32 0, .int .i32 0] 68)).alloc (.cells #[.int .u8 0, .int .i32 0, .int .i32 0, .int .i32 0] 68)).alloc (.cells #[.slice ao P.length cap, .int .i64 (t : Int)] 233)) := ⟨_, rfl⟩
  have HQ : Hid (Fr Nobody w W) := by subst hW; exact ((((Fr.refl _ _).alloc _).alloc _).alloc _)
  have HS : Hid (W.heap.size = w.heap.size + 1 + 1 + 1) := by subst hW; show _ = _; simp
  have HX : Hid (Box W w.heap.size 0 (f3 0 0 0)) := by
    subst hW
    exact ((Box.new w 0 (f3 0 0 0)).quiet ((Fr.refl _ _).alloc _)).quiet ((Fr.refl _ _).alloc _)
  have HY : Hid (Box W (w.heap.size + 1) 0 (f3 0 0 0)) := by
    subst hW
    exact (Box.new' (w.alloc _) (w.heap.size + 1) 0 (f3 0 0 0) (by simp)).quiet ((Fr.refl _ _).alloc _)
  have HZ : Hid (W.heap[w.heap.size + 1 + 1]? = some (.cells #[.slice ao P.length cap, .int .i64 (t : Int)] 233 (0, 0))) := by
    subst hW
    show _ = _
    have := heap_alloc_new ((w.alloc (.cells #[.int .u8 0, .int .i32 0, .int .i32 0, .int .i32 0] 68)).alloc (.cells #[.int .u8 0, .int .i32 0, .int .i32 0, .int .i32 0] 68)) (.cells #[.slice ao P.length cap, .int .i64 (t : Int)] 233)
    simpa using this
  have HC : Hid (Calls Tryz.prog 222 #[c1, c2] W fun e w' => ∃ k' F', e = .returned (.tuple #[.agg (cmp k' F'), .int .i64 rc]) ∧ (rc = 0 → cmp k' F' = cmp k F) ∧ GvEnd B W w' br g P t rc rn) := H.out.2.1 W (H.out.1.quiet HQ.out) (HQ.out.mono (fun _ _ k => k.elim))
  go_enter Tryz.func217, Tryz.ntmps217
  go_wp2_with fail
  rw [← hW]
  refine HC.out.mono ?_
  rintro e w2 ⟨k', F', rfl, hcm, t', hR', hf', ht'⟩
  have hs2 := hf'.size
  have HF : Hid (Fr (At br none) w w2 ∧ Rd B w2 br g P t' ∧ (rc = 0 → t' = t + rn)) := ⟨(HQ.out.mono (fun _ _ k => k.elim)).trans hf', hR', ht'⟩
  have hn0 : w.heap.size ≠ br := by omega
  have hn1 : w.heap.size + 1 ≠ br := by omega
  have hn2 : w.heap.size + 1 + 1 ≠ br := by omega
  have X2 : Hid (Box w2 w.heap.size 0 (f3 0 0 0)) := HX.out.fr1 hf' hn0
  have Y2 : Hid (Box w2 (w.heap.size + 1) 0 (f3 0 0 0)) := HY.out.fr1 hf' hn1
  have hnew : w2.heap[w.heap.size + 1 + 1]? = some (.cells #[.slice ao P.length cap, .int .i64 (t : Int)] 233 (0, 0)) := (hf'.block _ (by rw [HS.out]; omega) (by rintro (e | e); exact hn2 e; cases e)).trans HZ.out
  have d0 := cell0 hnew
  have d1 := cell1 hnew
  obtain ⟨v2, hb2, hx1, hx2⟩ := hR'.obj
  clear hx1 hx2
  have HB2 : Hid (w2.heap[br]? = some (.cells #[v2, .int .i64 (t' : Int)] 233 (0, 0))) := hb2
  have e0 := cell0 hb2
  have e1 := cell1 hb2
  have g0 : w2.frozen? ⟨br, 0, none⟩ = false := froz hb2
  have g1 : w2.frozen? ⟨br, 1, none⟩ = false := froz hb2
  have hl2 := hR'.lt
  have HSZ : Hid (w.heap.size + 1 + 1 + 1 ≤ w2.heap.size) := by have := HS.out; show _ ≤ _; omega
  obtain ⟨x0, x1, x2, x3⟩ := X2.out.cells
  obtain ⟨y0, y1, y2, y3⟩ := Y2.out.cells
  have z0 := X2.out.frozen 0
  have z1 := X2.out.frozen 1
  have z2 := X2.out.frozen 2
  have z3 := X2.out.frozen 3
  have q0 : w2.heap.size ≠ w.heap.size := by have := HSZ.out; omega
  have q1 : w2.heap.size ≠ br := by omega
  have q2 : w.heap.size < w2.heap.size := by have := HSZ.out; omega
  have q3 : w.heap.size + 1 < w2.heap.size := by have := HSZ.out; omega
  have q4 : w.heap.size + 1 + 1 < w2.heap.size := by have := HSZ.out; omega
  clear hR' hf' ht' hb2 hnew HQ HS HX HY HZ HC c0 c1' hs2 hW
  simp only [f3] at x1 x2 x3 y1 y2 y3
  have HSB : Hid (Box (w2.alloc (.cells (cmp k' F') 68)) w2.heap.size k' F') := Box.new w2 k' F'
  by_cases hrc : rc = 0
  · have HT : Hid (Rd B w2 br g P (t + rn) ∧ Fr (At br none) w w2) := ⟨by rw [← HF.out.2.2 hrc]; exact HF.out.2.1, HF.out.1⟩
    have hcm' := hcm hrc
    have HV : Hid (RV = cmp k' F') := (hv1 hrc).trans hcm'.symm
    clear HF H hcm hcm' hv1 hv2 y0 y1 y2 y3 d0 d1 e0 e1 g0 g1 Y2 HB2 HO hn0 hn1 hn2 q1
    subst hrc
    have HR3 : Hid (Rd B ((put4 w2 w.heap.size k' F').alloc (.cells (cmp k' F') 68)) br g P (t + rn)) := (HT.out.1.put4 X2.out).quiet ((Fr.refl _ _).alloc _)
    have HF3 : Hid (Fr (At br none) w ((put4 w2 w.heap.size k' F').alloc (.cells (cmp k' F') 68))) := (put4_fr1 HT.out.2 (Nat.le_refl _)).alloc _
    have HRR : Hid (Box ((put4 w2 w.heap.size k' F').alloc (.cells (cmp k' F') 68)) w.heap.size k' F') := (put4_box X2.out).quiet ((Fr.refl _ _).alloc _)
    unfold cmp at *
    go_wp2
    (try simp only [Exit.inBlock, Exit.then])
    refine bodyPost_ret (v := .tuple #[.agg #[.int .u8 (k' : Int), .int .i32 (F' 0), .int .i32 (F' 1), .int .i32 (F' 2)], .int .i64 0]) ?_ rfl ⟨by rw [HV.out], HR3.out, HF3.out⟩
    rw [results_cell_tmp rfl]
    obtain ⟨r0, r1, r2, r3⟩ := HRR.out.cells
    simp only [put4] at r0 r1 r2 r3
    go_simp
  · have tr : (rc != 0) = true := by rw [bne_iff_ne]; exact hrc
    have hz2 := H.out.2.2 hrc
    subst hz2
    have HV : Hid (RV = cmp 0 (f3 0 0 0)) := hv2 hrc
    clear hv1 hv2
    have HT : Hid (Rd B ((w2.setCell ⟨br, 0, none⟩ (.slice ao P.length cap)).setCell ⟨br, 1, none⟩ (.int .i64 (t : Int))) br g P (t + 0) ∧ Fr (At br none) w ((w2.setCell ⟨br, 0, none⟩ (.slice ao P.length cap)).setCell ⟨br, 1, none⟩ (.int .i64 (t : Int)))) := by
      have R := H.out.1
      have hgne : g ≠ some br := R.ne
      have ho2 : w2.ownsRow 0 5 1 (.slice ao P.length cap) P.length (vrow P) := HF.out.1.row HO.out.1 (fun k hk => by
        rintro (e | e)
        · subst e; exact hgne (HO.out.2.symm.trans hk)
        · cases e)
      have hk1 : (Value.slice ao P.length cap).ownBlock ≠ some br := by rw [HO.out.2]; exact hgne
      refine ⟨⟨R.low, R.glow, R.ne, R.byt, R.len, R.le, ⟨.slice ao P.length cap, ?_, row_setCell (row_setCell ho2 _ _ hk1) _ _ hk1, HO.out.2⟩⟩, (HF.out.1.setCell (.inl (.inl rfl)) _).setCell (.inl (.inl rfl)) _⟩
      refine (setCell_heap _ br 1 _ _ _ (setCell_heap w2 br 0 _ _ _ HB2.out)).trans ?_
      simp
    have X3 : Hid (Box ((w2.setCell ⟨br, 0, none⟩ (.slice ao P.length cap)).setCell ⟨br, 1, none⟩ (.int .i64 (t : Int))) w.heap.size 0 (f3 0 0 0)) := X2.out.fr1 (((Fr.refl _ w2).setCell (p := ⟨br, 0, none⟩) (.inl (.inl rfl)) _).setCell (p := ⟨br, 1, none⟩) (.inl (.inl rfl)) _) hn0
    have HR3 : Hid (Rd B ((put4 ((w2.setCell ⟨br, 0, none⟩ (.slice ao P.length cap)).setCell ⟨br, 1, none⟩ (.int .i64 (t : Int))) w.heap.size 0 (f3 0 0 0)).alloc (.cells (cmp k' F') 68)) br g P (t + 0)) := (HT.out.1.put4 X3.out).quiet ((Fr.refl _ _).alloc _)
    have HF3 : Hid (Fr (At br none) w ((put4 ((w2.setCell ⟨br, 0, none⟩ (.slice ao P.length cap)).setCell ⟨br, 1, none⟩ (.int .i64 (t : Int))) w.heap.size 0 (f3 0 0 0)).alloc (.cells (cmp k' F') 68))) := (put4_fr1 HT.out.2 (Nat.le_refl _)).alloc _
    have HRR : Hid (Box ((put4 ((w2.setCell ⟨br, 0, none⟩ (.slice ao P.length cap)).setCell ⟨br, 1, none⟩ (.int .i64 (t : Int))) w.heap.size 0 (f3 0 0 0)).alloc (.cells (cmp k' F') 68)) w.heap.size 0 (f3 0 0 0)) := (put4_box X3.out).quiet ((Fr.refl _ _).alloc _)
    clear HF H HB2 HO hcm
    unfold cmp at *
    go_wp2
    (try simp only [Exit.inBlock, Exit.then])
    refine bodyPost_ret (v := .tuple #[.agg #[.int .u8 0, .int .i32 0, .int .i32 0, .int .i32 0], .int .i64 rc]) ?_ rfl ⟨by rw [HV.out]; rfl, HR3.out, HF3.out⟩
    rw [results_cell_tmp rfl]
    obtain ⟨r0, r1, r2, r3⟩ := HRR.out.cells
    simp only [put4, f3] at r0 r1 r2 r3
    go_simp


end Go.Proofs.YtbencjopjdjepaaGreatDoor


