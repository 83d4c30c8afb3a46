/-
  Components, entities, lists of entities: are they alike?
-/
import Derived.Test.YtkjanpjlpieaoaaDoorQd12
import Derived.Test.YtkjanpjlpieaoaaDoorQd01
import Derived.BigRegion
import Derived.BigQuiet
import Derived.Deep.QuietTactic
namespace Go.Proofs.YtkjanpjlpieaoaaDoor
open Go.RowKit
set_option linter.unusedVariables false
set_option maxRecDepth 100000

theorem cp_eq (x y : Cp) : ((((x.k : Int) == (y.k : Int))) && ((x.a == y.a) && (x.b == y.b) && (x.c == y.c))) = decide (x = y) := by
  rw [Bool.eq_iff_iff]
  cases x; cases y
  simp
  omega
theorem take_ne {α : Type} [DecidableEq α] {A B : List α} {k : Nat} {x y : α} (hx : A[k]? = some x) (hy : B[k]? = some y) (h : decide (x = y) = false) : decide (A = B) = false := by
  apply decide_eq_false
  intro e
  rw [e, hy] at hx
  have : y = x := by simpa using hx
  exact of_decide_eq_false h this.symm
theorem take_eq {α : Type} [DecidableEq α] {A B : List α} {k : Nat} {x y : α} (hx : A[k]? = some x) (hy : B[k]? = some y) (h : decide (x = y) = true) (ht : A.take k = B.take k) : A.take (k + 1) = B.take (k + 1) := by
  rw [List.take_add_one, List.take_add_one, hx, hy, ht, of_decide_eq_true h]
theorem take_all {α : Type} [DecidableEq α] {A B : List α} {k : Nat} (hA : A.length ≤ k) (hB : B.length ≤ k) (ht : A.take k = B.take k) : decide (A = B) = true := by
  rw [List.take_of_length_le hA, List.take_of_length_le hB] at ht
  exact decide_eq_true ht
theorem len_ne {α : Type} [DecidableEq α] {A B : List α} (h : A.length ≠ B.length) : decide (A = B) = false := decide_eq_false (fun e => h (by rw [e]))
set_option maxHeartbeats 2000000 in
theorem eqCs_r (w : World) (a1 a2 : Option Addr) (n1 n2 c1 c2 : Nat) (A B : List Cp) (h1 : Cs w a1 A) (h2 : Cs w a2 B) (hn1 : A.length = n1) (hn2 : B.length = n2) (hm1 : n1 ≤ 2097152) (hm2 : n2 ≤ 2097152) :
    Calls Tryd.prog 27 #[.slice a1 n1 c1, .slice a2 n2 c2] w fun e w' => e = .returned (.bool (decide (A = B))) ∧ Fr Nobody w w' := by
  by_cases hne : n1 = n2
  · have H1 : Hid (Cs w a1 A ∧ Cs w a2 B ∧ A.length = n1 ∧ B.length = n1) := ⟨h1, h2, hn1, by rw [hn2, hne]⟩
    rw [← hne]
    clear h1 h2 hn1 hn2 hne hm2
    have hne' : ((n1 : Int) != (n1 : Int)) = false := by simp
    go_enter Tryd.func27, Tryd.ntmps27
    go_wp2
    clear hne'
    go_loopw [13] (fun cc wr => ∃ k : Nat, k ≤ n1 ∧ cc = .int .i64 k ∧ Fr Nobody w wr ∧ A.take k = B.take k) (fun cc _ => n1 - (intOf cc).toNat)
    case atStart => exact ⟨0, Nat.zero_le _, rfl, Fr.refl _ _, by simp⟩
    case round =>
      obtain ⟨k, hk, rfl, hf, heq⟩ := hrel
      have HF : Hid (Fr Nobody w wr) := hf
      have HE : Hid (A.take k = B.take k) := heq
      clear hf heq
      by_cases hlt : k < n1
      · obtain ⟨x, hx⟩ : ∃ x, A[k]? = some x := ⟨_, List.getElem?_eq_getElem (by rw [H1.out.2.2.1]; exact hlt)⟩
        obtain ⟨y, hy⟩ : ∃ y, B[k]? = some y := ⟨_, List.getElem?_eq_getElem (by rw [H1.out.2.2.2]; exact hlt)⟩
        obtain ⟨g1, o1, hg1, _, p0, p1, p2, p3⟩ := (H1.out.1.quiet HF.out).at k x hx
        obtain ⟨g2, o2, hg2, _, q0, q1, q2, q3⟩ := (H1.out.2.1.quiet HF.out).at k y hy
        subst hg1 hg2
        have hlt' : (k : Int) < (n1 : Int) := by omega
        have HXY : Hid (A[k]? = some x ∧ B[k]? = some y) := ⟨hx, hy⟩
        obtain ⟨r0, e0⟩ : ∃ r, ((x.k : Int) == (y.k : Int)) = r := ⟨_, rfl⟩
        obtain ⟨r1, e1⟩ : ∃ r, ((x.a == y.a) && (x.b == y.b) && (x.c == y.c)) = r := ⟨_, rfl⟩
        have HD : Hid (decide (x = y) = (r0 && r1)) := by show _ = _; rw [← cp_eq, e0, e1]
        have eqa : ∀ d w, (Op.equalIn (d + 1 + 1) 44 (.agg #[.int .i32 x.a, .int .i32 x.b, .int .i32 x.c]) (.agg #[.int .i32 y.a, .int .i32 y.b, .int .i32 y.c])).run Tryd.prog w = .ok r1 w := fun d w => by rw [eq_a3, e1]
        clear hx hy e1
        obtain ⟨xk, xa, xb, xc⟩ := x
        obtain ⟨yk, ya, yb, yc⟩ := y
        simp only at p0 p1 p2 p3 q0 q1 q2 q3 e0 eqa
        by_cases hb : (r0 && r1) = true
        · obtain ⟨rfl, rfl⟩ : r0 = true ∧ r1 = true := by simpa using hb
          have HN : Hid (A.take (k + 1) = B.take (k + 1)) := take_eq HXY.out.1 HXY.out.2 HD.out HE.out
          go_wp2
          go_quiet (fail)
          go_wp2
          go_roundw
          case rel => exact ⟨k + 1, by omega, by go_num, HF.out.drewN _, HN.out⟩
          case measure => simp [intOf]; omega
        · have HN : Hid (decide (A = B) = false) := take_ne HXY.out.1 HXY.out.2 (by rw [HD.out]; simpa using hb)
          have hb2 : (r0 && r1) = false := by simpa using hb
          have hc : r0 = false ∨ (r0 = true ∧ r1 = false) := by cases r0 <;> cases r1 <;> simp at hb2 ⊢
          clear hb hb2
          rcases hc with rfl | ⟨rfl, rfl⟩
          all_goals
            go_wp2
            go_quiet (fail)
            go_wp2
            go_ret
            exact ⟨by rw [HN.out]; rfl, HF.out.drewN _⟩
      · have hlt' : ¬ (k : Int) < (n1 : Int) := by omega
        have HN : Hid (decide (A = B) = true) := take_all (by rw [H1.out.2.2.1]; omega) (by rw [H1.out.2.2.2]; omega) HE.out
        go_wp2
        go_ret
        exact ⟨by rw [HN.out]; rfl, HF.out⟩
  · have HN : Hid (decide (A = B) = false) := len_ne (by rw [hn1, hn2]; exact hne)
    have hne' : ((n1 : Int) != (n2 : Int)) = true := by rw [bne_iff_ne]; omega
    clear h1 h2 hn1 hn2 hne
    go_enter Tryd.func27, Tryd.ntmps27
    go_wp2
    go_ret
    exact ⟨by rw [HN.out]; rfl, Fr.refl _ _⟩
set_option maxHeartbeats 1000000 in
theorem eqEn_r (w : World) (i1 i2 : Nat) (a1 a2 : Option Addr) (n1 n2 c1 c2 : Nat) (A B : List Cp) (h1 : Cs w a1 A) (h2 : Cs w a2 B) (hn1 : A.length = n1) (hn2 : B.length = n2) (hm1 : n1 ≤ 2097152) (hm2 : n2 ≤ 2097152) :
    Calls Tryd.prog 25 #[.agg #[.int .u32 (i1 : Int), .slice a1 n1 c1], .agg #[.int .u32 (i2 : Int), .slice a2 n2 c2]] w fun e w' => e = .returned (.bool (decide ((i1, A) = (i2, B)))) ∧ Fr Nobody w w' := by
  have HF : Hid (Fr Nobody w ((w.alloc (.cells #[.int .u32 (i1 : Int), .slice a1 n1 c1] 43)).alloc (.cells #[.int .u32 (i2 : Int), .slice a2 n2 c2] 43))) := ((Fr.refl _ _).alloc _).alloc _
  have HS : Hid (Calls _ _ _ _ _) := eqCs_r _ a1 a2 n1 n2 c1 c2 A B (h1.quiet HF.out) (h2.quiet HF.out) hn1 hn2 hm1 hm2
  by_cases hi : i1 = i2
  · have HD : Hid (decide ((i1, A) = (i2, B)) = decide (A = B)) := by show _ = _; simp [hi]
    have hii : ((i1 : Int) == (i2 : Int)) = true := by simp [hi]
    generalize decide (A = B) = r at *
    clear h1 h2 hn1 hn2 hi
    go_enter Tryd.func25, Tryd.ntmps25
    go_wp2_with fail
    refine HS.out.mono ?_
    rintro e w1 ⟨rfl, hf⟩
    have H1 : Hid (Fr Nobody w w1) := HF.out.trans hf
    clear hf HS
    go_wp2
    go_ret
    exact ⟨by rw [HD.out]; rfl, H1.out⟩
  · have HD : Hid (decide ((i1, A) = (i2, B)) = false) := by show _ = _; simp [hi]
    have hii : ((i1 : Int) == (i2 : Int)) = false := by simp; omega
    clear h1 h2 hn1 hn2 hi HS
    go_enter Tryd.func25, Tryd.ntmps25
    go_wp2
    go_ret
    exact ⟨by rw [HD.out]; rfl, HF.out⟩
set_option maxHeartbeats 2000000 in
theorem eqCs_p (w : World) (a1 a2 : Option Addr) (n1 n2 c1 c2 : Nat) (A B : List Cp) (h1 : Cs w a1 A) (h2 : Cs w a2 B) (hn1 : A.length = n1) (hn2 : B.length = n2) (hm1 : n1 ≤ 2097152) (hm2 : n2 ≤ 2097152) :
    Calls Tryd.prog 62 #[.slice a1 n1 c1, .slice a2 n2 c2] w fun e w' => e = .returned (.bool (decide (A = B))) ∧ Fr Nobody w w' := by
  by_cases hne : n1 = n2
  · have H1 : Hid (Cs w a1 A ∧ Cs w a2 B ∧ A.length = n1 ∧ B.length = n1) := ⟨h1, h2, hn1, by rw [hn2, hne]⟩
    rw [← hne]
    clear h1 h2 hn1 hn2 hne hm2
    have hne' : ((n1 : Int) != (n1 : Int)) = false := by simp
    go_enter Tryd.func62, Tryd.ntmps62
    go_wp2
    clear hne'
    go_loopw [13] (fun cc wr => ∃ k : Nat, k ≤ n1 ∧ cc = .int .i64 k ∧ Fr Nobody w wr ∧ A.take k = B.take k) (fun cc _ => n1 - (intOf cc).toNat)
    case atStart => exact ⟨0, Nat.zero_le _, rfl, Fr.refl _ _, by simp⟩
    case round =>
      obtain ⟨k, hk, rfl, hf, heq⟩ := hrel
      have HF : Hid (Fr Nobody w wr) := hf
      have HE : Hid (A.take k = B.take k) := heq
      clear hf heq
      by_cases hlt : k < n1
      · obtain ⟨x, hx⟩ : ∃ x, A[k]? = some x := ⟨_, List.getElem?_eq_getElem (by rw [H1.out.2.2.1]; exact hlt)⟩
        obtain ⟨y, hy⟩ : ∃ y, B[k]? = some y := ⟨_, List.getElem?_eq_getElem (by rw [H1.out.2.2.2]; exact hlt)⟩
        obtain ⟨g1, o1, hg1, _, p0, p1, p2, p3⟩ := (H1.out.1.quiet HF.out).at k x hx
        obtain ⟨g2, o2, hg2, _, q0, q1, q2, q3⟩ := (H1.out.2.1.quiet HF.out).at k y hy
        subst hg1 hg2
        have hlt' : (k : Int) < (n1 : Int) := by omega
        have HXY : Hid (A[k]? = some x ∧ B[k]? = some y) := ⟨hx, hy⟩
        obtain ⟨r0, e0⟩ : ∃ r, ((x.k : Int) == (y.k : Int)) = r := ⟨_, rfl⟩
        obtain ⟨r1, e1⟩ : ∃ r, ((x.a == y.a) && (x.b == y.b) && (x.c == y.c)) = r := ⟨_, rfl⟩
        have HD : Hid (decide (x = y) = (r0 && r1)) := by show _ = _; rw [← cp_eq, e0, e1]
        have eqa : ∀ d w, (Op.equalIn (d + 1 + 1) 44 (.agg #[.int .i32 x.a, .int .i32 x.b, .int .i32 x.c]) (.agg #[.int .i32 y.a, .int .i32 y.b, .int .i32 y.c])).run Tryd.prog w = .ok r1 w := fun d w => by rw [eq_a3, e1]
        clear hx hy e1
        obtain ⟨xk, xa, xb, xc⟩ := x
        obtain ⟨yk, ya, yb, yc⟩ := y
        simp only at p0 p1 p2 p3 q0 q1 q2 q3 e0 eqa
        by_cases hb : (r0 && r1) = true
        · obtain ⟨rfl, rfl⟩ : r0 = true ∧ r1 = true := by simpa using hb
          have HN : Hid (A.take (k + 1) = B.take (k + 1)) := take_eq HXY.out.1 HXY.out.2 HD.out HE.out
          go_wp2
          go_quiet (fail)
          go_wp2
          go_roundw
          case rel => exact ⟨k + 1, by omega, by go_num, HF.out.drewN _, HN.out⟩
          case measure => simp [intOf]; omega
        · have HN : Hid (decide (A = B) = false) := take_ne HXY.out.1 HXY.out.2 (by rw [HD.out]; simpa using hb)
          have hb2 : (r0 && r1) = false := by simpa using hb
          have hc : r0 = false ∨ (r0 = true ∧ r1 = false) := by cases r0 <;> cases r1 <;> simp at hb2 ⊢
          clear hb hb2
          rcases hc with rfl | ⟨rfl, rfl⟩
          all_goals
            go_wp2
            go_quiet (fail)
            go_wp2
            go_ret
            exact ⟨by rw [HN.out]; rfl, HF.out.drewN _⟩
      · have hlt' : ¬ (k : Int) < (n1 : Int) := by omega
        have HN : Hid (decide (A = B) = true) := take_all (by rw [H1.out.2.2.1]; omega) (by rw [H1.out.2.2.2]; omega) HE.out
        go_wp2
        go_ret
        exact ⟨by rw [HN.out]; rfl, HF.out⟩
  · have HN : Hid (decide (A = B) = false) := len_ne (by rw [hn1, hn2]; exact hne)
    have hne' : ((n1 : Int) != (n2 : Int)) = true := by rw [bne_iff_ne]; omega
    clear h1 h2 hn1 hn2 hne
    go_enter Tryd.func62, Tryd.ntmps62
    go_wp2
    go_ret
    exact ⟨by rw [HN.out]; rfl, Fr.refl _ _⟩
set_option maxHeartbeats 1000000 in
theorem eqEn_p (w : World) (i1 i2 : Nat) (a1 a2 : Option Addr) (n1 n2 c1 c2 : Nat) (A B : List Cp) (h1 : Cs w a1 A) (h2 : Cs w a2 B) (hn1 : A.length = n1) (hn2 : B.length = n2) (hm1 : n1 ≤ 2097152) (hm2 : n2 ≤ 2097152) :
    Calls Tryd.prog 61 #[.agg #[.int .u32 (i1 : Int), .slice a1 n1 c1], .agg #[.int .u32 (i2 : Int), .slice a2 n2 c2]] w fun e w' => e = .returned (.bool (decide ((i1, A) = (i2, B)))) ∧ Fr Nobody w w' := by
  have HF : Hid (Fr Nobody w ((w.alloc (.cells #[.int .u32 (i1 : Int), .slice a1 n1 c1] 43)).alloc (.cells #[.int .u32 (i2 : Int), .slice a2 n2 c2] 43))) := ((Fr.refl _ _).alloc _).alloc _
  have HS : Hid (Calls _ _ _ _ _) := eqCs_p _ a1 a2 n1 n2 c1 c2 A B (h1.quiet HF.out) (h2.quiet HF.out) hn1 hn2 hm1 hm2
  by_cases hi : i1 = i2
  · have HD : Hid (decide ((i1, A) = (i2, B)) = decide (A = B)) := by show _ = _; simp [hi]
    have hii : ((i1 : Int) == (i2 : Int)) = true := by simp [hi]
    generalize decide (A = B) = r at *
    clear h1 h2 hn1 hn2 hi
    go_enter Tryd.func61, Tryd.ntmps61
    go_wp2_with fail
    refine HS.out.mono ?_
    rintro e w1 ⟨rfl, hf⟩
    have H1 : Hid (Fr Nobody w w1) := HF.out.trans hf
    clear hf HS
    go_wp2
    go_ret
    exact ⟨by rw [HD.out]; rfl, H1.out⟩
  · have HD : Hid (decide ((i1, A) = (i2, B)) = false) := by show _ = _; simp [hi]
    have hii : ((i1 : Int) == (i2 : Int)) = false := by simp; omega
    clear h1 h2 hn1 hn2 hi HS
    go_enter Tryd.func61, Tryd.ntmps61
    go_wp2
    go_ret
    exact ⟨by rw [HD.out]; rfl, HF.out⟩
end Go.Proofs.YtkjanpjlpieaoaaDoor

/-
  Slots as plain lists: what is taken, what is freed; no program is named here.
-/
namespace Go.Proofs.YtkjanpjlpieaoaaDoor
set_option linter.unusedVariables false

structure St where
  n : Nat
  first : Nat
  last : List Nat
  used : List Bool
  freed : List Nat
  live : Nat

/-- what is so of slots at all times -/
structure St.Ok (S : St) : Prop where
  n1 : 1 ≤ S.n
  n2 : S.n ≤ 1024
  f1 : 1 ≤ S.first
  f2 : S.first ≤ 4194303
  ul : S.used.length = S.last.length
  le : S.last.length ≤ S.n
  id : ∀ i x, S.last[i]? = some x → x % 1024 = i ∧ 1 ≤ x / 1024 ∧ x < 4294967296
  nodup : S.freed.Nodup
  fr : ∀ f ∈ S.freed, S.used[f]? = some false ∧ ∃ x, S.last[f]? = some x ∧ x / 1024 < 4194303
  cnt : S.freed.length + S.live ≤ S.last.length
  live : S.live = S.used.count true

def St.new (n first : Nat) : St := ⟨n, first, [], [], [], 0⟩
/-- the slot that was freed last is taken again -/
def St.again (S : St) (f : Nat) : St := { S with last := S.last.set f (S.last.getD f 0 + 1024), used := S.used.set f true, freed := S.freed.dropLast, live := S.live + 1 }
/-- the least slot that never was in use is taken -/
def St.more (S : St) : St := { S with last := S.last ++ [S.first * 1024 + S.last.length], used := S.used ++ [true], live := S.live + 1 }
/-- what Take answers, and what is then -/
def St.take (S : St) : Nat × Int × St :=
  match S.freed.getLast? with
  | some f => (S.last.getD f 0 + 1024, 0, S.again f)
  | none => if S.last.length < S.n then (S.first * 1024 + S.last.length, 0, S.more) else (0, 8, S)
theorem St.Ok.getD {S : St} (h : S.Ok) {f x : Nat} (hx : S.last[f]? = some x) : S.last.getD f 0 = x := by rw [List.getD_eq_getElem?_getD, hx]; rfl
theorem St.Ok.lt {S : St} (h : S.Ok) {f : Nat} (hf : f ∈ S.freed) : f < S.last.length := by
  obtain ⟨h1, _⟩ := h.fr f hf
  rw [← h.ul]; exact (List.getElem?_eq_some_iff.1 h1).1
end Go.Proofs.YtkjanpjlpieaoaaDoor

/-
  Package slots: Make, Slot, Gen, New, Take, Free, Live, Len, Room.
-/
namespace Go.Proofs.YtkjanpjlpieaoaaDoor
open Go.RowKit
set_option linter.unusedVariables false

set_option maxHeartbeats 400000 in
theorem slot_any (id : Nat) (w : World) (h : id < 4294967296) : Calls Tryd.prog 47 #[.int .u32 (id : Int)] w fun e w' => e = .returned (.int .i64 ((id % 1024 : Nat) : Int)) ∧ w' = w := by
  go_enter Tryd.func47, Tryd.ntmps47
  go_wp2
  go_ret
  exact ⟨ret_int (by omega), rfl⟩
set_option maxHeartbeats 400000 in
theorem gen_any (id : Nat) (w : World) (h : id < 4294967296) : Calls Tryd.prog 48 #[.int .u32 (id : Int)] w fun e w' => e = .returned (.int .i64 ((id / 1024 : Nat) : Int)) ∧ w' = w := by
  go_enter Tryd.func48, Tryd.ntmps48
  go_wp2
  go_ret
  exact ⟨ret_int (by omega), rfl⟩
set_option maxHeartbeats 400000 in
theorem isGen_yes (g : Int) (w : World) (h1 : 1 ≤ g) (h2 : g ≤ 4194303) : Calls Tryd.prog 65 #[.int .i64 g] w fun e w' => e = .returned (.bool true) ∧ w' = w := by
  go_enter Tryd.func65, Tryd.ntmps65
  go_wp2
  go_ret
  exact ⟨rfl, rfl⟩
set_option maxHeartbeats 400000 in
theorem isGen_no (g : Int) (w : World) (h : g < 1 ∨ 4194303 < g) : Calls Tryd.prog 65 #[.int .i64 g] w fun e w' => e = .returned (.bool false) ∧ w' = w := by
  rcases h with h | h
  · go_enter Tryd.func65, Tryd.ntmps65
    go_wp2
    go_ret
    exact ⟨rfl, rfl⟩
  · have h1 : 1 ≤ g := by omega
    have hd : decide (g ≤ 4194303) = false := by simp; omega
    go_enter Tryd.func65, Tryd.ntmps65
    go_wp2
    go_ret
    exact ⟨rfl, rfl⟩
set_option maxHeartbeats 400000 in
theorem number_any (s g : Nat) (w : World) (h1 : s < 1024) (h2 : g ≤ 4194303) : Calls Tryd.prog 66 #[.int .i64 (s : Int), .int .i64 (g : Int)] w fun e w' => e = .returned (.int .u32 ((g * 1024 + s : Nat) : Int)) ∧ w' = w := by
  go_enter Tryd.func66, Tryd.ntmps66
  go_wp2
  go_ret
  exact ⟨ret_int (by omega), rfl⟩

set_option maxHeartbeats 400000 in
set_option maxRecDepth 100000 in
theorem make_yes (s g : Nat) (w : World) (h1 : s < 1024) (h2 : 1 ≤ g) (h3 : g ≤ 4194303) : Calls Tryd.prog 46 #[.int .i64 (s : Int), .int .i64 (g : Int)] w fun e w' => e = .returned (.tuple #[.int .u32 ((g * 1024 + s : Nat) : Int), .int .i64 0]) ∧ w' = w := by
  go_enter Tryd.func46, Tryd.ntmps46
  go_wp2_with (first | (go_at_call 65; refine (isGen_yes _ _ (by omega) (by omega)).mono ?_; rintro e w' ⟨rfl, rfl⟩) | (go_at_call 66; refine (number_any _ _ _ h1 h3).mono ?_; rintro e w' ⟨rfl, rfl⟩))
  go_ret2
  exact ⟨rfl, rfl⟩
set_option maxHeartbeats 400000 in
theorem make_no (s g : Int) (w : World) (h : s < 0 ∨ 1024 ≤ s ∨ g < 1 ∨ 4194303 < g) : Calls Tryd.prog 46 #[.int .i64 s, .int .i64 g] w fun e w' => e = .returned (.tuple #[.int .u32 0, .int .i64 1]) ∧ w' = w := by
  by_cases c1 : s < 0
  · go_enter Tryd.func46, Tryd.ntmps46
    go_wp2
    go_ret2
    exact ⟨rfl, rfl⟩
  · by_cases c2 : 1024 ≤ s
    · go_enter Tryd.func46, Tryd.ntmps46
      go_wp2
      go_ret2
      exact ⟨rfl, rfl⟩
    · go_enter Tryd.func46, Tryd.ntmps46
      go_wp2_with (first | (go_at_call 65; refine (isGen_no _ _ (by omega)).mono ?_; rintro e w' ⟨rfl, rfl⟩))
      go_ret2
      exact ⟨rfl, rfl⟩

end Go.Proofs.YtkjanpjlpieaoaaDoor

