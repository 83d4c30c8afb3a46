/-
  Where the component of a kind stands; changes in lists.
-/
import Derived.Test.YtcmofbhfdagpcaaGreatDoorEnag
import Derived.Test.YtcmofbhfdagpcaaGreatDoorDtbg
import Derived.Deep.DeepCutAuto
import Derived.Laws.Rows
namespace Go.Proofs.YtcmofbhfdagpcaaGreatDoor
open Go.RowKit
set_option linter.unusedVariables false
set_option maxRecDepth 100000

set_option maxHeartbeats 400000 in
theorem placeP_any (w : World) (bk k : Nat) (hk : w.cell? ⟨bk, 0, none⟩ = some (.int .u8 (k : Int))) (q : Cp) :
    Calls Tryz.prog 124 #[.agg #[.int .u8 (q.k : Int), .int .i32 q.a, .int .i32 q.b, .int .i32 q.c], .pointer (some ⟨bk, 0, none⟩)] w fun e w' => e = .returned (.bool (decide (q.k = k))) ∧ Fr Nobody w w' := by
  have hlt : bk < w.heap.size := World.block_lt_of_cell? w _ hk
  have hne : bk ≠ w.heap.size := by omega
  have hne2 : w.heap.size ≠ bk := by omega
  by_cases h : q.k = k
  · subst h
    go_enter Tryz.func124, Tryz.ntmps124
    go_wp2
    go_ret
    exact ⟨by simp, (Fr.refl _ _).alloc _⟩
  · have h' : ((q.k : Int) == (k : Int)) = false := by simp; omega
    rw [decide_eq_false h]
    go_enter Tryz.func124, Tryz.ntmps124
    go_wp2
    go_ret
    exact ⟨rfl, (Fr.refl _ _).alloc _⟩
/-- where the component of a kind stands, or -1 -/
def PlR (C : List Cp) (k : Nat) (r : Int) : Prop := (r = -1 ∧ fst C k = none) ∨ ∃ (j : Nat) (q : Cp), r = (j : Int) ∧ C[j]? = some q ∧ fst C k = some q
theorem fst_hit {C : List Cp} {j k : Nat} {q : Cp} (hq : C[j]? = some q) (hn : fst (C.take j) k = none) (h : q.k = k) : fst C k = some q := by
  have hj := List.getElem?_eq_some_iff.1 hq
  have e : C = C.take j ++ q :: C.drop (j + 1) := by
    rw [← hj.2, ← List.drop_eq_getElem_cons hj.1, List.take_append_drop]
  unfold fst at hn ⊢
  rw [e, List.find?_append, hn]
  simp [h]
theorem fst_miss {C : List Cp} {j k : Nat} {q : Cp} (hq : C[j]? = some q) (hn : fst (C.take j) k = none) (h : q.k ≠ k) : fst (C.take (j + 1)) k = none := by
  unfold fst at hn ⊢
  rw [take_snoc C j q hq, List.find?_append, hn]
  simp [h]
set_option maxHeartbeats 2000000 in
theorem idxK_any (w : World) (ao : Option Addr) (n cap : Nat) (C : List Cp) (hn : C.length = n) (hs : Cs w ao C) (hm : n ≤ 2097152) (bk k : Nat) (hk : w.cell? ⟨bk, 0, none⟩ = some (.int .u8 (k : Int))) :
    Calls Tryz.prog 78 #[.slice ao n cap, .func (.func 124) #[] #[.pointer (some ⟨bk, 0, none⟩)]] w fun e w' => ∃ r : Int, e = .returned (.int .i64 r) ∧ PlR C k r ∧ Fr Nobody w w' := by
  have HL : Hid (C.length = n ∧ Cs w ao C ∧ w.cell? ⟨bk, 0, none⟩ = some (.int .u8 (k : Int)) ∧ bk < w.heap.size) := ⟨hn, hs, hk, World.block_lt_of_cell? w _ hk⟩
  clear hn hs hk
  go_enter Tryz.func78, Tryz.ntmps78
  go_wp2
  go_loopw [8] (fun cc wr => ∃ j : Nat, j ≤ n ∧ cc = .int .i64 j ∧ Fr Nobody w wr ∧ fst (C.take j) k = none) (fun cc _ => n - (intOf cc).toNat)
  case atStart => exact ⟨0, Nat.zero_le _, rfl, Fr.refl _ _, by simp [fst]⟩
  case round =>
    obtain ⟨j, hj, rfl, hf, hno⟩ := hrel
    have HF : Hid (Fr Nobody w wr) := hf
    have HN : Hid (fst (C.take j) k = none) := hno
    clear hf hno
    by_cases hlt : j < n
    · obtain ⟨q, hq⟩ : ∃ q, C[j]? = some q := ⟨_, List.getElem?_eq_getElem (by rw [HL.out.1]; exact hlt)⟩
      obtain ⟨g, o, hao, _, c0, c1, c2, c3⟩ := (HL.out.2.1.quiet HF.out).at j q hq
      subst hao
      have hlt' : (j : Int) < (n : Int) := by omega
      have HP : Hid (Calls _ _ _ _ _) := placeP_any wr bk k ((HF.out.cell (p := ⟨bk, 0, none⟩) HL.out.2.2.2 id).trans HL.out.2.2.1) q
      have HQ : Hid (C[j]? = some q) := hq
      clear hq
      by_cases he : q.k = k
      · have HH : Hid (PlR C k (j : Int)) := .inr ⟨j, q, rfl, HQ.out, fst_hit HQ.out HN.out he⟩
        rw [decide_eq_true he] at HP
        clear he HQ
        obtain ⟨qk, qa, qb, qc⟩ := q
        simp only at c0 c1 c2 c3 HP
        go_wp2_with fail
        refine HP.out.mono ?_
        rintro e w2 ⟨rfl, hf⟩
        have HF2 : Hid (Fr Nobody w w2) := HF.out.trans hf
        clear hf HP
        go_wp2
        go_ret
        exact ⟨(j : Int), rfl, HH.out, HF2.out⟩
      · have HH : Hid (fst (C.take (j + 1)) k = none) := fst_miss HQ.out HN.out he
        rw [decide_eq_false he] at HP
        clear he HQ
        obtain ⟨qk, qa, qb, qc⟩ := q
        simp only at c0 c1 c2 c3 HP
        go_wp2_with fail
        refine HP.out.mono ?_
        rintro e w2 ⟨rfl, hf⟩
        have HF2 : Hid (Fr Nobody w w2) := HF.out.trans hf
        clear hf HP
        go_wp2
        go_roundw
        case rel => exact ⟨j + 1, by omega, by go_num, HF2.out, HH.out⟩
        case measure => simp [intOf]; omega
    · have hlt' : ¬ (j : Int) < (n : Int) := by omega
      have HU : Hid (PlR C k (-1)) := .inl ⟨rfl, by have := HN.out; rw [List.take_of_length_le (by rw [HL.out.1]; omega)] at this; exact this⟩
      go_wp2
      go_ret
      exact ⟨-1, rfl, HU.out, HF.out⟩
set_option maxHeartbeats 1000000 in
theorem place_any (w : World) (ao : Option Addr) (n cap : Nat) (C : List Cp) (hn : C.length = n) (hs : Cs w ao C) (hm : n ≤ 2097152) (k : Nat) :
    Calls Tryz.prog 104 #[.slice ao n cap, .int .u8 (k : Int)] w fun e w' => ∃ r : Int, e = .returned (.int .i64 r) ∧ PlR C k r ∧ Fr Nobody w w' := by
  have h0 := ((Own.start w).allocC #[.int .u8 (k : Int)] 5).cell 0
  have HI : Hid (Calls _ _ _ _ _) := idxK_any (w.alloc (.cells #[.int .u8 (k : Int)] 5)) ao n cap C hn (hs.quiet ((Fr.refl _ _).alloc _)) hm w.heap.size k h0
  have HF : Hid (Fr Nobody w (w.alloc (.cells #[.int .u8 (k : Int)] 5))) := (Fr.refl _ _).alloc _
  clear hn hs h0
  go_enter Tryz.func104, Tryz.ntmps104
  go_wp2_with fail
  refine HI.out.mono ?_
  rintro e w2 ⟨r, rfl, hr, hf⟩
  have HR : Hid (PlR C k r) := hr
  have HF2 : Hid (Fr Nobody w w2) := HF.out.trans hf
  clear hf HI hr
  go_wp2
  go_ret
  exact ⟨r, rfl, HR.out, HF2.out⟩
/-- a change in a list: its parts, and where they lie -/
structure ChE where
  id : Nat
  lost : Nat
  N : List Cp
  na : Option Addr
  nc : Nat
  S : List Cp
  sa : Option Addr
  sc : Nat
def ChE.cs (x : ChE) : List Value := [.int .u32 (x.id : Int), .int .u8 (x.lost : Int), .slice x.na x.N.length x.nc, .slice x.sa x.S.length x.sc]
def ChE.v (x : ChE) : Chg := ⟨x.id, x.lost, x.N, x.S⟩
def ChE.nrow (x : ChE) : Thing := Row 96 4 (.slice x.na x.N.length x.nc) x.N.length (ccat x.N)
def ChE.srow (x : ChE) : Thing := Row 96 4 (.slice x.sa x.S.length x.sc) x.S.length (ccat x.S)
def ChE.rows (x : ChE) : List Thing := [x.nrow, x.srow]
theorem Tryz.infoChg : (Tryz.prog.info? 131).map (fun i => (i.zero, i.size, i.bytes)) = some (some (.agg #[.int .u32 0, .int .u8 0, .slice none 0 0, .slice none 0 0]), 4, 56) := by kernel_rfl
end Go.Proofs.YtcmofbhfdagpcaaGreatDoor


/-
  Components, entities, lists of entities: are they alike?
-/
namespace Go.Proofs.YtcmofbhfdagpcaaGreatDoor
open Go.RowKit
set_option linter.unusedVariables false
set_option maxRecDepth 100000

theorem cp_eq (x y : Cp) : ((((x.k : Int) == (y.k : Int))) && ((x.a == y.a) && (x.b == y.b) && (x.c == y.c))) = decide (x = y) := by
  rw [Bool.eq_iff_iff]
  cases x; cases y
  simp
  omega
theorem take_ne {α : Type} [DecidableEq α] {A B : List α} {k : Nat} {x y : α} (hx : A[k]? = some x) (hy : B[k]? = some y) (h : decide (x = y) = false) : decide (A = B) = false := by
  apply decide_eq_false
  intro e
  rw [e, hy] at hx
  have : y = x := by simpa using hx
  exact of_decide_eq_false h this.symm
theorem take_eq {α : Type} [DecidableEq α] {A B : List α} {k : Nat} {x y : α} (hx : A[k]? = some x) (hy : B[k]? = some y) (h : decide (x = y) = true) (ht : A.take k = B.take k) : A.take (k + 1) = B.take (k + 1) := by
  rw [List.take_add_one, List.take_add_one, hx, hy, ht, of_decide_eq_true h]
theorem take_all {α : Type} [DecidableEq α] {A B : List α} {k : Nat} (hA : A.length ≤ k) (hB : B.length ≤ k) (ht : A.take k = B.take k) : decide (A = B) = true := by
  rw [List.take_of_length_le hA, List.take_of_length_le hB] at ht
  exact decide_eq_true ht
theorem len_ne {α : Type} [DecidableEq α] {A B : List α} (h : A.length ≠ B.length) : decide (A = B) = false := decide_eq_false (fun e => h (by rw [e]))
set_option maxHeartbeats 2000000 in
theorem eqCs_p (w : World) (a1 a2 : Option Addr) (n1 n2 c1 c2 : Nat) (A B : List Cp) (h1 : Cs w a1 A) (h2 : Cs w a2 B) (hn1 : A.length = n1) (hn2 : B.length = n2) (hm1 : n1 ≤ 2097152) (hm2 : n2 ≤ 2097152) :
    Calls Tryz.prog 147 #[.slice a1 n1 c1, .slice a2 n2 c2] w fun e w' => e = .returned (.bool (decide (A = B))) ∧ Fr Nobody w w' := by
  by_cases hne : n1 = n2
  · have H1 : Hid (Cs w a1 A ∧ Cs w a2 B ∧ A.length = n1 ∧ B.length = n1) := ⟨h1, h2, hn1, by rw [hn2, hne]⟩
    rw [← hne]
    clear h1 h2 hn1 hn2 hne hm2
    have hne' : ((n1 : Int) != (n1 : Int)) = false := by simp
    go_enter Tryz.func147, Tryz.ntmps147
    go_wp2
    clear hne'
    go_loopw [13] (fun cc wr => ∃ k : Nat, k ≤ n1 ∧ cc = .int .i64 k ∧ Fr Nobody w wr ∧ A.take k = B.take k) (fun cc _ => n1 - (intOf cc).toNat)
    case atStart => exact ⟨0, Nat.zero_le _, rfl, Fr.refl _ _, by simp⟩
    case round =>
      obtain ⟨k, hk, rfl, hf, heq⟩ := hrel
      have HF : Hid (Fr Nobody w wr) := hf
      have HE : Hid (A.take k = B.take k) := heq
      clear hf heq
      by_cases hlt : k < n1
      · obtain ⟨x, hx⟩ : ∃ x, A[k]? = some x := ⟨_, List.getElem?_eq_getElem (by rw [H1.out.2.2.1]; exact hlt)⟩
        obtain ⟨y, hy⟩ : ∃ y, B[k]? = some y := ⟨_, List.getElem?_eq_getElem (by rw [H1.out.2.2.2]; exact hlt)⟩
        obtain ⟨g1, o1, hg1, _, p0, p1, p2, p3⟩ := (H1.out.1.quiet HF.out).at k x hx
        obtain ⟨g2, o2, hg2, _, q0, q1, q2, q3⟩ := (H1.out.2.1.quiet HF.out).at k y hy
        subst hg1 hg2
        have hlt' : (k : Int) < (n1 : Int) := by omega
        have HXY : Hid (A[k]? = some x ∧ B[k]? = some y) := ⟨hx, hy⟩
        obtain ⟨r0, e0⟩ : ∃ r, ((x.k : Int) == (y.k : Int)) = r := ⟨_, rfl⟩
        obtain ⟨r1, e1⟩ : ∃ r, ((x.a == y.a) && (x.b == y.b) && (x.c == y.c)) = r := ⟨_, rfl⟩
        have HD : Hid (decide (x = y) = (r0 && r1)) := by show _ = _; rw [← cp_eq, e0, e1]
        have eqa : ∀ d w, (Op.equalIn (d + 1 + 1) 94 (.agg #[.int .i32 x.a, .int .i32 x.b, .int .i32 x.c]) (.agg #[.int .i32 y.a, .int .i32 y.b, .int .i32 y.c])).run Tryz.prog w = .ok r1 w := fun d w => by rw [eq_a3, e1]
        clear hx hy e1
        obtain ⟨xk, xa, xb, xc⟩ := x
        obtain ⟨yk, ya, yb, yc⟩ := y
        simp only at p0 p1 p2 p3 q0 q1 q2 q3 e0 eqa
        by_cases hb : (r0 && r1) = true
        · obtain ⟨rfl, rfl⟩ : r0 = true ∧ r1 = true := by simpa using hb
          have HN : Hid (A.take (k + 1) = B.take (k + 1)) := take_eq HXY.out.1 HXY.out.2 HD.out HE.out
          go_wp2
          go_quiet (fail)
          go_wp2
          go_roundw
          case rel => exact ⟨k + 1, by omega, by go_num, HF.out.drewN _, HN.out⟩
          case measure => simp [intOf]; omega
        · have HN : Hid (decide (A = B) = false) := take_ne HXY.out.1 HXY.out.2 (by rw [HD.out]; simpa using hb)
          have hb2 : (r0 && r1) = false := by simpa using hb
          have hc : r0 = false ∨ (r0 = true ∧ r1 = false) := by cases r0 <;> cases r1 <;> simp at hb2 ⊢
          clear hb hb2
          rcases hc with rfl | ⟨rfl, rfl⟩
          all_goals
            go_wp2
            go_quiet (fail)
            go_wp2
            go_ret
            exact ⟨by rw [HN.out]; rfl, HF.out.drewN _⟩
      · have hlt' : ¬ (k : Int) < (n1 : Int) := by omega
        have HN : Hid (decide (A = B) = true) := take_all (by rw [H1.out.2.2.1]; omega) (by rw [H1.out.2.2.2]; omega) HE.out
        go_wp2
        go_ret
        exact ⟨by rw [HN.out]; rfl, HF.out⟩
  · have HN : Hid (decide (A = B) = false) := len_ne (by rw [hn1, hn2]; exact hne)
    have hne' : ((n1 : Int) != (n2 : Int)) = true := by rw [bne_iff_ne]; omega
    clear h1 h2 hn1 hn2 hne
    go_enter Tryz.func147, Tryz.ntmps147
    go_wp2
    go_ret
    exact ⟨by rw [HN.out]; rfl, Fr.refl _ _⟩
set_option maxHeartbeats 1000000 in
theorem eqEn_p (w : World) (i1 i2 : Nat) (a1 a2 : Option Addr) (n1 n2 c1 c2 : Nat) (A B : List Cp) (h1 : Cs w a1 A) (h2 : Cs w a2 B) (hn1 : A.length = n1) (hn2 : B.length = n2) (hm1 : n1 ≤ 2097152) (hm2 : n2 ≤ 2097152) :
    Calls Tryz.prog 146 #[.agg #[.int .u32 (i1 : Int), .slice a1 n1 c1], .agg #[.int .u32 (i2 : Int), .slice a2 n2 c2]] w fun e w' => e = .returned (.bool (decide ((i1, A) = (i2, B)))) ∧ Fr Nobody w w' := by
  have HF : Hid (Fr Nobody w ((w.alloc (.cells #[.int .u32 (i1 : Int), .slice a1 n1 c1] 90)).alloc (.cells #[.int .u32 (i2 : Int), .slice a2 n2 c2] 90))) := ((Fr.refl _ _).alloc _).alloc _
  have HS : Hid (Calls _ _ _ _ _) := eqCs_p _ a1 a2 n1 n2 c1 c2 A B (h1.quiet HF.out) (h2.quiet HF.out) hn1 hn2 hm1 hm2
  by_cases hi : i1 = i2
  · have HD : Hid (decide ((i1, A) = (i2, B)) = decide (A = B)) := by show _ = _; simp [hi]
    have hii : ((i1 : Int) == (i2 : Int)) = true := by simp [hi]
    generalize decide (A = B) = r at *
    clear h1 h2 hn1 hn2 hi
    go_enter Tryz.func146, Tryz.ntmps146
    go_wp2_with fail
    refine HS.out.mono ?_
    rintro e w1 ⟨rfl, hf⟩
    have H1 : Hid (Fr Nobody w w1) := HF.out.trans hf
    clear hf HS
    go_wp2
    go_ret
    exact ⟨by rw [HD.out]; rfl, H1.out⟩
  · have HD : Hid (decide ((i1, A) = (i2, B)) = false) := by show _ = _; simp [hi]
    have hii : ((i1 : Int) == (i2 : Int)) = false := by simp; omega
    clear h1 h2 hn1 hn2 hi HS
    go_enter Tryz.func146, Tryz.ntmps146
    go_wp2
    go_ret
    exact ⟨by rw [HD.out]; rfl, HF.out⟩
end Go.Proofs.YtcmofbhfdagpcaaGreatDoor


/-
  Lists of entities of their own: the document's Twins, the program's Copy.
-/
namespace Go.Proofs.YtcmofbhfdagpcaaGreatDoor
open Go.RowKit
set_option linter.unusedVariables false
set_option maxRecDepth 100000

theorem Own.dropA {w0 w : World} {A l : List Thing} (h : Own w0 w (A ++ l)) : Own w0 w l := by
  induction A with
  | nil => exact h
  | cons a t ih => exact ih h.tail
theorem step_cs {w0 w : World} {l : List Thing} {ops : Array Oper} {o : Oper} {a : Act} {K : Act → World → Prop} {Q : Exit → Act → World → Prop} {E : Prop} (hgd : o.guard = none) (sx x : Operand)
    (ho : o.op = .call { callee := .builtin .append, args := #[sx, x], argTypes := #[88, 88] })
    (i : TypeInfo) (hi : Tryz.prog.info? 96 = some i) (z : Value) (hz : i.zero = some z) (hsize : i.size = 4) (hby : i.bytes = 16) (hzs : z.cells.size = 4)
    (v : Value) (n : Nat) (xs : List Value) (hs : a.eval sx = v) (xa : Option Addr) (m xc : Nat) (C : List Cp) (hx : a.eval x = .slice xa m xc) (hC : C.length = m) (hc : Cs w xa C) (hown : Own w0 w (Row 96 4 v n xs :: l))
    (h63 : n + m ≤ maxLen) (hbytes : (n + m) * 16 ≤ 140737488355328)
    (h : ∀ ao cap w', Own w0 w' (Row 96 4 (.slice ao (n + m) cap) (n + m) (xs ++ ccat C) :: l) → K (a.put o.dst (.slice ao (n + m) cap)) w') :
    if Region.wanted o (yielded ops a.tmps) = true then Oper.wp Tryz.prog o a w K Q else E := by
  have hw : Region.wanted o (yielded ops a.tmps) = true := by simp [Region.wanted, hgd]
  rw [if_pos hw]
  rcases Nat.eq_zero_or_pos m with h0 | h0
  · subst h0
    have hy : C = [] := List.eq_nil_of_length_eq_zero hC
    subst hy
    obtain ⟨va, vc, rfl⟩ := row_any hown.row
    have hr := run_append_empty (P := Tryz.prog) w 0 88 o.type 96 i 4 Tryz.underlying88 hi _ n xs hown.row xa xc
    unfold Oper.wp
    simp [execOp, ho, resolve, invoke, builtin, hs, hx, hr, Result.andThen]
    have := h va vc w (by simpa [ccat, cat] using hown)
    simp at this
    exact this
  · rcases hc with hc | ⟨g, o', rfl, hc⟩
    · subst hc; simp at hC; omega
    refine wp_append_lies w sx x 88 ho 0 96 i z 4 16 Tryz.underlying88 hi hz hsize hby hzs (by decide) v n xs hs hown.row ⟨g, o', none⟩ m xc (ccat C) hx (by rw [length_ccat, hC]) (Cs.cells hc) (one_cat Cp.cs cs_one C) h0 h63 hbytes (Nat.zero_le _) _ rfl ?_
    intro g' cap' w' h2 h3 h4 h5
    refine h _ _ w' (hown.grow h2 h3 (fun k hk => ?_))
    have hk' : g' = k := by simpa [Value.ownBlock] using hk
    subst hk'
    rcases h4 with h4 | h4
    · exact .inl h4
    · exact .inr (by omega)

set_option maxHeartbeats 8000000 in
theorem copy_any (w0 w : World) (l : List Thing) (h : Own w0 w l) (ae : Option Addr) (n ce : Nat) (L : List EnE) (hQ : ∀ w', Own w0 w' l → EntsAt w' ae L) (hn : L.length = n) (hz : esz L ≤ 1000000) :
    Calls Tryz.prog 83 #[.slice ae n ce] w fun e w' => ∃ (ao : Option Addr) (cap : Nat), e = .returned (.slice ao n cap) ∧ ∃ M : List EnE, M.length = n ∧ evs M = evs L ∧ Own w0 w' (EntsT ao cap M :: l) := by
  obtain ⟨i0, hi, hz0, hz1, hz2⟩ := info3w Tryz.infoEnt
  obtain ⟨i1, hi1, hy0, hy1, hy2⟩ := info_parts Tryz.infoComp
  have HN : Hid (L.length = n) := hn
  have HQ : Hid (∀ w', Own w0 w' l → EntsAt w' ae L) := hQ
  have HC : Hid (∀ x ∈ L, x.C.length ≤ 1000000) := fun x hx => by have := csz_mem hx; unfold esz at hz; omega
  have hl : n ≤ 1000000 := by unfold esz at hz; omega
  have H : Hid (Own w0 w l) := h
  clear h hn hQ hz
  go_enter Tryz.func83, Tryz.ntmps83
  go_wp2
  go_loopw [3, 8] (fun vo vi wr => ∃ (j : Nat) (M : List EnE) (ao : Option Addr) (cap : Nat), j ≤ n ∧ vi = .int .i64 (j : Int) ∧ vo = .slice ao j cap ∧ M.length = j ∧ evs M = evs (L.take j) ∧ Own w0 wr (Row 90 2 (.slice ao j cap) j (cat EnE.cs M) :: (M.map erow ++ l))) (fun _ vi _ => n - (intOf vi).toNat)
  case atStart => exact ⟨0, [], none, 0, Nat.zero_le _, rfl, rfl, rfl, rfl, H.out.nilRow _ _⟩
  case round =>
    obtain ⟨j, M, ao, cap, hj, rfl, rfl, hMl, hM, hO⟩ := hrel
    have HM : Hid (M.length = j ∧ evs M = evs (L.take j)) := ⟨hMl, hM⟩
    clear H hMl hM
    by_cases hlt : j < n
    · have hlt' : (j : Int) < (n : Int) := by omega
      obtain ⟨x, hx⟩ : ∃ x, L[j]? = some x := ⟨_, List.getElem?_eq_getElem (by rw [HN.out]; exact hlt)⟩
      obtain ⟨g, o, hg, c0, c1, hcs⟩ := (HQ.out wr hO.tail.dropA).at hx
      have hcl := HC.out x (List.mem_of_getElem? hx)
      have hB := hO.allocC #[.int .u32 (x.id : Int), .slice x.ao x.C.length x.cap] 90
      have HTW : Hid (Cs (wr.alloc (.cells #[.int .u32 (x.id : Int), .slice x.ao x.C.length x.cap] 90)).drew x.ao x.C) := hcs.quiet ((Fr.refl _ _).alloc _).drew
      have HM2 : Hid (∀ a c, evs (M ++ [EnE.mk x.id a c x.C]) = evs (L.take (j + 1))) := by
        intro a c
        have e := HM.out.2
        unfold evs at e ⊢
        rw [List.map_append, e, List.take_add_one, hx]
        simp
      subst hg
      obtain ⟨xi, xa, xc, C⟩ := x
      simp only at c0 c1 HTW HM2
      have HB : Hid (Own w0 _ _) := hB
      generalize hcl2 : C.length = cl at *
      have HCL : Hid (C.length = cl) := hcl2
      clear hO hB hx hcs hcl2
      go_wp2
      generalize hWg : wr.alloc (.cells #[.int .u32 (xi : Int), .slice xa cl xc] 90) = W1 at *
      generalize wr.heap.size = b5 at *
      clear hWg c0 c1
      have p0 := HB.out.cell 0
      have p1 := HB.out.cell 1
      simp at p0 p1
      go_region_held3 (fun w' => w'.cell? ⟨b5, 0, none⟩ = some (.int .u32 (xi : Int)) ∧ w'.cell? ⟨b5, 1, none⟩ = some (.slice xa cl xc)) (go_keep)
        (first
          | (refine step_cs rfl _ _ rfl i1 hi1 _ hy0 hy1 hy2 rfl _ 0 [] rfl _ _ _ C rfl HCL.out HTW.out (HB.out.drew.nilRow _ _) (by unfold maxLen; omega) (by omega) ?_
             intro a5 c5 w5 h5r
             have h5 : Own w0 w5 (Row 96 4 (.slice a5 cl c5) cl (ccat C) :: Cells b5 #[.int .u32 (xi : Int), .slice xa cl xc] 90 :: Row 90 2 (.slice ao j cap) j (cat EnE.cs M) :: (M.map erow ++ l)) := by simpa using h5r
             clear h5r
             rw [Nat.zero_add]
             have u0 := h5.two.cell 0
             have u1 := h5.two.cell 1
             simp at u0 u1
             have h5b := h5.three.alloc (.cells #[.int .u32 (xi : Int), .slice a5 cl c5] 90)
             have h5c := (h5.litRow #[.int .u32 (xi : Int), .slice a5 cl c5] 90 2 1 (by decide) rfl).row
             have v0 := h5b.three.cell 0
             have v1 := h5b.three.cell 1
             simp at v0 v1
             have H5 : Hid (Own w0 _ _) := h5b
             have H5C : Hid (World.ownsRow _ _ _ _ _ _ _) := h5c
             clear h5 h5b h5c)
          | (refine step_allW rfl _ _ 31 rfl 90 i0 (.agg #[.int .u32 0, .slice none 0 0]) 2 32 Tryz.underlying31 hi hz0 hz1 hz2 rfl (by decide) _ _ _ rfl _ _ _ _ rfl H5.out H5C.out (by intro u hu; simp at hu; rcases hu with rfl | rfl <;> rfl) (by unfold maxLen; omega) (by omega) ?_
             intro g6 c6 w6 hO6
             have t0 := hO6.three.cell 0
             have t1 := hO6.three.cell 1
             simp at t0 t1
             have H6 : Hid (Own w0 w6 _) := hO6
             clear hO6))
      have H7 : Hid (Own w0 w6 (Row 90 2 (.slice g6 (j + 1) c6) (j + 1) (cat EnE.cs (M ++ [EnE.mk xi a5 c5 C])) :: ((M ++ [EnE.mk xi a5 c5 C]).map erow ++ l))) := by
        have e1 : cat EnE.cs (M ++ [EnE.mk xi a5 c5 C]) = cat EnE.cs M ++ [.int .u32 (xi : Int), .slice a5 cl c5] := by
          rw [cat_append]
          congr 1
          simp [cat, EnE.cs, HCL.out]
        have e2 : (M ++ [EnE.mk xi a5 c5 C]).map erow ++ l = M.map erow ++ (Row 96 4 (.slice a5 cl c5) cl (ccat C) :: l) := by
          simp [erow, HCL.out]
        show Own _ _ _
        rw [e1, e2]
        have h8 := H6.out.three.tail
        exact h8.perm (List.Perm.cons _ List.perm_middle.symm)
      clear H6 H5 H5C HTW HB u0 u1 v0 v1 t0 t1 p0 p1
      go_wp2
      go_roundw
      case rel => exact ⟨j + 1, M ++ [EnE.mk xi a5 c5 C], g6, c6, by omega, by go_num, rfl, by rw [List.length_append, HM.out.1]; rfl, HM2.out a5 c5, H7.out⟩
      case measure => simp [intOf]; omega
    · have hlt' : ¬ (j : Int) < (n : Int) := by omega
      have hjn : j = n := by omega
      subst hjn
      have HF : Hid (evs M = evs L) := by
        have := HM.out.2
        rw [List.take_of_length_le (by rw [HN.out]; exact Nat.le_refl _)] at this
        exact this
      have HE : Hid (Own w0 wr (EntsT ao cap M :: l)) := by
        have h1 := hO
        rw [← HM.out.1] at h1
        exact Own.ents h1
      clear hO
      go_wp2
      go_ret
      exact ⟨ao, cap, rfl, M, HM.out.1, HF.out, HE.out⟩
end Go.Proofs.YtcmofbhfdagpcaaGreatDoor


/-
  What becomes of one entity.
-/
namespace Go.Proofs.YtcmofbhfdagpcaaGreatDoor
open Go.RowKit
set_option linter.unusedVariables false
set_option maxRecDepth 100000

theorem val_not : ∀ (a b c d e f a' b' c' d' e' f' : Bool), bits .andNot .u8 ((val a b c d e f : Nat) : Int) ((val a' b' c' d' e' f' : Nat) : Int) = ((val (a && !a') (b && !b') (c && !c') (d && !d') (e && !e') (f && !f') : Nat) : Int) := by decide
theorem msk_not (A B : List Cp) : bits .andNot .u8 ((msk A : Nat) : Int) ((msk B : Nat) : Int) = ((lostm A B : Nat) : Int) := by
  rw [msk_val, msk_val, lost_val]
  exact val_not _ _ _ _ _ _ _ _ _ _ _ _
theorem lost_lt (A B : List Cp) : lostm A B < 64 := by
  rw [lost_val]
  generalize (hasK A 0 && !hasK B 0) = a
  generalize (hasK A 1 && !hasK B 1) = b
  generalize (hasK A 2 && !hasK B 2) = c
  generalize (hasK A 3 && !hasK B 3) = d
  generalize (hasK A 4 && !hasK B 4) = e
  generalize (hasK A 5 && !hasK B 5) = f
  revert a b c d e f
  decide
theorem Own.l4 {w0 w : World} {A B C D P : Thing} {m : List Thing} (h : Own w0 w (A :: B :: C :: D :: P :: m)) : Own w0 w (P :: A :: B :: C :: D :: m) := Own.lift (l := [A, B, C, D]) h
theorem Own.l5 {w0 w : World} {A B C D E P : Thing} {m : List Thing} (h : Own w0 w (A :: B :: C :: D :: E :: P :: m)) : Own w0 w (P :: A :: B :: C :: D :: E :: m) := Own.lift (l := [A, B, C, D, E]) h
theorem Own.l6 {w0 w : World} {A B C D E F P : Thing} {m : List Thing} (h : Own w0 w (A :: B :: C :: D :: E :: F :: P :: m)) : Own w0 w (P :: A :: B :: C :: D :: E :: F :: m) := Own.lift (l := [A, B, C, D, E, F]) h
def newsL (A B : List Cp) (j : Nat) : List Cp := (B.take j).filter (isNew A)
def setsL (A B : List Cp) (j : Nat) : List Cp := (B.take j).filter (isSet A)
theorem fst_has {A : List Cp} {k : Nat} (h : fst A k = none) : hasK A k = false := by
  cases hh : hasK A k with
  | false => rfl
  | true => obtain ⟨x, hx⟩ := hasK_fst hh; rw [h] at hx; cases hx
theorem news_none {A B : List Cp} {j : Nat} {q : Cp} (hq : B[j]? = some q) (h : fst A q.k = none) : newsL A B (j + 1) = newsL A B j ++ [q] ∧ setsL A B (j + 1) = setsL A B j := by
  have e1 : isNew A q = true := by unfold isNew; rw [fst_has h]; rfl
  have e2 : isSet A q = false := by unfold isSet; rw [h]
  unfold newsL setsL
  rw [take_snoc B j q hq, List.filter_append, List.filter_append]
  simp [e1, e2]
theorem news_some {A B : List Cp} {j : Nat} {q y : Cp} (hq : B[j]? = some q) (h : fst A q.k = some y) : newsL A B (j + 1) = newsL A B j ∧ setsL A B (j + 1) = setsL A B j ++ (if decide (y = q) = true then [] else [q]) := by
  have e1 : isNew A q = false := by
    have := mem_hasK (fst_some h).1
    rw [(fst_some h).2] at this
    unfold isNew; rw [this]; rfl
  have e2 : isSet A q = !decide (y = q) := by unfold isSet; rw [h]
  unfold newsL setsL
  rw [take_snoc B j q hq, List.filter_append, List.filter_append]
  cases hd : decide (y = q) <;> simp [e1, e2, hd]
theorem newsL_le (A B : List Cp) (j : Nat) : (newsL A B j).length ≤ j := by
  unfold newsL
  have h1 := List.length_filter_le (isNew A) (B.take j)
  rw [List.length_take] at h1
  omega
theorem setsL_le (A B : List Cp) (j : Nat) : (setsL A B j).length ≤ j := by
  unfold setsL
  have h1 := List.length_filter_le (isSet A) (B.take j)
  rw [List.length_take] at h1
  omega
theorem perm_d (P Q R : Thing) (m : List Thing) : (P :: Q :: R :: m).Perm (R :: Q :: P :: m) := (List.Perm.swap Q P (R :: m)).trans (((List.Perm.swap R P m).cons Q).trans (List.Perm.swap R Q (P :: m)))
theorem Own.dropMid {w0 w : World} {A B C D E : Thing} {m : List Thing} (h : Own w0 w (A :: B :: C :: D :: E :: m)) : Own w0 w (A :: B :: m) := (h.perm (List.perm_append_comm_assoc [A, B] [C, D, E] m)).tail.tail.tail
theorem perm_c (P Q R : Thing) (m : List Thing) : (P :: Q :: R :: m).Perm (Q :: R :: P :: m) := (List.Perm.swap Q P (R :: m)).trans ((List.Perm.swap R P m).cons Q)
set_option maxHeartbeats 16000000 in
theorem change_any (w0 w : World) (l : List Thing) (h : Own w0 w l) (i1 i2 : Nat) (a1 a2 : Option Addr) (n1 n2 c1 c2 : Nat) (A B : List Cp) (hQ : ∀ w', Own w0 w' l → Cs w' a1 A ∧ Cs w' a2 B) (hn1 : A.length = n1) (hn2 : B.length = n2) (hk1 : ∀ q ∈ A, q.k < 256) (hk2 : ∀ q ∈ B, q.k < 256) (hm1 : n1 ≤ 1000000) (hm2 : n2 ≤ 1000000) :
    Calls Tryz.prog 81 #[.agg #[.int .u32 (i1 : Int), .slice a1 n1 c1], .agg #[.int .u32 (i2 : Int), .slice a2 n2 c2]] w fun e w' => ∃ (x : ChE), e = .returned (.agg #[.int .u32 (i2 : Int), .int .u8 (x.lost : Int), .slice x.na x.N.length x.nc, .slice x.sa x.S.length x.sc]) ∧ x.v = chg1 (i1, A) (i2, B) ∧ Own w0 w' (x.nrow :: x.srow :: l) := by
  obtain ⟨ic, hic, hz0, hz1, hz2⟩ := info_parts Tryz.infoComp
  obtain ⟨lo, hlo⟩ : ∃ lo, lo = lostm A B := ⟨_, rfl⟩
  have hlo6 : lo < 64 := by rw [hlo]; exact lost_lt A B
  obtain ⟨ma, hma⟩ : ∃ m, m = msk A := ⟨_, rfl⟩
  obtain ⟨mb, hmb⟩ : ∃ m, m = msk B := ⟨_, rfl⟩
  have hnot : bits .andNot .u8 (ma : Int) (mb : Int) = (lo : Int) := by rw [hma, hmb, hlo]; exact msk_not A B
  have hB4 := ((h.allocC #[.int .u32 (i1 : Int), .slice a1 n1 c1] 90).allocC #[.int .u32 (i2 : Int), .slice a2 n2 c2] 90).allocC #[.int .u32 0, .int .u8 0, .slice none 0 0, .slice none 0 0] 131
  have HQ : Hid (∀ w', Own w0 w' l → Cs w' a1 A ∧ Cs w' a2 B) := hQ
  have HL : Hid (A.length = n1 ∧ B.length = n2 ∧ (∀ q ∈ A, q.k < 256) ∧ ∀ q ∈ B, q.k < 256) := ⟨hn1, hn2, hk1, hk2⟩
  have HMA : Hid (∀ W X, Own w0 W (X ++ l) → Calls Tryz.prog 54 #[.slice a1 n1 c1] W fun e w' => e = .returned (.int .u8 (ma : Int)) ∧ Own w0 w' (X ++ l)) := fun W X hX => by
    refine (mask_any W a1 n1 c1 A hn1 (hQ W hX.dropA).1 hk1 hm1).mono ?_
    rintro e w' ⟨rfl, hf⟩
    exact ⟨by rw [hma], hX.quiet hf⟩
  have HMB : Hid (∀ W X, Own w0 W (X ++ l) → Calls Tryz.prog 54 #[.slice a2 n2 c2] W fun e w' => e = .returned (.int .u8 (mb : Int)) ∧ Own w0 w' (X ++ l)) := fun W X hX => by
    refine (mask_any W a2 n2 c2 B hn2 (hQ W hX.dropA).2 hk2 hm2).mono ?_
    rintro e w' ⟨rfl, hf⟩
    exact ⟨by rw [hmb], hX.quiet hf⟩
  have HLO : Hid (lo = lostm A B) := hlo
  have e3 : (w.alloc (.cells #[.int .u32 (i1 : Int), .slice a1 n1 c1] 90)).heap.size = w.heap.size + 1 := by simp
  have e4 : ((w.alloc (.cells #[.int .u32 (i1 : Int), .slice a1 n1 c1] 90)).alloc (.cells #[.int .u32 (i2 : Int), .slice a2 n2 c2] 90)).heap.size = w.heap.size + 2 := by simp
  rw [e4, e3] at hB4
  have HB4 : Hid (Own w0 _ _) := hB4
  clear h hQ hn1 hn2 hk1 hk2 hlo hma hmb hB4 e3 e4
  go_enter Tryz.func81, Tryz.ntmps81
  go_wp2
  generalize hWg : ((w.alloc (.cells #[.int .u32 (i1 : Int), .slice a1 n1 c1] 90)).alloc (.cells #[.int .u32 (i2 : Int), .slice a2 n2 c2] 90)).alloc (.cells #[.int .u32 0, .int .u8 0, .slice none 0 0, .slice none 0 0] 131) = W1 at *
  clear hWg
  generalize w.heap.size + 2 = b4 at *
  generalize w.heap.size + 1 = b3 at *
  generalize w.heap.size = b2 at *
  have HMA3 : Hid (∀ W, Own w0 W (Cells b4 #[.int .u32 0, .int .u8 0, .slice none 0 0, .slice none 0 0] 131 :: Cells b3 #[.int .u32 (i2 : Int), .slice a2 n2 c2] 90 :: Cells b2 #[.int .u32 (i1 : Int), .slice a1 n1 c1] 90 :: l) → Calls Tryz.prog 54 #[.slice a1 n1 c1] W fun e w' => e = .returned (.int .u8 (ma : Int)) ∧ Own w0 w' (Cells b4 #[.int .u32 0, .int .u8 0, .slice none 0 0, .slice none 0 0] 131 :: Cells b3 #[.int .u32 (i2 : Int), .slice a2 n2 c2] 90 :: Cells b2 #[.int .u32 (i1 : Int), .slice a1 n1 c1] 90 :: l)) := fun W hX => HMA.out W [_, _, _] hX
  have HMA4 : Hid (∀ W X, Own w0 W (X :: Cells b4 #[.int .u32 0, .int .u8 0, .slice none 0 0, .slice none 0 0] 131 :: Cells b3 #[.int .u32 (i2 : Int), .slice a2 n2 c2] 90 :: Cells b2 #[.int .u32 (i1 : Int), .slice a1 n1 c1] 90 :: l) → Calls Tryz.prog 54 #[.slice a1 n1 c1] W fun e w' => e = .returned (.int .u8 (ma : Int)) ∧ Own w0 w' (X :: Cells b4 #[.int .u32 0, .int .u8 0, .slice none 0 0, .slice none 0 0] 131 :: Cells b3 #[.int .u32 (i2 : Int), .slice a2 n2 c2] 90 :: Cells b2 #[.int .u32 (i1 : Int), .slice a1 n1 c1] 90 :: l)) := fun W X hX => HMA.out W [X, _, _, _] hX
  have HMB3 : Hid (∀ W, Own w0 W (Cells b4 #[.int .u32 0, .int .u8 0, .slice none 0 0, .slice none 0 0] 131 :: Cells b3 #[.int .u32 (i2 : Int), .slice a2 n2 c2] 90 :: Cells b2 #[.int .u32 (i1 : Int), .slice a1 n1 c1] 90 :: l) → Calls Tryz.prog 54 #[.slice a2 n2 c2] W fun e w' => e = .returned (.int .u8 (mb : Int)) ∧ Own w0 w' (Cells b4 #[.int .u32 0, .int .u8 0, .slice none 0 0, .slice none 0 0] 131 :: Cells b3 #[.int .u32 (i2 : Int), .slice a2 n2 c2] 90 :: Cells b2 #[.int .u32 (i1 : Int), .slice a1 n1 c1] 90 :: l)) := fun W hX => HMB.out W [_, _, _] hX
  have HMB4 : Hid (∀ W X, Own w0 W (X :: Cells b4 #[.int .u32 0, .int .u8 0, .slice none 0 0, .slice none 0 0] 131 :: Cells b3 #[.int .u32 (i2 : Int), .slice a2 n2 c2] 90 :: Cells b2 #[.int .u32 (i1 : Int), .slice a1 n1 c1] 90 :: l) → Calls Tryz.prog 54 #[.slice a2 n2 c2] W fun e w' => e = .returned (.int .u8 (mb : Int)) ∧ Own w0 w' (X :: Cells b4 #[.int .u32 0, .int .u8 0, .slice none 0 0, .slice none 0 0] 131 :: Cells b3 #[.int .u32 (i2 : Int), .slice a2 n2 c2] 90 :: Cells b2 #[.int .u32 (i1 : Int), .slice a1 n1 c1] 90 :: l)) := fun W X hX => HMB.out W [X, _, _, _] hX
  clear HMA HMB
  go_cut [5] (fun s5 wc => ∃ b5 : Nat, s5 = .pointer (some ⟨b5, 0, none⟩) ∧ Own w0 wc (Cells b5 #[.int .u32 (i2 : Int), .int .u8 (lo : Int), .slice none 0 0, .slice none 0 0] 131 :: Cells b4 #[.int .u32 0, .int .u8 0, .slice none 0 0, .slice none 0 0] 131 :: Cells b3 #[.int .u32 (i2 : Int), .slice a2 n2 c2] 90 :: Cells b2 #[.int .u32 (i1 : Int), .slice a1 n1 c1] 90 :: l))
  case first =>
    have p0 := HB4.out.two.cell 0
    have p1 := HB4.out.two.cell 1
    have p2 := HB4.out.three.cell 1
    simp at p0 p1 p2
    have O1 := HB4.out.drew
    have O1b := (HB4.out.allocC #[.int .u32 0, .int .u8 0, .slice none 0 0, .slice none 0 0] 131).drew
    have z3 : W1.heap.size ≠ b3 := by have := (Own.two HB4.out).lt; omega
    have z4 : W1.heap.size ≠ b2 := by have := (Own.three HB4.out).lt; omega
    clear HB4
    go_region_held3 (fun w' => w'.cell? ⟨b3, 0, none⟩ = some (.int .u32 (i2 : Int)) ∧ w'.cell? ⟨b3, 1, none⟩ = some (.slice a2 n2 c2) ∧ w'.cell? ⟨b2, 1, none⟩ = some (.slice a1 n1 c1)) (go_keep)
      (first
        | (go_at_call 54; with_reducible refine (HMA3.out _ O1).mono ?_; rintro e w5 ⟨rfl, O5⟩
           have u0 := (Own.two O5).cell 0
           have u1 := (Own.two O5).cell 1
           have u2 := (Own.three O5).cell 1
           have z1 : w5.heap.size ≠ b3 := by have := (Own.two O5).lt; omega
           have z2 : w5.heap.size ≠ b2 := by have := (Own.three O5).lt; omega
           simp at u0 u1 u2)
        | (go_at_call 54; with_reducible refine (HMB3.out _ O5).mono ?_; rintro e w6 ⟨rfl, O6⟩
           have u0 := (Own.two O6).cell 0
           have u1 := (Own.two O6).cell 1
           have u2 := (Own.three O6).cell 1
           simp at u0 u1 u2)
        | (go_at_call 54; with_reducible refine (HMA4.out _ _ O1b).mono ?_; rintro e w7 ⟨rfl, O7⟩
           have u0 := (Own.three O7).cell 0
           have u1 := (Own.three O7).cell 1
           have u2 := (Own.four O7).cell 1
           have x0 := Own.cell O7 0
           have x1 := Own.cell O7 1
           have x2 := Own.cell O7 2
           have x3 := Own.cell O7 3
           have y0 := Own.froz O7 0
           have y1 := Own.froz O7 1
           have y2 := Own.froz O7 2
           have y3 := Own.froz O7 3
           simp at u0 u1 u2 x0 x1 x2 x3)
        | (go_at_call 54; with_reducible refine (HMB4.out _ _ (O5.allocC _ _)).mono ?_; rintro e w8 ⟨rfl, O8⟩
           have u0 := (Own.three O8).cell 0
           have u1 := (Own.three O8).cell 1
           have u2 := (Own.four O8).cell 1
           have x0 := Own.cell O8 0
           have x1 := Own.cell O8 1
           have x2 := Own.cell O8 2
           have x3 := Own.cell O8 3
           have y0 := Own.froz O8 0
           have y1 := Own.froz O8 1
           have y2 := Own.froz O8 2
           have y3 := Own.froz O8 3
           simp at u0 u1 u2 x0 x1 x2 x3)
        | (go_at_call 54; with_reducible refine (HMB4.out _ _ O7).mono ?_; rintro e w8 ⟨rfl, O8⟩
           have u0 := (Own.three O8).cell 0
           have u1 := (Own.three O8).cell 1
           have u2 := (Own.four O8).cell 1
           have x0 := Own.cell O8 0
           have x1 := Own.cell O8 1
           have x2 := Own.cell O8 2
           have x3 := Own.cell O8 3
           have y0 := Own.froz O8 0
           have y1 := Own.froz O8 1
           have y2 := Own.froz O8 2
           have y3 := Own.froz O8 3
           simp at u0 u1 u2 x0 x1 x2 x3)
        | fail)
    all_goals
      go_wp2
      go_meet
      case rel =>
        first
          | exact ⟨_, rfl, O6.allocC _ _⟩
          | exact ⟨_, rfl, by simpa using (((O8.setC 0 _).setC 1 _).setC 2 _).setC 3 _⟩
  case rest =>
    obtain ⟨b5, rfl, hO0⟩ := hcut
    have HO0 : Hid (Own w0 wc (Row 96 4 (.slice none (newsL A B 0).length 0) (newsL A B 0).length (ccat (newsL A B 0)) :: Row 96 4 (.slice none (setsL A B 0).length 0) (setsL A B 0).length (ccat (setsL A B 0)) :: Cells b5 #[.int .u32 (i2 : Int), .int .u8 (lo : Int), .slice none (newsL A B 0).length 0, .slice none (setsL A B 0).length 0] 131 :: Cells b4 #[.int .u32 0, .int .u8 0, .slice none 0 0, .slice none 0 0] 131 :: Cells b3 #[.int .u32 (i2 : Int), .slice a2 n2 c2] 90 :: Cells b2 #[.int .u32 (i1 : Int), .slice a1 n1 c1] 90 :: l)) := (hO0.nilRow _ _).nilRow _ _
    have p1 := (Own.three hO0).cell 1
    simp at p1
    clear hO0 HB4 HMA3 HMA4 HMB3 HMB4 hnot
    go_wp2
    go_loopw [22] (fun cc wr => ∃ (j : Nat) (na sa : Option Addr) (nc sc : Nat), j ≤ n2 ∧ cc = .int .i64 j ∧ Own w0 wr (Row 96 4 (.slice na (newsL A B j).length nc) (newsL A B j).length (ccat (newsL A B j)) :: Row 96 4 (.slice sa (setsL A B j).length sc) (setsL A B j).length (ccat (setsL A B j)) :: Cells b5 #[.int .u32 (i2 : Int), .int .u8 (lo : Int), .slice na (newsL A B j).length nc, .slice sa (setsL A B j).length sc] 131 :: Cells b4 #[.int .u32 0, .int .u8 0, .slice none 0 0, .slice none 0 0] 131 :: Cells b3 #[.int .u32 (i2 : Int), .slice a2 n2 c2] 90 :: Cells b2 #[.int .u32 (i1 : Int), .slice a1 n1 c1] 90 :: l)) (fun cc _ => n2 - (intOf cc).toNat)
    case atStart => exact ⟨0, none, none, 0, 0, Nat.zero_le _, rfl, HO0.out⟩
    case round =>
      obtain ⟨j, na, sa, nc, sc, hj, rfl, hO⟩ := hrel
      clear HO0 p1
      have hln := newsL_le A B j
      have hls := setsL_le A B j
      by_cases hlt : j < n2
      · obtain ⟨q, hq⟩ : ∃ q, B[j]? = some q := ⟨_, List.getElem?_eq_getElem (by rw [HL.out.2.1]; exact hlt)⟩
        obtain ⟨g, o, hao, _, y0, y1, y2, y3⟩ := (HQ.out wr hO.tail.tail.tail.tail.tail.tail).2.at j q hq
        subst hao
        have hq8 := HL.out.2.2.2 q (List.mem_of_getElem? hq)
        have hlt' : (j : Int) < (n2 : Int) := by omega
        have hB := hO.allocC #[.int .u8 (q.k : Int), .int .i32 q.a, .int .i32 q.b, .int .i32 q.c] 96
        have d2 : wr.cell? ⟨b2, 1, none⟩ = some (.slice a1 n1 c1) := (Own.l5 hO).cell 1
        have lt2 := (Own.l5 hO).lt
        have ne2 : wr.heap.size ≠ b2 := by omega
        have HPL : Hid (Calls _ _ _ _ _) := place_any _ a1 n1 c1 A HL.out.1 ((HQ.out _ hB.tail.tail.tail.tail.tail.tail.tail).1) (by omega) q.k
        have HB : Hid (Own w0 _ _) := hB
        have HQJ : Hid (B[j]? = some q) := hq
        clear hO hB hq
        obtain ⟨qk, qa, qb, qc⟩ := q
        simp only at y0 y1 y2 y3 hq8 HPL HB
        go_wp2_with fail
        refine HPL.out.mono ?_
        rintro e w2 ⟨r, rfl, hr, hf⟩
        have hB2 := HB.out.quiet hf
        have t0 := hB2.cell 0
        have t1 := hB2.cell 1
        have t2 := hB2.cell 2
        have t3 := hB2.cell 3
        have f2 := (Own.four hB2).cell 2
        have f3 := (Own.four hB2).cell 3
        have d2 := (Own.l6 hB2).cell 1
        simp at t0 t1 t2 t3 f2 f3 d2
        generalize wr.heap.size = b7 at *
        have ne7 : w2.heap.size ≠ b5 := by have := (Own.four hB2).lt; omega
        have HB2 : Hid (Own w0 w2 _) := hB2
        clear HPL HB hf y0 y1 y2 y3 lt2 ne2
        rcases hr with ⟨rfl, hnone⟩ | ⟨i, y, rfl, hy, hsome⟩
        · obtain ⟨en, es⟩ := news_none HQJ.out hnone
          have HEN : Hid (newsL A B (j + 1) = newsL A B j ++ [⟨qk, qa, qb, qc⟩] ∧ setsL A B (j + 1) = setsL A B j) := ⟨en, es⟩
          have HN : Hid (Own w0 w2 _) := hB2.two
          clear hnone en es hB2
          go_wp2_with (at_builtin; refine append1_own rfl _ _ 88 rfl 96 ic _ 4 16 Tryz.underlying88 hic hz0 hz1 hz2 rfl (by decide) _ _ _ rfl HN.out _ #[.int .u8 (qk : Int), .int .i32 qa, .int .i32 qb, .int .i32 qc] (by simp) rfl rfl (by intro u hu; simp at hu; rcases hu with rfl | rfl | rfl | rfl <;> rfl) (by unfold maxLen; omega) (by omega) ?_)
          intro g6 c6 w6 hO6 hsz6
          have k2 := (Own.four hO6).cell 2
          have k3 := (Own.four hO6).froz 2
          simp at k2
          have H7 := (Own.four hO6).setC 2 (.slice (some ⟨g6, 0, none⟩) ((newsL A B j).length + 1) c6)
          have H8 : Hid (Own w0 (w6.setCell ⟨b5, 2, none⟩ (.slice (some ⟨g6, 0, none⟩) ((newsL A B j).length + 1) c6)) (Row 96 4 (.slice (some ⟨g6, 0, none⟩) (newsL A B (j + 1)).length c6) (newsL A B (j + 1)).length (ccat (newsL A B (j + 1))) :: Row 96 4 (.slice sa (setsL A B (j + 1)).length sc) (setsL A B (j + 1)).length (ccat (setsL A B (j + 1))) :: Cells b5 #[.int .u32 (i2 : Int), .int .u8 (lo : Int), .slice (some ⟨g6, 0, none⟩) (newsL A B (j + 1)).length c6, .slice sa (setsL A B (j + 1)).length sc] 131 :: Cells b4 #[.int .u32 0, .int .u8 0, .slice none 0 0, .slice none 0 0] 131 :: Cells b3 #[.int .u32 (i2 : Int), .slice (some ⟨g, o, none⟩) n2 c2] 90 :: Cells b2 #[.int .u32 (i1 : Int), .slice a1 n1 c1] 90 :: l)) := by
            show Own _ _ _
            have e1 : (newsL A B (j + 1)).length = (newsL A B j).length + 1 := by rw [HEN.out.1, List.length_append]; rfl
            have e2 : ccat (newsL A B (j + 1)) = ccat (newsL A B j) ++ [.int .u8 (qk : Int), .int .i32 qa, .int .i32 qb, .int .i32 qc] := by rw [HEN.out.1]; simp [ccat, cat, Cp.cs]
            rw [e1, e2, HEN.out.2]
            have h9 := (Own.three H7).tail
            simp at h9
            exact h9.perm (perm_c _ _ _ _)
          have HL6 : Hid ((newsL A B j).length + 1 = (newsL A B (j + 1)).length) := by show _ = _; rw [HEN.out.1, List.length_append]; rfl
          clear hO6 hsz6 H7 HN HB2 f2 f3 t0 t1 t2 t3 d2
          go_wp2
          go_roundw
          case rel => exact ⟨j + 1, some ⟨g6, 0, none⟩, sa, c6, sc, by omega, by go_num, H8.out⟩
          case measure => simp [intOf]; omega
        · obtain ⟨en, es⟩ := news_some HQJ.out hsome
          obtain ⟨ga, oa, hga, _, x0, x1, x2, x3⟩ := (HQ.out w2 hB2.tail.tail.tail.tail.tail.tail.tail).1.at i y hy
          subst hga
          have hin : (i : Int) < (n1 : Int) := by have := (List.getElem?_eq_some_iff.1 hy).1; have := HL.out.1; omega
          obtain ⟨r0, e0⟩ : ∃ r, ((y.k : Int) == (qk : Int)) = r := ⟨_, rfl⟩
          obtain ⟨r1, e1⟩ : ∃ r, ((y.a == qa) && (y.b == qb) && (y.c == qc)) = r := ⟨_, rfl⟩
          have HD : Hid (decide (y = ⟨qk, qa, qb, qc⟩) = (r0 && r1)) := by show _ = _; rw [← cp_eq, e0, e1]
          have eqa : ∀ d w, (Op.equalIn (d + 1 + 1) 94 (.agg #[.int .i32 y.a, .int .i32 y.b, .int .i32 y.c]) (.agg #[.int .i32 qa, .int .i32 qb, .int .i32 qc])).run Tryz.prog w = .ok r1 w := fun d w => by rw [eq_a3, e1]
          have HEN : Hid (newsL A B (j + 1) = newsL A B j ∧ setsL A B (j + 1) = setsL A B j ++ (if (r0 && r1) = true then [] else [⟨qk, qa, qb, qc⟩])) := ⟨en, by rw [es, HD.out]⟩
          clear hsome en es e1 hy
          obtain ⟨yk, ya, yb, yc⟩ := y
          simp only at x0 x1 x2 x3 e0 eqa
          by_cases hb : (r0 && r1) = true
          · obtain ⟨rfl, rfl⟩ : r0 = true ∧ r1 = true := by simpa using hb
            have H8 : Hid (∀ w', Fr Nobody w2 w' → Own w0 w' (Row 96 4 (.slice na (newsL A B (j + 1)).length nc) (newsL A B (j + 1)).length (ccat (newsL A B (j + 1))) :: Row 96 4 (.slice sa (setsL A B (j + 1)).length sc) (setsL A B (j + 1)).length (ccat (setsL A B (j + 1))) :: Cells b5 #[.int .u32 (i2 : Int), .int .u8 (lo : Int), .slice na (newsL A B (j + 1)).length nc, .slice sa (setsL A B (j + 1)).length sc] 131 :: Cells b4 #[.int .u32 0, .int .u8 0, .slice none 0 0, .slice none 0 0] 131 :: Cells b3 #[.int .u32 (i2 : Int), .slice (some ⟨g, o, none⟩) n2 c2] 90 :: Cells b2 #[.int .u32 (i1 : Int), .slice (some ⟨ga, oa, none⟩) n1 c1] 90 :: l)) := fun w' hf => by
              have e3 : setsL A B (j + 1) = setsL A B j := by rw [HEN.out.2]; simp
              rw [HEN.out.1, e3]
              exact (hB2.quiet hf).tail
            clear hb hB2 HB2
            go_wp2
            go_quiet (fail)
            go_wp2
            go_roundw
            case rel => exact ⟨j + 1, na, sa, nc, sc, by omega, by go_num, H8.out _ ((Fr.refl _ _).drewN _)⟩
            case measure => simp [intOf]; omega
          · have hb2 : (r0 && r1) = false := by simpa using hb
            have HEN2 : Hid (newsL A B (j + 1) = newsL A B j ∧ setsL A B (j + 1) = setsL A B j ++ [⟨qk, qa, qb, qc⟩]) := ⟨HEN.out.1, by rw [HEN.out.2, hb2]; simp⟩
            have hc : r0 = false ∨ (r0 = true ∧ r1 = false) := by cases r0 <;> cases r1 <;> simp at hb2 ⊢
            have HN : Hid (∀ k, Own w0 (w2.drewN k) _) := fun k => (hB2.drewN k).three
            clear hb hb2 hB2 HB2 HEN HD
            rcases hc with rfl | ⟨rfl, rfl⟩
            all_goals
              go_wp2
              go_quiet (fail)
              go_wp2_with (at_builtin; refine append1_own rfl _ _ 88 rfl 96 ic _ 4 16 Tryz.underlying88 hic hz0 hz1 hz2 rfl (by decide) _ _ _ rfl (HN.out _) _ #[.int .u8 (qk : Int), .int .i32 qa, .int .i32 qb, .int .i32 qc] (by simp) rfl rfl (by intro u hu; simp at hu; rcases hu with rfl | rfl | rfl | rfl <;> rfl) (by unfold maxLen; omega) (by omega) ?_)
              intro g6 c6 w6 hO6 hsz6
              have k2 := (Own.four hO6).cell 3
              have k3 := (Own.four hO6).froz 3
              simp at k2
              have H7 := (Own.four hO6).setC 3 (.slice (some ⟨g6, 0, none⟩) ((setsL A B j).length + 1) c6)
              have H8 : Hid (Own w0 (w6.setCell ⟨b5, 3, none⟩ (.slice (some ⟨g6, 0, none⟩) ((setsL A B j).length + 1) c6)) (Row 96 4 (.slice na (newsL A B (j + 1)).length nc) (newsL A B (j + 1)).length (ccat (newsL A B (j + 1))) :: Row 96 4 (.slice (some ⟨g6, 0, none⟩) (setsL A B (j + 1)).length c6) (setsL A B (j + 1)).length (ccat (setsL A B (j + 1))) :: Cells b5 #[.int .u32 (i2 : Int), .int .u8 (lo : Int), .slice na (newsL A B (j + 1)).length nc, .slice (some ⟨g6, 0, none⟩) (setsL A B (j + 1)).length c6] 131 :: Cells b4 #[.int .u32 0, .int .u8 0, .slice none 0 0, .slice none 0 0] 131 :: Cells b3 #[.int .u32 (i2 : Int), .slice (some ⟨g, o, none⟩) n2 c2] 90 :: Cells b2 #[.int .u32 (i1 : Int), .slice (some ⟨ga, oa, none⟩) n1 c1] 90 :: l)) := by
                show Own _ _ _
                have e1 : (setsL A B (j + 1)).length = (setsL A B j).length + 1 := by rw [HEN2.out.2, List.length_append]; rfl
                have e2 : ccat (setsL A B (j + 1)) = ccat (setsL A B j) ++ [.int .u8 (qk : Int), .int .i32 qa, .int .i32 qb, .int .i32 qc] := by rw [HEN2.out.2]; simp [ccat, cat, Cp.cs]
                rw [e1, e2, HEN2.out.1]
                have h9 := (Own.three H7).tail
                simp at h9
                exact h9.perm (perm_d _ _ _ _)
              clear hO6 hsz6 H7 HN f2 f3 t0 t1 t2 t3 d2 x0 x1 x2 x3
              go_wp2
              go_roundw
              case rel => exact ⟨j + 1, na, some ⟨g6, 0, none⟩, nc, c6, by omega, by go_num, H8.out⟩
              case measure => simp [intOf]; omega
      · have hlt' : ¬ (j : Int) < (n2 : Int) := by omega
        have hT : B.take j = B := List.take_of_length_le (by rw [HL.out.2.1]; omega)
        have m0 := (Own.three hO).cell 0
        have m1 := (Own.three hO).cell 1
        have m2 := (Own.three hO).cell 2
        have m3 := (Own.three hO).cell 3
        have r0 := (Own.four hO).cell 0
        have r1 := (Own.four hO).cell 1
        have r2 := (Own.four hO).cell 2
        have r3 := (Own.four hO).cell 3
        have z0 := (Own.four hO).froz 0
        have z1 := (Own.four hO).froz 1
        have z2 := (Own.four hO).froz 2
        have z3 := (Own.four hO).froz 3
        simp at m0 m1 m2 m3 r0 r1 r2 r3
        have HV : Hid (ChE.v ⟨i2, lo, newsL A B j, na, nc, setsL A B j, sa, sc⟩ = chg1 (i1, A) (i2, B)) := by
          show _ = _
          unfold ChE.v chg1 newsL setsL
          rw [hT, HLO.out]
        have H9 := ((((Own.four hO).setC 0 (.int .u32 (i2 : Int))).setC 1 (.int .u8 (lo : Int))).setC 2 (.slice na (newsL A B j).length nc)).setC 3 (.slice sa (setsL A B j).length sc)
        simp at H9
        have H10 : Hid (Own w0 _ _) := H9
        clear hO hT H9
        go_wp2
        (try simp only [Exit.inBlock, Exit.then])
        refine bodyPost_ret (results_cell_row rfl _ _ b4 131 #[.int .u32 (i2 : Int), .int .u8 (lo : Int), .slice na (newsL A B j).length nc, .slice sa (setsL A B j).length sc] _ _ rfl H10.out.obj Tryz.underlying131 rfl (by kernel_rfl)) rfl ?_
        refine ⟨⟨i2, lo, newsL A B j, na, nc, setsL A B j, sa, sc⟩, rfl, HV.out, ?_⟩
        exact H10.out.tail.perm (List.Perm.trans (List.Perm.refl _) (List.Perm.refl _)) |>.dropMid
end Go.Proofs.YtcmofbhfdagpcaaGreatDoor


/-
  Deltas in memory; is there no change?
-/
namespace Go.Proofs.YtcmofbhfdagpcaaGreatDoor
open Go.RowKit
set_option linter.unusedVariables false
set_option maxRecDepth 100000

theorem nil_len (x : ChE) : x.v.nil = (decide (x.lost = 0) && decide (x.N.length = 0) && decide (x.S.length = 0)) := by
  unfold Chg.nil ChE.v
  rw [Bool.eq_iff_iff]
  simp [List.isEmpty_iff]
set_option maxHeartbeats 1000000 in
theorem isNone_any (w : World) (x : ChE) (hl : x.lost < 256) (h1 : x.N.length ≤ 2097152) (h2 : x.S.length ≤ 2097152) :
    Calls Tryz.prog 82 #[.agg #[.int .u32 (x.id : Int), .int .u8 (x.lost : Int), .slice x.na x.N.length x.nc, .slice x.sa x.S.length x.sc]] w fun e w' => e = .returned (.bool x.v.nil) ∧ Fr Nobody w w' := by
  rw [nil_len]
  obtain ⟨id, lo, N, na, nc, S, sa, sc⟩ := x
  simp only at hl h1 h2 ⊢
  generalize N.length = n at *
  generalize S.length = s at *
  by_cases c0 : lo = 0
  · subst c0
    by_cases c1 : n = 0
    · subst c1
      by_cases c2 : s = 0
      · subst c2
        go_enter Tryz.func82, Tryz.ntmps82
        go_wp2
        go_ret
        exact ⟨rfl, (Fr.refl _ _).alloc _⟩
      · have e2 : ((s : Int) == 0) = false := by rw [beq_eq_false_iff_ne]; omega
        rw [decide_eq_false c2]
        clear c2
        go_enter Tryz.func82, Tryz.ntmps82
        go_wp2
        go_ret
        exact ⟨rfl, (Fr.refl _ _).alloc _⟩
    · have e2 : ((n : Int) == 0) = false := by rw [beq_eq_false_iff_ne]; omega
      rw [decide_eq_false c1]
      clear c1
      go_enter Tryz.func82, Tryz.ntmps82
      go_wp2
      go_ret
      exact ⟨by simp, (Fr.refl _ _).alloc _⟩
  · have e2 : ((lo : Int) == 0) = false := by rw [beq_eq_false_iff_ne]; omega
    rw [decide_eq_false c0]
    clear c0
    go_enter Tryz.func82, Tryz.ntmps82
    go_wp2
    go_ret
    exact ⟨by simp, (Fr.refl _ _).alloc _⟩
/-- a delta in memory -/
structure DlE where
  G : List Nat
  ga : Option Addr
  gc : Nat
  M : List EnE
  ma : Option Addr
  mc : Nat
  H : List ChE
  ha : Option Addr
  hc : Nat
def DlE.vs (d : DlE) : Array Value := #[.slice d.ga d.G.length d.gc, .slice d.ma d.M.length d.mc, .slice d.ha d.H.length d.hc]
def DlE.v (d : DlE) : Dl := ⟨d.G, evs d.M, d.H.map ChE.v⟩
def hrows (H : List ChE) : List Thing := H.flatMap ChE.rows
def grow1 (G : List Nat) (ga : Option Addr) (gc : Nat) : Thing := Row 87 1 (.slice ga G.length gc) G.length (irow .u32 G)
def hrow1 (H : List ChE) (ha : Option Addr) (hc : Nat) : Thing := Row 131 4 (.slice ha H.length hc) H.length (cat ChE.cs H)
def DlE.things (d : DlE) : List Thing := grow1 d.G d.ga d.gc :: EntsT d.ma d.mc d.M :: hrow1 d.H d.ha d.hc :: hrows d.H
def Dl.app (a b : Dl) : Dl := ⟨a.gone ++ b.gone, a.come ++ b.come, a.chg ++ b.chg⟩
theorem app_nil (b : Dl) : Dl.app ⟨[], [], []⟩ b = b := by cases b; rfl
theorem app_end (a : Dl) : a.app (btw [] []) = a := by cases a; simp [Dl.app, btw]
theorem EntsAt.tail {w : World} {g o : Nat} {x : EnE} {t : List EnE} (h : EntsAt w (some ⟨g, o, none⟩) (x :: t)) : EntsAt w (some ⟨g, o + 2, none⟩) t := by
  refine ⟨?_, fun y hy => h.2 y (List.mem_cons_of_mem _ hy)⟩
  rcases h.1 with h0 | ⟨g', o', ha, hc⟩
  · cases h0
  · cases ha
    refine .inr ⟨g, o + 2, rfl, fun j y hy => ?_⟩
    have := hc (j + 1) y (by simpa using hy)
    have e : o + (j + 1) * 2 = o + 2 + j * 2 := by omega
    rw [e] at this
    exact this
theorem EntsAt.nil (w : World) (ao : Option Addr) : EntsAt w ao [] := ⟨.inl rfl, fun x hx => by cases hx⟩
theorem EntsAt.head {w : World} {ao : Option Addr} {x : EnE} {t : List EnE} (h : EntsAt w ao (x :: t)) : ∃ g o, ao = some ⟨g, o, none⟩ ∧ w.cell? ⟨g, o, none⟩ = some (.int .u32 (x.id : Int)) ∧ w.cell? ⟨g, o + 1, none⟩ = some (.slice x.ao x.C.length x.cap) ∧ Cs w x.ao x.C := by
  obtain ⟨g, o, ha, h0, h1, h2⟩ := h.at (j := 0) (x := x) rfl
  exact ⟨g, o, ha, by simpa using h0, by simpa using h1, h2⟩
theorem btw_g {x : EnE} {t N : List EnE} (h : N = [] ∨ ∃ y s, N = y :: s ∧ x.id < y.id) : btw (evs (x :: t)) (evs N) = addG x.id (btw (evs t) (evs N)) := by
  rcases h with rfl | ⟨y, s, rfl, hlt⟩
  · simp [evs, btw]
  · simp [evs, btw, hlt]
theorem btw_e {y : EnE} {W s : List EnE} (h : W = [] ∨ ∃ x t, W = x :: t ∧ y.id < x.id) : btw (evs W) (evs (y :: s)) = addE (y.id, y.C) (btw (evs W) (evs s)) := by
  rcases h with rfl | ⟨x, t, rfl, hlt⟩
  · simp [evs, btw]
  · have : ¬ x.id < y.id := by omega
    simp [evs, btw, hlt, this]
theorem btw_c {x y : EnE} {t s : List EnE} (h : x.id = y.id) : btw (evs (x :: t)) (evs (y :: s)) = addC (chg1 (x.id, x.C) (y.id, y.C)) (btw (evs t) (evs s)) := by
  simp [evs, btw, h]
theorem app_g (a b : Dl) (g : Nat) : a.app (addG g b) = (⟨a.gone ++ [g], a.come, a.chg⟩ : Dl).app b := by simp [Dl.app, addG]
theorem app_e (a b : Dl) (e : En) : a.app (addE e b) = (⟨a.gone, a.come ++ [e], a.chg⟩ : Dl).app b := by simp [Dl.app, addE]
theorem app_c0 (a b : Dl) (c : Chg) (h : c.nil = true) : a.app (addC c b) = a.app b := by simp [Dl.app, addC, h]
theorem app_c1 (a b : Dl) (c : Chg) (h : c.nil = false) : a.app (addC c b) = (⟨a.gone, a.come, a.chg ++ [c]⟩ : Dl).app b := by simp [Dl.app, addC, h]
theorem Tryz.infoIDk : (Tryz.prog.info? 87).map (fun i => (i.zero, i.size, i.bytes)) = some (some (.int .u32 0), 1, 4) := by kernel_rfl
def lenV : Value → Nat
  | .slice _ n _ => n
  | _ => 0
end Go.Proofs.YtcmofbhfdagpcaaGreatDoor

