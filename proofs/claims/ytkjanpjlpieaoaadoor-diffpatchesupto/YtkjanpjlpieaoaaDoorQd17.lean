/-
  The list that the document's Patch works on, as it goes.
-/
import Derived.Test.YtkjanpjlpieaoaaDoorQd15
import Derived.Test.YtkjanpjlpieaoaaDoorQd16
import Derived.Deep.CutBlock
import Derived.Test.YtkjanpjlpieaoaaDoorQd12
import Derived.Test.YtkjanpjlpieaoaaDoorQd09
namespace Go.Proofs.YtkjanpjlpieaoaaDoor
open Go.RowKit
set_option linter.unusedVariables false
set_option maxRecDepth 100000

theorem Own.entsRw {w0 w : World} {l : List Thing} {ao : Option Addr} {n cap : Nat} {L : List EnE} {xs : List Value} (h : Own w0 w (Row 43 2 (.slice ao n cap) n xs :: l)) (hn : L.length = n) (hxs : xs = cat EnE.cs L) (hc : ∀ x ∈ L, Cs w x.ao x.C) : EntsAt w ao L := by
  subst hxs
  refine ⟨?_, hc⟩
  have hr := h.row
  rcases Nat.eq_zero_or_pos n with h0 | h0
  · exact .inl (List.eq_nil_of_length_eq_zero (by omega))
  · obtain ⟨g, cp, hv, _⟩ := row_shape hr h0
    refine .inr ⟨g, 0, (Value.slice.inj hv).1, fun i y hy => ?_⟩
    have hva := (Value.slice.inj hv).1
    rw [hva] at hr
    have hi := (List.getElem?_eq_some_iff.1 hy).1
    rw [Nat.zero_add, hr.cellAt _ (by omega), hr.cellAt _ (by omega)]
    exact ⟨cat_at EnE.cs 2 (fun _ => rfl) L i 0 y hy (by decide), cat_at EnE.cs 2 (fun _ => rfl) L i 1 y hy (by decide)⟩
theorem ents_lo {w0 w : World} {l : List Thing} {g n c : Nat} {N A B : List EnE} (h : Own w0 w (Row 43 2 (.slice (some ⟨g, 0, none⟩) n c) n (cat EnE.cs N) :: l)) (hn : N.length = n) (e : N = A ++ B) : ∀ j u, (cat EnE.cs A)[j]? = some u → w.cell? ((⟨g, 0, none⟩ : Addr).add j) = some u := fun j u hu => by
  have hj := (List.getElem?_eq_some_iff.1 hu).1
  have hl := length_cat EnE.cs 2 (fun _ => rfl) A
  have hN := congrArg List.length e
  rw [List.length_append] at hN
  rw [addr_add, Nat.zero_add, h.row.cellAt j (by omega), e, cat_append, List.getElem?_append_left hj, hu]
theorem ents_hi {w0 w : World} {l : List Thing} {g n c k : Nat} {N A B : List EnE} (h : Own w0 w (Row 43 2 (.slice (some ⟨g, 0, none⟩) n c) n (cat EnE.cs N) :: l)) (hn : N.length = n) (e : N = A ++ B) (hk : k = A.length * 2) : ∀ j u, (cat EnE.cs B)[j]? = some u → w.cell? ((⟨g, k, none⟩ : Addr).add j) = some u := fun j u hu => by
  have hj := (List.getElem?_eq_some_iff.1 hu).1
  have hl := length_cat EnE.cs 2 (fun _ => rfl) A
  have hl2 := length_cat EnE.cs 2 (fun _ => rfl) B
  have hN := congrArg List.length e
  rw [List.length_append] at hN
  rw [addr_add, h.row.cellAt (k + j) (by omega), e, cat_append, List.getElem?_append_right (by omega)]
  rw [show k + j - (cat EnE.cs A).length = j by omega, hu]
theorem inBlock_then (id : Nat) (K : Act → World → Prop) (Q : Exit → Act → World → Prop) : Exit.inBlock id (Exit.then K Q) = Exit.then K (Exit.inBlock id (Exit.then K Q)) := by
  funext e a w
  cases e <;> rfl
theorem shr_bit (n k : Nat) : ((((n : Int) / 2 ^ k).tmod 2) == 0) = decide (n / 2 ^ k % 2 = 0) := by
  have e : ((n : Int) / 2 ^ k) = ((n / 2 ^ k : Nat) : Int) := by simp
  rw [e]
  generalize n / 2 ^ k = m
  rw [Int.tmod_eq_emod_of_nonneg (by omega)]
  rw [Bool.eq_iff_iff]
  simp only [beq_iff_eq, decide_eq_true_eq]
  omega
/-- what holds at a return alone -/
def qP (R : Act → World → Prop) : Exit → Act → World → Prop
  | .ret, a, w => R a w
  | _, _, _ => False
theorem wp_qP {P : Program} {s : Code} {K : Act → World → Prop} {Q' : Exit → Act → World → Prop} {a : Act} {w : World} (h : s.wp P (Exit.then K (qP (Q' .ret))) a w) : s.wp P (Exit.then K Q') a w := by
  refine wp_mono h ?_
  intro e a' w' hq
  cases e with
  | normal => exact hq
  | ret => exact hq
  | exit id => exact hq.elim
  | goto l => exact hq.elim
  | panic ch => exact hq.elim
  | outgrown => exact hq.elim
def cfst : Code → Code
  | .seq a _ => a
  | c => c
def csnd : Code → Code
  | .seq _ b => b
  | c => c
def cinn : Code → Code
  | .block _ c => c
  | .loop c => c
  | c => c
/-- what is known of the list: its components lie among X or in what was there -/
structure NowI (w0 : World) (X T : List Thing) (N : List EnE) (B : Nat) : Prop where
  cs : ∀ w', Own w0 w' (X ++ T) → ∀ x ∈ N, Cs w' x.ao x.C
  inn : EIn N
  sz : esz N ≤ B
theorem NowI.ents {w0 w : World} {X T : List Thing} {N : List EnE} {B c : Nat} {a : Option Addr} (h : NowI w0 X T N B) (hO : Own w0 w (Row 43 2 (.slice a N.length c) N.length (cat EnE.cs N) :: (X ++ T))) : EntsAt w a N := hO.entsRw rfl rfl (h.cs w hO.tail)
theorem esz_app (A B : List EnE) : esz (A ++ B) = esz A + esz B := by unfold esz; rw [csz_append, List.length_append]; omega
theorem esz_one (x : EnE) : esz [x] = 1 + x.C.length := by simp [esz, csz]
theorem NowI.cut {w0 : World} {X T : List Thing} {N : List EnE} {B : Nat} (h : NowI w0 X T N B) {i : Nat} {x : EnE} (hx : N[i]? = some x) : NowI w0 X T (N.take i ++ N.drop (i + 1)) B where
  cs := fun w' hw y hy => by
    rcases List.mem_append.1 hy with hy | hy
    · exact h.cs w' hw y (List.mem_of_mem_take hy)
    · exact h.cs w' hw y (List.mem_of_mem_drop hy)
  inn := fun y hy => by
    rcases List.mem_append.1 hy with hy | hy
    · exact h.inn y (List.mem_of_mem_take hy)
    · exact h.inn y (List.mem_of_mem_drop hy)
  sz := by
    have hc := congrArg esz (cut_at hx)
    have e : ∀ (y : EnE) (l : List EnE), y :: l = [y] ++ l := fun _ _ => rfl
    rw [e, esz_app, esz_app, esz_one] at hc
    rw [esz_app]
    have := h.sz
    omega
theorem esz_set {N : List EnE} {i : Nat} {x : EnE} (hx : N[i]? = some x) (y : EnE) : esz (N.set i y) + x.C.length = esz N + y.C.length := by
  have hi := (List.getElem?_eq_some_iff.1 hx).1
  have hc := congrArg esz (cut_at hx)
  have e : ∀ (y : EnE) (l : List EnE), y :: l = [y] ++ l := fun _ _ => rfl
  rw [e, esz_app, esz_app, esz_one] at hc
  rw [List.set_eq_take_append_cons_drop, if_pos hi, e, esz_app, esz_app, esz_one]
  omega
theorem NowI.set {w0 : World} {X T : List Thing} {N : List EnE} {B : Nat} (h : NowI w0 X T N B) {i : Nat} {x : EnE} (hx : N[i]? = some x) (Y : List Thing) (y : EnE) (hid : y.id = x.id) (hk : ∀ q ∈ y.C, q.k < 256) (m : Nat) (hm : y.C.length ≤ x.C.length + m) (hY : ∀ w', Own w0 w' (Y ++ (X ++ T)) → Cs w' y.ao y.C) : NowI w0 (Y ++ X) T (N.set i y) (B + m) where
  cs := fun w' hw z hz => by
    rw [List.append_assoc] at hw
    rcases List.mem_or_eq_of_mem_set hz with hz | rfl
    · exact h.cs w' hw.dropA z hz
    · exact hY w' hw
  inn := fun z hz => by
    rcases List.mem_or_eq_of_mem_set hz with hz | rfl
    · exact h.inn z hz
    · exact ⟨by rw [hid]; exact (h.inn x (List.mem_of_getElem? hx)).1, hk⟩
  sz := by have := esz_set hx y; have := h.sz; omega
theorem insc_kinds {C : List Cp} {c : Cp} (h : ∀ q ∈ C, q.k < 256) (hc : c.k < 256) : ∀ q ∈ insc C c, q.k < 256 := fun q hq => by
  unfold insc at hq
  rcases List.mem_append.1 hq with hq | hq
  · exact h q ((List.takeWhile_sublist _).subset hq)
  · rcases List.mem_cons.1 hq with rfl | hq
    · exact hc
    · exact h q ((List.dropWhile_sublist _).subset (List.mem_filter.1 hq).1)
theorem outk_kinds {C : List Cp} (k : Nat) (h : ∀ q ∈ C, q.k < 256) : ∀ q ∈ outk C k, q.k < 256 := fun q hq => h q (List.mem_filter.1 hq).1
theorem outk_len (C : List Cp) (k : Nat) : (outk C k).length ≤ C.length := List.length_filter_le _ _
end Go.Proofs.YtkjanpjlpieaoaaDoor

/-
  An append of what can be read.
-/
namespace Go.Proofs.YtkjanpjlpieaoaaDoor
open Go.RowKit
set_option linter.unusedVariables false
set_option maxRecDepth 100000

/-- an append of what can be read, in a region that draws -/
theorem step_readW {P : Program} {w0 w : World} {l : List Thing} {ops : Array Oper} {o : Oper} {a : Act} {K : Act → World → Prop} {Q : Exit → Act → World → Prop} {E : Prop} (hgd : o.guard = none) (sx x : Operand) (t : TypeId)
    (ho : o.op = .call { callee := .builtin .append, args := #[sx, x], argTypes := #[t, t] })
    (e : TypeId) (i : TypeInfo) (z : Value) (size bytes : Nat) (ht : P.underlying t = some (.slice e)) (hi : P.info? e = some i) (hz : i.zero = some z)
    (hsize : i.size = size) (hby : i.bytes = bytes) (hzs : z.cells.size = size) (hsz : 0 < size)
    (v : Value) (n : Nat) (xs : List Value) (hs : a.eval sx = v) (xa : Option Addr) (m xc : Nat) (ys : List Value) (hx : a.eval x = .slice xa m xc) (hown : Own w0 w (Row e size v n xs :: l)) (hl : ys.length = m * size) (hr : m = 0 ∨ ∃ a, xa = some a ∧ ∀ j u, ys[j]? = some u → w.cell? (a.add j) = some u) (h1 : ∀ u ∈ ys, u.oneCell' = true)
    (h63 : n + m ≤ maxLen) (hbytes : (n + m) * bytes ≤ 140737488355328)
    (h : ∀ ao cap w', Own w0 w' (Row e size (.slice ao (n + m) cap) (n + m) (xs ++ ys) :: l) → K (a.put o.dst (.slice ao (n + m) cap)) w') :
    if Region.wanted o (yielded ops a.tmps) = true then Oper.wp P o a w K Q else E := by
  have hw : Region.wanted o (yielded ops a.tmps) = true := by simp [Region.wanted, hgd]
  rw [if_pos hw]
  rcases Nat.eq_zero_or_pos m with h0 | h0
  · subst h0
    have hy : ys = [] := List.eq_nil_of_length_eq_zero (by rw [hl]; simp)
    subst hy
    obtain ⟨va, vc, rfl⟩ := row_any hown.row
    have hr := run_append_empty (P := P) w 0 t o.type e i size ht hi _ n xs hown.row xa xc
    unfold Oper.wp
    simp [execOp, ho, resolve, invoke, builtin, hs, hx, hr, Result.andThen]
    have := h va vc w (by simpa using hown)
    simp at this
    exact this
  · rcases hr with hr | ⟨ad, rfl, hc⟩
    · omega
    refine wp_append_lies w sx x t ho 0 e i z size bytes ht hi hz hsize hby hzs hsz v n xs hs hown.row ad m xc ys hx hl hc h1 h0 h63 hbytes (Nat.zero_le _) _ rfl ?_
    intro g' cap' w' h2 h3 h4 h5
    refine h _ _ w' (hown.grow h2 h3 (fun k hk => ?_))
    have hk' : g' = k := by simpa [Value.ownBlock] using hk
    subst hk'
    rcases h4 with h4 | h4
    · exact .inl h4
    · exact .inr (by omega)
end Go.Proofs.YtkjanpjlpieaoaaDoor

/-
  Where the component of a kind stands; changes in lists.
-/
namespace Go.Proofs.YtkjanpjlpieaoaaDoor
open Go.RowKit
set_option linter.unusedVariables false
set_option maxRecDepth 100000

set_option maxHeartbeats 400000 in
theorem placeP_any (w : World) (bk k : Nat) (hk : w.cell? ⟨bk, 0, none⟩ = some (.int .u8 (k : Int))) (q : Cp) :
    Calls Tryd.prog 81 #[.agg #[.int .u8 (q.k : Int), .int .i32 q.a, .int .i32 q.b, .int .i32 q.c], .pointer (some ⟨bk, 0, none⟩)] w fun e w' => e = .returned (.bool (decide (q.k = k))) ∧ Fr Nobody w w' := by
  have hlt : bk < w.heap.size := World.block_lt_of_cell? w _ hk
  have hne : bk ≠ w.heap.size := by omega
  have hne2 : w.heap.size ≠ bk := by omega
  by_cases h : q.k = k
  · subst h
    go_enter Tryd.func81, Tryd.ntmps81
    go_wp2
    go_ret
    exact ⟨by simp, (Fr.refl _ _).alloc _⟩
  · have h' : ((q.k : Int) == (k : Int)) = false := by simp; omega
    rw [decide_eq_false h]
    go_enter Tryd.func81, Tryd.ntmps81
    go_wp2
    go_ret
    exact ⟨rfl, (Fr.refl _ _).alloc _⟩
/-- where the component of a kind stands, or -1 -/
def PlR (C : List Cp) (k : Nat) (r : Int) : Prop := (r = -1 ∧ fst C k = none) ∨ ∃ (j : Nat) (q : Cp), r = (j : Int) ∧ C[j]? = some q ∧ fst C k = some q
theorem fst_hit {C : List Cp} {j k : Nat} {q : Cp} (hq : C[j]? = some q) (hn : fst (C.take j) k = none) (h : q.k = k) : fst C k = some q := by
  have hj := List.getElem?_eq_some_iff.1 hq
  have e : C = C.take j ++ q :: C.drop (j + 1) := by
    rw [← hj.2, ← List.drop_eq_getElem_cons hj.1, List.take_append_drop]
  unfold fst at hn ⊢
  rw [e, List.find?_append, hn]
  simp [h]
theorem fst_miss {C : List Cp} {j k : Nat} {q : Cp} (hq : C[j]? = some q) (hn : fst (C.take j) k = none) (h : q.k ≠ k) : fst (C.take (j + 1)) k = none := by
  unfold fst at hn ⊢
  rw [take_snoc C j q hq, List.find?_append, hn]
  simp [h]
set_option maxHeartbeats 2000000 in
theorem idxK_any (w : World) (ao : Option Addr) (n cap : Nat) (C : List Cp) (hn : C.length = n) (hs : Cs w ao C) (hm : n ≤ 2097152) (bk k : Nat) (hk : w.cell? ⟨bk, 0, none⟩ = some (.int .u8 (k : Int))) :
    Calls Tryd.prog 50 #[.slice ao n cap, .func (.func 81) #[] #[.pointer (some ⟨bk, 0, none⟩)]] w fun e w' => ∃ r : Int, e = .returned (.int .i64 r) ∧ PlR C k r ∧ Fr Nobody w w' := by
  have HL : Hid (C.length = n ∧ Cs w ao C ∧ w.cell? ⟨bk, 0, none⟩ = some (.int .u8 (k : Int)) ∧ bk < w.heap.size) := ⟨hn, hs, hk, World.block_lt_of_cell? w _ hk⟩
  clear hn hs hk
  go_enter Tryd.func50, Tryd.ntmps50
  go_wp2
  go_loopw [8] (fun cc wr => ∃ j : Nat, j ≤ n ∧ cc = .int .i64 j ∧ Fr Nobody w wr ∧ fst (C.take j) k = none) (fun cc _ => n - (intOf cc).toNat)
  case atStart => exact ⟨0, Nat.zero_le _, rfl, Fr.refl _ _, by simp [fst]⟩
  case round =>
    obtain ⟨j, hj, rfl, hf, hno⟩ := hrel
    have HF : Hid (Fr Nobody w wr) := hf
    have HN : Hid (fst (C.take j) k = none) := hno
    clear hf hno
    by_cases hlt : j < n
    · obtain ⟨q, hq⟩ : ∃ q, C[j]? = some q := ⟨_, List.getElem?_eq_getElem (by rw [HL.out.1]; exact hlt)⟩
      obtain ⟨g, o, hao, _, c0, c1, c2, c3⟩ := (HL.out.2.1.quiet HF.out).at j q hq
      subst hao
      have hlt' : (j : Int) < (n : Int) := by omega
      have HP : Hid (Calls _ _ _ _ _) := placeP_any wr bk k ((HF.out.cell (p := ⟨bk, 0, none⟩) HL.out.2.2.2 id).trans HL.out.2.2.1) q
      have HQ : Hid (C[j]? = some q) := hq
      clear hq
      by_cases he : q.k = k
      · have HH : Hid (PlR C k (j : Int)) := .inr ⟨j, q, rfl, HQ.out, fst_hit HQ.out HN.out he⟩
        rw [decide_eq_true he] at HP
        clear he HQ
        obtain ⟨qk, qa, qb, qc⟩ := q
        simp only at c0 c1 c2 c3 HP
        go_wp2_with fail
        refine HP.out.mono ?_
        rintro e w2 ⟨rfl, hf⟩
        have HF2 : Hid (Fr Nobody w w2) := HF.out.trans hf
        clear hf HP
        go_wp2
        go_ret
        exact ⟨(j : Int), rfl, HH.out, HF2.out⟩
      · have HH : Hid (fst (C.take (j + 1)) k = none) := fst_miss HQ.out HN.out he
        rw [decide_eq_false he] at HP
        clear he HQ
        obtain ⟨qk, qa, qb, qc⟩ := q
        simp only at c0 c1 c2 c3 HP
        go_wp2_with fail
        refine HP.out.mono ?_
        rintro e w2 ⟨rfl, hf⟩
        have HF2 : Hid (Fr Nobody w w2) := HF.out.trans hf
        clear hf HP
        go_wp2
        go_roundw
        case rel => exact ⟨j + 1, by omega, by go_num, HF2.out, HH.out⟩
        case measure => simp [intOf]; omega
    · have hlt' : ¬ (j : Int) < (n : Int) := by omega
      have HU : Hid (PlR C k (-1)) := .inl ⟨rfl, by have := HN.out; rw [List.take_of_length_le (by rw [HL.out.1]; omega)] at this; exact this⟩
      go_wp2
      go_ret
      exact ⟨-1, rfl, HU.out, HF.out⟩
set_option maxHeartbeats 1000000 in
theorem place_any (w : World) (ao : Option Addr) (n cap : Nat) (C : List Cp) (hn : C.length = n) (hs : Cs w ao C) (hm : n ≤ 2097152) (k : Nat) :
    Calls Tryd.prog 63 #[.slice ao n cap, .int .u8 (k : Int)] w fun e w' => ∃ r : Int, e = .returned (.int .i64 r) ∧ PlR C k r ∧ Fr Nobody w w' := by
  have h0 := ((Own.start w).allocC #[.int .u8 (k : Int)] 5).cell 0
  have HI : Hid (Calls _ _ _ _ _) := idxK_any (w.alloc (.cells #[.int .u8 (k : Int)] 5)) ao n cap C hn (hs.quiet ((Fr.refl _ _).alloc _)) hm w.heap.size k h0
  have HF : Hid (Fr Nobody w (w.alloc (.cells #[.int .u8 (k : Int)] 5))) := (Fr.refl _ _).alloc _
  clear hn hs h0
  go_enter Tryd.func63, Tryd.ntmps63
  go_wp2_with fail
  refine HI.out.mono ?_
  rintro e w2 ⟨r, rfl, hr, hf⟩
  have HR : Hid (PlR C k r) := hr
  have HF2 : Hid (Fr Nobody w w2) := HF.out.trans hf
  clear hf HI hr
  go_wp2
  go_ret
  exact ⟨r, rfl, HR.out, HF2.out⟩
/-- a change in a list: its parts, and where they lie -/
structure ChE where
  id : Nat
  lost : Nat
  N : List Cp
  na : Option Addr
  nc : Nat
  S : List Cp
  sa : Option Addr
  sc : Nat
def ChE.cs (x : ChE) : List Value := [.int .u32 (x.id : Int), .int .u8 (x.lost : Int), .slice x.na x.N.length x.nc, .slice x.sa x.S.length x.sc]
def ChE.v (x : ChE) : Chg := ⟨x.id, x.lost, x.N, x.S⟩
def ChE.nrow (x : ChE) : Thing := Row 46 4 (.slice x.na x.N.length x.nc) x.N.length (ccat x.N)
def ChE.srow (x : ChE) : Thing := Row 46 4 (.slice x.sa x.S.length x.sc) x.S.length (ccat x.S)
def ChE.rows (x : ChE) : List Thing := [x.nrow, x.srow]
theorem Tryd.infoChg : (Tryd.prog.info? 51).map (fun i => (i.zero, i.size, i.bytes)) = some (some (.agg #[.int .u32 0, .int .u8 0, .slice none 0 0, .slice none 0 0]), 4, 56) := by kernel_rfl
end Go.Proofs.YtkjanpjlpieaoaaDoor

