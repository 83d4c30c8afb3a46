/-
  The document's bag: New, Peek, Put, Take.
-/
import Derived.Test.YtiphkndahoageaaNtc
namespace Go.Proofs.Ytiphkndahoageaa
open Go.RowKit
set_option linter.unusedVariables false

/-- an append of what can be read, in a region that draws -/
theorem step_readW {P : Program} {w0 w : World} {l : List Thing} {ops : Array Oper} {o : Oper} {a : Act} {K : Act → World → Prop} {Q : Exit → Act → World → Prop} {E : Prop} (hgd : o.guard = none) (sx x : Operand) (t : TypeId)
    (ho : o.op = .call { callee := .builtin .append, args := #[sx, x], argTypes := #[t, t] })
    (e : TypeId) (i : TypeInfo) (z : Value) (size bytes : Nat) (ht : P.underlying t = some (.slice e)) (hi : P.info? e = some i) (hz : i.zero = some z)
    (hsize : i.size = size) (hby : i.bytes = bytes) (hzs : z.cells.size = size) (hsz : 0 < size)
    (v : Value) (n : Nat) (xs : List Value) (hs : a.eval sx = v) (xa : Option Addr) (m xc : Nat) (ys : List Value) (hx : a.eval x = .slice xa m xc) (hown : Own w0 w (Row e size v n xs :: l)) (hl : ys.length = m * size) (hr : m = 0 ∨ ∃ a, xa = some a ∧ ∀ j u, ys[j]? = some u → w.cell? (a.add j) = some u) (h1 : ∀ u ∈ ys, u.oneCell' = true)
    (h63 : n + m ≤ maxLen) (hbytes : (n + m) * bytes ≤ 140737488355328)
    (h : ∀ ao cap w', Own w0 w' (Row e size (.slice ao (n + m) cap) (n + m) (xs ++ ys) :: l) → K (a.put o.dst (.slice ao (n + m) cap)) w') :
    if Region.wanted o (yielded ops a.tmps) = true then Oper.wp P o a w K Q else E := by
  have hw : Region.wanted o (yielded ops a.tmps) = true := by simp [Region.wanted, hgd]
  rw [if_pos hw]
  rcases Nat.eq_zero_or_pos m with h0 | h0
  · subst h0
    have hy : ys = [] := List.eq_nil_of_length_eq_zero (by rw [hl]; simp)
    subst hy
    obtain ⟨va, vc, rfl⟩ := row_any hown.row
    have hr := run_append_empty (P := P) w 0 t o.type e i size ht hi _ n xs hown.row xa xc
    unfold Oper.wp
    simp [execOp, ho, resolve, invoke, builtin, hs, hx, hr, Result.andThen]
    have := h va vc w (by simpa using hown)
    simp at this
    exact this
  · rcases hr with hr | ⟨ad, rfl, hc⟩
    · omega
    refine wp_append_lies w sx x t ho 0 e i z size bytes ht hi hz hsize hby hzs hsz v n xs hs hown.row ad m xc ys hx hl hc h1 h0 h63 hbytes (Nat.zero_le _) _ rfl ?_
    intro g' cap' w' h2 h3 h4 h5
    refine h _ _ w' (hown.grow h2 h3 (fun k hk => ?_))
    have hk' : g' = k := by simpa [Value.ownBlock] using hk
    subst hk'
    rcases h4 with h4 | h4
    · exact .inl h4
    · exact .inr (by omega)
theorem Src.read {w : World} {xa : Option Addr} {m xc : Nat} {ys : List Value} (h : Src w (.slice xa m xc) m ys) : ys.length = m * 1 ∧ (m = 0 ∨ ∃ a, xa = some a ∧ ∀ j u, ys[j]? = some u → w.cell? (a.add j) = some u) := by
  rcases h with ⟨h1, h2, h3⟩ | ⟨a, cap, h1, h2, h3⟩
  · subst h3; subst h2; exact ⟨rfl, .inl rfl⟩
  · exact ⟨by omega, .inr ⟨a, (Value.slice.inj h1).1, h3⟩⟩
theorem row_read {w : World} {e : TypeId} {s m xc : Nat} {xa : Option Addr} {ys : List Value} (h : w.ownsRow 0 e s (.slice xa m xc) m ys) : m = 0 ∨ ∃ a, xa = some a ∧ ∀ j u, ys[j]? = some u → w.cell? (a.add j) = some u := by
  rcases h.2 with ⟨_, h0⟩ | ⟨g, cap, cur, hv, _⟩
  · exact .inl h0
  · obtain ⟨rfl, _, rfl⟩ := Value.slice.inj hv
    exact .inr ⟨_, rfl, h.cells rfl⟩

set_option maxHeartbeats 400000 in
theorem rnew_ok (w0 w : World) (l : List Thing) (N : Nat) (h : Own w0 w l) (h1 : 1 ≤ N) (h2 : N ≤ 2048) :
    Calls Try.prog 9 #[.int .i64 (N : Int)] w fun e w' => ∃ b, e = .returned (.tuple #[.pointer (some ⟨b, 0, none⟩), .int .i64 0]) ∧ Own w0 w' (BagT 48 b N [] :: l) := by
  have H : Hid (Own w0 w l) := h
  clear h
  go_enter Try.func9, Try.ntmps9
  go_wp2
  go_ret2
  refine ⟨_, rfl, Own.ex_iff.2 ⟨.slice none 0 0, ?_⟩⟩
  exact ((H.out.allocC #[.int .i64 (N : Int), .slice none 0 0] 48).nilRow 33 2).two
set_option maxHeartbeats 400000 in
theorem rnew_no (w : World) (k : Int) (h : k < 1 ∨ 2048 < k) : Calls Try.prog 9 #[.int .i64 k] w fun e w' => e = .returned (.tuple #[.pointer none, .int .i64 1]) ∧ w' = w := by
  by_cases c : k < 1
  · go_enter Try.func9, Try.ntmps9
    go_wp2
    go_ret2
    exact ⟨rfl, rfl⟩
  · have c2 : 2048 < k := by omega
    go_enter Try.func9, Try.ntmps9
    go_wp2
    go_ret2
    exact ⟨rfl, rfl⟩

set_option maxHeartbeats 1000000 in
set_option maxRecDepth 100000 in
theorem rpeek_ok (w0 w : World) (l : List Thing) (b N : Nat) (E : List Gr) (h : Own w0 w (BagT 48 b N E :: l)) (m : Nat) (x : Gr) (hx : E[m]? = some x) :
    Calls Try.prog 17 #[.pointer (some ⟨b, 0, none⟩), .int .i64 (m : Int)] w fun e w' => e = .returned (.tuple #[.agg #[.int .i64 x.to, .slice x.ao x.P.length x.cap], .int .i64 0]) ∧ Own w0 w' (BagT 48 b N E :: l) := by
  have hm : m < E.length := (List.getElem?_eq_some_iff.1 hx).1
  have hA := h.allocC #[.int .i64 0, .slice none 0 0] 33
  have z0 := hA.cell 0
  have z1 := hA.cell 1
  simp at z0 z1
  have y0 := hA.froz 0
  have y1 := hA.froz 1
  have HF : Hid (Own w0 _ _) := h.allocC #[.int .i64 x.to, .slice x.ao x.P.length x.cap] 33
  obtain ⟨lv, h⟩ := Own.ex_iff.1 h
  obtain ⟨g, lc, hv, _⟩ := row_shape h.two.row (by omega)
  subst hv
  have q1 := h.cell 1
  simp at q1
  obtain ⟨p0, p1⟩ := gcell h.two rfl m x hx
  have hlt := h.lt
  have hgl : g < w.heap.size := (h.two.row.lt g rfl).2
  have n1 : w.heap.size ≠ b := by omega
  have n2 : w.heap.size ≠ g := by omega
  have hm3 : (m : Int) < (E.length : Int) := by omega
  have hm4 : ¬ (E.length : Int) ≤ (m : Int) := by omega
  have hm5 : ¬ (m : Int) < 0 := by omega
  clear h hA hx
  obtain ⟨xa, xc, xt, xP⟩ := x
  simp only at *
  generalize xP.length = xn at *
  generalize E.length = len at *
  go_enter Try.func17, Try.ntmps17
  go_wp2
  (try simp only [Exit.inBlock, Exit.then])
  refine bodyPost_ret (v := .tuple #[.agg #[.int .i64 xt, .slice xa xn xc], .int .i64 0]) ?_ rfl ⟨rfl, HF.out.tail⟩
  rw [results_cell_tmp rfl]
  have r0 := HF.out.cell 0
  have r1 := HF.out.cell 1
  simp at r0 r1
  go_simp
set_option maxHeartbeats 1000000 in
set_option maxRecDepth 100000 in
theorem rpeek_no (w0 w : World) (l : List Thing) (b N : Nat) (E : List Gr) (h : Own w0 w (BagT 48 b N E :: l)) (i : Int) (hi : ¬ (0 ≤ i ∧ i < (E.length : Int))) :
    Calls Try.prog 17 #[.pointer (some ⟨b, 0, none⟩), .int .i64 i] w fun e w' => e = .returned (.tuple #[.agg #[.int .i64 0, .slice none 0 0], .int .i64 10]) ∧ Own w0 w' (BagT 48 b N E :: l) := by
  have hA := h.allocC #[.int .i64 0, .slice none 0 0] 33
  have z0 := hA.cell 0
  have z1 := hA.cell 1
  simp at z0 z1
  have y0 := hA.froz 0
  have y1 := hA.froz 1
  have HF : Hid (Own w0 _ _) := hA
  obtain ⟨lv, h⟩ := Own.ex_iff.1 h
  obtain ⟨la, lc, rfl⟩ := row_any h.two.row
  have q1 := h.cell 1
  simp at q1
  have hlt := h.lt
  have n1 : w.heap.size ≠ b := by omega
  clear h hA
  generalize E.length = len at *
  by_cases c : i < 0
  · go_enter Try.func17, Try.ntmps17
    go_wp2
    (try simp only [Exit.inBlock, Exit.then])
    refine bodyPost_ret (v := .tuple #[.agg #[.int .i64 0, .slice none 0 0], .int .i64 10]) ?_ rfl ⟨rfl, HF.out.tail⟩
    rw [results_cell_tmp rfl]
    have r0 := HF.out.cell 0
    have r1 := HF.out.cell 1
    simp at r0 r1
    go_simp
  · have c2 : (len : Int) ≤ i := by omega
    clear hi
    go_enter Try.func17, Try.ntmps17
    go_wp2
    (try simp only [Exit.inBlock, Exit.then])
    refine bodyPost_ret (v := .tuple #[.agg #[.int .i64 0, .slice none 0 0], .int .i64 10]) ?_ rfl ⟨rfl, HF.out.tail⟩
    rw [results_cell_tmp rfl]
    have r0 := HF.out.cell 0
    have r1 := HF.out.cell 1
    simp at r0 r1
    go_simp
set_option maxHeartbeats 1000000 in
set_option maxRecDepth 100000 in
theorem rpeek_nil (w0 w : World) (l : List Thing) (h : Own w0 w l) (i : Int) :
    Calls Try.prog 17 #[.pointer none, .int .i64 i] w fun e w' => e = .returned (.tuple #[.agg #[.int .i64 0, .slice none 0 0], .int .i64 10]) ∧ Own w0 w' l := by
  have hA := h.allocC #[.int .i64 0, .slice none 0 0] 33
  have z0 := hA.cell 0
  have z1 := hA.cell 1
  simp at z0 z1
  have y0 := hA.froz 0
  have y1 := hA.froz 1
  have HF : Hid (Own w0 _ _) := hA
  clear h hA
  go_enter Try.func17, Try.ntmps17
  go_wp2
  (try simp only [Exit.inBlock, Exit.then])
  refine bodyPost_ret (v := .tuple #[.agg #[.int .i64 0, .slice none 0 0], .int .i64 10]) ?_ rfl ⟨rfl, HF.out.tail⟩
  rw [results_cell_tmp rfl]
  have r0 := HF.out.cell 0
  have r1 := HF.out.cell 1
  simp at r0 r1
  go_simp

set_option maxHeartbeats 1000000 in
set_option maxRecDepth 100000 in
theorem rput_full (w0 w : World) (l : List Thing) (b N : Nat) (E : List Gr) (h : Own w0 w (BagT 48 b N E :: l)) (hF : N = E.length) (to : Int) (a : Option Addr) (n c : Nat) :
    Calls Try.prog 11 #[.pointer (some ⟨b, 0, none⟩), .agg #[.int .i64 to, .slice a n c]] w fun e w' => e = .returned (.int .i64 8) ∧ Own w0 w' (BagT 48 b N E :: l) := by
  obtain ⟨lv, h⟩ := Own.ex_iff.1 h
  obtain ⟨la, lc, rfl⟩ := row_any h.two.row
  have q0 := h.cell 0
  have q1 := h.cell 1
  simp at q0 q1
  have hlt := h.lt
  have n1 : w.heap.size ≠ b := by omega
  have H : Hid (Own w0 w _) := h
  have hF2 : ((E.length : Int) == (N : Int)) = true := by simp [hF]
  have HN : Hid (N = E.length) := hF
  clear h hF
  go_enter Try.func11, Try.ntmps11
  go_wp2
  go_region_held3 (fun w' => w'.cell? ⟨b, 0, none⟩ = some (.int .i64 (N : Int)) ∧ w'.cell? ⟨b, 1, none⟩ = some (.slice la E.length lc)) (go_keep) (fail)
  go_wp2
  go_ret
  exact ⟨rfl, Own.ex_iff.2 ⟨_, (H.out.alloc _).drew⟩⟩
set_option maxHeartbeats 400000 in
theorem rput_nil (w : World) (to : Int) (a : Option Addr) (n c : Nat) : Calls Try.prog 11 #[.pointer none, .agg #[.int .i64 to, .slice a n c]] w fun e w' => e = .returned (.int .i64 10) ∧ Fr Nobody w w' := by
  go_enter Try.func11, Try.ntmps11
  go_wp2
  go_ret
  exact ⟨rfl, (Fr.refl _ _).alloc _⟩
end Go.Proofs.Ytiphkndahoageaa
