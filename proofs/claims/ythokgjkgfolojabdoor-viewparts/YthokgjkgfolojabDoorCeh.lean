/-
  The IDs of a crowd, put behind others: slices.AppendSeq.
-/
import Derived.Test.YthokgjkgfolojabDoorCeg
import Derived.RangeFuncBox
import Derived.Deep.RegionLaw
import Derived.Deep.AppendLies
namespace Go.Proofs.YthokgjkgfolojabDoor
open Go.RowKit Go.Maps Go.Shelf
set_option linter.unusedVariables false
set_option maxRecDepth 100000
attribute [local go_sem] Oper.semAt_some

theorem run1_own {P : Program} {w0 w : World} {l : List Thing} (t ty e : TypeId) (i : TypeInfo) (z : Value) (size bytes : Nat) (ht : P.underlying t = some (.slice e)) (hi : P.info? e = some i) (hz : i.zero = some z)
    (hsize : i.size = size) (hby : i.bytes = bytes) (hzs : z.cells.size = size) (hsz : 0 < size) (v : Value) (n : Nat) (xs : List Value) (h : Own w0 w (Row e size v n xs :: l)) (cs : Array Value) (hl : cs.size = size) (h1 : ∀ u ∈ cs.toList, u.oneCell' = true) (h63 : n + 1 ≤ maxLen) (hbytes : (n + 1) * bytes ≤ 140737488355328) :
    ∃ g cap w', (Builtin.append_ #[t, t] ty #[v, .slice (some ⟨w.heap.size, 0, none⟩) 1 1]).run P (w.alloc (.cells cs e)) = .ok (.slice (some ⟨g, 0, none⟩) (n + 1) cap) w' ∧ Own w0 w' (Row e size (.slice (some ⟨g, 0, none⟩) (n + 1) cap) (n + 1) (xs ++ cs.toList) :: l) := by
  have h' := h.alloc (.cells cs e)
  obtain ⟨g, cap, w', hr, ho, hg, hat, hlt⟩ := run_append_lies (P := P) (w := w.alloc (.cells cs e)) t ty 0 e i z size bytes ht hi hz hsize hby hzs hsz v n xs h'.row ⟨w.heap.size, 0, none⟩ 1 1 cs.toList (by simp [hl]) (cells_new w cs e _ rfl) h1 (by decide) h63 hbytes (Nat.zero_le _) _ rfl
  refine ⟨g, cap, w', hr, h'.grow ho hg (fun k hk => ?_)⟩
  have hk' : k = g := by simp [Value.ownBlock] at hk; exact hk.symm
  subst hk'
  rcases hat with q | q
  · exact .inl q
  · exact .inr (by rw [q]; exact Nat.le_refl _)
theorem sub_len2 : ∀ {A B : List Nat}, A.Nodup → (∀ x ∈ A, x ∈ B) → A.length ≤ B.length := by
  intro A
  induction A with
  | nil => intro B _ _; simp
  | cons a A ih =>
    intro B hn hs
    obtain ⟨h1, h2⟩ := List.nodup_cons.1 hn
    have ha := hs a (List.mem_cons_self ..)
    have := ih (B := B.erase a) h2 (fun x hx => (List.mem_erase_of_ne (fun e => h1 (by rw [← e]; exact hx))).2 (hs x (List.mem_cons_of_mem _ hx)))
    rw [List.length_erase_of_mem ha] at this
    have hp : 0 < B.length := List.length_pos_of_mem ha
    simp
    omega
theorem info3 {P : Program} {t : TypeId} {z : Option Value} {s b : Nat} (h : (P.info? t).map (fun i => (i.zero, i.size, i.bytes)) = some (z, s, b)) : ∃ i, P.info? t = some i ∧ i.zero = z ∧ i.size = s ∧ i.bytes = b := by
  obtain ⟨i, hi, he⟩ := Option.map_eq_some_iff.1 h
  simp only [Prod.mk.injEq] at he
  exact ⟨i, hi, he.1, he.2.1, he.2.2⟩
theorem Tryd.infoIDc : (Tryd.prog.info? 29).map (fun i => (i.zero, i.size, i.bytes)) = some (some (.int .u32 0), 1, 4) := by kernel_rfl
theorem append1_in {F : Fence} {m : Nat} {P : Program} {w0 w : World} {l : List Thing} {ops : Array Oper} {rest : List Oper} {o : Oper} {a : Act} {Q : Exit → Act → World → Prop} (hgd : o.guard = none) (s x : Operand) (t : TypeId)
    (ho : o.op = .call { callee := .builtin .append, args := #[s, x], argTypes := #[t, t] })
    (e : TypeId) (i : TypeInfo) (z : Value) (size bytes : Nat) (ht : P.underlying t = some (.slice e)) (hi : P.info? e = some i) (hz : i.zero = some z)
    (hsize : i.size = size) (hby : i.bytes = bytes) (hzs : z.cells.size = size) (hsz : 0 < size)
    (v : Value) (n : Nat) (xs : List Value) (hs : a.eval s = v) (hown : Own w0 w (Row e size v n xs :: l))
    (k : Nat) (cs : Array Value) (hk : k = w.heap.size) (hx : a.eval x = .slice (some ⟨k, 0, none⟩) 1 1) (hl : cs.size = size) (h1 : ∀ u ∈ cs.toList, u.oneCell' = true)
    (h63 : n + 1 ≤ maxLen) (hbytes : (n + 1) * bytes ≤ 140737488355328)
    (h : ∀ g cap w', Own w0 w' (Row e size (.slice (some ⟨g, 0, none⟩) (n + 1) cap) (n + 1) (xs ++ cs.toList) :: l) → wpListIn F m P ops Q rest (a.put o.dst (.slice (some ⟨g, 0, none⟩) (n + 1) cap)) w') : wpListIn F m P ops Q (o :: rest) a (w.alloc (.cells cs e)) := by
  refine wpListIn_plain hgd fun K hK' => ?_
  obtain ⟨g, cap, w', hrun, hO⟩ := run1_own (P := P) t o.type e i z size bytes ht hi hz hsize hby hzs hsz v n xs hown cs hl h1 h63 hbytes
  subst hk
  unfold Oper.wpIn
  refine ⟨?_, ?_⟩
  · simp [Oper.about, ho, resolve, Target.leads, Sem.run_pure]
  · rw [Oper.semAt_plain F _ _ (by rw [ho]; intro c hc'; cases hc')]
    simp [execOp, ho, resolve, invoke, builtin, hs, hx, hrun, Result.andThen]
    exact hK' _ _ (h g cap w' hO)
/-- what is never there -/
def Never : Thing := ⟨fun _ _ => False, fun h _ => h.elim, fun h _ _ => h⟩
theorem Own.never {w0 w : World} {l : List Thing} (h : Own w0 w (Never :: l)) : False := by
  obtain ⟨_, ⟨_, _, h, _⟩, _⟩ := h
  exact h
/-- a variable that holds a slice of IDs -/
def Coll (B : Nat) (L : List Nat) : Thing := Ex (fun v : Value => [Cells B #[v] 37, Row 29 1 v L.length (irow .u32 L)])
theorem Coll.open {w0 w : World} {B : Nat} {L : List Nat} {l : List Thing} (h : Own w0 w (Coll B L :: l)) : ∃ ao cap, Own w0 w (Cells B #[.slice ao L.length cap] 37 :: Row 29 1 (.slice ao L.length cap) L.length (irow .u32 L) :: l) := by
  obtain ⟨v, h⟩ := Own.ex_iff.1 h
  have h' : Own w0 w (Cells B #[v] 37 :: Row 29 1 v L.length (irow .u32 L) :: l) := h
  obtain ⟨ao, cap, rfl⟩ := row_any h'.two.row
  exact ⟨ao, cap, h'⟩
theorem Coll.shut {w0 w : World} {B : Nat} {L : List Nat} {v : Value} {l : List Thing} (h : Own w0 w (Cells B #[v] 37 :: Row 29 1 v L.length (irow .u32 L) :: l)) : Own w0 w (Coll B L :: l) := Own.ex_iff.2 ⟨v, h⟩

set_option maxHeartbeats 4000000 in
theorem keys_nil (w0 : World) (B : Nat) (Z Y : List Nat → List Thing) :
    Seq 3 Tryd.prog 34 #[.pointer (some ⟨B, 0, none⟩)] w0 (fun id : Nat => #[.int .u32 (id : Int)]) (fun pre => [Cells B #[.map none] 61] ++ Z pre) Y (pfx []) (whl []) (fun _ => True) := by
  intro l R R2 W hY hO
  have q0 := Own.cell hO 0
  simp at q0
  have H1 : Hid (Own w0 W _) := hO
  have hrg := run_range_nilMap (P := Tryd.prog) W 61 29 62 Tryd.underlying61
  have HA : Hid (Own w0 (W.alloc (.mapIter none 0 #[] 0)) _) := hO.alloc _
  have hnx : ∀ ty, (Instr.next (.pointer (some ⟨W.heap.size, 0, none⟩)) false ty).run Tryd.prog (W.alloc (.mapIter none 0 #[] 0)) = .ok (.tuple #[.bool false]) (W.alloc (.mapIter none 0 #[] 0)) := fun ty => run_next_nilMap W ty 0 0 #[]
  clear hY hO
  refine callsIn_of_wp Tryd.func34 rfl trivial ?_ rfl
  simp only [Tryd.ntmps34, List.size_toArray, List.length_cons, List.length_nil, Nat.reduceAdd, Nat.reduceSub, Array.replicate_succ, Array.replicate_zero, List.push_toArray, List.append_toArray, List.nil_append, List.cons_append]
  gi_wp2
  gi_loopw [3] (fun _ wr => wr = W.alloc (.mapIter none 0 #[] 0)) (fun _ _ => 0)
  case atStart => rfl
  case round =>
    subst hrel
    gi_wp2
    go_end0
    exact ⟨⟨_, rfl⟩, .inl ⟨[], ⟨List.nodup_nil, fun y => Iff.rfl⟩, HA.out⟩⟩
set_option maxHeartbeats 4000000 in
theorem appseq_ok (w0 w : World) (l A : List Thing) (Bm : Nat) (C L0 : List Nat) (ao : Option Addr) (cap : Nat)
    (hI : ∀ Z Y : List Nat → List Thing, Seq 3 Tryd.prog 34 #[.pointer (some ⟨Bm, 0, none⟩)] w0 (fun id : Nat => #[.int .u32 (id : Int)]) (fun pre => A ++ Z pre) Y (pfx C) (whl C) (fun _ => True))
    (h : Own w0 w (Row 29 1 (.slice ao L0.length cap) L0.length (irow .u32 L0) :: (A ++ l))) (hb : L0.length + C.length ≤ 100000) :
    Calls Tryd.prog 28 #[.slice ao L0.length cap, .func (.func 34) #[] #[.pointer (some ⟨Bm, 0, none⟩)]] w fun e w' => ∃ (xs : List Nat) (ao' : Option Addr) (cap' : Nat), whl C xs ∧ e = .returned (.slice ao' (L0 ++ xs).length cap') ∧ Own w0 w' (Row 29 1 (.slice ao' (L0 ++ xs).length cap') (L0 ++ xs).length (irow .u32 (L0 ++ xs)) :: (A ++ l)) := by
  obtain ⟨i0, hi, hz0, hz1, hz2⟩ := info3 Tryd.infoIDc
  have hA : Own w0 (w.alloc (.cells #[.slice ao L0.length cap] 37)) (A ++ Coll w.heap.size (L0 ++ []) :: l) := by
    have k := h.allocC #[.slice ao L0.length cap] 37
    rw [List.append_nil]
    exact (Coll.shut k).sink
  have HSQ : Hid (∀ Z Y : List Nat → List Thing, Seq 3 Tryd.prog 34 #[.pointer (some ⟨Bm, 0, none⟩)] w0 (fun id : Nat => #[.int .u32 (id : Int)]) (fun pre => A ++ Z pre) Y (pfx C) (whl C) (fun _ => True)) := hI
  have H1 : Hid (Own w0 _ _) := hA
  generalize hn0 : L0.length = n0 at *
  have HN0 : Hid (L0.length = n0) := hn0
  clear h hA hI hn0
  refine (callsIn_wide (n := 4)).1 ?_
  refine callsIn_of_wp_marks Tryd.func28 rfl trivial ?_ rfl
  simp only [Tryd.ntmps28, List.size_toArray, List.length_cons, List.length_nil, Nat.reduceAdd, Nat.reduceSub, Array.replicate_succ, Array.replicate_zero, List.push_toArray, List.append_toArray, List.nil_append, List.cons_append]
  gi_wp2_with fail
  refine range_things (n := 4) rfl (enters_of Tryd.func34 (by kernel_rfl) rfl) (fun pre => A ++ Coll w.heap.size (L0 ++ pre) :: l) (fun _ => [Never]) .skip (HSQ.out (fun pre => Coll w.heap.size (L0 ++ pre) :: l) (fun _ => [Never])) (fun _ => rfl) H1.out
    (fun x => { tmps := #[.slice ao n0 cap, .func (.func 34) #[] #[.pointer (some ⟨Bm, 0, none⟩)], .pointer (some ⟨w.heap.size, 0, none⟩), undef, .slice none 0 0, .int .u32 (x : Int), .func (.func 34) #[] #[.pointer (some ⟨Bm, 0, none⟩)], .int .u32 (x : Int), undef, undef, undef, undef, undef], defers := [] }) ?assign ?body ?done ?stop
  case assign =>
    intro l' x W K hK
    gi_wp2
    exact hK
  case body =>
    intro l' pre x W R hG hO
    have hpl : (L0 ++ pre).length + 1 ≤ 100000 := by
      have := sub_len2 hG.1 hG.2
      simp at this
      have h0 := HN0.out
      simp
      omega
    have hO' : Own w0 W (Coll w.heap.size (L0 ++ pre) :: (A ++ (l ++ R))) := by
      have e : (A ++ Coll w.heap.size (L0 ++ pre) :: l) ++ R = A ++ Coll w.heap.size (L0 ++ pre) :: (l ++ R) := by simp
      rw [e] at hO
      exact hO.lift
    obtain ⟨ao1, cap1, hO2⟩ := Coll.open hO'
    have q0 := hO2.cell 0
    simp only [List.size_toArray, List.length_cons, List.length_nil, Nat.zero_lt_succ, Array.getElem?_eq_getElem] at q0
    have HO : Hid (Own w0 W _) := hO2
    have hB0 := hO2.lt
    generalize hpn : (L0 ++ pre).length = pn at *
    have HPN : Hid ((L0 ++ pre).length = pn) := hpn
    have q1 : W.cell? ⟨w.heap.size, 0, none⟩ = some (.slice ao1 pn cap1) := q0
    clear hO hO' hO2 hG hpn q0
    gi_wp2_with (gi_at_builtin; refine append1_in rfl _ _ 37 rfl 29 i0 (.int .u32 0) 1 4 Tryd.underlying37 hi hz0 hz1 hz2 rfl (by decide) _ pn _ rfl HO.out.two _ _ (by simp) rfl rfl (one_int _ _) (by unfold maxLen; omega) (by omega) ?_)
    intro g' cap' w2 hO2
    have q1 := hO2.two.cell 0
    have y1 := hO2.two.froz 0
    simp at q1
    have H2 : Hid (Own w0 _ _) := hO2.two.setC 0 (.slice (some ⟨g', 0, none⟩) (pn + 1) cap')
    clear hO2 HO
    gi_wp2
    have h3 : Own w0 _ (Coll w.heap.size (L0 ++ (pre ++ [x])) :: (A ++ (l ++ R))) := Coll.shut (v := .slice (some ⟨g', 0, none⟩) (pn + 1) cap') (by rw [← List.append_assoc, List.length_append, HPN.out]; simpa [irow] using H2.out)
    have e : (A ++ Coll w.heap.size (L0 ++ (pre ++ [x])) :: l) ++ R = A ++ Coll w.heap.size (L0 ++ (pre ++ [x])) :: (l ++ R) := by simp
    show Own _ _ _
    rw [e]
    exact h3.sink
  case done =>
    intro D xs W hS hO
    have hO2 : Own w0 W (Coll w.heap.size (L0 ++ xs) :: Objt D (.deferred (some [])) :: (A ++ l)) := (Own.lift (l := Objt D (.deferred (some [])) :: A) (m := l) hO)
    obtain ⟨ao2, cap2, hO3⟩ := Coll.open hO2
    have q0 := hO3.cell 0
    have q1 : W.cell? ⟨w.heap.size, 0, none⟩ = some (.slice ao2 (L0 ++ xs).length cap2) := q0
    have hK := hO3.three.objt
    generalize hpn : (L0 ++ xs).length = pn at *
    have HPN : Hid ((L0 ++ xs).length = pn) := hpn
    have H4 : Hid (Own w0 (W.putObj D (.deferred none)) _) := hO3.three.putO (.deferred none)
    have HS : Hid (whl C xs) := hS
    clear hO hO2 hO3 hpn q0 hS
    gi_wp2
    refine ⟨by simp, .inl ⟨_, _, rfl, run_takeDeferred hK, ?_⟩⟩
    exact ⟨_, results_tmp rfl _ _ _, xs, ao2, cap2, HS.out, by rw [HPN.out]; rfl, by rw [HPN.out]; exact H4.out.tail.tail⟩
  case stop =>
    intro D pre W hS hO
    exact (hO.tail.never).elim
end Go.Proofs.YthokgjkgfolojabDoor
