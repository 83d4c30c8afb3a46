/-
  Rows of elements of several cells; the document's slots in memory; New and Live of the document.
-/
import Derived.Test.YtficpeghmkbdpaaXj
namespace Go.Proofs.Ytficpeghmkbdpaa
open Go.RowKit
set_option linter.unusedVariables false

/-- n elements of s cells each -/
def flat (s n : Nat) (g : Nat → Nat → Value) : List Value := (List.range (n * s)).map (fun k => g (k / s) (k % s))
theorem length_flat (s n : Nat) (g : Nat → Nat → Value) : (flat s n g).length = n * s := by simp [flat]
theorem getElem?_flat (s n : Nat) (g : Nat → Nat → Value) (k : Nat) : (flat s n g)[k]? = if k < n * s then some (g (k / s) (k % s)) else none := by
  unfold flat
  by_cases h : k < n * s
  · rw [if_pos h, List.getElem?_map, List.getElem?_range h]; rfl
  · rw [if_neg h, List.getElem?_eq_none (by simp; omega)]
theorem flat_lt {s n i r : Nat} (hi : i < n) (hr : r < s) : i * s + r < n * s := by
  have : (i + 1) * s ≤ n * s := Nat.mul_le_mul_right _ hi
  rw [Nat.succ_mul] at this; omega
theorem flat_at (s n : Nat) (g : Nat → Nat → Value) (i r : Nat) (hi : i < n) (hr : r < s) : (flat s n g)[i * s + r]? = some (g i r) := by
  rw [getElem?_flat, if_pos (flat_lt hi hr)]
  have h1 : (i * s + r) / s = i := by rw [Nat.mul_comm, Nat.mul_add_div (by omega), Nat.div_eq_of_lt hr]; rfl
  have h2 : (i * s + r) % s = r := by rw [Nat.mul_comm, Nat.mul_add_mod, Nat.mod_eq_of_lt hr]
  rw [h1, h2]
theorem Own.fcell {w0 w : World} {l : List Thing} {e : TypeId} {s n g cap : Nat} {gg : Nat → Nat → Value} (h : Own w0 w (Row e s (.slice (some ⟨g, 0, none⟩) n cap) n (flat s n gg) :: l)) (i r : Nat) (hi : i < n) (hr : r < s) (o : Nat) (ho : o = i * s + r) : w.cell? ⟨g, o, none⟩ = some (gg i r) := by
  subst ho
  rw [h.row.cellAt _ (flat_lt hi hr)]; exact flat_at s n gg i r hi hr
theorem Own.ffroz {w0 w : World} {l : List Thing} {e : TypeId} {s n g cap : Nat} {xs : List Value} (h : Own w0 w (Row e s (.slice (some ⟨g, 0, none⟩) n cap) n xs :: l)) (o : Nat) : w.frozen? ⟨g, o, none⟩ = false := h.row.frozenAt o
theorem flat_congr (s n : Nat) (g g' : Nat → Nat → Value) (hs : 0 < s) (h : ∀ i r, i < n → r < s → g i r = g' i r) : flat s n g = flat s n g' := by
  apply List.ext_getElem?
  intro k
  rw [getElem?_flat, getElem?_flat]
  by_cases hk : k < n * s
  · rw [if_pos hk, if_pos hk, h _ _ ((Nat.div_lt_iff_lt_mul hs).2 hk) (Nat.mod_lt _ hs)]
  · rw [if_neg hk, if_neg hk]
theorem flat_set (s n : Nat) (g g' : Nat → Nat → Value) (i r : Nat) (hs : 0 < s) (hr : r < s) (h : ∀ a b, a < n → b < s → ¬ (a = i ∧ b = r) → g' a b = g a b) : flat s n g' = (flat s n g).set (i * s + r) (g' i r) := by
  apply List.ext_getElem?
  intro k
  rw [getElem?_flat, List.getElem?_set, getElem?_flat, length_flat]
  by_cases hk : k < n * s
  · by_cases e : i * s + r = k
    · subst e
      rw [if_pos hk, if_pos rfl, if_pos hk]
      have h1 : (i * s + r) / s = i := by rw [Nat.mul_comm, Nat.mul_add_div hs, Nat.div_eq_of_lt hr]; rfl
      have h2 : (i * s + r) % s = r := by rw [Nat.mul_comm, Nat.mul_add_mod, Nat.mod_eq_of_lt hr]
      rw [h1, h2]
    · rw [if_pos hk, if_neg e, if_pos hk]
      rw [h _ _ ((Nat.div_lt_iff_lt_mul hs).2 hk) (Nat.mod_lt _ hs)]
      rintro ⟨rfl, rfl⟩
      apply e
      rw [Nat.mul_comm]; exact Nat.div_add_mod k s
  · rw [if_neg hk]
    split
    · rename_i e; rw [if_neg (by omega)]
    · rfl
theorem flat_take (s n m : Nat) (g : Nat → Nat → Value) (h : m ≤ n) : (flat s n g).take (m * s) = flat s m g := by
  unfold flat
  rw [← List.map_take, List.take_range, Nat.min_eq_left (Nat.mul_le_mul_right _ h)]

theorem Own.madeRow {P : Program} {w0 w : World} {l : List Thing} (h : Own w0 w l) (t e : TypeId) (i : TypeInfo) (z : Value) (size : Nat) (ht : P.underlying t = some (.slice e)) (hi : P.info? e = some i) (hz : i.zero = some z) (hsize : i.size = size)
    (n : Nat) (hbytes : i.bytes * n ≤ 281474976710656) (h63 : n ≤ maxLen) :
    ∃ w', (Instr.makeSlice t (.int .i64 (n : Int)) (.int .i64 (n : Int))).run P w = .ok (.slice (some ⟨w.heap.size, 0, none⟩) n n) w' ∧ Own w0 w' (Row e size (.slice (some ⟨w.heap.size, 0, none⟩) n n) n (madeCells z.cells (n * size)).toList :: l) ∧ Fr Nobody w w' ∧ w.heap.size < w'.heap.size := by
  obtain ⟨w', h1, h2, h3⟩ := run_make_full (P := P) w 0 t e i z size ht hi hz hsize .i64 .i64 n hbytes h63 (Nat.zero_le _)
  have hf : Fr Nobody w w' := (Fr.refl _ _).grown h3 (by simp)
  exact ⟨w', h1, h.new (Row e size (.slice (some ⟨w.heap.size, 0, none⟩) n n) n _) (fun k => k = w.heap.size) ⟨h2, fun k => by simp [Value.ownBlock]; exact eq_comm⟩ hf (fun k hk => by omega), hf, (h2.lt _ rfl).2⟩

/-- the document's slots: of slot i its generation, whether it is in use, when it was freed -/
def one (S : St) (f : Nat → Nat) (i r : Nat) : Value := if r = 0 then .int .i64 ((S.last.getD i 0 / 1024 : Nat) : Int) else if r = 1 then .bool (S.used.getD i false) else .int .i64 (f i : Int)
def RSlots (c : Nat) (S : St) (f : Nat → Nat) (clock : Nat) : Thing := Ex (fun v : Nat × Nat =>
  [Cells c #[.int .i64 (S.first : Int), .slice (some ⟨v.1, 0, none⟩) S.n v.2, .int .i64 (clock : Int)] 92, Row 95 3 (.slice (some ⟨v.1, 0, none⟩) S.n v.2) S.n (flat 3 S.n (one S f))])
/-- could slot i be taken? -/
def frb (u : Bool) (x : Nat) : Bool := !u && decide (x / 1024 < 4194303)
def free1 (S : St) (i : Nat) : Bool := frb (S.used.getD i false) (S.last.getD i 0)
/-- what is so of the stamps -/
structure Stamp (S : St) (f : Nat → Nat) (clock : Nat) : Prop where
  pos : ∀ i, 0 < f i ↔ i ∈ S.freed
  le : ∀ i, f i ≤ clock
  inc : S.freed.Pairwise (fun a b => f a < f b)
  room : (List.range S.n).countP (free1 S) = S.room
def upd (f : Nat → Nat) (j x : Nat) (i : Nat) : Nat := if i = j then x else f i
theorem upd_same (f : Nat → Nat) (j x : Nat) : upd f j x j = x := by simp [upd]
theorem upd_other (f : Nat → Nat) (j x i : Nat) (h : i ≠ j) : upd f j x i = f i := by simp [upd, h]
theorem countP_upd (p q : Nat → Bool) (n j : Nat) (hj : j < n) (h : ∀ i, i ≠ j → q i = p i) : (List.range n).countP q + (p j).toNat = (List.range n).countP p + (q j).toNat := by
  induction n with
  | zero => omega
  | succ n ih =>
    rw [List.range_succ, List.countP_append, List.countP_append]
    simp only [List.countP_singleton]
    by_cases e : j = n
    · subst e
      have : (List.range j).countP q = (List.range j).countP p := by
        apply List.countP_congr
        intro x hx
        have hx' : x < j := by simpa using hx
        rw [h x (by omega)]
      rw [this]
      cases p j <;> cases q j <;> simp
    · have := ih (by omega)
      rw [h n (fun q => e q.symm)]
      omega
theorem getD_set_same {α : Type} (l : List α) (i : Nat) (x d : α) (h : i < l.length) : (l.set i x).getD i d = x := by rw [List.getD_eq_getElem?_getD, List.getElem?_set_self h]; rfl
theorem getD_set_other {α : Type} (l : List α) (i k : Nat) (x d : α) (h : k ≠ i) : (l.set i x).getD k d = l.getD k d := by rw [List.getD_eq_getElem?_getD, List.getElem?_set_ne (fun q => h q.symm), List.getD_eq_getElem?_getD]
theorem getD_snoc_same {α : Type} (l : List α) (x d : α) : (l ++ [x]).getD l.length d = x := by rw [List.getD_eq_getElem?_getD, List.getElem?_append_right (Nat.le_refl _)]; simp
theorem getD_snoc_other {α : Type} (l : List α) (x d : α) (k : Nat) (h : k ≠ l.length) : (l ++ [x]).getD k d = l.getD k d := by
  rw [List.getD_eq_getElem?_getD, List.getD_eq_getElem?_getD]
  rcases Nat.lt_or_gt_of_ne h with c | c
  · rw [List.getElem?_append_left c]
  · rw [List.getElem?_eq_none (by simp; omega), List.getElem?_eq_none (by omega)]
theorem getD_some {α : Type} {l : List α} {i : Nat} {d x : α} (h : l[i]? = some x) : l.getD i d = x := by rw [List.getD_eq_getElem?_getD, h]; rfl
theorem getD_none {α : Type} {l : List α} {i : Nat} {d : α} (h : l.length ≤ i) : l.getD i d = d := by rw [List.getD_eq_getElem?_getD, List.getElem?_eq_none h]; rfl

theorem Stamp.new (n F : Nat) (h : 1 ≤ n) : Stamp (St.new n F) (fun _ => 0) 0 := by
  refine ⟨fun i => by simp [St.new], fun i => Nat.le_refl _, by simp [St.new], ?_⟩
  have : (List.range n).countP (free1 (St.new n F)) = n := by
    have h2 : (List.range n).countP (free1 (St.new n F)) = (List.range n).length := List.countP_eq_length.2 (fun a _ => by simp [free1, frb, St.new])
    rw [h2, List.length_range]
  show (List.range n).countP _ = _
  rw [this]; simp [St.room, St.new]
theorem Stamp.last {S : St} {f : Nat → Nat} {ck j : Nat} (h : Stamp S f ck) (hS : S.Ok) (hj : S.freed.getLast? = some j) : 0 < f j ∧ (∀ i, f i ≤ f j) ∧ (∀ i, f i = f j → i = j) := by
  have e := dropLast_of _ _ hj
  have hjm : j ∈ S.freed := by rw [e]; simp
  have hp := (h.pos j).2 hjm
  have hinc := h.inc
  rw [e, List.pairwise_append] at hinc
  have hlt : ∀ i, i ∈ S.freed.dropLast → f i < f j := fun i hi => hinc.2.2 i hi j (by simp)
  have hcase : ∀ i, i = j ∨ f i = 0 ∨ i ∈ S.freed.dropLast := by
    intro i
    by_cases hi : i ∈ S.freed
    · rw [e] at hi
      rcases List.mem_append.1 hi with hi | hi
      · exact .inr (.inr hi)
      · left; simpa using hi
    · right; left
      have := h.pos i
      rcases Nat.eq_zero_or_pos (f i) with z | z
      · exact z
      · exact absurd (this.1 z) hi
  refine ⟨hp, fun i => ?_, fun i hi => ?_⟩
  · rcases hcase i with rfl | c | c
    · exact Nat.le_refl _
    · omega
    · have := hlt i c; omega
  · rcases hcase i with rfl | c | c
    · rfl
    · omega
    · have := hlt i c; omega
theorem Stamp.none {S : St} {f : Nat → Nat} {ck : Nat} (h : Stamp S f ck) (hj : S.freed = []) (i : Nat) : f i = 0 := by
  have := h.pos i
  rw [hj] at this
  rcases Nat.eq_zero_or_pos (f i) with z | z
  · exact z
  · exact absurd (this.1 z) (by simp)
theorem Stamp.again {S : St} {f : Nat → Nat} {ck j : Nat} (h : Stamp S f ck) (hS : S.Ok) (hj : S.freed.getLast? = some j) : Stamp (S.again j) (upd f j 0) ck := by
  have e := dropLast_of _ _ hj
  have hm : j ∈ S.freed := by rw [e]; simp
  have hn := hS.nodup
  rw [e, List.nodup_append] at hn
  have hnj : j ∉ S.freed.dropLast := fun hc => hn.2.2 j hc j (by simp) rfl
  have hinc := h.inc
  rw [e, List.pairwise_append] at hinc
  obtain ⟨hu, x, hx, hg⟩ := hS.fr j hm
  have hlt := hS.lt hm
  have hle := hS.le
  have hlen : S.freed.length = S.freed.dropLast.length + 1 := by
    have := congrArg List.length e
    rw [List.length_append, List.length_singleton] at this; exact this
  refine ⟨fun i => ?_, fun i => ?_, ?_, ?_⟩
  · show 0 < upd f j 0 i ↔ i ∈ S.freed.dropLast
    by_cases c : i = j
    · subst c; rw [upd_same]; exact ⟨fun h => by omega, fun h => absurd h hnj⟩
    · rw [upd_other _ _ _ _ c, h.pos i]
      conv => lhs; rw [e]
      simp [c]
  · by_cases c : i = j
    · subst c; rw [upd_same]; exact Nat.zero_le _
    · rw [upd_other _ _ _ _ c]; exact h.le i
  · show S.freed.dropLast.Pairwise _
    refine List.Pairwise.imp_of_mem ?_ hinc.1
    intro a b ha hb hab
    rw [upd_other _ _ _ _ (fun q => hnj (by rw [← q]; exact ha)), upd_other _ _ _ _ (fun q => hnj (by rw [← q]; exact hb))]
    exact hab
  · have hc := countP_upd (free1 S) (free1 (S.again j)) S.n j (by omega) (fun i hi => by
      simp only [free1, St.again]; rw [getD_set_other _ _ _ _ _ hi, getD_set_other _ _ _ _ _ hi])
    have h1 : free1 S j = true := by simp only [free1]; rw [getD_some hu, getD_some hx]; simp [frb, hg]
    have h2 : free1 (S.again j) j = false := by simp only [free1, St.again]; rw [getD_set_same _ _ _ _ (by rw [hS.ul]; exact hlt)]; simp [frb]
    rw [h1, h2, h.room] at hc
    show (List.range S.n).countP _ = _
    simp [St.room, St.again] at hc ⊢
    omega
theorem Stamp.more {S : St} {f : Nat → Nat} {ck : Nat} (h : Stamp S f ck) (hS : S.Ok) (hl : S.last.length < S.n) : Stamp S.more f ck := by
  refine ⟨h.pos, h.le, h.inc, ?_⟩
  have hc := countP_upd (free1 S) (free1 S.more) S.n S.last.length hl (fun i hi => by
      simp only [free1, St.more]; rw [getD_snoc_other _ _ _ _ hi, getD_snoc_other _ _ _ _ (by rw [hS.ul]; exact hi)])
  have h1 : free1 S S.last.length = true := by simp only [free1]; rw [getD_none (Nat.le_refl _), getD_none (by rw [hS.ul]; exact Nat.le_refl _)]; simp [frb]
  have h2 : free1 S.more S.last.length = false := by
    simp only [free1, St.more]
    have : (S.used ++ [true]).getD S.last.length false = true := by rw [← hS.ul]; exact getD_snoc_same _ _ _
    rw [this]; simp [frb]
  rw [h1, h2, h.room] at hc
  show (List.range S.n).countP _ = _
  simp [St.room, St.more] at hc ⊢
  omega
theorem Stamp.less {S : St} {f : Nat → Nat} {ck id : Nat} (h : Stamp S f ck) (hS : S.Ok) (hl : S.isLive id = true) :
    (id / 1024 < 4194303 → Stamp (S.less id) (upd f (id % 1024) (ck + 1)) (ck + 1)) ∧ (¬ id / 1024 < 4194303 → Stamp (S.less id) f ck) := by
  obtain ⟨hu, hx⟩ := (S.isLive_iff hS id).1 hl
  have hlu : id % 1024 < S.used.length := (List.getElem?_eq_some_iff.1 hu).1
  have hul := hS.ul
  have hle := hS.le
  have hnf : id % 1024 ∉ S.freed := by
    intro hm
    have := (hS.fr _ hm).1
    rw [hu] at this; cases this
  have hc := countP_upd (free1 S) (free1 (S.less id)) S.n (id % 1024) (by omega) (fun i hi => by
      simp only [free1, St.less]; rw [getD_set_other _ _ _ _ _ hi])
  have h1 : free1 S (id % 1024) = false := by simp only [free1]; rw [getD_some hu]; simp [frb]
  have h2 : free1 (S.less id) (id % 1024) = decide (id / 1024 < 4194303) := by
    simp only [free1, St.less]; rw [getD_set_same _ _ _ _ hlu, getD_some hx]; simp [frb]
  have hcnt := hS.cnt
  rw [h1, h2, h.room] at hc
  constructor
  · intro hg
    have hfr : (S.less id).freed = S.freed ++ [id % 1024] := by simp only [St.less]; rw [if_pos hg]
    refine ⟨fun i => ?_, fun i => ?_, ?_, ?_⟩
    · rw [hfr]
      by_cases c : i = id % 1024
      · subst c; rw [upd_same]; simp
      · rw [upd_other _ _ _ _ c, h.pos i]; simp [c]
    · by_cases c : i = id % 1024
      · subst c; rw [upd_same]; exact Nat.le_refl _
      · rw [upd_other _ _ _ _ c]; exact Nat.le_succ_of_le (h.le i)
    · rw [hfr, List.pairwise_append]
      refine ⟨?_, by simp, ?_⟩
      · refine List.Pairwise.imp_of_mem ?_ h.inc
        intro a b ha hb hab
        rw [upd_other _ _ _ _ (fun q => hnf (by rw [← q]; exact ha)), upd_other _ _ _ _ (fun q => hnf (by rw [← q]; exact hb))]
        exact hab
      · intro a ha b hb
        simp at hb
        subst hb
        rw [upd_same, upd_other _ _ _ _ (fun q => hnf (by rw [← q]; exact ha))]
        exact Nat.lt_succ_of_le (h.le a)
    · show (List.range S.n).countP _ = _
      unfold St.room at hc ⊢
      rw [hfr]
      simp [hg] at hc
      show _ = (S.freed ++ [id % 1024]).length + S.n - S.last.length
      rw [List.length_append, List.length_singleton]
      omega
  · intro hg
    have hfr : (S.less id).freed = S.freed := by simp only [St.less]; rw [if_neg hg]
    refine ⟨fun i => by rw [hfr]; exact h.pos i, h.le, by rw [hfr]; exact h.inc, ?_⟩
    show (List.range S.n).countP _ = _
    unfold St.room at hc ⊢
    rw [hfr]
    simp [hg] at hc
    show _ = S.freed.length + S.n - S.last.length
    omega

theorem Try.infoOne : (Try.prog.info? 95).map (fun i => (i.zero, i.size, i.bytes)) = some (some (.agg #[.int .i64 0, .bool false, .int .i64 0]), 3, 24) := by kernel_rfl

theorem made_one (n F : Nat) : (madeCells #[.int .i64 0, .bool false, .int .i64 0] (n * 3)).toList = flat 3 n (one (St.new n F) (fun _ => 0)) := by
  apply List.ext_getElem?
  intro k
  rw [getElem?_flat]
  by_cases hk : k < n * 3
  · rw [if_pos hk]
    have c : k % 3 = 0 ∨ k % 3 = 1 ∨ k % 3 = 2 := by omega
    rcases c with c | c | c <;> simp [madeCells, hk, one, St.new, c]
  · rw [if_neg hk]; simp [madeCells]; omega

set_option maxHeartbeats 400000 in
set_option maxRecDepth 100000 in
theorem rnew_ok (w0 w : World) (l : List Thing) (n F : Nat) (h : Own w0 w l) (h1 : 1 ≤ n) (h2 : n ≤ 1024) (h3 : 1 ≤ F) (h4 : (F : Int) ≤ 4194303) :
    Calls Try.prog 17 #[.int .i64 (n : Int), .int .i64 (F : Int)] w fun e w' => ∃ c, e = .returned (.tuple #[.pointer (some ⟨c, 0, none⟩), .int .i64 0]) ∧ Own w0 w' (RSlots c (St.new n F) (fun _ => 0) 0 :: l) := by
  obtain ⟨i0, hi, hz0, hz1, hz2⟩ := info_parts Try.infoOne
  obtain ⟨w1, hmk, hO, hf, hlt⟩ := h.madeRow (P := Try.prog) 90 95 i0 (.agg #[.int .i64 0, .bool false, .int .i64 0]) 3 Try.underlying90 hi hz0 hz1 n (by rw [hz2]; omega) (by unfold maxLen; omega)
  have H : Hid (Own w0 w1 _) := hO
  clear hO hf h
  go_enter Try.func17, Try.ntmps17
  go_wp2
  go_ret2
  refine ⟨_, rfl, Own.ex_iff.2 ⟨(w.heap.size, n), ?_⟩⟩
  have k := H.out.allocC #[.int .i64 (F : Int), .slice (some ⟨w.heap.size, 0, none⟩) n n, .int .i64 0] 92
  have e1 := made_one n F
  have e2 : Value.cells (.agg #[.int .i64 0, .bool false, .int .i64 0]) = #[.int .i64 0, .bool false, .int .i64 0] := by rfl
  rw [e2, e1] at k
  exact k
set_option maxHeartbeats 400000 in
theorem rnew_no (w : World) (n f : Int) (h : n < 1 ∨ 1024 < n ∨ f < 1 ∨ 4194303 < f) : Calls Try.prog 17 #[.int .i64 n, .int .i64 f] w fun e w' => e = .returned (.tuple #[.pointer none, .int .i64 1]) ∧ w' = w := by
  by_cases c1 : n < 1
  · go_enter Try.func17, Try.ntmps17
    go_wp2
    go_ret2
    exact ⟨rfl, rfl⟩
  · by_cases c2 : 1024 < n
    · go_enter Try.func17, Try.ntmps17
      go_wp2
      go_ret2
      exact ⟨rfl, rfl⟩
    · by_cases c3 : f < 1
      · go_enter Try.func17, Try.ntmps17
        go_wp2
        go_ret2
        exact ⟨rfl, rfl⟩
      · have c4 : 4194303 < f := by omega
        go_enter Try.func17, Try.ntmps17
        go_wp2
        go_ret2
        exact ⟨rfl, rfl⟩
end Go.Proofs.Ytficpeghmkbdpaa
