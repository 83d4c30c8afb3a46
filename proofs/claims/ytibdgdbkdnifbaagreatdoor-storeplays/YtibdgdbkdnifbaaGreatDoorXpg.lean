/-
  The document's example of slots; the document's Make, Slot and Gen.
-/
import Derived.Test.YtibdgdbkdnifbaaGreatDoorXgg
import Derived.Test.YtibdgdbkdnifbaaGreatDoorOrg
namespace Go.Proofs.YtibdgdbkdnifbaaGreatDoor
open Go.RowKit
set_option linter.unusedVariables false

theorem take_is {S S' : St} {id : Nat} {r : Int} (w0 w : World) (l : List Thing) (b : Nat) (h : Own w0 w (Slots b S :: l)) (hS : S.Ok) (ht : S.take = (id, r, S')) :
    Calls Tryz.prog 28 #[.pointer (some ⟨b, 0, none⟩)] w fun e w' => e = .returned (.tuple #[.int .u32 (id : Int), .int .i64 r]) ∧ Own w0 w' (Slots b S' :: l) := by
  have := take_ok w0 w l b S h hS
  rw [ht] at this
  exact this
theorem free_is {S S' : St} {id : Nat} {r : Int} (w0 w : World) (l : List Thing) (b : Nat) (h : Own w0 w (Slots b S :: l)) (hS : S.Ok) (hid : id < 4294967296) (ht : S.free id = (r, S')) :
    Calls Tryz.prog 35 #[.pointer (some ⟨b, 0, none⟩), .int .u32 (id : Int)] w fun e w' => e = .returned (.int .i64 r) ∧ Own w0 w' (Slots b S' :: l) := by
  have := free_ok w0 w l b S id h hS hid
  rw [ht] at this
  exact this
theorem live_is {S : St} {id : Nat} {r : Bool} (w0 w : World) (l : List Thing) (b : Nat) (h : Own w0 w (Slots b S :: l)) (hS : S.Ok) (hid : id < 4294967296) (ht : S.isLive id = r) :
    Calls Tryz.prog 71 #[.pointer (some ⟨b, 0, none⟩), .int .u32 (id : Int)] w fun e w' => e = .returned (.bool r) ∧ Own w0 w' (Slots b S :: l) := by
  have := live_ok w0 w l b S id h hS hid
  rw [ht] at this
  refine this.mono ?_
  rintro e w' ⟨rfl, rfl⟩
  exact ⟨rfl, h⟩

set_option maxHeartbeats 400000 in
theorem rslot_any (id : Nat) (w : World) (h : id < 4294967296) : Calls Tryz.prog 78 #[.int .u32 (id : Int)] w fun e w' => e = .returned (.int .i64 ((id % 1024 : Nat) : Int)) ∧ w' = w := by
  go_enter Tryz.func78, Tryz.ntmps78
  go_wp2
  go_ret
  exact ⟨ret_int (by omega), rfl⟩
set_option maxHeartbeats 400000 in
theorem rgen_any (id : Nat) (w : World) (h : id < 4294967296) : Calls Tryz.prog 101 #[.int .u32 (id : Int)] w fun e w' => e = .returned (.int .i64 ((id / 1024 : Nat) : Int)) ∧ w' = w := by
  go_enter Tryz.func101, Tryz.ntmps101
  go_wp2
  go_ret
  exact ⟨ret_int (by omega), rfl⟩
set_option maxHeartbeats 400000 in
set_option maxRecDepth 100000 in
theorem rmake_yes (s g : Nat) (w : World) (h1 : s < 1024) (h2 : 1 ≤ g) (h3 : (g : Int) ≤ 4194303) : Calls Tryz.prog 68 #[.int .i64 (s : Int), .int .i64 (g : Int)] w fun e w' => e = .returned (.tuple #[.int .u32 ((g * 1024 + s : Nat) : Int), .int .i64 0]) ∧ w' = w := by
  go_enter Tryz.func68, Tryz.ntmps68
  go_wp2
  go_ret2
  exact ⟨rfl, rfl⟩
set_option maxHeartbeats 400000 in
theorem rmake_no (s g : Int) (w : World) (h : s < 0 ∨ 1024 ≤ s ∨ g < 1 ∨ 4194303 < g) : Calls Tryz.prog 68 #[.int .i64 s, .int .i64 g] w fun e w' => e = .returned (.tuple #[.int .u32 0, .int .i64 1]) ∧ w' = w := by
  by_cases c1 : s < 0
  · go_enter Tryz.func68, Tryz.ntmps68
    go_wp2
    go_ret2
    exact ⟨rfl, rfl⟩
  · by_cases c2 : 1024 ≤ s
    · go_enter Tryz.func68, Tryz.ntmps68
      go_wp2
      go_ret2
      exact ⟨rfl, rfl⟩
    · by_cases c3 : g < 1
      · go_enter Tryz.func68, Tryz.ntmps68
        go_wp2
        go_ret2
        exact ⟨rfl, rfl⟩
      · have c4 : 4194303 < g := by omega
        go_enter Tryz.func68, Tryz.ntmps68
        go_wp2
        go_ret2
        exact ⟨rfl, rfl⟩
end Go.Proofs.YtibdgdbkdnifbaaGreatDoor

/-
  Slots whose generations are used up, as plain lists.
-/
namespace Go.Proofs.YtibdgdbkdnifbaaGreatDoor
open Go.RowKit
set_option linter.unusedVariables false

theorem St.take_new {S : St} (h : S.freed = []) (hl : S.last.length < S.n) : S.take = (S.first * 1024 + S.last.length, 0, S.more) := by
  unfold St.take; rw [h]; simp [hl]
theorem St.take_full {S : St} (h : S.freed = []) (hl : ¬ S.last.length < S.n) : S.take = (0, 8, S) := by
  unfold St.take; rw [h]; simp [hl]
theorem St.take_again {S : St} {f x : Nat} (h : S.freed.getLast? = some f) (hx : S.last[f]? = some x) : S.take = (x + 1024, 0, S.again f) := by
  unfold St.take; rw [h]; simp [List.getD_eq_getElem?_getD, hx]

structure Worn (S : St) (k m F j : Nat) : Prop where
  ok : S.Ok
  n : S.n = k
  first : S.first = F
  live : S.live = 0
  at' : ∃ q r, j = q * m + r ∧ r < m ∧ (r = 0 → S.freed = [] ∧ S.last.length = q) ∧ (0 < r → S.freed = [q] ∧ S.last.length = q + 1 ∧ S.last[q]? = some ((F + r - 1) * 1024 + q))

theorem less_of (S : St) (id q : Nat) (h : id % 1024 = q) : S.less id = { S with used := S.used.set q false, live := S.live - 1, freed := if id / 1024 < 4194303 then S.freed ++ [q] else S.freed } := by unfold St.less; rw [h]

theorem Worn.step {S : St} {k m F j : Nat} (h : Worn S k m F j) (hm : 1 ≤ m) (hF : F + m = 4194304) (hj : j < k * m) (hk : k ≤ 6) :
    ∃ id S1 S2, S.take = (id, 0, S1) ∧ S1.Ok ∧ id < 4294967296 ∧ S1.free id = (0, S2) ∧ Worn S2 k m F (j + 1) := by
  obtain ⟨q, r, hq, hr, h0, h1⟩ := h.at'
  have hqk : q < k := by
    have : q * m < k * m := by omega
    exact Nat.lt_of_mul_lt_mul_right this
  have hn := h.n
  have hf := h.first
  have hlv := h.live
  have hul := h.ok.ul
  have hsm : (q + 1) * m = q * m + m := Nat.succ_mul q m
  rcases Nat.eq_zero_or_pos r with hz | hz
  · obtain ⟨hfr, hll⟩ := h0 hz
    have ht := S.take_new hfr (by omega)
    have hok1 : S.more.Ok := St.more_ok h.ok hfr (by omega)
    have hid : (S.first * 1024 + S.last.length) % 1024 = q := by omega
    have hgn : (S.first * 1024 + S.last.length) / 1024 = F := by omega
    have hlast : S.more.last[q]? = some (S.first * 1024 + S.last.length) := by
      simp only [St.more]; rw [← hll, List.getElem?_append_right (Nat.le_refl _)]; simp
    have hlive : S.more.isLive (S.first * 1024 + S.last.length) = true := by
      rw [St.isLive_iff hok1, hid]
      refine ⟨?_, hlast⟩
      simp only [St.more]; rw [← hll, ← hul, List.getElem?_append_right (Nat.le_refl _)]; simp
    refine ⟨_, _, S.more.less (S.first * 1024 + S.last.length), ht, hok1, by omega, by unfold St.free; rw [if_pos hlive], ⟨St.less_ok hok1 hlive, hn, hf, by simp [St.less, St.more, hlv], ?_⟩⟩
    rw [less_of _ _ q hid, hgn]
    by_cases hm1 : m = 1
    · refine ⟨q + 1, 0, by rw [hsm]; omega, by omega, fun _ => ⟨?_, ?_⟩, fun h => by omega⟩
      · rw [if_neg (by omega)]; exact hfr
      · show (S.last ++ [_]).length = _; rw [List.length_append, List.length_singleton]; omega
    · refine ⟨q, 1, by omega, by omega, fun h => by omega, fun _ => ⟨?_, ?_, ?_⟩⟩
      · rw [if_pos (by omega)]; show S.freed ++ [q] = _; rw [hfr]; rfl
      · show (S.last ++ [_]).length = _; rw [List.length_append, List.length_singleton]; omega
      · show S.more.last[q]? = _; rw [hlast, hf, hll]; simp
  · obtain ⟨hfr, hll, hlq⟩ := h1 hz
    have hgl : S.freed.getLast? = some q := by rw [hfr]; rfl
    have ht := S.take_again hgl hlq
    have hok1 : (S.again q).Ok := St.again_ok h.ok hgl
    have hid : ((F + r - 1) * 1024 + q + 1024) % 1024 = q := by omega
    have hgn : ((F + r - 1) * 1024 + q + 1024) / 1024 = F + r := by omega
    have hlast : (S.again q).last[q]? = some ((F + r - 1) * 1024 + q + 1024) := by
      simp only [St.again]; rw [List.getElem?_set_self (by omega), List.getD_eq_getElem?_getD, hlq]; rfl
    have hlive : (S.again q).isLive ((F + r - 1) * 1024 + q + 1024) = true := by
      rw [St.isLive_iff hok1, hid]
      exact ⟨by simp only [St.again]; rw [List.getElem?_set_self (by omega)], hlast⟩
    refine ⟨_, _, (S.again q).less ((F + r - 1) * 1024 + q + 1024), ht, hok1, by omega, by unfold St.free; rw [if_pos hlive], ⟨St.less_ok hok1 hlive, hn, hf, by simp [St.less, St.again, hlv], ?_⟩⟩
    rw [less_of _ _ q hid, hgn]
    by_cases hm1 : r + 1 = m
    · refine ⟨q + 1, 0, by rw [hsm]; omega, by omega, fun _ => ⟨?_, ?_⟩, fun h => by omega⟩
      · rw [if_neg (by omega)]; show S.freed.dropLast = _; rw [hfr]; rfl
      · show (S.last.set _ _).length = _; rw [List.length_set]; omega
    · refine ⟨q, r + 1, by omega, by omega, fun h => by omega, fun _ => ⟨?_, ?_, ?_⟩⟩
      · rw [if_pos (by omega)]; show S.freed.dropLast ++ [q] = _; rw [hfr]; rfl
      · show (S.last.set _ _).length = _; rw [List.length_set]; omega
      · show (S.again q).last[q]? = _; rw [hlast, show (F + r - 1) * 1024 + q + 1024 = (F + (r + 1) - 1) * 1024 + q by omega]
theorem Worn.start (k m F : Nat) (hm : 1 ≤ m) (hF : F + m = 4194304) (hF1 : 1 ≤ F) (hk : 1 ≤ k) (hk6 : k ≤ 6) : Worn (St.new k F) k m F 0 :=
  ⟨St.new_ok k F hk (by omega) hF1 (by omega), rfl, rfl, rfl, 0, 0, by omega, by omega, fun _ => ⟨rfl, rfl⟩, fun h => by omega⟩
theorem Worn.done {S : St} {k m F : Nat} (h : Worn S k m F (k * m)) (hm : 1 ≤ m) : S.take = (0, 8, S) ∧ S.room = 0 ∧ S.live = 0 := by
  obtain ⟨q, r, hq, hr, h0, h1⟩ := h.at'
  have hqk : q = k := by
    rcases Nat.lt_trichotomy q k with c | c | c
    · have : (q + 1) * m ≤ k * m := Nat.mul_le_mul_right _ c
      rw [Nat.succ_mul] at this; omega
    · exact c
    · have : (k + 1) * m ≤ q * m := Nat.mul_le_mul_right _ c
      rw [Nat.succ_mul] at this; omega
  subst hqk
  obtain ⟨hfr, hll⟩ := h0 (by omega)
  have hn := h.n
  exact ⟨S.take_full hfr (by omega), by unfold St.room; rw [hfr]; simp; omega, h.live⟩
end Go.Proofs.YtibdgdbkdnifbaaGreatDoor

/-
  Rows of elements of several cells; the document's slots in memory; New and Live of the document.
-/
namespace Go.Proofs.YtibdgdbkdnifbaaGreatDoor
open Go.RowKit
set_option linter.unusedVariables false

/-- n elements of s cells each -/
def flat (s n : Nat) (g : Nat → Nat → Value) : List Value := (List.range (n * s)).map (fun k => g (k / s) (k % s))
theorem length_flat (s n : Nat) (g : Nat → Nat → Value) : (flat s n g).length = n * s := by simp [flat]
theorem getElem?_flat (s n : Nat) (g : Nat → Nat → Value) (k : Nat) : (flat s n g)[k]? = if k < n * s then some (g (k / s) (k % s)) else none := by
  unfold flat
  by_cases h : k < n * s
  · rw [if_pos h, List.getElem?_map, List.getElem?_range h]; rfl
  · rw [if_neg h, List.getElem?_eq_none (by simp; omega)]
theorem flat_lt {s n i r : Nat} (hi : i < n) (hr : r < s) : i * s + r < n * s := by
  have : (i + 1) * s ≤ n * s := Nat.mul_le_mul_right _ hi
  rw [Nat.succ_mul] at this; omega
theorem flat_at (s n : Nat) (g : Nat → Nat → Value) (i r : Nat) (hi : i < n) (hr : r < s) : (flat s n g)[i * s + r]? = some (g i r) := by
  rw [getElem?_flat, if_pos (flat_lt hi hr)]
  have h1 : (i * s + r) / s = i := by rw [Nat.mul_comm, Nat.mul_add_div (by omega), Nat.div_eq_of_lt hr]; rfl
  have h2 : (i * s + r) % s = r := by rw [Nat.mul_comm, Nat.mul_add_mod, Nat.mod_eq_of_lt hr]
  rw [h1, h2]
theorem Own.fcell {w0 w : World} {l : List Thing} {e : TypeId} {s n g cap : Nat} {gg : Nat → Nat → Value} (h : Own w0 w (Row e s (.slice (some ⟨g, 0, none⟩) n cap) n (flat s n gg) :: l)) (i r : Nat) (hi : i < n) (hr : r < s) (o : Nat) (ho : o = i * s + r) : w.cell? ⟨g, o, none⟩ = some (gg i r) := by
  subst ho
  rw [h.row.cellAt _ (flat_lt hi hr)]; exact flat_at s n gg i r hi hr
theorem Own.ffroz {w0 w : World} {l : List Thing} {e : TypeId} {s n g cap : Nat} {xs : List Value} (h : Own w0 w (Row e s (.slice (some ⟨g, 0, none⟩) n cap) n xs :: l)) (o : Nat) : w.frozen? ⟨g, o, none⟩ = false := h.row.frozenAt o
theorem flat_congr (s n : Nat) (g g' : Nat → Nat → Value) (hs : 0 < s) (h : ∀ i r, i < n → r < s → g i r = g' i r) : flat s n g = flat s n g' := by
  apply List.ext_getElem?
  intro k
  rw [getElem?_flat, getElem?_flat]
  by_cases hk : k < n * s
  · rw [if_pos hk, if_pos hk, h _ _ ((Nat.div_lt_iff_lt_mul hs).2 hk) (Nat.mod_lt _ hs)]
  · rw [if_neg hk, if_neg hk]
theorem flat_set (s n : Nat) (g g' : Nat → Nat → Value) (i r : Nat) (hs : 0 < s) (hr : r < s) (h : ∀ a b, a < n → b < s → ¬ (a = i ∧ b = r) → g' a b = g a b) : flat s n g' = (flat s n g).set (i * s + r) (g' i r) := by
  apply List.ext_getElem?
  intro k
  rw [getElem?_flat, List.getElem?_set, getElem?_flat, length_flat]
  by_cases hk : k < n * s
  · by_cases e : i * s + r = k
    · subst e
      rw [if_pos hk, if_pos rfl, if_pos hk]
      have h1 : (i * s + r) / s = i := by rw [Nat.mul_comm, Nat.mul_add_div hs, Nat.div_eq_of_lt hr]; rfl
      have h2 : (i * s + r) % s = r := by rw [Nat.mul_comm, Nat.mul_add_mod, Nat.mod_eq_of_lt hr]
      rw [h1, h2]
    · rw [if_pos hk, if_neg e, if_pos hk]
      rw [h _ _ ((Nat.div_lt_iff_lt_mul hs).2 hk) (Nat.mod_lt _ hs)]
      rintro ⟨rfl, rfl⟩
      apply e
      rw [Nat.mul_comm]; exact Nat.div_add_mod k s
  · rw [if_neg hk]
    split
    · rename_i e; rw [if_neg (by omega)]
    · rfl
theorem flat_take (s n m : Nat) (g : Nat → Nat → Value) (h : m ≤ n) : (flat s n g).take (m * s) = flat s m g := by
  unfold flat
  rw [← List.map_take, List.take_range, Nat.min_eq_left (Nat.mul_le_mul_right _ h)]

theorem Own.madeRow {P : Program} {w0 w : World} {l : List Thing} (h : Own w0 w l) (t e : TypeId) (i : TypeInfo) (z : Value) (size : Nat) (ht : P.underlying t = some (.slice e)) (hi : P.info? e = some i) (hz : i.zero = some z) (hsize : i.size = size)
    (n : Nat) (hbytes : i.bytes * n ≤ 281474976710656) (h63 : n ≤ maxLen) :
    ∃ w', (Instr.makeSlice t (.int .i64 (n : Int)) (.int .i64 (n : Int))).run P w = .ok (.slice (some ⟨w.heap.size, 0, none⟩) n n) w' ∧ Own w0 w' (Row e size (.slice (some ⟨w.heap.size, 0, none⟩) n n) n (madeCells z.cells (n * size)).toList :: l) ∧ Fr Nobody w w' ∧ w.heap.size < w'.heap.size := by
  obtain ⟨w', h1, h2, h3⟩ := run_make_full (P := P) w 0 t e i z size ht hi hz hsize .i64 .i64 n hbytes h63 (Nat.zero_le _)
  have hf : Fr Nobody w w' := (Fr.refl _ _).grown h3 (by simp)
  exact ⟨w', h1, h.new (Row e size (.slice (some ⟨w.heap.size, 0, none⟩) n n) n _) (fun k => k = w.heap.size) ⟨h2, fun k => by simp [Value.ownBlock]; exact eq_comm⟩ hf (fun k hk => by omega), hf, (h2.lt _ rfl).2⟩

/-- the document's slots: of slot i its generation, whether it is in use, when it was freed -/
def one (S : St) (f : Nat → Nat) (i r : Nat) : Value := if r = 0 then .int .i64 ((S.last.getD i 0 / 1024 : Nat) : Int) else if r = 1 then .bool (S.used.getD i false) else .int .i64 (f i : Int)
def RSlots (c : Nat) (S : St) (f : Nat → Nat) (clock : Nat) : Thing := Ex (fun v : Nat × Nat =>
  [Cells c #[.int .i64 (S.first : Int), .slice (some ⟨v.1, 0, none⟩) S.n v.2, .int .i64 (clock : Int)] 124, Row 132 3 (.slice (some ⟨v.1, 0, none⟩) S.n v.2) S.n (flat 3 S.n (one S f))])
/-- could slot i be taken? -/
def frb (u : Bool) (x : Nat) : Bool := !u && decide (x / 1024 < 4194303)
def free1 (S : St) (i : Nat) : Bool := frb (S.used.getD i false) (S.last.getD i 0)
/-- what is so of the stamps -/
structure Stamp (S : St) (f : Nat → Nat) (clock : Nat) : Prop where
  pos : ∀ i, 0 < f i ↔ i ∈ S.freed
  le : ∀ i, f i ≤ clock
  inc : S.freed.Pairwise (fun a b => f a < f b)
  room : (List.range S.n).countP (free1 S) = S.room
def updn (f : Nat → Nat) (j x : Nat) (i : Nat) : Nat := if i = j then x else f i
theorem updn_same (f : Nat → Nat) (j x : Nat) : updn f j x j = x := by simp [updn]
theorem updn_other (f : Nat → Nat) (j x i : Nat) (h : i ≠ j) : updn f j x i = f i := by simp [updn, h]
theorem countP_upd (p q : Nat → Bool) (n j : Nat) (hj : j < n) (h : ∀ i, i ≠ j → q i = p i) : (List.range n).countP q + (p j).toNat = (List.range n).countP p + (q j).toNat := by
  induction n with
  | zero => omega
  | succ n ih =>
    rw [List.range_succ, List.countP_append, List.countP_append]
    simp only [List.countP_singleton]
    by_cases e : j = n
    · subst e
      have : (List.range j).countP q = (List.range j).countP p := by
        apply List.countP_congr
        intro x hx
        have hx' : x < j := by simpa using hx
        rw [h x (by omega)]
      rw [this]
      cases p j <;> cases q j <;> simp
    · have := ih (by omega)
      rw [h n (fun q => e q.symm)]
      omega
theorem getD_set_same {α : Type} (l : List α) (i : Nat) (x d : α) (h : i < l.length) : (l.set i x).getD i d = x := by rw [List.getD_eq_getElem?_getD, List.getElem?_set_self h]; rfl
theorem getD_set_other {α : Type} (l : List α) (i k : Nat) (x d : α) (h : k ≠ i) : (l.set i x).getD k d = l.getD k d := by rw [List.getD_eq_getElem?_getD, List.getElem?_set_ne (fun q => h q.symm), List.getD_eq_getElem?_getD]
theorem getD_snoc_same {α : Type} (l : List α) (x d : α) : (l ++ [x]).getD l.length d = x := by rw [List.getD_eq_getElem?_getD, List.getElem?_append_right (Nat.le_refl _)]; simp
theorem getD_snoc_other {α : Type} (l : List α) (x d : α) (k : Nat) (h : k ≠ l.length) : (l ++ [x]).getD k d = l.getD k d := by
  rw [List.getD_eq_getElem?_getD, List.getD_eq_getElem?_getD]
  rcases Nat.lt_or_gt_of_ne h with c | c
  · rw [List.getElem?_append_left c]
  · rw [List.getElem?_eq_none (by simp; omega), List.getElem?_eq_none (by omega)]
theorem getD_some {α : Type} {l : List α} {i : Nat} {d x : α} (h : l[i]? = some x) : l.getD i d = x := by rw [List.getD_eq_getElem?_getD, h]; rfl
theorem getD_none {α : Type} {l : List α} {i : Nat} {d : α} (h : l.length ≤ i) : l.getD i d = d := by rw [List.getD_eq_getElem?_getD, List.getElem?_eq_none h]; rfl

theorem Stamp.new (n F : Nat) (h : 1 ≤ n) : Stamp (St.new n F) (fun _ => 0) 0 := by
  refine ⟨fun i => by simp [St.new], fun i => Nat.le_refl _, by simp [St.new], ?_⟩
  have : (List.range n).countP (free1 (St.new n F)) = n := by
    have h2 : (List.range n).countP (free1 (St.new n F)) = (List.range n).length := List.countP_eq_length.2 (fun a _ => by simp [free1, frb, St.new])
    rw [h2, List.length_range]
  show (List.range n).countP _ = _
  rw [this]; simp [St.room, St.new]
theorem Stamp.last {S : St} {f : Nat → Nat} {ck j : Nat} (h : Stamp S f ck) (hS : S.Ok) (hj : S.freed.getLast? = some j) : 0 < f j ∧ (∀ i, f i ≤ f j) ∧ (∀ i, f i = f j → i = j) := by
  have e := dropLast_of _ _ hj
  have hjm : j ∈ S.freed := by rw [e]; simp
  have hp := (h.pos j).2 hjm
  have hinc := h.inc
  rw [e, List.pairwise_append] at hinc
  have hlt : ∀ i, i ∈ S.freed.dropLast → f i < f j := fun i hi => hinc.2.2 i hi j (by simp)
  have hcase : ∀ i, i = j ∨ f i = 0 ∨ i ∈ S.freed.dropLast := by
    intro i
    by_cases hi : i ∈ S.freed
    · rw [e] at hi
      rcases List.mem_append.1 hi with hi | hi
      · exact .inr (.inr hi)
      · left; simpa using hi
    · right; left
      have := h.pos i
      rcases Nat.eq_zero_or_pos (f i) with z | z
      · exact z
      · exact absurd (this.1 z) hi
  refine ⟨hp, fun i => ?_, fun i hi => ?_⟩
  · rcases hcase i with rfl | c | c
    · exact Nat.le_refl _
    · omega
    · have := hlt i c; omega
  · rcases hcase i with rfl | c | c
    · rfl
    · omega
    · have := hlt i c; omega
theorem Stamp.none {S : St} {f : Nat → Nat} {ck : Nat} (h : Stamp S f ck) (hj : S.freed = []) (i : Nat) : f i = 0 := by
  have := h.pos i
  rw [hj] at this
  rcases Nat.eq_zero_or_pos (f i) with z | z
  · exact z
  · exact absurd (this.1 z) (by simp)
theorem Stamp.again {S : St} {f : Nat → Nat} {ck j : Nat} (h : Stamp S f ck) (hS : S.Ok) (hj : S.freed.getLast? = some j) : Stamp (S.again j) (updn f j 0) ck := by
  have e := dropLast_of _ _ hj
  have hm : j ∈ S.freed := by rw [e]; simp
  have hn := hS.nodup
  rw [e, List.nodup_append] at hn
  have hnj : j ∉ S.freed.dropLast := fun hc => hn.2.2 j hc j (by simp) rfl
  have hinc := h.inc
  rw [e, List.pairwise_append] at hinc
  obtain ⟨hu, x, hx, hg⟩ := hS.fr j hm
  have hlt := hS.lt hm
  have hle := hS.le
  have hlen : S.freed.length = S.freed.dropLast.length + 1 := by
    have := congrArg List.length e
    rw [List.length_append, List.length_singleton] at this; exact this
  refine ⟨fun i => ?_, fun i => ?_, ?_, ?_⟩
  · show 0 < updn f j 0 i ↔ i ∈ S.freed.dropLast
    by_cases c : i = j
    · subst c; rw [updn_same]; exact ⟨fun h => by omega, fun h => absurd h hnj⟩
    · rw [updn_other _ _ _ _ c, h.pos i]
      conv => lhs; rw [e]
      simp [c]
  · by_cases c : i = j
    · subst c; rw [updn_same]; exact Nat.zero_le _
    · rw [updn_other _ _ _ _ c]; exact h.le i
  · show S.freed.dropLast.Pairwise _
    refine List.Pairwise.imp_of_mem ?_ hinc.1
    intro a b ha hb hab
    rw [updn_other _ _ _ _ (fun q => hnj (by rw [← q]; exact ha)), updn_other _ _ _ _ (fun q => hnj (by rw [← q]; exact hb))]
    exact hab
  · have hc := countP_upd (free1 S) (free1 (S.again j)) S.n j (by omega) (fun i hi => by
      simp only [free1, St.again]; rw [getD_set_other _ _ _ _ _ hi, getD_set_other _ _ _ _ _ hi])
    have h1 : free1 S j = true := by simp only [free1]; rw [getD_some hu, getD_some hx]; simp [frb, hg]
    have h2 : free1 (S.again j) j = false := by simp only [free1, St.again]; rw [getD_set_same _ _ _ _ (by rw [hS.ul]; exact hlt)]; simp [frb]
    rw [h1, h2, h.room] at hc
    show (List.range S.n).countP _ = _
    simp [St.room, St.again] at hc ⊢
    omega
theorem Stamp.more {S : St} {f : Nat → Nat} {ck : Nat} (h : Stamp S f ck) (hS : S.Ok) (hl : S.last.length < S.n) : Stamp S.more f ck := by
  refine ⟨h.pos, h.le, h.inc, ?_⟩
  have hc := countP_upd (free1 S) (free1 S.more) S.n S.last.length hl (fun i hi => by
      simp only [free1, St.more]; rw [getD_snoc_other _ _ _ _ hi, getD_snoc_other _ _ _ _ (by rw [hS.ul]; exact hi)])
  have h1 : free1 S S.last.length = true := by simp only [free1]; rw [getD_none (Nat.le_refl _), getD_none (by rw [hS.ul]; exact Nat.le_refl _)]; simp [frb]
  have h2 : free1 S.more S.last.length = false := by
    simp only [free1, St.more]
    have : (S.used ++ [true]).getD S.last.length false = true := by rw [← hS.ul]; exact getD_snoc_same _ _ _
    rw [this]; simp [frb]
  rw [h1, h2, h.room] at hc
  show (List.range S.n).countP _ = _
  simp [St.room, St.more] at hc ⊢
  omega
theorem Stamp.less {S : St} {f : Nat → Nat} {ck id : Nat} (h : Stamp S f ck) (hS : S.Ok) (hl : S.isLive id = true) :
    (id / 1024 < 4194303 → Stamp (S.less id) (updn f (id % 1024) (ck + 1)) (ck + 1)) ∧ (¬ id / 1024 < 4194303 → Stamp (S.less id) f ck) := by
  obtain ⟨hu, hx⟩ := (S.isLive_iff hS id).1 hl
  have hlu : id % 1024 < S.used.length := (List.getElem?_eq_some_iff.1 hu).1
  have hul := hS.ul
  have hle := hS.le
  have hnf : id % 1024 ∉ S.freed := by
    intro hm
    have := (hS.fr _ hm).1
    rw [hu] at this; cases this
  have hc := countP_upd (free1 S) (free1 (S.less id)) S.n (id % 1024) (by omega) (fun i hi => by
      simp only [free1, St.less]; rw [getD_set_other _ _ _ _ _ hi])
  have h1 : free1 S (id % 1024) = false := by simp only [free1]; rw [getD_some hu]; simp [frb]
  have h2 : free1 (S.less id) (id % 1024) = decide (id / 1024 < 4194303) := by
    simp only [free1, St.less]; rw [getD_set_same _ _ _ _ hlu, getD_some hx]; simp [frb]
  have hcnt := hS.cnt
  rw [h1, h2, h.room] at hc
  constructor
  · intro hg
    have hfr : (S.less id).freed = S.freed ++ [id % 1024] := by simp only [St.less]; rw [if_pos hg]
    refine ⟨fun i => ?_, fun i => ?_, ?_, ?_⟩
    · rw [hfr]
      by_cases c : i = id % 1024
      · subst c; rw [updn_same]; simp
      · rw [updn_other _ _ _ _ c, h.pos i]; simp [c]
    · by_cases c : i = id % 1024
      · subst c; rw [updn_same]; exact Nat.le_refl _
      · rw [updn_other _ _ _ _ c]; exact Nat.le_succ_of_le (h.le i)
    · rw [hfr, List.pairwise_append]
      refine ⟨?_, by simp, ?_⟩
      · refine List.Pairwise.imp_of_mem ?_ h.inc
        intro a b ha hb hab
        rw [updn_other _ _ _ _ (fun q => hnf (by rw [← q]; exact ha)), updn_other _ _ _ _ (fun q => hnf (by rw [← q]; exact hb))]
        exact hab
      · intro a ha b hb
        simp at hb
        subst hb
        rw [updn_same, updn_other _ _ _ _ (fun q => hnf (by rw [← q]; exact ha))]
        exact Nat.lt_succ_of_le (h.le a)
    · show (List.range S.n).countP _ = _
      unfold St.room at hc ⊢
      rw [hfr]
      simp [hg] at hc
      show _ = (S.freed ++ [id % 1024]).length + S.n - S.last.length
      rw [List.length_append, List.length_singleton]
      omega
  · intro hg
    have hfr : (S.less id).freed = S.freed := by simp only [St.less]; rw [if_neg hg]
    refine ⟨fun i => by rw [hfr]; exact h.pos i, h.le, by rw [hfr]; exact h.inc, ?_⟩
    show (List.range S.n).countP _ = _
    unfold St.room at hc ⊢
    rw [hfr]
    simp [hg] at hc
    show _ = S.freed.length + S.n - S.last.length
    omega

theorem Tryz.infoOne : (Tryz.prog.info? 132).map (fun i => (i.zero, i.size, i.bytes)) = some (some (.agg #[.int .i64 0, .bool false, .int .i64 0]), 3, 24) := by kernel_rfl

theorem made_one (n F : Nat) : (madeCells #[.int .i64 0, .bool false, .int .i64 0] (n * 3)).toList = flat 3 n (one (St.new n F) (fun _ => 0)) := by
  apply List.ext_getElem?
  intro k
  rw [getElem?_flat]
  by_cases hk : k < n * 3
  · rw [if_pos hk]
    have c : k % 3 = 0 ∨ k % 3 = 1 ∨ k % 3 = 2 := by omega
    rcases c with c | c | c <;> simp [madeCells, hk, one, St.new, c]
  · rw [if_neg hk]; simp [madeCells]; omega

set_option maxHeartbeats 400000 in
set_option maxRecDepth 100000 in
theorem rnew_ok (w0 w : World) (l : List Thing) (n F : Nat) (h : Own w0 w l) (h1 : 1 ≤ n) (h2 : n ≤ 1024) (h3 : 1 ≤ F) (h4 : (F : Int) ≤ 4194303) :
    Calls Tryz.prog 26 #[.int .i64 (n : Int), .int .i64 (F : Int)] w fun e w' => ∃ c, e = .returned (.tuple #[.pointer (some ⟨c, 0, none⟩), .int .i64 0]) ∧ Own w0 w' (RSlots c (St.new n F) (fun _ => 0) 0 :: l) := by
  obtain ⟨i0, hi, hz0, hz1, hz2⟩ := info_parts Tryz.infoOne
  obtain ⟨w1, hmk, hO, hf, hlt⟩ := h.madeRow (P := Tryz.prog) 122 132 i0 (.agg #[.int .i64 0, .bool false, .int .i64 0]) 3 Tryz.underlying122 hi hz0 hz1 n (by rw [hz2]; omega) (by unfold maxLen; omega)
  have H : Hid (Own w0 w1 _) := hO
  clear hO hf h
  go_enter Tryz.func26, Tryz.ntmps26
  go_wp2
  go_ret2
  refine ⟨_, rfl, Own.ex_iff.2 ⟨(w.heap.size, n), ?_⟩⟩
  have k := H.out.allocC #[.int .i64 (F : Int), .slice (some ⟨w.heap.size, 0, none⟩) n n, .int .i64 0] 124
  have e1 := made_one n F
  have e2 : Value.cells (.agg #[.int .i64 0, .bool false, .int .i64 0]) = #[.int .i64 0, .bool false, .int .i64 0] := by rfl
  rw [e2, e1] at k
  exact k
set_option maxHeartbeats 400000 in
theorem rnew_no (w : World) (n f : Int) (h : n < 1 ∨ 1024 < n ∨ f < 1 ∨ 4194303 < f) : Calls Tryz.prog 26 #[.int .i64 n, .int .i64 f] w fun e w' => e = .returned (.tuple #[.pointer none, .int .i64 1]) ∧ w' = w := by
  by_cases c1 : n < 1
  · go_enter Tryz.func26, Tryz.ntmps26
    go_wp2
    go_ret2
    exact ⟨rfl, rfl⟩
  · by_cases c2 : 1024 < n
    · go_enter Tryz.func26, Tryz.ntmps26
      go_wp2
      go_ret2
      exact ⟨rfl, rfl⟩
    · by_cases c3 : f < 1
      · go_enter Tryz.func26, Tryz.ntmps26
        go_wp2
        go_ret2
        exact ⟨rfl, rfl⟩
      · have c4 : 4194303 < f := by omega
        go_enter Tryz.func26, Tryz.ntmps26
        go_wp2
        go_ret2
        exact ⟨rfl, rfl⟩
end Go.Proofs.YtibdgdbkdnifbaaGreatDoor

/-
  The document's Live and List of slots, and Same.
-/
namespace Go.Proofs.YtibdgdbkdnifbaaGreatDoor
open Go.RowKit
set_option linter.unusedVariables false

def tst (S : St) (id k : Nat) : Bool := S.used.getD k false && (decide (k = id % 1024) && decide (S.last.getD k 0 / 1024 = id / 1024))
theorem tst_live {S : St} (hS : S.Ok) (id k : Nat) (h : tst S id k = true) : S.isLive id = true := by
  unfold tst at h
  simp only [Bool.and_eq_true, decide_eq_true_eq] at h
  obtain ⟨hu, rfl, hg⟩ := h
  have hlt : id % 1024 < S.used.length := by
    rcases Nat.lt_or_ge (id % 1024) S.used.length with c | c
    · exact c
    · rw [getD_none c] at hu; cases hu
  obtain ⟨x, hx⟩ : ∃ x, S.last[id % 1024]? = some x := ⟨_, List.getElem?_eq_getElem (by rw [← hS.ul]; exact hlt)⟩
  obtain ⟨u, hu'⟩ : ∃ u, S.used[id % 1024]? = some u := ⟨_, List.getElem?_eq_getElem hlt⟩
  rw [getD_some hu'] at hu
  rw [getD_some hx] at hg
  have := hS.id _ _ hx
  rw [St.isLive_iff hS]
  exact ⟨by rw [hu', hu], by rw [hx]; congr 1; omega⟩
theorem live_tst {S : St} (hS : S.Ok) (id : Nat) (h : S.isLive id = true) : tst S id (id % 1024) = true ∧ id % 1024 < S.n := by
  obtain ⟨a, b⟩ := (S.isLive_iff hS id).1 h
  refine ⟨?_, ?_⟩
  · unfold tst; rw [getD_some a, getD_some b]; simp
  · have := (List.getElem?_eq_some_iff.1 b).1; have := hS.le; omega

set_option maxHeartbeats 1000000 in
set_option maxRecDepth 100000 in
theorem rlive_ok (w0 w : World) (l : List Thing) (c : Nat) (S : St) (f : Nat → Nat) (ck id : Nat) (h : Own w0 w (RSlots c S f ck :: l)) (hS : S.Ok) (hid : id < 4294967296) :
    Calls Tryz.prog 77 #[.pointer (some ⟨c, 0, none⟩), .int .u32 (id : Int)] w fun e w' => e = .returned (.bool (S.isLive id)) ∧ Own w0 w' (RSlots c S f ck :: l) := by
  obtain ⟨⟨g, cp⟩, h⟩ := Own.ex_iff.1 h
  have q1 := h.cell 1
  have hn := hS.n2
  simp at q1
  have H : Hid (Own w0 w (Cells c #[.int .i64 (S.first : Int), .slice (some ⟨g, 0, none⟩) S.n cp, .int .i64 (ck : Int)] 124 :: Row 132 3 (.slice (some ⟨g, 0, none⟩) S.n cp) S.n (flat 3 S.n (one S f)) :: l)) := h
  have HS : Hid S.Ok := hS
  clear h hS
  go_enter Tryz.func77, Tryz.ntmps77
  go_wp2
  go_loopw [14] (fun cc wr => ∃ k : Nat, k ≤ S.n ∧ cc = .int .i64 k ∧ (∀ i, i < k → tst S id i = false) ∧ Own w0 wr (Cells c #[.int .i64 (S.first : Int), .slice (some ⟨g, 0, none⟩) S.n cp, .int .i64 (ck : Int)] 124 :: Row 132 3 (.slice (some ⟨g, 0, none⟩) S.n cp) S.n (flat 3 S.n (one S f)) :: l)) (fun cc _ => S.n - (intOf cc).toNat)
  case atStart => exact ⟨0, Nat.zero_le _, rfl, fun i hi => by omega, H.out⟩
  case round =>
    obtain ⟨k, hk, rfl, hno, hO⟩ := hrel
    have HN : Hid (∀ i, i < k → tst S id i = false) := hno
    clear hno H q1
    by_cases hlt : k < S.n
    · have c0 : wr.cell? ⟨g, k * 3, none⟩ = some (.int .i64 ((S.last.getD k 0 / 1024 : Nat) : Int)) := hO.two.fcell k 0 hlt (by decide) _ (by omega)
      have c1 : wr.cell? ⟨g, k * 3 + 1, none⟩ = some (.bool (S.used.getD k false)) := hO.two.fcell k 1 hlt (by decide) _ (by omega)
      have c2 : wr.cell? ⟨g, k * 3 + 2, none⟩ = some (.int .i64 (f k : Int)) := hO.two.fcell k 2 hlt (by decide) _ (by omega)
      have HO : Hid (Own w0 wr _) := hO
      have HT : Hid (tst S id k = (S.used.getD k false && (decide (k = id % 1024) && decide (S.last.getD k 0 / 1024 = id / 1024)))) := rfl
      have HR : Hid (tst S id k = false → ∀ i, i < k + 1 → tst S id i = false) := by
        intro ht i hi
        by_cases e : i = k
        · rw [e]; exact ht
        · exact HN.out i (by omega)
      clear hO HN
      have HSl : Hid (∀ w', Calls Tryz.prog 78 #[.int .u32 (id : Int)] w' fun e w'' => e = .returned (.int .i64 ((id % 1024 : Nat) : Int)) ∧ w'' = w') := fun w' => rslot_any id w' hid
      have HGn : Hid (∀ w', Calls Tryz.prog 101 #[.int .u32 (id : Int)] w' fun e w'' => e = .returned (.int .i64 ((id / 1024 : Nat) : Int)) ∧ w'' = w') := fun w' => rgen_any id w' hid
      have HL : Hid (tst S id k = true → S.isLive id = true) := fun h => tst_live HS.out id k h
      generalize S.used.getD k false = u at *
      generalize S.last.getD k 0 / 1024 = gn at *
      generalize id % 1024 = m at *
      generalize id / 1024 = gi at *
      cases u
      · go_wp2
        go_quiet (fail)
        go_wp2
        go_roundw
        case rel => exact ⟨k + 1, by omega, by go_num, HR.out (by rw [HT.out]; rfl), (HO.out.alloc _).drewN _⟩
        case measure => simp [intOf]; omega
      · by_cases hm : k = m
        · subst hm
          by_cases hg : gn = gi
          · subst hg
            have HE : Hid (S.isLive id = true) := HL.out (by rw [HT.out]; simp)
            go_wp2
            go_quiet ((first | (go_at_call 78; exact Calls.quiet_of_same (HSl.out _)) | (go_at_call 101; exact Calls.quiet_of_same (HGn.out _))))
            go_wp2
            go_ret
            exact ⟨by rw [HE.out]; rfl, Own.ex_iff.2 ⟨(g, cp), (HO.out.alloc _).drewN _⟩⟩
          · have hgb : ((gn : Int) == (gi : Int)) = false := by simp; omega
            go_wp2
            go_quiet ((first | (go_at_call 78; exact Calls.quiet_of_same (HSl.out _)) | (go_at_call 101; exact Calls.quiet_of_same (HGn.out _))))
            go_wp2
            go_roundw
            case rel => exact ⟨k + 1, by omega, by go_num, HR.out (by rw [HT.out]; simp [hg]), (HO.out.alloc _).drewN _⟩
            case measure => simp [intOf]; omega
        · have hmb : ((k : Int) == (m : Int)) = false := by simp; omega
          go_wp2
          go_quiet ((first | (go_at_call 78; exact Calls.quiet_of_same (HSl.out _)) | (go_at_call 101; exact Calls.quiet_of_same (HGn.out _))))
          go_wp2
          go_roundw
          case rel => exact ⟨k + 1, by omega, by go_num, HR.out (by rw [HT.out]; simp [hm]), (HO.out.alloc _).drewN _⟩
          case measure => simp [intOf]; omega
    · have ek : k = S.n := by omega
      have HE : Hid (S.isLive id = false) := by
        show _ = _
        cases hc : S.isLive id with
        | false => rfl
        | true =>
          obtain ⟨a, b⟩ := live_tst HS.out id hc
          rw [HN.out _ (by omega)] at a; cases a
      have HO : Hid (Own w0 wr _) := hO
      clear hO ek
      go_wp2
      go_ret
      exact ⟨by rw [HE.out]; rfl, Own.ex_iff.2 ⟨(g, cp), HO.out⟩⟩
set_option maxHeartbeats 400000 in
theorem rlive_nil (w : World) (id : Int) : Calls Tryz.prog 77 #[.pointer none, .int .u32 id] w fun e w' => e = .returned (.bool false) ∧ w' = w := by
  go_enter Tryz.func77, Tryz.ntmps77
  go_wp2
  go_ret
  exact ⟨rfl, rfl⟩
end Go.Proofs.YtibdgdbkdnifbaaGreatDoor

/-
  The document's List of slots, and Same.
-/
namespace Go.Proofs.YtibdgdbkdnifbaaGreatDoor
open Go.RowKit
set_option linter.unusedVariables false

def rl (S : St) (k : Nat) : List Nat := pick (S.last.take k) (S.used.take k)
theorem rl_all {S : St} (hS : S.Ok) : rl S S.n = S.list := by
  have h1 := hS.le
  have h2 := hS.ul
  unfold rl St.list; rw [List.take_of_length_le h1, List.take_of_length_le (by omega)]
theorem rl_le (S : St) (k : Nat) : (rl S k).length ≤ k := by
  have := pick_le (S.last.take k) (S.used.take k)
  rw [List.length_take] at this
  unfold rl; omega
theorem rl_yes {S : St} (hS : S.Ok) (k : Nat) (h : S.used.getD k false = true) : rl S (k + 1) = rl S k ++ [S.last.getD k 0] ∧ S.last.getD k 0 / 1024 * 1024 + k = S.last.getD k 0 ∧ 1 ≤ S.last.getD k 0 / 1024 ∧ S.last.getD k 0 < 4294967296 := by
  have hlt : k < S.used.length := by
    rcases Nat.lt_or_ge k S.used.length with c | c
    · exact c
    · rw [getD_none c] at h; cases h
  obtain ⟨x, hx⟩ : ∃ x, S.last[k]? = some x := ⟨_, List.getElem?_eq_getElem (by rw [← hS.ul]; exact hlt)⟩
  obtain ⟨u, hu⟩ : ∃ u, S.used[k]? = some u := ⟨_, List.getElem?_eq_getElem hlt⟩
  rw [getD_some hu] at h
  subst h
  have := hS.id k x hx
  rw [getD_some hx]
  refine ⟨?_, by omega, by omega, by omega⟩
  unfold rl; rw [pick_step S hS k x true hx hu]; rfl
theorem rl_no {S : St} (hS : S.Ok) (k : Nat) (h : S.used.getD k false = false) : rl S (k + 1) = rl S k := by
  unfold rl
  rcases Nat.lt_or_ge k S.used.length with c | c
  · obtain ⟨x, hx⟩ : ∃ x, S.last[k]? = some x := ⟨_, List.getElem?_eq_getElem (by rw [← hS.ul]; exact c)⟩
    obtain ⟨u, hu⟩ : ∃ u, S.used[k]? = some u := ⟨_, List.getElem?_eq_getElem c⟩
    rw [getD_some hu] at h
    subst h
    rw [pick_step S hS k x false hx hu]; simp
  · have := hS.ul
    rw [List.take_of_length_le (by omega), List.take_of_length_le (by omega), List.take_of_length_le (by omega), List.take_of_length_le c]
def rr (S : St) (k : Nat) : Nat := (List.range k).countP (free1 S)
theorem rr_succ (S : St) (k : Nat) : rr S (k + 1) = rr S k + (free1 S k).toNat := by
  unfold rr; rw [List.range_succ, List.countP_append]; simp only [List.countP_singleton]; cases free1 S k <;> rfl
theorem rr_le (S : St) (k : Nat) : rr S k ≤ k := by
  unfold rr
  have : (List.range k).countP (free1 S) ≤ (List.range k).length := List.countP_le_length
  rw [List.length_range] at this; exact this

theorem free1_t (S : St) (k : Nat) (hu : S.used.getD k false = false) (hg : S.last.getD k 0 / 1024 < 4194303) : free1 S k = true := by unfold free1; rw [hu]; unfold frb; rw [decide_eq_true hg]; rfl
theorem free1_f (S : St) (k : Nat) (hu : S.used.getD k false = false) (hg : ¬ S.last.getD k 0 / 1024 < 4194303) : free1 S k = false := by unfold free1; rw [hu]; unfold frb; rw [decide_eq_false hg]; rfl
theorem free1_u (S : St) (k : Nat) (hu : S.used.getD k false = true) : free1 S k = false := by unfold free1; rw [hu]; rfl

set_option maxHeartbeats 2000000 in
set_option maxRecDepth 100000 in
theorem rlist_ok (w0 w : World) (l : List Thing) (c : Nat) (S : St) (f : Nat → Nat) (ck : Nat) (h : Own w0 w (RSlots c S f ck :: l)) (hS : S.Ok) :
    Calls Tryz.prog 54 #[.pointer (some ⟨c, 0, none⟩)] w fun e w' => ∃ v, e = .returned (.tuple #[v, .int .i64 (rr S S.n : Int)]) ∧ Own w0 w' (Row 32 1 v S.list.length (irow .u32 S.list) :: RSlots c S f ck :: l) := by
  obtain ⟨⟨g, cp⟩, h⟩ := Own.ex_iff.1 h
  have q1 := h.cell 1
  have hn := hS.n2
  simp at q1
  obtain ⟨i0, hi, hz0, hz1, hz2⟩ := info_parts Tryz.infoID
  have H : Hid (Own w0 w (Row 32 1 (.slice none 0 0) 0 [] :: Cells c #[.int .i64 (S.first : Int), .slice (some ⟨g, 0, none⟩) S.n cp, .int .i64 (ck : Int)] 124 :: Row 132 3 (.slice (some ⟨g, 0, none⟩) S.n cp) S.n (flat 3 S.n (one S f)) :: l)) := h.nilRow _ _
  have HS : Hid S.Ok := hS
  clear h hS
  go_enter Tryz.func54, Tryz.ntmps54
  go_wp2
  go_loopw [4, 5, 17] (fun lv rm cc wr => ∃ k : Nat, k ≤ S.n ∧ cc = .int .i64 k ∧ rm = .int .i64 (rr S k : Int) ∧ ∃ ao cap, lv = .slice ao (rl S k).length cap ∧ Own w0 wr (Row 32 1 (.slice ao (rl S k).length cap) (rl S k).length (irow .u32 (rl S k)) :: Cells c #[.int .i64 (S.first : Int), .slice (some ⟨g, 0, none⟩) S.n cp, .int .i64 (ck : Int)] 124 :: Row 132 3 (.slice (some ⟨g, 0, none⟩) S.n cp) S.n (flat 3 S.n (one S f)) :: l)) (fun _ _ cc _ => S.n - (intOf cc).toNat)
  case atStart => exact ⟨0, Nat.zero_le _, rfl, rfl, none, 0, rfl, H.out⟩
  case round =>
    obtain ⟨k, hk, rfl, rfl, ao, cap, rfl, hO⟩ := hrel
    have hrr := rr_le S k
    have hrl := rl_le S k
    clear H q1
    by_cases hlt : k < S.n
    · have c0 : wr.cell? ⟨g, k * 3, none⟩ = some (.int .i64 ((S.last.getD k 0 / 1024 : Nat) : Int)) := hO.three.fcell k 0 hlt (by decide) _ (by omega)
      have c1 : wr.cell? ⟨g, k * 3 + 1, none⟩ = some (.bool (S.used.getD k false)) := hO.three.fcell k 1 hlt (by decide) _ (by omega)
      have c2 : wr.cell? ⟨g, k * 3 + 2, none⟩ = some (.int .i64 (f k : Int)) := hO.three.fcell k 2 hlt (by decide) _ (by omega)
      have HO : Hid (Own w0 wr _) := hO
      clear hO
      cases hu : S.used.getD k false with
      | false =>
        have HL : Hid (rl S (k + 1) = rl S k) := rl_no HS.out k hu
        rw [hu] at c1
        by_cases hg : S.last.getD k 0 / 1024 < 4194303
        · have HR : Hid (rr S (k + 1) = rr S k + 1) := by rw [rr_succ, free1_t S k hu hg]; rfl
          obtain ⟨gn, hgn⟩ : ∃ gn : Int, gn = ((S.last.getD k 0 / 1024 : Nat) : Int) := ⟨_, rfl⟩
          have hg' : gn < 4194303 := by omega
          rw [← hgn] at c0
          clear hg hgn hu
          generalize rr S k = rk at *
          generalize rl S k = lk at *
          go_wp2
          go_roundw
          case rel => exact ⟨k + 1, by omega, by go_num, by rw [HR.out]; go_num, ao, cap, by rw [HL.out], by rw [HL.out]; exact HO.out.alloc _⟩
          case measure => simp [intOf]; omega
        · have HR : Hid (rr S (k + 1) = rr S k) := by rw [rr_succ, free1_f S k hu hg]; rfl
          obtain ⟨gn, hgn⟩ : ∃ gn : Int, gn = ((S.last.getD k 0 / 1024 : Nat) : Int) := ⟨_, rfl⟩
          have hg' : ¬ gn < 4194303 := by omega
          rw [← hgn] at c0
          clear hg hgn hu
          generalize rr S k = rk at *
          generalize rl S k = lk at *
          go_wp2
          go_roundw
          case rel => exact ⟨k + 1, by omega, by go_num, by rw [HR.out], ao, cap, by rw [HL.out], by rw [HL.out]; exact HO.out.alloc _⟩
          case measure => simp [intOf]; omega
      | true =>
        obtain ⟨e1, e2, e3, e4⟩ := rl_yes HS.out k hu
        have HL : Hid (rl S (k + 1) = rl S k ++ [S.last.getD k 0]) := e1
        have HR : Hid (rr S (k + 1) = rr S k) := by rw [rr_succ, free1_u S k hu]; rfl
        rw [hu] at c1
        have HM : Hid (∀ w', Calls Tryz.prog 68 #[.int .i64 (k : Int), .int .i64 ((S.last.getD k 0 / 1024 : Nat) : Int)] w' fun e w'' => e = .returned (.tuple #[.int .u32 (S.last.getD k 0 : Int), .int .i64 0]) ∧ w'' = w') := by
          intro w'
          have := rmake_yes k (S.last.getD k 0 / 1024) w' (by omega) e3 (by omega)
          rw [e2] at this; exact this
        clear e1 e2 e3 e4 hu
        generalize rr S k = rk at *
        generalize rl S k = lk at *
        generalize S.last.getD k 0 / 1024 = gn at *
        generalize S.last.getD k 0 = x at *
        go_wp2_with (first | (go_at_call 68; refine (HM.out _).mono ?_; rintro e w' ⟨rfl, hw⟩; subst hw) | (at_builtin; refine append1_own rfl _ _ 33 rfl 32 i0 (.int .u32 0) 1 4 Tryz.underlying33 hi hz0 hz1 hz2 rfl (by decide) _ _ _ rfl (HO.out.alloc _) _ _ (by simp) rfl rfl (one_int _ _) (by unfold maxLen; omega) (by omega) ?_))
        intro g' cap' w2 hO2 hsz
        have H2 : Hid (Own w0 w2 _) := hO2
        clear hO2 HO
        go_wp2
        go_roundw
        case rel => exact ⟨k + 1, by omega, by go_num, by rw [HR.out], _, cap', by rw [HL.out]; simp; rfl, by rw [HL.out]; simpa [irow] using H2.out⟩
        case measure => simp [intOf]; omega
    · have ek : k = S.n := by omega
      subst ek
      have HL : Hid (rl S S.n = S.list) := rl_all HS.out
      have HO : Hid (Own w0 wr _) := hO
      clear hO
      go_wp2
      go_ret2
      refine ⟨_, rfl, ?_⟩
      have := HO.out
      rw [HL.out] at this ⊢
      exact Own.ex2.2 ⟨(g, cp), this⟩
set_option maxHeartbeats 400000 in
theorem rlist_nil (w : World) : Calls Tryz.prog 54 #[.pointer none] w fun e w' => e = .returned (.tuple #[.slice none 0 0, .int .i64 0]) ∧ w' = w := by
  go_enter Tryz.func54, Tryz.ntmps54
  go_wp2
  go_ret2
  exact ⟨rfl, rfl⟩
end Go.Proofs.YtibdgdbkdnifbaaGreatDoor

/-
  Same of two lists of IDs; the document's Free and Take of slots.
-/
namespace Go.Proofs.YtibdgdbkdnifbaaGreatDoor
open Go.RowKit
set_option linter.unusedVariables false

/-- a slice that can be read: these numbers -/
theorem flat_set3 (n : Nat) (g g' : Nat → Nat → Value) (j : Nat) (h : ∀ a b, a ≠ j → g' a b = g a b) : flat 3 n g' = (((flat 3 n g).set (j * 3) (g' j 0)).set (j * 3 + 1) (g' j 1)).set (j * 3 + 2) (g' j 2) := by
  have e1 := flat_set 3 n g (fun a b => if a = j ∧ b = 0 then g' j 0 else g a b) j 0 (by decide) (by decide) (fun a b _ _ hn => by simp only [if_neg hn])
  have e2 := flat_set 3 n (fun a b => if a = j ∧ b = 0 then g' j 0 else g a b) (fun a b => if a = j ∧ b ≤ 1 then g' j b else g a b) j 1 (by decide) (by decide) (fun a b _ _ hn => by
    by_cases c : a = j
    · subst c
      by_cases c0 : b = 0
      · subst c0; simp
      · simp only [true_and] at hn ⊢; rw [if_neg (by omega), if_neg c0]
    · simp [c])
  have e3 := flat_set 3 n (fun a b => if a = j ∧ b ≤ 1 then g' j b else g a b) g' j 2 (by decide) (by decide) (fun a b _ hb hn => by
    by_cases c : a = j
    · subst c
      simp only [true_and] at hn ⊢; rw [if_pos (by omega)]
    · simp [c, h a b c])
  rw [e3, e2, e1]
  simp

theorem one_less (S : St) (f : Nat → Nat) (id m : Nat) (hm : m = id % 1024) (hus : m < S.used.length) : flat 3 S.n (one (S.less id) f) = (flat 3 S.n (one S f)).set (m * 3 + 1) (.bool false) := by
  have e1 : one (S.less id) f m 1 = .bool false := by simp only [one, St.less]; rw [← hm, getD_set_same _ _ _ _ hus]; rfl
  rw [← e1]
  refine flat_set 3 S.n (one S f) (one (S.less id) f) m 1 (by decide) (by decide) ?_
  intro a b _ _ hn
  unfold one
  by_cases c0 : b = 0
  · subst c0; rfl
  · by_cases c1 : b = 1
    · subst c1; simp only [St.less]; rw [getD_set_other _ _ _ _ _ (by rw [← hm]; exact fun q => hn ⟨q, rfl⟩)]
    · rw [if_neg c0, if_neg c1, if_neg c0, if_neg c1]
theorem one_upd (S : St) (n : Nat) (f : Nat → Nat) (m x : Nat) : flat 3 n (one S (updn f m x)) = (flat 3 n (one S f)).set (m * 3 + 2) (.int .i64 (x : Int)) := by
  have e1 : one S (updn f m x) m 2 = .int .i64 (x : Int) := by unfold one; rw [if_neg (by decide), if_neg (by decide), updn_same]
  rw [← e1]
  refine flat_set 3 n (one S f) (one S (updn f m x)) m 2 (by decide) (by decide) ?_
  intro a b _ hb hn
  unfold one
  by_cases c0 : b = 0
  · rw [if_pos c0, if_pos c0]
  · by_cases c1 : b = 1
    · rw [if_neg c0, if_pos c1, if_neg c0, if_pos c1]
    · rw [if_neg c0, if_neg c1, if_neg c0, if_neg c1, updn_other _ _ _ _ (fun q => hn ⟨q, by omega⟩)]

set_option maxHeartbeats 2000000 in
set_option maxRecDepth 100000 in
theorem rfree_ok (w0 w : World) (l : List Thing) (c : Nat) (S : St) (f : Nat → Nat) (ck id : Nat) (h : Own w0 w (RSlots c S f ck :: l)) (hS : S.Ok) (hT : Stamp S f ck) (hid : id < 4294967296) (hck : ck ≤ 1000000) :
    Calls Tryz.prog 39 #[.pointer (some ⟨c, 0, none⟩), .int .u32 (id : Int)] w fun e w' => e = .returned (.int .i64 (S.free id).1) ∧ ∃ f' ck', ck' ≤ ck + 1 ∧ Stamp (S.free id).2 f' ck' ∧ Own w0 w' (RSlots c (S.free id).2 f' ck' :: l) := by
  have HL := rlive_ok w0 w l c S f ck id h hS hid
  have hn := hS.n2
  unfold St.free
  by_cases hlive : S.isLive id = true
  · rw [if_pos hlive]
    rw [hlive] at HL
    have hle := hT.less hS hlive
    obtain ⟨hu, hx⟩ := (S.isLive_iff hS id).1 hlive
    have hlu : id % 1024 < S.n := by have := (List.getElem?_eq_some_iff.1 hx).1; have := hS.le; omega
    have hus : id % 1024 < S.used.length := (List.getElem?_eq_some_iff.1 hu).1
    obtain ⟨m, hm⟩ : ∃ m, m = id % 1024 := ⟨_, rfl⟩
    obtain ⟨gg, hgg⟩ : ∃ gg : Int, gg = ((id / 1024 : Nat) : Int) := ⟨_, rfl⟩
    rw [← hm] at hlu hus hle
    have HLV : Hid (Calls _ _ _ _ _) := HL
    have HX : Hid (S.last.getD m 0 = id) := by rw [hm]; exact getD_some hx
    have HU : Hid (S.used.getD m false = true) := by rw [hm]; exact getD_some hu
    have H1 : Hid (flat 3 S.n (one (S.less id) f) = (flat 3 S.n (one S f)).set (m * 3 + 1) (.bool false)) := one_less S f id m hm hus
    have HSl : Hid (∀ w', Calls Tryz.prog 78 #[.int .u32 (id : Int)] w' fun e w'' => e = .returned (.int .i64 (m : Int)) ∧ w'' = w') := by intro w'; have := rslot_any id w' hid; rw [← hm] at this; exact this
    have hlu' : (m : Int) < (S.n : Int) := by omega
    by_cases hg : id / 1024 < 4194303
    · have hg' : gg < 4194303 := by omega
      have HST : Hid (Stamp (S.less id) (updn f m (ck + 1)) (ck + 1)) := hle.1 hg
      have HGG : Hid (gg = ((id / 1024 : Nat) : Int)) := hgg
      clear HL hle hlive hT h hu hx hS hg hgg hm hus
      go_enter Tryz.func39, Tryz.ntmps39
      go_wp2_with fail
      refine HLV.out.mono ?_
      rintro e w1 ⟨rfl, hO⟩
      obtain ⟨⟨g, cp⟩, hO⟩ := Own.ex_iff.1 hO
      have q1 := hO.cell 1
      have q2 := hO.cell 2
      have z2 := hO.froz 2
      have d := hO.ne
      have hgc : g ≠ c := fun q => d (by rw [q]; rfl)
      have p0 : w1.cell? ⟨g, m * 3, none⟩ = some (.int .i64 gg) := by
        have := hO.two.fcell m 0 hlu (by decide) (m * 3) (by omega)
        rw [this, HGG.out]; unfold one; rw [if_pos rfl, HX.out]
      have p1 : w1.cell? ⟨g, m * 3 + 1, none⟩ = some (.bool (S.used.getD m false)) := hO.two.fcell m 1 hlu (by decide) (m * 3 + 1) (by omega)
      have p2 : w1.cell? ⟨g, m * 3 + 2, none⟩ = some (.int .i64 (f m : Int)) := hO.two.fcell m 2 hlu (by decide) (m * 3 + 2) (by omega)
      have y1 : w1.frozen? ⟨g, m * 3 + 1, none⟩ = false := hO.two.ffroz _
      have y2 : w1.frozen? ⟨g, m * 3 + 2, none⟩ = false := hO.two.ffroz _
      simp at q1 q2
      rw [HU.out] at p1
      have HO : Hid (Own w0 w1 _) := hO
      clear hO d HLV
      go_wp2_with (first | (go_at_call 78; refine (HSl.out _).mono ?_; rintro e w' ⟨rfl, hw⟩; subst hw))
      go_region
      go_wp2
      go_ret
      refine ⟨rfl, updn f m (ck + 1), ck + 1, Nat.le_refl _, HST.out, Own.ex_iff.2 ⟨(g, cp), ?_⟩⟩
      have k := ((((HO.out.two.setR (m * 3 + 1) (.bool false)).two.setC 2 (.int .i64 ((ck : Int) + 1))).two.setR (m * 3 + 2) (.int .i64 ((ck : Int) + 1))).two)
      have e2 := one_upd (S.less id) S.n f m (ck + 1)
      rw [H1.out] at e2
      show Own w0 _ (Cells c #[.int .i64 (S.first : Int), .slice (some ⟨g, 0, none⟩) S.n cp, .int .i64 ((ck + 1 : Nat) : Int)] 124 :: Row 132 3 (.slice (some ⟨g, 0, none⟩) S.n cp) S.n (flat 3 S.n (one (S.less id) (updn f m (ck + 1)))) :: l)
      rw [e2]
      first | exact k.drew | exact k
    · have hg' : ¬ gg < 4194303 := by omega
      have HST : Hid (Stamp (S.less id) f ck) := hle.2 hg
      have HGG : Hid (gg = ((id / 1024 : Nat) : Int)) := hgg
      clear HL hle hlive hT h hu hx hS hg hgg hm hus
      go_enter Tryz.func39, Tryz.ntmps39
      go_wp2_with fail
      refine HLV.out.mono ?_
      rintro e w1 ⟨rfl, hO⟩
      obtain ⟨⟨g, cp⟩, hO⟩ := Own.ex_iff.1 hO
      have q1 := hO.cell 1
      have d := hO.ne
      have hgc : g ≠ c := fun q => d (by rw [q]; rfl)
      have p0 : w1.cell? ⟨g, m * 3, none⟩ = some (.int .i64 gg) := by
        have := hO.two.fcell m 0 hlu (by decide) (m * 3) (by omega)
        rw [this, HGG.out]; unfold one; rw [if_pos rfl, HX.out]
      have p1 : w1.cell? ⟨g, m * 3 + 1, none⟩ = some (.bool (S.used.getD m false)) := hO.two.fcell m 1 hlu (by decide) (m * 3 + 1) (by omega)
      have y1 : w1.frozen? ⟨g, m * 3 + 1, none⟩ = false := hO.two.ffroz _
      simp at q1
      rw [HU.out] at p1
      have HO : Hid (Own w0 w1 _) := hO
      clear hO d HLV
      go_wp2_with (first | (go_at_call 78; refine (HSl.out _).mono ?_; rintro e w' ⟨rfl, hw⟩; subst hw))
      go_ret
      refine ⟨rfl, f, ck, Nat.le_succ _, HST.out, Own.ex_iff.2 ⟨(g, cp), ?_⟩⟩
      have k := (HO.out.two.setR (m * 3 + 1) (.bool false)).two
      show Own w0 _ (Cells c #[.int .i64 (S.first : Int), .slice (some ⟨g, 0, none⟩) S.n cp, .int .i64 (ck : Int)] 124 :: Row 132 3 (.slice (some ⟨g, 0, none⟩) S.n cp) S.n (flat 3 S.n (one (S.less id) f)) :: l)
      rw [H1.out]
      exact k
  · rw [if_neg hlive]
    have hlive' : S.isLive id = false := by simpa using hlive
    rw [hlive'] at HL
    have HLV : Hid (Calls _ _ _ _ _) := HL
    have HT : Hid (Stamp S f ck) := hT
    clear HL hlive hlive' h hT hS
    go_enter Tryz.func39, Tryz.ntmps39
    go_wp2_with fail
    refine HLV.out.mono ?_
    rintro e w1 ⟨rfl, hO⟩
    have HO : Hid (Own w0 w1 _) := hO
    clear hO HLV
    go_wp2
    go_ret
    exact ⟨rfl, f, ck, Nat.le_succ _, HT.out, HO.out⟩
set_option maxHeartbeats 400000 in
theorem rfree_nil (w : World) (id : Int) : Calls Tryz.prog 39 #[.pointer none, .int .u32 id] w fun e w' => e = .returned (.int .i64 10) ∧ w' = w := by
  go_enter Tryz.func39, Tryz.ntmps39
  go_wp2
  go_ret
  exact ⟨rfl, rfl⟩
end Go.Proofs.YtibdgdbkdnifbaaGreatDoor

/-
  The document's Take of slots.
-/
namespace Go.Proofs.YtibdgdbkdnifbaaGreatDoor
open Go.RowKit
set_option linter.unusedVariables false

theorem one_again (S : St) (f : Nat → Nat) (j x : Nat) (hx : S.last[j]? = some x) (hu : j < S.used.length) : flat 3 S.n (one (S.again j) (updn f j 0)) = (((flat 3 S.n (one S f)).set (j * 3) (.int .i64 ((x / 1024 + 1 : Nat) : Int))).set (j * 3 + 1) (.bool true)).set (j * 3 + 2) (.int .i64 0) := by
  have hl := (List.getElem?_eq_some_iff.1 hx).1
  rw [flat_set3 S.n (one S f) (one (S.again j) (updn f j 0)) j ?_]
  · have e0 : one (S.again j) (updn f j 0) j 0 = .int .i64 ((x / 1024 + 1 : Nat) : Int) := by
      simp only [one, St.again]; rw [getD_set_same _ _ _ _ hl, getD_some hx, if_pos trivial]
      rw [Nat.add_div_right x (by decide)]
    have e1 : one (S.again j) (updn f j 0) j 1 = .bool true := by simp only [one, St.again]; rw [getD_set_same _ _ _ _ hu]; rfl
    have e2 : one (S.again j) (updn f j 0) j 2 = .int .i64 0 := by unfold one; rw [if_neg (by decide), if_neg (by decide), updn_same]; rfl
    rw [e0, e1, e2]
  · intro a b hab
    simp only [one, St.again]
    rw [getD_set_other _ _ _ _ _ hab, getD_set_other _ _ _ _ _ hab, updn_other _ _ _ _ hab]
theorem one_more (S : St) (f : Nat → Nat) (hul : S.used.length = S.last.length) (hf1 : S.last.length < 1024) (hf : f S.last.length = 0) : flat 3 S.n (one S.more f) = (((flat 3 S.n (one S f)).set (S.last.length * 3) (.int .i64 (S.first : Int))).set (S.last.length * 3 + 1) (.bool true)).set (S.last.length * 3 + 2) (.int .i64 0) := by
  rw [flat_set3 S.n (one S f) (one S.more f) S.last.length ?_]
  · have e0 : one S.more f S.last.length 0 = .int .i64 (S.first : Int) := by
      simp only [one, St.more]; rw [getD_snoc_same, if_pos trivial]
      rw [show (S.first * 1024 + S.last.length) / 1024 = S.first by omega]
    have e1 : one S.more f S.last.length 1 = .bool true := by
      simp only [one, St.more]
      have : (S.used ++ [true]).getD S.last.length false = true := by rw [← hul]; exact getD_snoc_same _ _ _
      rw [this]; rfl
    have e2 : one S.more f S.last.length 2 = .int .i64 0 := by unfold one; rw [if_neg (by decide), if_neg (by decide), hf]; rfl
    rw [e0, e1, e2]
  · intro a b hab
    simp only [one, St.more]
    rw [getD_snoc_other _ _ _ _ hab, getD_snoc_other _ _ _ _ (by rw [hul]; exact hab)]

/-- which slot was freed last, as far as k -/
def Best (f : Nat → Nat) (k : Nat) (b : Int) : Prop := (b = -1 ∧ ∀ i, i < k → f i = 0) ∨ ∃ j : Nat, j < k ∧ b = (j : Int) ∧ 0 < f j ∧ ∀ i, i < k → f i ≤ f j

set_option maxHeartbeats 4000000 in
set_option maxRecDepth 100000 in
theorem rtake_ok (w0 w : World) (l : List Thing) (c : Nat) (S : St) (f : Nat → Nat) (ck : Nat) (h : Own w0 w (RSlots c S f ck :: l)) (hS : S.Ok) (hT : Stamp S f ck) (hck : ck ≤ 1000000) :
    Calls Tryz.prog 31 #[.pointer (some ⟨c, 0, none⟩)] w fun e w' => e = .returned (.tuple #[.int .u32 (S.take.1 : Int), .int .i64 S.take.2.1]) ∧ ∃ f', Stamp S.take.2.2 f' ck ∧ Own w0 w' (RSlots c S.take.2.2 f' ck :: l) := by
  obtain ⟨⟨g, cp⟩, h⟩ := Own.ex_iff.1 h
  have q1 := h.cell 1
  have hn := hS.n2
  have hd := h.ne
  have hgc : g ≠ c := fun q => hd (by rw [q]; rfl)
  simp at q1
  have H : Hid (Own w0 w (Cells c #[.int .i64 (S.first : Int), .slice (some ⟨g, 0, none⟩) S.n cp, .int .i64 (ck : Int)] 124 :: Row 132 3 (.slice (some ⟨g, 0, none⟩) S.n cp) S.n (flat 3 S.n (one S f)) :: l)) := h
  have HS : Hid (S.Ok ∧ Stamp S f ck) := ⟨hS, hT⟩
  have HLE : Hid (∀ i, (f i : Int) ≤ 1000000) := fun i => by have := hT.le i; omega
  clear h hS hT hd
  go_enter Tryz.func31, Tryz.ntmps31
  go_wp2
  go_loopw [4, 16] (fun bv cc wr => ∃ (k : Nat) (b : Int), k ≤ S.n ∧ cc = .int .i64 k ∧ bv = .int .i64 b ∧ Best f k b ∧ Own w0 wr (Cells c #[.int .i64 (S.first : Int), .slice (some ⟨g, 0, none⟩) S.n cp, .int .i64 (ck : Int)] 124 :: Row 132 3 (.slice (some ⟨g, 0, none⟩) S.n cp) S.n (flat 3 S.n (one S f)) :: l)) (fun _ cc _ => S.n - (intOf cc).toNat)
  case atStart => exact ⟨0, -1, Nat.zero_le _, rfl, rfl, .inl ⟨rfl, fun i hi => by omega⟩, H.out⟩
  case round =>
    obtain ⟨k, b, hk, rfl, rfl, hB, hO⟩ := hrel
    clear H q1
    by_cases hlt : k < S.n
    · have q1 := hO.cell 1
      simp at q1
      have c0 : wr.cell? ⟨g, k * 3, none⟩ = some (.int .i64 ((S.last.getD k 0 / 1024 : Nat) : Int)) := hO.two.fcell k 0 hlt (by decide) _ (by omega)
      have c1 : wr.cell? ⟨g, k * 3 + 1, none⟩ = some (.bool (S.used.getD k false)) := hO.two.fcell k 1 hlt (by decide) _ (by omega)
      have c2 : wr.cell? ⟨g, k * 3 + 2, none⟩ = some (.int .i64 (f k : Int)) := hO.two.fcell k 2 hlt (by decide) _ (by omega)
      have hcl := hO.lt
      have hgl := World.block_lt_of_cell? wr _ c0
      have HO : Hid (Own w0 wr _) := hO
      rcases hB with ⟨rfl, hz⟩ | ⟨j, hj, rfl, hp, hm⟩
      · by_cases hfk : f k = 0
        · have HB : Hid (Best f (k + 1) (-1)) := .inl ⟨rfl, fun i hi => by by_cases e : i = k; rw [e]; exact hfk; exact hz i (by omega)⟩
          rw [hfk] at c2
          clear hO hz hfk
          generalize S.used.getD k false = u at *
          generalize S.last.getD k 0 / 1024 = gn at *
          go_wp2
          go_quiet (fail)
          go_wp2
          go_roundw
          case rel => exact ⟨k + 1, -1, by omega, by go_num, rfl, HB.out, (HO.out.alloc _).drewN _⟩
          case measure => simp [intOf]; omega
        · have HB : Hid (Best f (k + 1) (k : Int)) := .inr ⟨k, by omega, rfl, by omega, fun i hi => by by_cases e : i = k; rw [e]; exact Nat.le_refl _; rw [hz i (by omega)]; omega⟩
          have hfk' : (0 : Int) < (f k : Int) := by omega
          have hdd : 0 < f k := by omega
          clear hO hz hfk
          generalize f k = fk at *
          generalize S.used.getD k false = u at *
          generalize S.last.getD k 0 / 1024 = gn at *
          go_wp2
          go_quiet (fail)
          go_wp2
          go_roundw
          case rel => exact ⟨k + 1, k, by omega, by go_num, rfl, HB.out, (HO.out.alloc _).drewN _⟩
          case measure => simp [intOf]; omega
      · have d2 : wr.cell? ⟨g, j * 3 + 2, none⟩ = some (.int .i64 (f j : Int)) := hO.two.fcell j 2 (by omega) (by decide) _ (by omega)
        by_cases hfk : f k = 0
        · have HB : Hid (Best f (k + 1) (j : Int)) := .inr ⟨j, by omega, rfl, hp, fun i hi => by by_cases e : i = k; rw [e, hfk]; exact Nat.zero_le _; exact hm i (by omega)⟩
          rw [hfk] at c2
          clear hO hm hfk
          generalize S.used.getD k false = u at *
          generalize S.last.getD k 0 / 1024 = gn at *
          go_wp2
          go_quiet (fail)
          go_wp2
          go_roundw
          case rel => exact ⟨k + 1, j, by omega, by go_num, rfl, HB.out, (HO.out.alloc _).drewN _⟩
          case measure => simp [intOf]; omega
        · have hfk' : (0 : Int) < (f k : Int) := by omega
          have hdd : 0 < f k := by omega
          by_cases hgt : f j < f k
          · have HB : Hid (Best f (k + 1) (k : Int)) := .inr ⟨k, by omega, rfl, by omega, fun i hi => by by_cases e : i = k; rw [e]; exact Nat.le_refl _; have := hm i (by omega); omega⟩
            have hgt' : (f j : Int) < (f k : Int) := by omega
            have hjn : (j : Int) < (S.n : Int) := by omega
            clear hO hm hfk hp
            generalize f k = fk at *
            generalize f j = fj at *
            generalize S.used.getD k false = u at *
            generalize S.last.getD k 0 / 1024 = gn at *
            go_wp2
            go_quiet (fail)
            go_wp2
            go_roundw
            case rel => exact ⟨k + 1, k, by omega, by go_num, rfl, HB.out, (HO.out.alloc _).drewN _⟩
            case measure => simp [intOf]; omega
          · have HB : Hid (Best f (k + 1) (j : Int)) := .inr ⟨j, by omega, rfl, hp, fun i hi => by by_cases e : i = k; rw [e]; omega; exact hm i (by omega)⟩
            have hgt' : decide ((f j : Int) < (f k : Int)) = false := by simp; omega
            have hjn : (j : Int) < (S.n : Int) := by omega
            clear hO hm hfk hp
            generalize f k = fk at *
            generalize f j = fj at *
            generalize S.used.getD k false = u at *
            generalize S.last.getD k 0 / 1024 = gn at *
            go_wp2
            go_quiet (fail)
            go_wp2
            go_roundw
            case rel => exact ⟨k + 1, j, by omega, by go_num, rfl, HB.out, (HO.out.alloc _).drewN _⟩
            case measure => simp [intOf]; omega
    · have ek : k = S.n := by omega
      subst ek
      have q0 := hO.cell 0
      have q1 := hO.cell 1
      simp at q0 q1
      have hcl := hO.lt
      have HO : Hid (Own w0 wr _) := hO
      clear hO
      cases hf : S.freed.getLast? with
      | some j =>
        obtain ⟨hp, hmx, hinj⟩ := HS.out.2.last HS.out.1 hf
        have e := dropLast_of _ _ hf
        have hjm : j ∈ S.freed := by rw [e]; simp
        obtain ⟨hu, x, hx, hgx⟩ := HS.out.1.fr j hjm
        have HTK : Hid (S.take = (x + 1024, 0, S.again j)) := S.take_again hf hx
        have hid := HS.out.1.id j x hx
        have hjn : j < S.n := by have := HS.out.1.lt hjm; have := HS.out.1.le; omega
        have hb : b = (j : Int) := by
          rcases hB with ⟨_, hz⟩ | ⟨i, hi, hb, _, hm⟩
          · have := hz j hjn; omega
          · have h1 := hm j hjn
            have h2 := hmx i
            rw [hb, hinj i (by omega)]
        subst hb
        have HST : Hid (Stamp (S.again j) (updn f j 0) ck) := HS.out.2.again HS.out.1 hf
        have HON : Hid (flat 3 S.n (one (S.again j) (updn f j 0)) = (((flat 3 S.n (one S f)).set (j * 3) (.int .i64 ((x / 1024 + 1 : Nat) : Int))).set (j * 3 + 1) (.bool true)).set (j * 3 + 2) (.int .i64 0)) := one_again S f j x hx (by rw [HS.out.1.ul]; exact HS.out.1.lt hjm)
        have HX : Hid (S.last.getD j 0 = x) := getD_some hx
        have c0 : wr.cell? ⟨g, j * 3, none⟩ = some (.int .i64 ((x / 1024 : Nat) : Int)) := by
          have := HO.out.two.fcell j 0 hjn (by decide) (j * 3) (by omega)
          rw [this]; unfold one; rw [if_pos rfl, HX.out]
        have c1 : wr.cell? ⟨g, j * 3 + 1, none⟩ = some (.bool (S.used.getD j false)) := HO.out.two.fcell j 1 hjn (by decide) _ (by omega)
        have c2 : wr.cell? ⟨g, j * 3 + 2, none⟩ = some (.int .i64 (f j : Int)) := HO.out.two.fcell j 2 hjn (by decide) _ (by omega)
        have y0 : wr.frozen? ⟨g, j * 3, none⟩ = false := HO.out.two.ffroz _
        have y1 : wr.frozen? ⟨g, j * 3 + 1, none⟩ = false := HO.out.two.ffroz _
        have y2 : wr.frozen? ⟨g, j * 3 + 2, none⟩ = false := HO.out.two.ffroz _
        have hjn' : (j : Int) < (S.n : Int) := by omega
        obtain ⟨gn, hgn⟩ : ∃ gn, gn = x / 1024 := ⟨_, rfl⟩
        have hg1 : 1 ≤ gn := by omega
        have HM : Hid (∀ w', Calls Tryz.prog 68 #[.int .i64 (j : Int), .int .i64 ((gn + 1 : Nat) : Int)] w' fun e w'' => e = .returned (.tuple #[.int .u32 ((x + 1024 : Nat) : Int), .int .i64 0]) ∧ w'' = w') := by
          intro w'
          have := rmake_yes j (gn + 1) w' (by omega) (by omega) (by omega)
          rw [show (gn + 1) * 1024 + j = x + 1024 by omega] at this; exact this
        have hne1 : (((gn : Int) + 1) == 1) = false := by simp; omega
        have hgm : (gn : Int) < 4194303 := by omega
        rw [← hgn] at c0 HON
        clear hp hmx hinj e hjm hu hx hgx hid hB hf hgn hg1
        go_wp2
        go_loopw [4, 7] (fun bv iv wr2 => bv = .int .i64 (j : Int) ∧ iv = .int .i64 0 ∧ wr2 = wr) (fun _ _ _ => 0)
        case atStart => exact ⟨rfl, rfl, rfl⟩
        case round =>
          obtain ⟨rfl, rfl, hw⟩ := hrel
          subst hw
          have hjb : decide ((j : Int) < 0) = false := by simp
          go_wp2_with (first | (go_at_call 68; refine (HM.out _).mono ?_; rintro e w' ⟨rfl, hw⟩; subst hw))
          go_ret2
          rw [HTK.out]
          refine ⟨rfl, updn f j 0, HST.out, Own.ex_iff.2 ⟨(g, cp), ?_⟩⟩
          have k := ((((HO.out.two.setR (j * 3) (.int .i64 ((gn : Int) + 1))).setR (j * 3 + 1) (.bool true)).setR (j * 3 + 2) (.int .i64 0)).two)
          show Own w0 _ (Cells c #[.int .i64 (S.first : Int), .slice (some ⟨g, 0, none⟩) S.n cp, .int .i64 (ck : Int)] 124 :: Row 132 3 (.slice (some ⟨g, 0, none⟩) S.n cp) S.n (flat 3 S.n (one (S.again j) (updn f j 0))) :: l)
          rw [HON.out]
          exact k
      | none =>
        have hf' : S.freed = [] := List.getLast?_eq_none_iff.1 hf
        have hz0 := HS.out.2.none hf'
        have hb : b = -1 := by
          rcases hB with ⟨hb, _⟩ | ⟨i, hi, hb, hp, _⟩
          · exact hb
          · have := hz0 i; omega
        subst hb
        have hle := HS.out.1.le
        obtain ⟨ll, hll⟩ : ∃ ll, ll = S.last.length := ⟨_, rfl⟩
        have HLL : Hid (ll = S.last.length) := hll
        rw [← hll] at hle
        have HF : Hid (S.freed = [] ∧ ∀ i, f i = 0) := ⟨hf', hz0⟩
        clear hB hf hf' hz0 hll
        go_wp2
        go_loopw [4, 7] (fun bv iv wr2 => wr2 = wr ∧ ∃ i : Nat, iv = .int .i64 i ∧ i ≤ S.n ∧ ((bv = .int .i64 (-1) ∧ i ≤ ll) ∨ (bv = .int .i64 ll ∧ i = ll + 1))) (fun _ iv _ => S.n - (intOf iv).toNat)
        case atStart => exact ⟨rfl, 0, rfl, Nat.zero_le _, .inl ⟨rfl, Nat.zero_le _⟩⟩
        case round =>
          obtain ⟨hw, i, rfl, hin, hcase⟩ := hrel
          subst hw
          rcases hcase with ⟨rfl, hil⟩ | ⟨rfl, rfl⟩
          · by_cases hlt : i < S.n
            · have c0 : World.cell? _ ⟨g, i * 3, none⟩ = some (.int .i64 ((S.last.getD i 0 / 1024 : Nat) : Int)) := HO.out.two.fcell i 0 hlt (by decide) _ (by omega)
              have hlt' : (i : Int) < (S.n : Int) := by omega
              by_cases hi2 : i < ll
              · obtain ⟨x, hx⟩ : ∃ x, S.last[i]? = some x := ⟨_, List.getElem?_eq_getElem (by rw [← HLL.out]; exact hi2)⟩
                have hid := HS.out.1.id i x hx
                rw [getD_some hx] at c0
                obtain ⟨gn, hgn⟩ : ∃ gn, gn = x / 1024 := ⟨_, rfl⟩
                rw [← hgn] at c0
                have hgz : ((gn : Int) == 0) = false := by simp; omega
                have hgz2 : ¬ gn = 0 := by omega
                clear hx hid hgn
                go_wp2
                go_roundw
                case rel => exact ⟨by first | rfl | trivial, i + 1, by go_num, by omega, .inl ⟨rfl, by omega⟩⟩
                case measure => simp [intOf]; omega
              · have EI : Hid (i = ll) := by show i = ll; omega
                rw [getD_none (by rw [← HLL.out]; omega), Nat.zero_div, Int.natCast_zero] at c0
                go_wp2
                go_roundw
                case rel => exact ⟨by first | rfl | trivial, i + 1, by go_num, by omega, .inr ⟨by rw [EI.out], by rw [EI.out]⟩⟩
                case measure => simp [intOf]; omega
            · have HTK : Hid (S.take = (0, 8, S)) := S.take_full HF.out.1 (by rw [← HLL.out]; omega)
              have hd : decide ((i : Int) < (S.n : Int)) = false := by simp; omega
              go_wp2
              go_ret2
              rw [HTK.out]
              exact ⟨rfl, f, HS.out.2, Own.ex_iff.2 ⟨(g, cp), HO.out⟩⟩
          · have hl : S.last.length < S.n := by rw [← HLL.out]; omega
            have hll : ll < S.n := by omega
            have HTK : Hid (S.take = (S.first * 1024 + ll, 0, S.more)) := by rw [HLL.out]; exact S.take_new HF.out.1 hl
            have HST : Hid (Stamp S.more f ck) := HS.out.2.more HS.out.1 hl
            have hf1 := HS.out.1.f1
            have hf2 : (S.first : Int) ≤ 4194303 := by have := HS.out.1.f2; omega
            have HON : Hid (flat 3 S.n (one S.more f) = (((flat 3 S.n (one S f)).set (ll * 3) (.int .i64 (S.first : Int))).set (ll * 3 + 1) (.bool true)).set (ll * 3 + 2) (.int .i64 0)) := by
              rw [HLL.out]; exact one_more S f HS.out.1.ul (by omega) (HF.out.2 _)
            have c0 : World.cell? _ ⟨g, ll * 3, none⟩ = some (.int .i64 ((S.last.getD ll 0 / 1024 : Nat) : Int)) := HO.out.two.fcell ll 0 hll (by decide) _ (by omega)
            rw [getD_none (by rw [← HLL.out]; omega), Nat.zero_div, Int.natCast_zero] at c0
            have c1 : World.cell? _ ⟨g, ll * 3 + 1, none⟩ = some (.bool (S.used.getD ll false)) := HO.out.two.fcell ll 1 hll (by decide) _ (by omega)
            have c2 : World.cell? _ ⟨g, ll * 3 + 2, none⟩ = some (.int .i64 (f ll : Int)) := HO.out.two.fcell ll 2 hll (by decide) _ (by omega)
            have y0 := HO.out.two.ffroz (ll * 3)
            have y1 := HO.out.two.ffroz (ll * 3 + 1)
            have y2 := HO.out.two.ffroz (ll * 3 + 2)
            have hll' : (ll : Int) < (S.n : Int) := by omega
            have hlb : decide ((ll : Int) < 0) = false := by simp
            have HM : Hid (∀ w', Calls Tryz.prog 68 #[.int .i64 (ll : Int), .int .i64 (S.first : Int)] w' fun e w'' => e = .returned (.tuple #[.int .u32 ((S.first * 1024 + ll : Nat) : Int), .int .i64 0]) ∧ w'' = w') := fun w' => rmake_yes ll S.first w' (by omega) hf1 hf2
            go_wp2_with (first | (go_at_call 68; refine (HM.out _).mono ?_; rintro e w' ⟨rfl, hw⟩; subst hw))
            go_ret2
            rw [HTK.out]
            refine ⟨rfl, f, HST.out, Own.ex_iff.2 ⟨(g, cp), ?_⟩⟩
            have k := ((((HO.out.two.setR (ll * 3) (.int .i64 (S.first : Int))).setR (ll * 3 + 1) (.bool true)).setR (ll * 3 + 2) (.int .i64 0)).two)
            show Own w0 _ (Cells c #[.int .i64 (S.first : Int), .slice (some ⟨g, 0, none⟩) S.n cp, .int .i64 (ck : Int)] 124 :: Row 132 3 (.slice (some ⟨g, 0, none⟩) S.n cp) S.n (flat 3 S.n (one S.more f)) :: l)
            rw [HON.out]
            exact k
set_option maxHeartbeats 400000 in
theorem rtake_nil (w : World) : Calls Tryz.prog 31 #[.pointer none] w fun e w' => e = .returned (.tuple #[.int .u32 0, .int .i64 10]) ∧ w' = w := by
  go_enter Tryz.func31, Tryz.ntmps31
  go_wp2
  go_ret2
  exact ⟨rfl, rfl⟩
end Go.Proofs.YtibdgdbkdnifbaaGreatDoor
