/-
  Slots as plain lists: what is taken, what is freed; no program is named here.
-/
import Derived.Test.YtibdgdbkdnifbaaGreatDoorXm
import Derived.BigRegion
import Derived.BigQuiet
import Derived.Deep.QuietTactic
namespace Go.Proofs.YtibdgdbkdnifbaaGreatDoor
set_option linter.unusedVariables false

structure St where
  n : Nat
  first : Nat
  last : List Nat
  used : List Bool
  freed : List Nat
  live : Nat

/-- what is so of slots at all times -/
structure St.Ok (S : St) : Prop where
  n1 : 1 ≤ S.n
  n2 : S.n ≤ 1024
  f1 : 1 ≤ S.first
  f2 : S.first ≤ 4194303
  ul : S.used.length = S.last.length
  le : S.last.length ≤ S.n
  id : ∀ i x, S.last[i]? = some x → x % 1024 = i ∧ 1 ≤ x / 1024 ∧ x < 4294967296
  nodup : S.freed.Nodup
  fr : ∀ f ∈ S.freed, S.used[f]? = some false ∧ ∃ x, S.last[f]? = some x ∧ x / 1024 < 4194303
  cnt : S.freed.length + S.live ≤ S.last.length
  live : S.live = S.used.count true

def St.new (n first : Nat) : St := ⟨n, first, [], [], [], 0⟩
theorem St.new_ok (n first : Nat) (h1 : 1 ≤ n) (h2 : n ≤ 1024) (h3 : 1 ≤ first) (h4 : first ≤ 4194303) : (St.new n first).Ok :=
  ⟨h1, h2, h3, h4, rfl, by simp [St.new], by simp [St.new], by simp [St.new], by simp [St.new], by simp [St.new], by simp [St.new]⟩

/-- the slot that was freed last is taken again -/
def St.again (S : St) (f : Nat) : St := { S with last := S.last.set f (S.last.getD f 0 + 1024), used := S.used.set f true, freed := S.freed.dropLast, live := S.live + 1 }
/-- the least slot that never was in use is taken -/
def St.more (S : St) : St := { S with last := S.last ++ [S.first * 1024 + S.last.length], used := S.used ++ [true], live := S.live + 1 }
/-- an ID's use ends -/
def St.less (S : St) (id : Nat) : St := { S with used := S.used.set (id % 1024) false, live := S.live - 1, freed := if id / 1024 < 4194303 then S.freed ++ [id % 1024] else S.freed }
def St.isLive (S : St) (id : Nat) : Bool := S.used.getD (id % 1024) false && S.last.getD (id % 1024) 0 == id
/-- what Take answers, and what is then -/
def St.take (S : St) : Nat × Int × St :=
  match S.freed.getLast? with
  | some f => (S.last.getD f 0 + 1024, 0, S.again f)
  | none => if S.last.length < S.n then (S.first * 1024 + S.last.length, 0, S.more) else (0, 8, S)
def St.free (S : St) (id : Nat) : Int × St := if S.isLive id then (0, S.less id) else (7, S)
def pick : List Nat → List Bool → List Nat
  | x :: l, u :: m => if u then x :: pick l m else pick l m
  | _, _ => []
def St.list (S : St) : List Nat := pick S.last S.used
def St.room (S : St) : Nat := S.freed.length + S.n - S.last.length

theorem length_pick (l : List Nat) (m : List Bool) (h : m.length = l.length) : (pick l m).length = m.count true := by
  induction l generalizing m with
  | nil => cases m with
    | nil => rfl
    | cons u m => simp at h
  | cons x l ih => cases m with
    | nil => simp at h
    | cons u m =>
      have := ih m (by simpa using h)
      cases u <;> simp [pick, this]
theorem pick_snoc (l : List Nat) (m : List Bool) (h : m.length = l.length) (x : Nat) (u : Bool) : pick (l ++ [x]) (m ++ [u]) = pick l m ++ if u then [x] else [] := by
  induction l generalizing m with
  | nil => cases m with
    | nil => cases u <;> rfl
    | cons u m => simp at h
  | cons y l ih => cases m with
    | nil => simp at h
    | cons v m =>
      have := ih m (by simpa using h)
      cases v <;> simp [pick, this]

theorem count_set_true (l : List Bool) (i : Nat) (h : l[i]? = some false) : (l.set i true).count true = l.count true + 1 := by
  obtain ⟨hi, e⟩ := List.getElem?_eq_some_iff.1 h
  rw [List.count_set hi, e]; simp
theorem count_set_false (l : List Bool) (i : Nat) (h : l[i]? = some true) : (l.set i false).count true + 1 = l.count true := by
  obtain ⟨hi, e⟩ := List.getElem?_eq_some_iff.1 h
  have : 0 < l.count true := List.count_pos_iff.2 (List.mem_of_getElem? h)
  rw [List.count_set hi, e]; simp; omega
theorem count_le_length' (l : List Bool) : l.count true ≤ l.length := List.count_le_length

theorem St.Ok.getD {S : St} (h : S.Ok) {f x : Nat} (hx : S.last[f]? = some x) : S.last.getD f 0 = x := by rw [List.getD_eq_getElem?_getD, hx]; rfl
theorem St.Ok.lt {S : St} (h : S.Ok) {f : Nat} (hf : f ∈ S.freed) : f < S.last.length := by
  obtain ⟨h1, _⟩ := h.fr f hf
  rw [← h.ul]; exact (List.getElem?_eq_some_iff.1 h1).1
theorem dropLast_of (l : List Nat) (f : Nat) (h : l.getLast? = some f) : l = l.dropLast ++ [f] := by
  rw [List.getLast?_eq_some_iff] at h
  obtain ⟨ys, rfl⟩ := h
  simp

theorem St.again_ok {S : St} (h : S.Ok) {f : Nat} (hf : S.freed.getLast? = some f) : (S.again f).Ok := by
  have e := dropLast_of _ _ hf
  have hm : f ∈ S.freed := by rw [e]; simp
  obtain ⟨hu, x, hx, hg⟩ := h.fr f hm
  have hid := h.id f x hx
  have hgd := h.getD hx
  have hn := h.nodup
  rw [e, List.nodup_append] at hn
  have hlen : S.freed.length = S.freed.dropLast.length + 1 := by
    have := congrArg List.length e
    rw [List.length_append, List.length_singleton] at this; exact this
  have hlt := h.lt hm
  refine ⟨h.n1, h.n2, h.f1, h.f2, by simp [St.again, h.ul], by simp [St.again, h.le], ?_, hn.1, ?_, ?_, ?_⟩
  · intro i y hy
    simp only [St.again] at hy
    rw [List.getElem?_set, hgd] at hy
    split at hy
    · cases hy; omega
    · exact h.id i y hy
  · intro k hk
    have hkf : k ∈ S.freed := by rw [e]; exact List.mem_append_left _ hk
    have hne : f ≠ k := fun q => hn.2.2 k hk f (by simp) q.symm
    obtain ⟨a, y, b, c⟩ := h.fr k hkf
    exact ⟨by simp only [St.again]; rw [List.getElem?_set_ne hne]; exact a, y, by simp only [St.again]; rw [List.getElem?_set_ne hne]; exact b, c⟩
  · have := h.cnt
    simp only [St.again, List.length_set]
    omega
  · simp only [St.again]
    rw [count_set_true _ _ hu, h.live]

theorem St.more_ok {S : St} (h : S.Ok) (hf : S.freed = []) (hl : S.last.length < S.n) : S.more.Ok := by
  have h2 := h.n2
  have h3 := h.f1
  have h4 := h.f2
  refine ⟨h.n1, h.n2, h.f1, h.f2, by simp [St.more, h.ul], by simp [St.more]; omega, ?_, by simp [St.more, hf], by simp [St.more, hf], ?_, ?_⟩
  · intro i y hy
    simp only [St.more] at hy
    by_cases c : i < S.last.length
    · rw [List.getElem?_append_left c] at hy; exact h.id i y hy
    · rw [List.getElem?_append_right (by omega)] at hy
      have : i - S.last.length = 0 := by
        rcases Nat.eq_zero_or_pos (i - S.last.length) with z | z
        · exact z
        · rw [List.getElem?_eq_none (by simp; omega)] at hy; cases hy
      rw [this] at hy
      cases hy
      omega
  · have := h.cnt
    simp [St.more, hf] at this ⊢
    omega
  · simp [St.more, h.live]

theorem St.isLive_iff {S : St} (h : S.Ok) (id : Nat) : S.isLive id = true ↔ S.used[id % 1024]? = some true ∧ S.last[id % 1024]? = some id := by
  unfold St.isLive
  rw [List.getD_eq_getElem?_getD, List.getD_eq_getElem?_getD]
  constructor
  · intro hh
    simp only [Bool.and_eq_true, beq_iff_eq] at hh
    obtain ⟨a, b⟩ := hh
    cases hu : S.used[id % 1024]? with
    | none => rw [hu] at a; cases a
    | some u =>
      rw [hu] at a
      have hlt : id % 1024 < S.last.length := by rw [← h.ul]; exact (List.getElem?_eq_some_iff.1 hu).1
      rw [List.getElem?_eq_getElem hlt] at b ⊢
      simp at a b
      exact ⟨by rw [a], by rw [b]⟩
  · rintro ⟨a, b⟩
    rw [a, b]; simp

theorem St.less_ok {S : St} (h : S.Ok) {id : Nat} (hl : S.isLive id = true) : (S.less id).Ok := by
  obtain ⟨hu, hx⟩ := (S.isLive_iff h id).1 hl
  have hid := h.id _ _ hx
  have hc := count_set_false _ _ hu
  have hlv := h.live
  have hcnt := h.cnt
  have hnf : id % 1024 ∉ S.freed := by
    intro hm
    have := (h.fr _ hm).1
    rw [hu] at this; cases this
  have hlt : id % 1024 < S.used.length := (List.getElem?_eq_some_iff.1 hu).1
  refine ⟨h.n1, h.n2, h.f1, h.f2, by simp [St.less, h.ul], h.le, h.id, ?_, ?_, ?_, ?_⟩
  · simp only [St.less]
    split
    · rw [List.nodup_append]
      refine ⟨h.nodup, by simp, ?_⟩
      intro a ha b hb
      simp at hb
      rintro rfl
      rw [hb] at ha
      exact hnf ha
    · exact h.nodup
  · intro k hk
    have hold : k ∈ S.freed → (S.less id).used[k]? = some false ∧ ∃ x, (S.less id).last[k]? = some x ∧ x / 1024 < 4194303 := by
      intro hk
      have hne : id % 1024 ≠ k := fun q => hnf (q ▸ hk)
      obtain ⟨a, y, b, c⟩ := h.fr k hk
      exact ⟨by simp only [St.less]; rw [List.getElem?_set_ne hne]; exact a, y, b, c⟩
    simp only [St.less] at hk
    split at hk
    · rename_i hg
      rcases List.mem_append.1 hk with hk | hk
      · exact hold hk
      · simp at hk
        subst hk
        exact ⟨by simp only [St.less]; rw [List.getElem?_set_self hlt], id, hx, hg⟩
    · exact hold hk
  · simp only [St.less]
    split
    · rw [List.length_append, List.length_singleton]; omega
    · omega
  · simp only [St.less]; omega

theorem St.take_ok {S : St} (h : S.Ok) : S.take.2.2.Ok := by
  unfold St.take
  split
  · rename_i f hf; exact St.again_ok h hf
  · rename_i hf
    have hf' : S.freed = [] := List.getLast?_eq_none_iff.1 hf
    split
    · rename_i hl; exact St.more_ok h hf' hl
    · exact h
theorem St.free_ok {S : St} (h : S.Ok) (id : Nat) : (S.free id).2.Ok := by
  unfold St.free
  split
  · rename_i hl; exact St.less_ok h hl
  · exact h
theorem St.take_n (S : St) : S.take.2.2.n = S.n ∧ S.take.2.2.first = S.first := by
  unfold St.take
  split
  · exact ⟨rfl, rfl⟩
  · split <;> exact ⟨rfl, rfl⟩
theorem St.free_n (S : St) (id : Nat) : (S.free id).2.n = S.n ∧ (S.free id).2.first = S.first := by
  unfold St.free
  split <;> exact ⟨rfl, rfl⟩
theorem St.list_length {S : St} (h : S.Ok) : S.list.length = S.live := by rw [St.list, length_pick _ _ h.ul, h.live]
theorem St.take_lt {S : St} (h : S.Ok) : S.take.1 < 4294967296 := by
  have h2 := h.n2
  have h4 := h.f2
  unfold St.take
  split
  · rename_i f hf
    have e := dropLast_of _ _ hf
    have hm : f ∈ S.freed := by rw [e]; simp
    obtain ⟨hu, x, hx, hg⟩ := h.fr f hm
    have hid := h.id f x hx
    rw [h.getD hx]
    show x + 1024 < _
    omega
  · split
    · rename_i hl; show _ + _ < _; omega
    · show 0 < _; omega
end Go.Proofs.YtibdgdbkdnifbaaGreatDoor

/-
  Package slots: Make, Slot, Gen, New, Take, Free, Live, Len, Room.
-/
namespace Go.Proofs.YtibdgdbkdnifbaaGreatDoor
open Go.RowKit
set_option linter.unusedVariables false

theorem Tryz.infoID : (Tryz.prog.info? 32).map (fun i => (i.zero, i.size, i.bytes)) = some (some (.int .u32 0), 1, 4) := by kernel_rfl
theorem Tryz.infoInt : (Tryz.prog.info? 3).map (fun i => (i.zero, i.size, i.bytes)) = some (some (.int .i64 0), 1, 8) := by kernel_rfl
theorem Tryz.infoBool : (Tryz.prog.info? 4).map (fun i => (i.zero, i.size, i.bytes)) = some (some (.bool false), 1, 1) := by kernel_rfl

/-- Slots at block b. -/
def Slots (b : Nat) (S : St) : Thing := Ex (fun v : Value × Value × Value =>
  [Cells b #[.int .i64 (S.n : Int), .int .i64 (S.first : Int), v.1, v.2.1, v.2.2, .int .i64 (S.live : Int)] 121,
   Row 32 1 v.1 S.last.length (irow .u32 S.last), Row 4 1 v.2.1 S.used.length (brow S.used), Row 3 1 v.2.2 S.freed.length (irow .i64 S.freed)])

set_option maxHeartbeats 400000 in
theorem slot_any (id : Nat) (w : World) (h : id < 4294967296) : Calls Tryz.prog 67 #[.int .u32 (id : Int)] w fun e w' => e = .returned (.int .i64 ((id % 1024 : Nat) : Int)) ∧ w' = w := by
  go_enter Tryz.func67, Tryz.ntmps67
  go_wp2
  go_ret
  exact ⟨ret_int (by omega), rfl⟩
set_option maxHeartbeats 400000 in
theorem gen_any (id : Nat) (w : World) (h : id < 4294967296) : Calls Tryz.prog 75 #[.int .u32 (id : Int)] w fun e w' => e = .returned (.int .i64 ((id / 1024 : Nat) : Int)) ∧ w' = w := by
  go_enter Tryz.func75, Tryz.ntmps75
  go_wp2
  go_ret
  exact ⟨ret_int (by omega), rfl⟩
set_option maxHeartbeats 400000 in
theorem isGen_yes (g : Int) (w : World) (h1 : 1 ≤ g) (h2 : g ≤ 4194303) : Calls Tryz.prog 60 #[.int .i64 g] w fun e w' => e = .returned (.bool true) ∧ w' = w := by
  go_enter Tryz.func60, Tryz.ntmps60
  go_wp2
  go_ret
  exact ⟨rfl, rfl⟩
set_option maxHeartbeats 400000 in
theorem isGen_no (g : Int) (w : World) (h : g < 1 ∨ 4194303 < g) : Calls Tryz.prog 60 #[.int .i64 g] w fun e w' => e = .returned (.bool false) ∧ w' = w := by
  rcases h with h | h
  · go_enter Tryz.func60, Tryz.ntmps60
    go_wp2
    go_ret
    exact ⟨rfl, rfl⟩
  · have h1 : 1 ≤ g := by omega
    have hd : decide (g ≤ 4194303) = false := by simp; omega
    go_enter Tryz.func60, Tryz.ntmps60
    go_wp2
    go_ret
    exact ⟨rfl, rfl⟩
set_option maxHeartbeats 400000 in
theorem number_any (s g : Nat) (w : World) (h1 : s < 1024) (h2 : g ≤ 4194303) : Calls Tryz.prog 95 #[.int .i64 (s : Int), .int .i64 (g : Int)] w fun e w' => e = .returned (.int .u32 ((g * 1024 + s : Nat) : Int)) ∧ w' = w := by
  go_enter Tryz.func95, Tryz.ntmps95
  go_wp2
  go_ret
  exact ⟨ret_int (by omega), rfl⟩

set_option maxHeartbeats 400000 in
theorem new_ok (w0 w : World) (l : List Thing) (n f : Nat) (h : Own w0 w l) (h1 : 1 ≤ n) (h2 : n ≤ 1024) (h3 : 1 ≤ f) (h4 : f ≤ 4194303) :
    Calls Tryz.prog 25 #[.int .i64 (n : Int), .int .i64 (f : Int)] w fun e w' => ∃ b, e = .returned (.tuple #[.pointer (some ⟨b, 0, none⟩), .int .i64 0]) ∧ w.heap.size ≤ b ∧ Own w0 w' (Slots b (St.new n f) :: l) := by
  go_enter Tryz.func25, Tryz.ntmps25
  go_wp2_with (first | (go_at_call 60; refine (isGen_yes _ _ (by omega) (by omega)).mono ?_; rintro e w' ⟨rfl, rfl⟩))
  go_ret2
  refine ⟨_, rfl, Nat.le_refl _, Own.ex_iff.2 ⟨(.slice none 0 0, .slice none 0 0, .slice none 0 0), ?_⟩⟩
  have k := ((((h.allocC #[.int .i64 (n : Int), .int .i64 (f : Int), .slice none 0 0, .slice none 0 0, .slice none 0 0, .int .i64 0] 121).nilRow 3 1).nilRow 4 1).nilRow 32 1)
  exact k.four
set_option maxHeartbeats 400000 in
theorem new_no (w : World) (n f : Int) (h : n < 1 ∨ 1024 < n ∨ f < 1 ∨ 4194303 < f) : Calls Tryz.prog 25 #[.int .i64 n, .int .i64 f] w fun e w' => e = .returned (.tuple #[.pointer none, .int .i64 1]) ∧ w' = w := by
  by_cases c1 : n < 1
  · go_enter Tryz.func25, Tryz.ntmps25
    go_wp2
    go_ret2
    exact ⟨rfl, rfl⟩
  · by_cases c2 : 1024 < n
    · go_enter Tryz.func25, Tryz.ntmps25
      go_wp2
      go_ret2
      exact ⟨rfl, rfl⟩
    · go_enter Tryz.func25, Tryz.ntmps25
      go_wp2_with (first | (go_at_call 60; refine (isGen_no _ _ (by omega)).mono ?_; rintro e w' ⟨rfl, rfl⟩))
      go_ret2
      exact ⟨rfl, rfl⟩
end Go.Proofs.YtibdgdbkdnifbaaGreatDoor

/-
  Package slots: Take, Free, Live, Len, Room.
-/
namespace Go.Proofs.YtibdgdbkdnifbaaGreatDoor
open Go.RowKit
set_option linter.unusedVariables false

set_option maxHeartbeats 1000000 in
set_option maxRecDepth 100000 in
theorem again0 (w : World) (b g1 g2 g3 n1 n2 k c1 c2 c3 f x : Nat) (lv : Int) (hx : x + 1024 < 4294967296) (hf1 : f < n1) (hf2 : f < n2) (hl0 : 0 ≤ lv) (hl1 : lv ≤ 1024) (hk : k ≤ 1024) (hkc : k ≤ c3)
    (q2 : w.cell? ⟨b, 2, none⟩ = some (.slice (some ⟨g1, 0, none⟩) n1 c1)) (q3 : w.cell? ⟨b, 3, none⟩ = some (.slice (some ⟨g2, 0, none⟩) n2 c2)) (q4 : w.cell? ⟨b, 4, none⟩ = some (.slice (some ⟨g3, 0, none⟩) (k + 1) c3)) (q5 : w.cell? ⟨b, 5, none⟩ = some (.int .i64 lv))
    (z4 : w.frozen? ⟨b, 4, none⟩ = false) (z5 : w.frozen? ⟨b, 5, none⟩ = false) (p3 : w.cell? ⟨g3, k, none⟩ = some (.int .i64 (f : Int))) (p1 : w.cell? ⟨g1, f, none⟩ = some (.int .u32 (x : Int))) (y1 : w.frozen? ⟨g1, f, none⟩ = false) (y2 : w.frozen? ⟨g2, f, none⟩ = false)
    (e1 : g1 ≠ b) (e2 : g2 ≠ b) (e3 : g3 ≠ b) (e12 : g1 ≠ g2) (p2 : ∃ u, w.cell? ⟨g2, f, none⟩ = some u) :
    Calls Tryz.prog 62 #[.pointer (some ⟨b, 0, none⟩)] w fun e w' => e = .returned (.int .u32 ((x + 1024 : Nat) : Int)) ∧
      w' = (((w.setCell ⟨b, 4, none⟩ (.slice (some ⟨g3, 0, none⟩) k c3)).setCell ⟨g1, f, none⟩ (.int .u32 ((x + 1024 : Nat) : Int))).setCell ⟨g2, f, none⟩ (.bool true)).setCell ⟨b, 5, none⟩ (.int .i64 (lv + 1)) := by
  obtain ⟨u2, p2⟩ := p2
  have hx' : ((x + 1024 : Nat) : Int) = (x : Int) + 1024 := by omega
  go_enter Tryz.func62, Tryz.ntmps62
  go_wp2
  go_ret
  exact ⟨ret_int (by omega), by rw [hx']⟩

set_option maxHeartbeats 1000000 in
set_option maxRecDepth 100000 in
theorem takeNew_ok (w0 w : World) (l : List Thing) (b : Nat) (S : St) (h : Own w0 w (Slots b S :: l)) (hS : S.Ok) (hl : S.last.length < S.n) :
    Calls Tryz.prog 63 #[.pointer (some ⟨b, 0, none⟩)] w fun e w' => e = .returned (.int .u32 ((S.first * 1024 + S.last.length : Nat) : Int)) ∧ Own w0 w' (Slots b S.more :: l) := by
  obtain ⟨⟨v1, v2, v3⟩, h⟩ := Own.ex_iff.1 h
  obtain ⟨i0, hi, hz0, hz1, hz2⟩ := info_parts Tryz.infoID
  obtain ⟨i1, hi1, hz10, hz11, hz12⟩ := info_parts Tryz.infoBool
  have hn := hS.n2
  have hf := hS.f2
  have hlv : S.live ≤ 1024 := by have := hS.cnt; have := hS.le; omega
  have hul := hS.ul
  have q1 := h.cell 1
  have q2 := h.cell 2
  obtain ⟨a1, c1, rfl⟩ : ∃ a c, v1 = .slice a S.last.length c := by
    rcases h.two.row.2 with ⟨rfl, e⟩ | ⟨g, cap, cur, rfl, _⟩
    · exact ⟨_, _, by rw [e]⟩
    · exact ⟨_, _, rfl⟩
  have H : Hid (Own w0 w _) := h
  have HS : Hid S.Ok := hS
  clear h hS
  simp at q1 q2
  go_enter Tryz.func63, Tryz.ntmps63
  go_wp2
  go_quiet ((go_at_call 95; exact Calls.quiet_of_same (number_any S.last.length S.first _ (by omega) (by omega))))
  go_wp2_with (at_builtin; refine append1_own rfl _ _ 33 rfl 32 i0 (.int .u32 0) 1 4 Tryz.underlying33 hi hz0 hz1 hz2 rfl (by decide) _ _ _ rfl (H.out.drewN _).two _ _ (by simp) rfl rfl (one_int _ _) (by unfold maxLen; omega) (by omega) ?_)
  intro g1 c1' w1 hO hsz
  have q3 := hO.two.cell 3
  have k2 := hO.two.cell 2
  have z2 := hO.two.froz 2
  have H1 : Hid (Own w0 w1 _) := hO
  clear hO H q1 q2
  simp at q3 k2
  go_wp2_with (at_builtin; refine append1_own rfl _ _ 118 rfl 4 i1 (.bool false) 1 1 Tryz.underlying118 hi1 hz10 hz11 hz12 rfl (by decide) _ _ _ rfl (H1.out.two.setC 2 (.slice (some ⟨g1, 0, none⟩) (S.last.length + 1) c1')).three _ _ (by simp) rfl rfl (one_bool _) (by unfold maxLen; omega) (by omega) ?_)
  intro g2 c2' w2 hO2 hsz2
  have k3 := hO2.two.cell 3
  have z3 := hO2.two.froz 3
  have z5 := hO2.two.froz 5
  have q5 := hO2.two.cell 5
  have H2 : Hid (Own w0 w2 _) := hO2
  clear hO2 H1 q3 k2
  simp at q5 k3
  go_wp2
  go_ret
  refine ⟨ret_int (by omega), Own.ex_iff.2 ⟨(.slice (some ⟨g1, 0, none⟩) (S.last.length + 1) c1', .slice (some ⟨g2, 0, none⟩) (S.last.length + 1) c2', v3), ?_⟩⟩
  have k := ((H2.out.two.setC 3 (.slice (some ⟨g2, 0, none⟩) (S.last.length + 1) c2')).setC 5 (.int .i64 ((S.live : Int) + 1))).in23
  have e1 : irow .u32 S.more.last = irow .u32 S.last ++ [.int .u32 ((S.first : Int) * 1024 + (S.last.length : Int))] := by simp [irow, St.more]
  have e2 : brow S.more.used = brow S.used ++ [.bool true] := by simp [brow, St.more]
  have e3 : S.more.last.length = S.last.length + 1 := by simp [St.more]
  have e4 : S.more.used.length = S.last.length + 1 := by simp [St.more, hul]
  have e5 : (S.more.live : Int) = (S.live : Int) + 1 := by simp [St.more]
  rw [e1, e2, e3, e4, e5]
  exact k
end Go.Proofs.YtibdgdbkdnifbaaGreatDoor

/-
  Package slots: Take, Free, Live, Len, Room on slots.
-/
namespace Go.Proofs.YtibdgdbkdnifbaaGreatDoor
open Go.RowKit
set_option linter.unusedVariables false

theorem takeAgain_ok (w0 w : World) (l : List Thing) (b : Nat) (S : St) (f : Nat) (h : Own w0 w (Slots b S :: l)) (hS : S.Ok) (hf : S.freed.getLast? = some f) :
    Calls Tryz.prog 62 #[.pointer (some ⟨b, 0, none⟩)] w fun e w' => e = .returned (.int .u32 ((S.last.getD f 0 + 1024 : Nat) : Int)) ∧ Own w0 w' (Slots b (S.again f) :: l) := by
  obtain ⟨⟨v1, v2, v3⟩, h⟩ := Own.ex_iff.1 h
  have e := dropLast_of _ _ hf
  have hlen : S.freed.length = S.freed.dropLast.length + 1 := by
    have := congrArg List.length e
    rw [List.length_append, List.length_singleton] at this; exact this
  have hm : f ∈ S.freed := by rw [e]; simp
  obtain ⟨hu, x, hx, hg⟩ := hS.fr f hm
  have hgd := hS.getD hx
  have hid := hS.id f x hx
  have hf1 := hS.lt hm
  have hf2 : f < S.used.length := by rw [hS.ul]; exact hf1
  have hn := hS.n2
  have hle := hS.le
  have hcnt := hS.cnt
  have r1 := h.two.row
  have r2 := h.three.row
  have r3 := h.four.row
  obtain ⟨g1, c1, rfl, _⟩ := row_shape r1 (by show 0 < S.last.length; omega)
  obtain ⟨g2, c2, rfl, _⟩ := row_shape r2 (by show 0 < S.used.length; omega)
  obtain ⟨g3, c3, rfl, _⟩ := row_shape r3 (by show 0 < S.freed.length; omega)
  have q2 := h.cell 2
  have q3 := h.cell 3
  have q4 := h.cell 4
  have q5 := h.cell 5
  have d1 := h.ne
  have d2 := h.in23.ne
  have d3 := h.four.two.ne
  have d12 := h.tail.neR g1 rfl
  rw [hgd]
  have hk := (row_cap r3).2.1
  refine (again0 w b g1 g2 g3 S.last.length S.used.length S.freed.dropLast.length c1 c2 c3 f x (S.live : Int) (by omega) hf1 hf2 (by omega) (by omega) (by omega) (by omega) q2 q3 (by rw [← hlen]; exact q4) q5 (h.froz 4) (h.froz 5) ?_ ?_ (r1.frozenAt f) (r2.frozenAt f) (fun q => d1 (by rw [q]; rfl)) (fun q => d2 (by rw [q]; rfl)) (fun q => d3 (by rw [q]; rfl)) (fun q => d12 (by rw [q]; rfl)) ?_).mono ?_
  · rw [r3.cellAt _ (by omega), getElem?_irow, e, List.getElem?_append_right (by simp)]; simp
  · rw [r1.cellAt _ (by omega), getElem?_irow, hx]; rfl
  · exact ⟨_, by rw [r2.cellAt _ (by omega), getElem?_brow, hu]; rfl⟩
  rintro e' w' ⟨rfl, rfl⟩
  refine ⟨rfl, Own.ex_iff.2 ⟨(.slice (some ⟨g1, 0, none⟩) S.last.length c1, .slice (some ⟨g2, 0, none⟩) S.used.length c2, .slice (some ⟨g3, 0, none⟩) S.freed.dropLast.length c3), ?_⟩⟩
  have k1 := (h.four.cut (m := S.freed.dropLast.length) (by omega)).back4.two.two
  have k2 := ((k1.setC 4 (.slice (some ⟨g3, 0, none⟩) S.freed.dropLast.length c3)).two.setR f (.int .u32 ((x + 1024 : Nat) : Int))).two
  have k3 := ((k2.three.setR f (.bool true)).back3.setC 5 (.int .i64 ((S.live : Int) + 1)))
  have e1 : irow .u32 (S.again f).last = (irow .u32 S.last).set f (.int .u32 ((x + 1024 : Nat) : Int)) := by simp only [St.again, hgd]; exact irow_set _ _ _ _
  have e2 : brow (S.again f).used = (brow S.used).set f (.bool true) := by simp only [St.again]; exact brow_set _ _ _
  have e3 : irow .i64 (S.again f).freed = (irow .i64 S.freed).take (S.freed.dropLast.length * 1) := by
    simp only [St.again]; rw [← irow_take, Nat.mul_one]; congr 1
    rw [List.length_dropLast, List.dropLast_eq_take]
  have e5 : ((S.again f).live : Int) = (S.live : Int) + 1 := by simp [St.again]
  have e6 : (S.again f).last.length = S.last.length := by simp [St.again]
  have e7 : (S.again f).used.length = S.used.length := by simp [St.again]
  rw [e1, e2, e3, e5, e6, e7]
  exact k3

set_option maxHeartbeats 1000000 in
set_option maxRecDepth 100000 in
theorem take_ok (w0 w : World) (l : List Thing) (b : Nat) (S : St) (h : Own w0 w (Slots b S :: l)) (hS : S.Ok) :
    Calls Tryz.prog 28 #[.pointer (some ⟨b, 0, none⟩)] w fun e w' => e = .returned (.tuple #[.int .u32 (S.take.1 : Int), .int .i64 S.take.2.1]) ∧ Own w0 w' (Slots b S.take.2.2 :: l) := by
  have H : Hid (Own w0 w (Slots b S :: l)) := h
  obtain ⟨⟨v1, v2, v3⟩, h⟩ := Own.ex_iff.1 h
  have q0 := h.cell 0
  have q2 := h.cell 2
  have q4 := h.cell 4
  obtain ⟨a1, c1, rfl⟩ := row_any h.two.row
  obtain ⟨a3, c3, rfl⟩ := row_any h.four.row
  have hn := hS.n2
  have hle := hS.le
  have hcnt := hS.cnt
  have hfl : S.freed.length ≤ 1024 := by omega
  clear h
  simp at q0 q2 q4
  have HS : Hid S.Ok := hS
  clear hS hcnt
  unfold St.take
  cases hf : S.freed.getLast? with
  | some f =>
    have hpos : (0 : Int) < (S.freed.length : Int) := by
      have e := dropLast_of _ _ hf
      have := congrArg List.length e
      rw [List.length_append, List.length_singleton] at this; omega
    have HF : Hid (S.freed.getLast? = some f) := hf
    clear hf
    go_enter Tryz.func28, Tryz.ntmps28
    go_wp2_with fail
    refine (takeAgain_ok w0 w l b S f H.out HS.out HF.out).mono ?_
    rintro e w1 ⟨rfl, hO⟩
    have H1 : Hid (Own w0 w1 _) := hO
    clear hO H
    go_wp2
    go_ret2
    exact ⟨rfl, H1.out⟩
  | none =>
    have hf' : S.freed = [] := List.getLast?_eq_none_iff.1 hf
    have hz : S.freed.length = 0 := by rw [hf']; rfl
    rw [hz] at q4
    clear hf hf' hz
    by_cases hl : S.last.length < S.n
    · rw [if_pos hl]
      have hl' : (S.last.length : Int) < (S.n : Int) := by omega
      go_enter Tryz.func28, Tryz.ntmps28
      go_wp2
      go_region
      go_wp2_with fail
      refine (takeNew_ok w0 _ l b S H.out.drew HS.out hl).mono ?_
      rintro e w1 ⟨rfl, hO⟩
      have H1 : Hid (Own w0 w1 _) := hO
      clear hO H
      go_wp2
      go_ret2
      exact ⟨rfl, H1.out⟩
    · rw [if_neg hl]
      have hl' : (S.n : Int) ≤ (S.last.length : Int) := by omega
      go_enter Tryz.func28, Tryz.ntmps28
      go_wp2
      go_region
      go_wp2
      go_ret2
      exact ⟨rfl, H.out.drew⟩
set_option maxHeartbeats 400000 in
theorem take_nil (w : World) : Calls Tryz.prog 28 #[.pointer none] w fun e w' => e = .returned (.tuple #[.int .u32 0, .int .i64 10]) ∧ w' = w := by
  go_enter Tryz.func28, Tryz.ntmps28
  go_wp2
  go_ret2
  exact ⟨rfl, rfl⟩
end Go.Proofs.YtibdgdbkdnifbaaGreatDoor

/-
  Package slots: Live, Free, Len, Room, List on slots.
-/
namespace Go.Proofs.YtibdgdbkdnifbaaGreatDoor
open Go.RowKit
set_option linter.unusedVariables false

set_option maxHeartbeats 1000000 in
set_option maxRecDepth 100000 in
theorem live_ok (w0 w : World) (l : List Thing) (b : Nat) (S : St) (id : Nat) (h : Own w0 w (Slots b S :: l)) (hS : S.Ok) (hid : id < 4294967296) :
    Calls Tryz.prog 71 #[.pointer (some ⟨b, 0, none⟩), .int .u32 (id : Int)] w fun e w' => e = .returned (.bool (S.isLive id)) ∧ w' = w := by
  obtain ⟨⟨v1, v2, v3⟩, h⟩ := Own.ex_iff.1 h
  have q2 := h.cell 2
  have q3 := h.cell 3
  have r1 := h.two.row
  have r2 := h.three.row
  have hul := hS.ul
  have hn := hS.n2
  have hle := hS.le
  obtain ⟨a1, c1, rfl⟩ := row_any r1
  obtain ⟨a2, c2, rfl⟩ := row_any r2
  simp at q2 q3
  by_cases hl : id % 1024 < S.last.length
  · have hlu : id % 1024 < S.used.length := by omega
    obtain ⟨g1, c1', he1, _⟩ := row_shape r1 (by show 0 < S.last.length; omega)
    obtain ⟨g2, c2', he2, _⟩ := row_shape r2 (by show 0 < S.used.length; omega)
    cases he1
    cases he2
    obtain ⟨u, hu⟩ : ∃ u, S.used[id % 1024]? = some u := ⟨_, List.getElem?_eq_getElem hlu⟩
    obtain ⟨x, hx⟩ : ∃ x, S.last[id % 1024]? = some x := ⟨_, List.getElem?_eq_getElem hl⟩
    have p1 : w.cell? ⟨g1, id % 1024, none⟩ = some (.int .u32 (x : Int)) := by rw [r1.cellAt _ (by omega), getElem?_irow, hx]; rfl
    have p2 : w.cell? ⟨g2, id % 1024, none⟩ = some (.bool u) := by rw [r2.cellAt _ (by omega), getElem?_brow, hu]; rfl
    have e : S.isLive id = (u && x == id) := by unfold St.isLive; rw [List.getD_eq_getElem?_getD, List.getD_eq_getElem?_getD, hu, hx]; rfl
    rw [e]
    clear e h r1 r2 hS hu hx hle
    have hl' : ((id % 1024 : Nat) : Int) < (S.last.length : Int) := by omega
    have hlu' : ((id % 1024 : Nat) : Int) < (S.used.length : Int) := by omega
    generalize hm : id % 1024 = m at *
    clear hl hlu hul
    cases u
    · go_enter Tryz.func71, Tryz.ntmps71
      go_wp2_with (go_at_call 67; refine (slot_any id _ hid).mono ?_; rw [hm]; rintro e w' ⟨rfl, rfl⟩)
      go_ret
      exact ⟨rfl, rfl⟩
    · by_cases hc : x = id
      · subst hc
        go_enter Tryz.func71, Tryz.ntmps71
        go_wp2_with (go_at_call 67; refine (slot_any x _ hid).mono ?_; rw [hm]; rintro e w' ⟨rfl, rfl⟩)
        go_ret
        exact ⟨by simp, rfl⟩
      · have hc' : ((x : Int) == (id : Int)) = false := by simp; omega
        go_enter Tryz.func71, Tryz.ntmps71
        go_wp2_with (go_at_call 67; refine (slot_any id _ hid).mono ?_; rw [hm]; rintro e w' ⟨rfl, rfl⟩)
        go_ret
        exact ⟨by simp [hc], rfl⟩
  · have e : S.isLive id = false := by unfold St.isLive; rw [List.getD_eq_getElem?_getD, List.getElem?_eq_none (by omega)]; rfl
    rw [e]
    have hl' : decide (((id % 1024 : Nat) : Int) < (S.last.length : Int)) = false := by simp; omega
    clear e h r1 r2 hS
    generalize hm : id % 1024 = m at *
    go_enter Tryz.func71, Tryz.ntmps71
    go_wp2_with (go_at_call 67; refine (slot_any id _ hid).mono ?_; rw [hm]; rintro e w' ⟨rfl, rfl⟩)
    go_ret
    exact ⟨rfl, rfl⟩
set_option maxHeartbeats 400000 in
theorem live_nil (w : World) (id : Int) : Calls Tryz.prog 71 #[.pointer none, .int .u32 id] w fun e w' => e = .returned (.bool false) ∧ w' = w := by
  go_enter Tryz.func71, Tryz.ntmps71
  go_wp2
  go_ret
  exact ⟨rfl, rfl⟩
set_option maxHeartbeats 400000 in
theorem len_ok (w0 w : World) (l : List Thing) (b : Nat) (S : St) (h : Own w0 w (Slots b S :: l)) :
    Calls Tryz.prog 89 #[.pointer (some ⟨b, 0, none⟩)] w fun e w' => e = .returned (.int .i64 (S.live : Int)) ∧ w' = w := by
  obtain ⟨⟨v1, v2, v3⟩, h⟩ := Own.ex_iff.1 h
  have q5 := h.cell 5
  simp at q5
  clear h
  go_enter Tryz.func89, Tryz.ntmps89
  go_wp2
  go_ret
  exact ⟨rfl, rfl⟩
set_option maxHeartbeats 400000 in
theorem len_nil (w : World) : Calls Tryz.prog 89 #[.pointer none] w fun e w' => e = .returned (.int .i64 0) ∧ w' = w := by
  go_enter Tryz.func89, Tryz.ntmps89
  go_wp2
  go_ret
  exact ⟨rfl, rfl⟩
set_option maxHeartbeats 400000 in
theorem room_ok (w0 w : World) (l : List Thing) (b : Nat) (S : St) (h : Own w0 w (Slots b S :: l)) (hS : S.Ok) :
    Calls Tryz.prog 90 #[.pointer (some ⟨b, 0, none⟩)] w fun e w' => e = .returned (.int .i64 (S.room : Int)) ∧ Fr Nobody w w' := by
  obtain ⟨⟨v1, v2, v3⟩, h⟩ := Own.ex_iff.1 h
  have q0 := h.cell 0
  have q2 := h.cell 2
  have q4 := h.cell 4
  obtain ⟨a1, c1, rfl⟩ := row_any h.two.row
  obtain ⟨a3, c3, rfl⟩ := row_any h.four.row
  have hn := hS.n2
  have hle := hS.le
  have hcnt := hS.cnt
  have hr : (S.room : Int) = (S.freed.length : Int) + (S.n : Int) - (S.last.length : Int) := by unfold St.room; omega
  have HR : Hid ((S.room : Int) = (S.freed.length : Int) + (S.n : Int) - (S.last.length : Int)) := hr
  have hfl : S.freed.length ≤ 1024 := by omega
  simp at q0 q2 q4
  clear h hr
  go_enter Tryz.func90, Tryz.ntmps90
  go_wp2
  go_region
  go_wp2
  go_ret
  exact ⟨ret_int HR.out.symm, (Fr.refl _ _).drew⟩
set_option maxHeartbeats 400000 in
theorem room_nil (w : World) : Calls Tryz.prog 90 #[.pointer none] w fun e w' => e = .returned (.int .i64 0) ∧ w' = w := by
  go_enter Tryz.func90, Tryz.ntmps90
  go_wp2
  go_ret
  exact ⟨rfl, rfl⟩
end Go.Proofs.YtibdgdbkdnifbaaGreatDoor

/-
  Package slots: Free and List on slots.
-/
namespace Go.Proofs.YtibdgdbkdnifbaaGreatDoor
open Go.RowKit
set_option linter.unusedVariables false

set_option maxHeartbeats 2000000 in
set_option maxRecDepth 100000 in
theorem free_ok (w0 w : World) (l : List Thing) (b : Nat) (S : St) (id : Nat) (h : Own w0 w (Slots b S :: l)) (hS : S.Ok) (hid : id < 4294967296) :
    Calls Tryz.prog 35 #[.pointer (some ⟨b, 0, none⟩), .int .u32 (id : Int)] w fun e w' => e = .returned (.int .i64 (S.free id).1) ∧ Own w0 w' (Slots b (S.free id).2 :: l) := by
  have HL := live_ok w0 w l b S id h hS hid
  have H0 : Hid (Own w0 w (Slots b S :: l)) := h
  unfold St.free
  by_cases hlive : S.isLive id = true
  · rw [if_pos hlive]
    rw [hlive] at HL
    obtain ⟨hu, hx⟩ := (S.isLive_iff hS id).1 hlive
    have hlu : id % 1024 < S.used.length := (List.getElem?_eq_some_iff.1 hu).1
    have hl1 : 1 ≤ S.live := by rw [hS.live]; exact List.count_pos_iff.2 (List.mem_of_getElem? hu)
    have hn := hS.n2
    have hle := hS.le
    have hul := hS.ul
    have hcnt := hS.cnt
    obtain ⟨i0, hi, hz0, hz1, hz2⟩ := info_parts Tryz.infoInt
    obtain ⟨⟨v1, v2, v3⟩, h⟩ := Own.ex_iff.1 h
    have r2 := h.three.row
    obtain ⟨g2, c2, rfl, _⟩ := row_shape r2 (by show 0 < S.used.length; omega)
    obtain ⟨a3, c3, rfl⟩ := row_any h.four.row
    have q3 := h.cell 3
    have q4 := h.cell 4
    have q5 := h.cell 5
    have z4 := h.froz 4
    have z5 := h.froz 5
    have d2 := h.in23.ne
    have e2 : g2 ≠ b := fun q => d2 (by rw [q]; rfl)
    have p2 : w.cell? ⟨g2, id % 1024, none⟩ = some (.bool true) := by rw [r2.cellAt _ (by omega), getElem?_brow, hu]; rfl
    have y2 : w.frozen? ⟨g2, id % 1024, none⟩ = false := r2.frozenAt _
    have H : Hid (Own w0 w _) := h
    have hlu' : ((id % 1024 : Nat) : Int) < (S.used.length : Int) := by omega
    have HM : Hid (id % 1024 = id % 1024) := rfl
    simp at q3 q4 q5
    clear h r2 d2 hu hx hlive hlu H0 hul
    have hm4 : id % 1024 < 1024 := by omega
    have e5 : ((S.live - 1 : Nat) : Int) = (S.live : Int) - 1 := by omega
    have E5 : Hid (((S.live - 1 : Nat) : Int) = (S.live : Int) - 1) := e5
    clear e5
    have HW : Hid (∀ m, m = id % 1024 → S.less id = { S with used := S.used.set m false, live := S.live - 1, freed := if id / 1024 < 4194303 then S.freed ++ [m] else S.freed }) := by rintro m rfl; rfl
    generalize hm' : id % 1024 = m at *
    have hm : Hid (id % 1024 = m) := hm'
    have HLV : Hid (Calls _ _ _ _ _) := HL
    clear hm' HL HM
    by_cases hg : id / 1024 < 4194303
    · obtain ⟨gg, hgg⟩ : ∃ gg : Int, gg = ((id / 1024 : Nat) : Int) := ⟨_, rfl⟩
      have hg' : gg < 4194303 := by omega
      have HG : Hid (id / 1024 < 4194303) := hg
      have HGG : Hid (((id / 1024 : Nat) : Int) = gg) := hgg.symm
      clear hg hgg
      go_enter Tryz.func35, Tryz.ntmps35
      go_wp2_with (first | (go_at_call 71; refine HLV.out.mono ?_; rintro e w' ⟨rfl, hw⟩; subst hw) | (go_at_call 67; refine (slot_any id _ hid).mono ?_; rw [hm.out]; rintro e w' ⟨rfl, hw⟩; subst hw) | (go_at_call 75; refine (gen_any id _ hid).mono ?_; rw [HGG.out]; rintro e w' ⟨rfl, hw⟩; subst hw) | (at_builtin; refine append1_own rfl _ _ 119 rfl 3 i0 (.int .i64 0) 1 8 Tryz.underlying119 hi hz0 hz1 hz2 rfl (by decide) _ _ _ rfl ((H.out.three.setR m (.bool false)).back3.setC 5 (.int .i64 ((S.live : Int) - 1))).four _ _ (by simp) rfl rfl (one_int _ _) (by unfold maxLen; omega) (by omega) ?_))
      intro g3 c3' w1 hO hsz
      have k4 := hO.two.cell 4
      have z4' := hO.two.froz 4
      have H1 : Hid (Own w0 w1 _) := hO
      simp at k4
      clear hO H
      go_wp2
      go_ret
      refine ⟨rfl, Own.ex_iff.2 ⟨(v1, .slice (some ⟨g2, 0, none⟩) S.used.length c2, .slice (some ⟨g3, 0, none⟩) (S.freed.length + 1) c3'), ?_⟩⟩
      have k := (H1.out.two.setC 4 (.slice (some ⟨g3, 0, none⟩) (S.freed.length + 1) c3')).two.back4
      rw [HW.out m rfl, if_pos HG.out]
      have e1 : irow .i64 (S.freed ++ [m]) = irow .i64 S.freed ++ [.int .i64 (m : Int)] := by simp [irow]
      have e3 : (S.freed ++ [m]).length = S.freed.length + 1 := by simp
      have e4 : (S.used.set m false).length = S.used.length := by simp
      show Own w0 _ (Cells b #[.int .i64 (S.n : Int), .int .i64 (S.first : Int), v1, .slice (some ⟨g2, 0, none⟩) S.used.length c2, .slice (some ⟨g3, 0, none⟩) (S.freed.length + 1) c3', .int .i64 ((S.live - 1 : Nat) : Int)] 121 ::
        Row 32 1 v1 S.last.length (irow .u32 S.last) :: Row 4 1 (.slice (some ⟨g2, 0, none⟩) S.used.length c2) (S.used.set m false).length (brow (S.used.set m false)) :: Row 3 1 (.slice (some ⟨g3, 0, none⟩) (S.freed.length + 1) c3') (S.freed ++ [m]).length (irow .i64 (S.freed ++ [m])) :: l)
      rw [e1, brow_set, e3, e4, E5.out]
      exact k
    · obtain ⟨gg, hgg⟩ : ∃ gg : Int, gg = ((id / 1024 : Nat) : Int) := ⟨_, rfl⟩
      have hg' : ¬ gg < 4194303 := by omega
      have HG : Hid (¬ id / 1024 < 4194303) := hg
      have HGG : Hid (((id / 1024 : Nat) : Int) = gg) := hgg.symm
      clear hg hgg
      go_enter Tryz.func35, Tryz.ntmps35
      go_wp2_with (first | (go_at_call 71; refine HLV.out.mono ?_; rintro e w' ⟨rfl, hw⟩; subst hw) | (go_at_call 67; refine (slot_any id _ hid).mono ?_; rw [hm.out]; rintro e w' ⟨rfl, hw⟩; subst hw) | (go_at_call 75; refine (gen_any id _ hid).mono ?_; rw [HGG.out]; rintro e w' ⟨rfl, hw⟩; subst hw))
      go_ret
      refine ⟨rfl, Own.ex_iff.2 ⟨(v1, .slice (some ⟨g2, 0, none⟩) S.used.length c2, .slice a3 S.freed.length c3), ?_⟩⟩
      have k := ((H.out.three.setR m (.bool false)).back3.setC 5 (.int .i64 ((S.live : Int) - 1)))
      rw [HW.out m rfl, if_neg HG.out]
      have e4 : (S.used.set m false).length = S.used.length := by simp
      show Own w0 _ (Cells b #[.int .i64 (S.n : Int), .int .i64 (S.first : Int), v1, .slice (some ⟨g2, 0, none⟩) S.used.length c2, .slice a3 S.freed.length c3, .int .i64 ((S.live - 1 : Nat) : Int)] 121 ::
        Row 32 1 v1 S.last.length (irow .u32 S.last) :: Row 4 1 (.slice (some ⟨g2, 0, none⟩) S.used.length c2) (S.used.set m false).length (brow (S.used.set m false)) :: Row 3 1 (.slice a3 S.freed.length c3) S.freed.length (irow .i64 S.freed) :: l)
      rw [brow_set, e4, E5.out]
      exact k
  · rw [if_neg hlive]
    have hlive' : S.isLive id = false := by simpa using hlive
    rw [hlive'] at HL
    have HLV : Hid (Calls _ _ _ _ _) := HL
    clear HL hlive hlive' h
    go_enter Tryz.func35, Tryz.ntmps35
    go_wp2_with (first | (go_at_call 71; refine HLV.out.mono ?_; rintro e w' ⟨rfl, hw⟩; subst hw))
    go_ret
    exact ⟨rfl, H0.out⟩
set_option maxHeartbeats 400000 in
theorem free_nil (w : World) (id : Int) : Calls Tryz.prog 35 #[.pointer none, .int .u32 id] w fun e w' => e = .returned (.int .i64 10) ∧ w' = w := by
  go_enter Tryz.func35, Tryz.ntmps35
  go_wp2
  go_ret
  exact ⟨rfl, rfl⟩
end Go.Proofs.YtibdgdbkdnifbaaGreatDoor

/-
  Package slots: List on slots.
-/
namespace Go.Proofs.YtibdgdbkdnifbaaGreatDoor
open Go.RowKit
set_option linter.unusedVariables false
set_option maxHeartbeats 400000 in
theorem list_nil (w : World) : Calls Tryz.prog 91 #[.pointer none] w fun e w' => e = .returned (.slice none 0 0) ∧ w' = w := by
  go_enter Tryz.func91, Tryz.ntmps91
  go_wp2
  go_ret
  exact ⟨rfl, rfl⟩
theorem pick_le (l : List Nat) (m : List Bool) : (pick l m).length ≤ l.length := by
  induction l generalizing m with
  | nil => cases m <;> simp [pick]
  | cons x l ih => cases m with
    | nil => simp [pick]
    | cons u m => have := ih m; cases u <;> simp [pick] <;> omega
theorem pick_step (S : St) (hS : S.Ok) (k x : Nat) (u : Bool) (hx : S.last[k]? = some x) (hu : S.used[k]? = some u) : pick (S.last.take (k + 1)) (S.used.take (k + 1)) = pick (S.last.take k) (S.used.take k) ++ if u then [x] else [] := by
  rw [List.take_add_one, List.take_add_one, hx, hu]
  exact pick_snoc _ _ (by rw [List.length_take, List.length_take, hS.ul]) x u

set_option maxHeartbeats 2000000 in
set_option maxRecDepth 100000 in
theorem list_ok (w0 w : World) (l : List Thing) (b : Nat) (S : St) (h : Own w0 w (Slots b S :: l)) (hS : S.Ok) :
    Calls Tryz.prog 91 #[.pointer (some ⟨b, 0, none⟩)] w fun e w' => ∃ v, e = .returned v ∧ Own w0 w' (Row 32 1 v S.list.length (irow .u32 S.list) :: Slots b S :: l) := by
  obtain ⟨⟨v1, v2, v3⟩, h⟩ := Own.ex_iff.1 h
  have q5 := h.cell 5
  have q2 := h.cell 2
  have hn := hS.n2
  have hle := hS.le
  have hul := hS.ul
  have hlv : S.live ≤ 1024 := by have := hS.cnt; have := hS.le; omega
  obtain ⟨i0, hi, hz0, hz1, hz2⟩ := info_parts Tryz.infoID
  obtain ⟨a1, c1, rfl⟩ := row_any h.two.row
  obtain ⟨a2, c2, rfl⟩ := row_any h.three.row
  obtain ⟨w1, hmk, hO, hf⟩ := make_own (P := Tryz.prog) h 33 32 i0 (.int .u32 0) 1 Tryz.underlying33 hi hz0 hz1 S.live (by rw [hz2]; omega) (by unfold maxLen; omega)
  have q2' := hO.two.cell 2
  simp at q2 q5 q2'
  have HS : Hid S.Ok := hS
  have HU : Hid (S.used.length = S.last.length) := hul
  have H1 : Hid (Own w0 w1 (Row 32 1 (.slice (some ⟨w.heap.size, 0, none⟩) 0 S.live) (pick (S.last.take 0) (S.used.take 0)).length (irow .u32 (pick (S.last.take 0) (S.used.take 0))) :: _)) := hO
  clear h hS hO hul hf
  go_enter Tryz.func91, Tryz.ntmps91
  go_wp2
  go_loopw [3, 18] (fun lv c wr => ∃ k : Nat, k ≤ S.last.length ∧ c = .int .i64 k ∧ ∃ g cap, lv = .slice (some ⟨g, 0, none⟩) (pick (S.last.take k) (S.used.take k)).length cap ∧
      Own w0 wr (Row 32 1 (.slice (some ⟨g, 0, none⟩) (pick (S.last.take k) (S.used.take k)).length cap) (pick (S.last.take k) (S.used.take k)).length (irow .u32 (pick (S.last.take k) (S.used.take k))) ::
        Cells b #[.int .i64 (S.n : Int), .int .i64 (S.first : Int), .slice a1 S.last.length c1, .slice a2 S.used.length c2, v3, .int .i64 (S.live : Int)] 121 ::
        Row 32 1 (.slice a1 S.last.length c1) S.last.length (irow .u32 S.last) :: Row 4 1 (.slice a2 S.used.length c2) S.used.length (brow S.used) :: Row 3 1 v3 S.freed.length (irow .i64 S.freed) :: l)) (fun _ c _ => S.last.length - (intOf c).toNat)
  case atStart => exact ⟨0, Nat.zero_le _, rfl, _, _, rfl, H1.out⟩
  case round =>
    obtain ⟨k, hk, rfl, g, cap, rfl, hO⟩ := hrel
    have q3 := hO.two.cell 3
    simp at q3
    by_cases hlt : k < S.last.length
    · have hlu : k < S.used.length := by have := HU.out; omega
      have r1 := hO.three.row
      have r2 := hO.four.row
      obtain ⟨g1, c1', he1, _⟩ := row_shape r1 (by omega)
      obtain ⟨g2, c2', he2, _⟩ := row_shape r2 (by omega)
      cases he1
      cases he2
      obtain ⟨u, hu⟩ : ∃ u, S.used[k]? = some u := ⟨_, List.getElem?_eq_getElem hlu⟩
      obtain ⟨x, hx⟩ : ∃ x, S.last[k]? = some x := ⟨_, List.getElem?_eq_getElem hlt⟩
      have p1 : wr.cell? ⟨g1, k, none⟩ = some (.int .u32 (x : Int)) := by rw [r1.cellAt _ (by omega), getElem?_irow, hx]; rfl
      have p2 : wr.cell? ⟨g2, k, none⟩ = some (.bool u) := by rw [r2.cellAt _ (by omega), getElem?_brow, hu]; rfl
      have HP : Hid (pick (S.last.take (k + 1)) (S.used.take (k + 1)) = pick (S.last.take k) (S.used.take k) ++ if u then [x] else []) := pick_step S HS.out k x u hx hu
      have hpl := pick_le (S.last.take k) (S.used.take k)
      rw [List.length_take] at hpl
      have HO : Hid (Own w0 wr _) := hO
      clear hO r1 r2 hu hx H1 hmk q2 q2' q5
      have hlu' : (k : Int) < (S.used.length : Int) := by omega
      generalize pick (S.last.take k) (S.used.take k) = pk at *
      cases u
      · go_wp2
        go_roundw
        case rel => exact ⟨k + 1, by omega, by go_num, g, cap, by rw [HP.out]; simp, by rw [HP.out]; simpa using HO.out⟩
        case measure => simp [intOf]; omega
      · go_wp2_with (at_builtin; refine append1_own rfl _ _ 33 rfl 32 i0 (.int .u32 0) 1 4 Tryz.underlying33 hi hz0 hz1 hz2 rfl (by decide) _ _ _ rfl HO.out _ _ (by simp) rfl rfl (one_int _ _) (by unfold maxLen; omega) (by omega) ?_)
        intro g' cap' w2 hO2 hsz
        have H2 : Hid (Own w0 w2 _) := hO2
        clear hO2 HO
        go_wp2
        go_roundw
        case rel => exact ⟨k + 1, by omega, by go_num, g', cap', by rw [HP.out]; simp, by rw [HP.out]; simpa [irow] using H2.out⟩
        case measure => simp [intOf]; omega
    · have ek : k = S.last.length := by omega
      subst ek
      have HUL : S.used.length ≤ S.last.length := by rw [HU.out]; exact Nat.le_refl _
      rw [List.take_of_length_le (Nat.le_refl S.last.length), List.take_of_length_le HUL] at hO
      rw [List.take_of_length_le (Nat.le_refl S.last.length), List.take_of_length_le HUL]
      have HO : Hid (Own w0 wr _) := hO
      clear hO HUL H1 hmk q2 q2' q5
      go_wp2
      go_ret
      exact ⟨_, rfl, Own.ex2.2 ⟨(.slice a1 S.last.length c1, .slice a2 S.used.length c2, v3), HO.out⟩⟩
end Go.Proofs.YtibdgdbkdnifbaaGreatDoor
