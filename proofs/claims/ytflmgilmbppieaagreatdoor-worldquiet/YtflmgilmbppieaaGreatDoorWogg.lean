/-
  slices.Concat of two lists of places; the sort of no places.
-/
import Derived.Test.YtflmgilmbppieaaGreatDoorWohg
import Derived.Test.YtflmgilmbppieaaGreatDoorYx
import Derived.Lib.AppendZerosOnto
import Derived.Lib.Overlaps
import Derived.Laws.StructEq
import Derived.OpenShut
namespace Go.Proofs.YtflmgilmbppieaaGreatDoor
open Go.RowKit
set_option linter.unusedVariables false
set_option maxRecDepth 100000

theorem pls_one (L : List PlE) : ∀ u ∈ cat PlE.cs L, u.oneCell' = true := by
  intro u hu
  obtain ⟨x, _, hx⟩ := List.mem_flatMap.1 hu
  simp [PlE.cs] at hx
  rcases hx with rfl | rfl | rfl | rfl <;> rfl
theorem pls_len (L : List PlE) : (cat PlE.cs L).length = L.length * 4 := cat_lenK (enc := PlE.cs) (k := 4) (fun _ => rfl) L
set_option maxHeartbeats 4000000 in
theorem growPl (w0 w : World) (l : List Thing) (h : Own w0 w l) (k : Nat) (hk : k ≤ 10000000) :
    Calls Tryz.prog 178 #[.slice none 0 0, .int .i64 (k : Int)] w fun e w' => ∃ ao cap, e = .returned (.slice ao 0 cap) ∧ Own w0 w' (Row 63 4 (.slice ao 0 cap) 0 [] :: l) := by
  rcases Nat.eq_zero_or_pos k with h0 | h0
  · subst h0
    have H : Hid (Own w0 w l) := h
    clear h
    go_enter Tryz.func178, Tryz.ntmps178
    go_wp2
    go_ret
    exact ⟨none, 0, rfl, H.out.nilRow _ _⟩
  · obtain ⟨i0, hi0, hz0, hz1, hz2⟩ : ∃ i, Tryz.prog.info? 63 = some i ∧ i.zero = some (.agg #[.int .u32 0, .bool false, .int .i32 0, .int .i32 0]) ∧ i.size = 4 ∧ i.bytes = 16 := by
      have := Tryz.infoPl
      cases hi : Tryz.prog.info? 63 with
      | none => rw [hi] at this; simp at this
      | some i => rw [hi] at this; simp at this; exact ⟨i, rfl, this.1, this.2.1, this.2.2⟩
    have hold : (Builtin.firstCells i0.size 0 (.slice none 0 0)).run Tryz.prog w.drew = .ok ([] : List Value).toArray w.drew := by
      simp [Builtin.firstCells]
    have hrz : ∀ ty, _ := fun ty => Lib.run_append_grow_zeros (P := Tryz.prog) w 60 3 ty 63 i0 (.agg #[.int .u32 0, .bool false, .int .i32 0, .int .i32 0]) .i64 .i64 Tryz.underlying60 Tryz.underlying3 hi0 hz0 none 0 0 [] hold k h0 (by rw [hz1]; decide) (by omega) (by omega) (by rw [hz2]; omega) (growslice_fits (by omega) (by rw [hz2]; omega))
    obtain ⟨G, hG⟩ : ∃ G, G = grownCap w (0 + k) 0 63 := ⟨_, rfl⟩
    have hGn : k ≤ G := by rw [hG]; have := grownCap_ge w (0 + k) 0 63; omega
    have hGm : G ≤ maxLen := by rw [hG]; exact grownCap_le_maxLen w (0 + k) 0 63 (by unfold maxLen; omega)
    obtain ⟨cur0, hc0⟩ : ∃ cur0, cur0 = ([] : List Value).toArray ++ Builtin.zeroCells (Value.cells (.agg #[.int .u32 0, .bool false, .int .i32 0, .int .i32 0])) k ++ Builtin.zeroCells (Value.cells (.agg #[.int .u32 0, .bool false, .int .i32 0, .int .i32 0])) (G - (0 + k)) := ⟨_, rfl⟩
    rw [← hG, ← hc0] at hrz
    have hzz : (Value.cells (.agg #[.int .u32 0, .bool false, .int .i32 0, .int .i32 0])).size = 4 := rfl
    have hs0 : cur0.size = G * 4 := by
      rw [hc0]; simp only [Array.size_append, List.size_toArray, size_zeroCells, hzz, List.length_nil]; omega
    obtain ⟨N, hN⟩ : ∃ N, N = w.heap.size := ⟨_, rfl⟩
    rw [← hN] at hrz
    obtain ⟨w1, hw1⟩ : ∃ w1, w1 = w.drew.alloc (.cells cur0 63) := ⟨_, rfl⟩
    rw [← hw1] at hrz
    have hg1 : w1.heap[N]? = some (.cells cur0 63 (0, 0)) := by rw [hw1, hN]; exact heap_alloc_new w.drew _
    have hO1 : Own w0 w1 (Row 63 4 (.slice (some ⟨N, 0, none⟩) 0 G) 0 [] :: l) :=
      h.new (w' := w1) (Row 63 4 (.slice (some ⟨N, 0, none⟩) 0 G) 0 []) (fun j => j = N) ⟨⟨by simp, .inr ⟨N, G, cur0, rfl, Nat.zero_le _, hg1, Nat.zero_le _, hGm, hs0, by simp⟩⟩, fun j => by simp [Value.ownBlock]; exact eq_comm⟩ (by rw [hw1]; exact (Fr.refl _ _).drew.alloc _) (fun j hj => by omega)
    have H1 : Hid (Own w0 w1 _) := hO1
    have h0' : (0 : Int) < (k : Int) := by omega
    have hGk : (0 : Int) ≤ (G : Int) := by omega
    rw [Nat.zero_add] at hrz
    have HRZ : Hid (∀ ty, (Builtin.append_ #[60, 3] ty #[.slice none 0 0, .int .i64 (k : Int)]).run Tryz.prog w = .ok (.slice (some ⟨N, 0, none⟩) k G) w1) := hrz
    clear hrz
    clear hO1 hg1 hw1 hN hs0 hc0 hG hold h hi0 hz0 hz1 hz2 hGm
    go_enter Tryz.func178, Tryz.ntmps178
    go_wp2_with (at_builtin; refine Lib.wpList_append_run _ rfl _ _ _ _ rfl _ _ rfl rfl _ _ (HRZ.out _) ?_)
    go_wp2
    go_ret
    exact ⟨some ⟨N, 0, none⟩, G, by simp, H1.out⟩
end Go.Proofs.YtflmgilmbppieaaGreatDoor

/-
  slices.Concat of two lists of places.
-/
namespace Go.Proofs.YtflmgilmbppieaaGreatDoor
open Go.RowKit
set_option linter.unusedVariables false
set_option maxRecDepth 100000

set_option maxHeartbeats 8000000 in
theorem concatPl (w0 w : World) (l : List Thing) (B : Nat) (a1 a2 : Option Addr) (c1 c2 : Nat) (L1 L2 : List PlE) (hl : L1.length + L2.length ≤ 1000000)
    (h : Own w0 w (Cells B #[.slice a1 L1.length c1, .slice a2 L2.length c2] 60 :: Row 63 4 (.slice a1 L1.length c1) L1.length (cat PlE.cs L1) :: Row 63 4 (.slice a2 L2.length c2) L2.length (cat PlE.cs L2) :: l)) :
    Calls Tryz.prog 115 #[.slice (some ⟨B, 0, none⟩) 2 2] w fun e w' => ∃ ao cap, e = .returned (.slice ao (L1 ++ L2).length cap) ∧ Own w0 w' (Row 63 4 (.slice ao (L1 ++ L2).length cap) (L1 ++ L2).length (cat PlE.cs (L1 ++ L2)) :: l) := by
  obtain ⟨i0, hi0, hz0, hz1, hz2⟩ : ∃ i, Tryz.prog.info? 63 = some i ∧ i.zero = some (.agg #[.int .u32 0, .bool false, .int .i32 0, .int .i32 0]) ∧ i.size = 4 ∧ i.bytes = 16 := by
    have := Tryz.infoPl
    cases hi : Tryz.prog.info? 63 with
    | none => rw [hi] at this; simp at this
    | some i => rw [hi] at this; simp at this; exact ⟨i, rfl, this.1, this.2.1, this.2.2⟩
  obtain ⟨n1, hn1⟩ : ∃ n, n = L1.length := ⟨_, rfl⟩
  obtain ⟨n2, hn2⟩ : ∃ n, n = L2.length := ⟨_, rfl⟩
  obtain ⟨n3, hn3⟩ : ∃ n, n = (L1 ++ L2).length := ⟨_, rfl⟩
  have hn : n3 = n1 + n2 := by rw [hn3, hn1, hn2, List.length_append]
  rw [← hn1, ← hn2] at h hl
  rw [← hn3]
  have H : Hid (Own w0 w (Cells B #[.slice a1 n1 c1, .slice a2 n2 c2] 60 :: View 4 (.slice a1 n1 c1) n1 (cat PlE.cs L1) :: View 4 (.slice a2 n2 c2) n2 (cat PlE.cs L2) :: l)) := ((h.two.view (by decide)).three.view (by decide)).back3.two
  have HE : Hid (n1 = L1.length ∧ n2 = L2.length ∧ n3 = (L1 ++ L2).length ∧ cat PlE.cs (L1 ++ L2) = cat PlE.cs L1 ++ cat PlE.cs L2) := ⟨hn1, hn2, hn3, cat_append _ _ _⟩
  have q0 := H.out.cell 0
  have q1 := H.out.cell 1
  simp at q0 q1
  have HNN : Hid (n3 = n1 + n2) := hn
  have hn30 : 0 ≤ (n3 : Int) := by omega
  have hn31 : n3 ≤ 1000000 := by omega
  have hw1 : (0 : Int) + (n1 : Int) = (n1 : Int) := by omega
  have hw2 : (n1 : Int) + (n2 : Int) = (n3 : Int) := by omega
  clear h hn1 hn2 hn3 hn
  go_enter Tryz.func115, Tryz.ntmps115
  go_wp2
  go_loopw [3, 11] (fun vs vi wr => wr = w ∧ ((vs = .int .i64 0 ∧ vi = .int .i64 0) ∨ (vs = .int .i64 (n1 : Int) ∧ vi = .int .i64 1) ∨ (vs = .int .i64 (n3 : Int) ∧ vi = .int .i64 2))) (fun _ vi _ => 2 - (intOf vi).toNat)
  case atStart => exact ⟨rfl, .inl ⟨rfl, rfl⟩⟩
  case round =>
    obtain ⟨rfl, ⟨rfl, rfl⟩ | ⟨rfl, rfl⟩ | ⟨rfl, rfl⟩⟩ := hrel
    · have hlt : ¬ ((n1 : Int) < 0) := by omega
      go_wp2
      go_roundw
      case rel => exact ⟨by first | rfl | trivial, .inr (.inl ⟨by go_num, by go_num⟩)⟩
      case measure => simp [intOf]
    · have hlt : ¬ ((n3 : Int) < 0) := by omega
      go_wp2
      go_roundw
      case rel => exact ⟨by first | rfl | trivial, .inr (.inr ⟨by go_num, by go_num⟩)⟩
      case measure => simp [intOf]
    · have HG : Hid (Calls _ _ _ _ _) := growPl w0 _ _ H.out n3 (by omega)
      go_wp2_with fail
      refine HG.out.mono ?_
      rintro e w2 ⟨ao, cap, rfl, h2⟩
      have H2 : Hid (Own w0 w2 _) := h2
      clear h2 HG
      go_wp2
      go_loopw [6, 27] (fun vs vi wr => ∃ ao cap, (vs = .slice ao 0 cap ∧ vi = .int .i64 0 ∧ Own w0 wr (Row 63 4 (.slice ao 0 cap) 0 [] :: Cells B #[.slice a1 n1 c1, .slice a2 n2 c2] 60 :: View 4 (.slice a1 n1 c1) n1 (cat PlE.cs L1) :: View 4 (.slice a2 n2 c2) n2 (cat PlE.cs L2) :: l)) ∨ (vs = .slice ao n1 cap ∧ vi = .int .i64 1 ∧ Own w0 wr (Row 63 4 (.slice ao n1 cap) n1 (cat PlE.cs L1) :: Cells B #[.slice a1 n1 c1, .slice a2 n2 c2] 60 :: View 4 (.slice a1 n1 c1) n1 (cat PlE.cs L1) :: View 4 (.slice a2 n2 c2) n2 (cat PlE.cs L2) :: l)) ∨ (vs = .slice ao n3 cap ∧ vi = .int .i64 2 ∧ Own w0 wr (Row 63 4 (.slice ao n3 cap) n3 (cat PlE.cs (L1 ++ L2)) :: l))) (fun _ vi _ => 2 - (intOf vi).toNat)
      case atStart => exact ⟨ao, cap, .inl ⟨rfl, rfl, H2.out⟩⟩
      case round =>
        clear H2 q0 q1
        obtain ⟨ao2, cap2, ⟨rfl, rfl, hO⟩ | ⟨rfl, rfl, hO⟩ | ⟨rfl, rfl, hO⟩⟩ := hrel
        · have q0 := hO.two.cell 0
          have q1 := hO.two.cell 1
          simp at q0 q1
          have HO : Hid (Own w0 wr (Row 63 4 (.slice ao2 0 cap2) 0 [] :: View 4 (.slice a1 n1 c1) n1 (cat PlE.cs L1) :: Cells B #[.slice a1 n1 c1, .slice a2 n2 c2] 60 :: View 4 (.slice a2 n2 c2) n2 (cat PlE.cs L2) :: l)) := hO.in23
          clear hO
          go_wp2_with (at_builtin; refine append_view rfl _ _ 60 rfl 63 i0 (.agg #[.int .u32 0, .bool false, .int .i32 0, .int .i32 0]) 4 16 Tryz.underlying60 hi0 hz0 hz1 hz2 rfl (by decide) _ _ _ rfl _ _ _ rfl HO.out (pls_one L1) (by unfold maxLen; omega) (by omega) ?_)
          intro ao3 cap3 w3 hO3 hsz
          have H3 : Hid (Own w0 w3 (Row 63 4 (.slice ao3 n1 cap3) n1 (cat PlE.cs L1) :: Cells B #[.slice a1 n1 c1, .slice a2 n2 c2] 60 :: View 4 (.slice a1 n1 c1) n1 (cat PlE.cs L1) :: View 4 (.slice a2 n2 c2) n2 (cat PlE.cs L2) :: l)) := by
            have := hO3.in23
            exact this
          clear hO3 hsz HO
          go_wp2
          go_roundw
          case rel => exact ⟨ao3, cap3, .inr (.inl ⟨rfl, by go_num, H3.out⟩)⟩
          case measure => simp [intOf]
        · have q0 := hO.two.cell 0
          have q1 := hO.two.cell 1
          simp at q0 q1
          have HO : Hid (Own w0 wr (Row 63 4 (.slice ao2 n1 cap2) n1 (cat PlE.cs L1) :: View 4 (.slice a2 n2 c2) n2 (cat PlE.cs L2) :: Cells B #[.slice a1 n1 c1, .slice a2 n2 c2] 60 :: View 4 (.slice a1 n1 c1) n1 (cat PlE.cs L1) :: l)) := hO.four.two
          clear hO
          go_wp2_with (at_builtin; refine append_view rfl _ _ 60 rfl 63 i0 (.agg #[.int .u32 0, .bool false, .int .i32 0, .int .i32 0]) 4 16 Tryz.underlying60 hi0 hz0 hz1 hz2 rfl (by decide) _ _ _ rfl _ _ _ rfl HO.out (pls_one L2) (by unfold maxLen; omega) (by omega) ?_)
          intro ao3 cap3 w3 hO3 hsz
          have H3 : Hid (Own w0 w3 (Row 63 4 (.slice ao3 n3 cap3) n3 (cat PlE.cs (L1 ++ L2)) :: l)) := by
            have := hO3.two.tail.two.tail.two.tail
            rw [← HNN.out, ← HE.out.2.2.2] at this
            exact this
          clear hO3 hsz HO
          rw [← HNN.out]
          go_wp2
          go_roundw
          case rel => exact ⟨ao3, cap3, .inr (.inr ⟨rfl, by go_num, H3.out⟩)⟩
          case measure => simp [intOf]
        · have HO : Hid (Own w0 wr _) := hO
          clear hO
          go_wp2
          go_ret
          exact ⟨ao2, cap2, rfl, HO.out⟩
end Go.Proofs.YtflmgilmbppieaaGreatDoor

/-
  Whose place was reached.
-/
namespace Go.Proofs.YtflmgilmbppieaaGreatDoor
open Go.RowKit Go.Maps
set_option linter.unusedVariables false
set_option maxRecDepth 100000

/-- a component as it was seen, and since when it is so -/
structure SgE where
  k : Int
  a : Int
  b : Int
  c : Int
  t : Nat
def SgE.v (s : SgE) : Value := .agg #[.int .u8 s.k, .int .i32 s.a, .int .i32 s.b, .int .i32 s.c, .int .u32 (s.t : Int)]
def sgp (S : Nat → Nat → Option SgE) (i k : Nat) : Option Value := (S i k).map SgE.v
/-- those of whom a place is told as reached at tick T, as far as one has come -/
def ReachOf (S : Nat → Nat → Option SgE) (T : Nat) (left : Nat → Nat → Bool) (L : List PlE) : Prop :=
  (L.map PlE.id).Nodup ∧ (∀ q ∈ L, q.id < 4294967296 ∧ q.on = true ∧ ∃ s, S q.id 0 = some s ∧ s.t = T ∧ q.x = s.a ∧ q.y = s.b) ∧ ∀ i, i < 4294967296 → (i ∈ L.map PlE.id ↔ left i 0 = false ∧ ∃ s, S i 0 = some s ∧ s.t = T)
theorem Own.five {w0 w : World} {P Q R S T : Thing} {l : List Thing} (h : Own w0 w (P :: Q :: R :: S :: T :: l)) : Own w0 w (T :: P :: Q :: R :: S :: l) := h.perm (List.perm_middle (l₁ := [P, Q, R, S]) (a := T) (l₂ := l))
theorem ReachOf.skip {S : Nat → Nat → Option SgE} {T : Nat} {left : Nat → Nat → Bool} {L : List PlE} (h : ReachOf S T left L) {i k : Nat} (hk : k ≠ 0 ∨ ∀ s, S i 0 = some s → s.t ≠ T) : ReachOf S T (strk left i k) L := by
  obtain ⟨h1, h2, h3⟩ := h
  refine ⟨h1, h2, fun x hx => ?_⟩
  rw [h3 x hx]
  unfold strk
  simp only [Bool.and_eq_false_iff, Bool.not_eq_false', decide_eq_true_iff]
  constructor
  · rintro ⟨a, b⟩
    exact ⟨.inl a, b⟩
  · rintro ⟨a | a, b⟩
    · exact ⟨a, b⟩
    · obtain ⟨rfl, hk0⟩ := a
      rcases hk with hk | hk
      · exact absurd hk0.symm hk
      · obtain ⟨s, h4, h5⟩ := b
        exact absurd h5 (hk s h4)
theorem ReachOf.more {S : Nat → Nat → Option SgE} {T : Nat} {left : Nat → Nat → Bool} {L : List PlE} (h : ReachOf S T left L) {i : Nat} {s : SgE} (hi : i < 4294967296) (hl : left i 0 = true) (hs : S i 0 = some s) (ht : s.t = T) : ReachOf S T (strk left i 0) (L ++ [⟨i, true, s.a, s.b⟩]) := by
  obtain ⟨h1, h2, h3⟩ := h
  have hni : i ∉ L.map PlE.id := fun hm => by have := ((h3 i hi).1 hm).1; rw [hl] at this; cases this
  refine ⟨?_, ?_, fun x hx => ?_⟩
  · rw [List.map_append, List.nodup_append]
    exact ⟨h1, by simp, fun a ha b hb e => by simp at hb; subst hb; exact hni (e ▸ ha)⟩
  · intro q hq
    rcases List.mem_append.1 hq with hq | hq
    · exact h2 q hq
    · rw [List.mem_singleton.1 hq]; exact ⟨hi, rfl, s, hs, ht, rfl, rfl⟩
  · rw [List.map_append, List.mem_append, h3 x hx]
    unfold strk
    simp only [List.map_cons, List.map_nil, List.mem_singleton, Bool.and_eq_false_iff, Bool.not_eq_false', decide_eq_true_iff]
    constructor
    · rintro (⟨a, b⟩ | rfl)
      · exact ⟨.inl a, b⟩
      · exact ⟨.inr (by simp), s, hs, ht⟩
    · rintro ⟨a | ⟨rfl, _⟩, b⟩
      · exact .inl ⟨a, b⟩
      · exact .inr rfl
set_option maxHeartbeats 4000000 in
theorem reached_ok (w0 w : World) (l : List Thing) (b : Nat) (wc : Array Value) (mn n T : Nat) (S : Nat → Nat → Option SgE) (hwc : wc[0]? = some (.int .u32 (T : Int))) (hn : n ≤ 1000000)
    (h : Own w0 w (SMap mn n (sgp S) :: Cells b wc 117 :: l)) :
    Calls Tryz.prog 117 #[.pointer (some ⟨b, 0, none⟩), .map (some mn)] w fun e w' => ∃ ao cap L, e = .returned (.slice ao L.length cap) ∧ L.length ≤ n ∧ ReachOf S T (fun _ _ => false) L ∧ Own w0 w' (Row 63 4 (.slice ao L.length cap) L.length (cat PlE.cs L) :: SMap mn n (sgp S) :: Cells b wc 117 :: l) := by
  obtain ⟨i0, hi, hz0, hz1, hz2⟩ := info_parts Tryz.infoPl
  obtain ⟨w1, cnt, hcn, hrun, hO1⟩ := h.smRange
  have H1 : Hid (Own w0 w1 _) := hO1.nilRow 63 4
  have HWC : Hid (∀ w' l', Own w0 w' (Cells b wc 117 :: l') → w'.cell? ⟨b, 0, none⟩ = some (.int .u32 (T : Int))) := fun w' l' h' => by rw [h'.cell 0]; exact hwc
  clear h hO1 hwc
  obtain ⟨r, hr⟩ : ∃ r, r = w.heap.size := ⟨_, rfl⟩
  rw [← hr] at hrun H1
  clear hr
  go_enter Tryz.func117, Tryz.ntmps117
  go_wp2
  clear hrun
  go_loopw [5] (fun v5 wr => ∃ (L : List PlE) (left : Nat → Nat → Bool) (cn : Nat) (a1 : Option Addr) (c1 : Nat), v5 = .slice a1 L.length c1 ∧ L.length + cn ≤ n ∧ ReachOf S T left L ∧ Own w0 wr (Row 63 4 (.slice a1 L.length c1) L.length (cat PlE.cs L) :: SIter mn r n (sgp S) left cn :: Cells b wc 117 :: l)) (fun _ wr => wr.rangeLeft mn r)
  case atStart =>
    refine ⟨[], _, cnt, none, 0, rfl, by simpa using hcn, ⟨by simp, fun q hq => by simp at hq, fun i hi => ?_⟩, H1.out⟩
    simp only [List.map_nil, List.not_mem_nil, false_iff]
    rintro ⟨a, s, hs, _⟩
    simp [sgp, hs] at a
  case round =>
    obtain ⟨L, left, cn, a1, c1, rfl, hLn, hLf, hO⟩ := hrel
    have HLf : Hid (ReachOf S T left L) := hLf
    have HM0 : Hid (World.rangeLeft wr mn r = cn) := hO.two.siCnt
    clear H1 hLf
    generalize hll : L.length = ll at *
    have HLL : Hid (L.length = ll) := hll
    clear hll
    rcases hO.two.smNext 0 with ⟨h0, hall, hnx⟩ | ⟨i, k, v, w2, cn', hi', hk', hlf, hpv, hnx, hent, hlt, hO2⟩
    · have HO : Hid (Own w0 wr _) := hO.two.siMap.two
      have HE : Hid (ReachOf S T (fun _ _ => false) L) := by
        obtain ⟨h1, h2, h3⟩ := HLf.out
        refine ⟨h1, h2, fun i hi => ?_⟩
        rw [h3 i hi]
        simp [hall i 0 hi (by decide)]
      clear hO
      go_wp2
      go_ret
      exact ⟨a1, c1, L, by rw [HLL.out]; rfl, by rw [HLL.out]; omega, HE.out, by rw [HLL.out]; exact HO.out⟩
    · obtain ⟨s, hs, hsv⟩ : ∃ s, S i k = some s ∧ s.v = v := by
        unfold sgp at hpv
        exact Option.map_eq_some_iff.1 hpv
      subst hsv
      simp only [spv, SgE.v] at hnx hent
      have hO3 := hO2.allocC #[.int .u32 (i : Int), .int .u8 (k : Int)] 189
      have hO4 := (hO3.allocC #[.int .u8 s.k, .int .i32 s.a, .int .i32 s.b, .int .i32 s.c, .int .u32 (s.t : Int)] 186).drew
      have y4 := hO4.cell 4
      have y1 := hO4.cell 1
      have y2 := hO4.cell 2
      have x0 := hO4.two.cell 0
      have x1 := hO4.two.cell 1
      have t0 := HWC.out _ _ hO4.five
      simp at y4 y1 y2 x0 x1 t0
      by_cases hk0 : k = 0
      · have hk00 : ((k : Int) == 0) = true := by rw [beq_iff_eq]; omega
        by_cases hT : s.t = T
        · have hTT : ((s.t : Int) == (T : Int)) = true := by rw [beq_iff_eq]; omega
          have HS : Hid (ReachOf S T (strk left i k) (L ++ [⟨i, true, s.a, s.b⟩])) := by
            subst hk0
            exact HLf.out.more hi' hlf hs hT
          have H4 : Hid (Own w0 _ _) := hO4.four
          clear hO2 hO3 hO4 hlf hpv hk0 hT hs
          go_wp2_with fail
          go_region_held3 (fun w' : World => w'.cell? ⟨w2.heap.size, 1, none⟩ = some (.int .u8 (k : Int)) ∧ w'.cell? ⟨w2.heap.size + 1, 4, none⟩ = some (.int .u32 (s.t : Int)) ∧ w'.cell? ⟨b, 0, none⟩ = some (.int .u32 (T : Int))) (go_keep) (fail)
          all_goals
            generalize ((w2.alloc (.cells #[.int .u32 (i : Int), .int .u8 (k : Int)] 189)).alloc (.cells #[.int .u8 s.k, .int .i32 s.a, .int .i32 s.b, .int .i32 s.c, .int .u32 (s.t : Int)] 186)).drew = W at H4 ⊢
            have hW := H4.out
            have y1 := hW.two.cell 1
            have y2 := hW.two.cell 2
            have x0 := hW.three.cell 0
            simp at y1 y2 x0
            clear hW
            go_wp2_with (at_builtin; refine append1_own rfl _ _ 60 rfl 63 i0 (.agg #[.int .u32 0, .bool false, .int .i32 0, .int .i32 0]) 4 16 Tryz.underlying60 hi hz0 hz1 hz2 rfl (by decide) _ _ _ rfl H4.out _ _ (by simp) rfl rfl (fun u hu => by simp at hu; rcases hu with rfl | rfl | rfl | rfl <;> rfl) (by unfold maxLen; omega) (by omega) ?_)
            intro g6 c6 w6 hO6 hsz6
            have H6 : Hid (Own w0 w6 (Row 63 4 (.slice (some ⟨g6, 0, none⟩) (ll + 1) c6) (ll + 1) (cat PlE.cs (L ++ [⟨i, true, s.a, s.b⟩])) :: SIter mn r n (sgp S) (strk left i k) cn' :: Cells b wc 117 :: l)) := by
              show Own _ _ _
              rw [cat_append]
              exact hO6.two.tail.two.tail
            have HL6 : Hid ((L ++ [(⟨i, true, s.a, s.b⟩ : PlE)]).length = ll + 1) := by show _ = _; rw [List.length_append, HLL.out]; rfl
            clear hO6 hsz6 H4
            go_wp2
            go_roundw
            case rel => exact ⟨L ++ [⟨i, true, s.a, s.b⟩], _, cn', _, _, by rw [HL6.out], by rw [HL6.out]; omega, HS.out, by rw [HL6.out]; exact H6.out⟩
            case measure => rw [HM0.out, H6.out.two.siCnt]; exact hlt
        · have hTT : ((s.t : Int) == (T : Int)) = false := by rw [beq_eq_false_iff_ne]; omega
          have HS : Hid (ReachOf S T (strk left i k) L) := HLf.out.skip (.inr (by intro s1 h1; subst hk0; rw [hs] at h1; cases h1; exact hT))
          have H4 : Hid (Own w0 _ _) := hO4.tail.tail.two
          clear hO2 hO3 hO4 hlf hpv hk0 hT hs
          go_wp2_with fail
          go_region_held3 (fun w' : World => w'.cell? ⟨w2.heap.size, 1, none⟩ = some (.int .u8 (k : Int)) ∧ w'.cell? ⟨w2.heap.size + 1, 4, none⟩ = some (.int .u32 (s.t : Int)) ∧ w'.cell? ⟨b, 0, none⟩ = some (.int .u32 (T : Int))) (go_keep) (fail)
          all_goals
            go_wp2
            go_roundw
            case rel => exact ⟨L, _, cn', a1, c1, by rw [HLL.out], by rw [HLL.out]; omega, HS.out, by rw [HLL.out]; exact H4.out⟩
            case measure => rw [HM0.out, H4.out.two.siCnt]; exact hlt
      · have hk00 : ((k : Int) == 0) = false := by rw [beq_eq_false_iff_ne]; omega
        have HS : Hid (ReachOf S T (strk left i k) L) := HLf.out.skip (.inl hk0)
        have hO5 := hO3.allocC #[.int .u8 s.k, .int .i32 s.a, .int .i32 s.b, .int .i32 s.c, .int .u32 (s.t : Int)] 186
        simp only [World.size_alloc] at hO5
        clear hO2 hO3 hO4 hlf hpv hO y4 y1 y2 x0 x1 t0
        have H5 : Hid (Own w0 _ _) := hO5
        clear hO5
        go_wp2_with fail
        generalize (w2.alloc (.cells #[.int .u32 (i : Int), .int .u8 (k : Int)] 189)).alloc (.cells #[.int .u8 s.k, .int .i32 s.a, .int .i32 s.b, .int .i32 s.c, .int .u32 (s.t : Int)] 186) = W0 at H5 ⊢
        have k1 : W0.cell? ⟨w2.heap.size, 1, none⟩ = some (.int .u8 (k : Int)) := H5.out.two.cell 1
        have k4 : W0.cell? ⟨w2.heap.size + 1, 4, none⟩ = some (.int .u32 (s.t : Int)) := H5.out.cell 4
        have kt : W0.cell? ⟨b, 0, none⟩ = some (.int .u32 (T : Int)) := HWC.out _ _ H5.out.five
        refine wp_region_held_drew (S := (fun w' : World => w'.cell? ⟨w2.heap.size, 1, none⟩ = some (.int .u8 (k : Int)) ∧ w'.cell? ⟨w2.heap.size + 1, 4, none⟩ = some (.int .u32 (s.t : Int)) ∧ w'.cell? ⟨b, 0, none⟩ = some (.int .u32 (T : Int)))) (by kernel_rfl) ⟨k1, k4, kt⟩ (fun hHeld => ?_)
        refine wpAnyH_take (i := 0) (oi := { dst := some 15, op := Op.fieldAddr 189 (Operand.tmp 6) 1, type := 0, pos := "world.go:115", after := #[], guard := none }) (v := ?_) rfl (by kernel_rfl) (by kernel_rfl) (by kernel_rfl) (fun _ _ _ h => h) (Or.inl ⟨by rfl, ?_⟩) (by assumption) ?_
        rotate_left
        · (intro wx hSw; (try dsimp only at hSw); go_simp; (try with_reducible rfl))
        (try simp only [Act.put, List.setIfInBounds_toArray, List.set_cons_zero, List.set_cons_succ])
        refine wpAnyH_take (i := 1) (oi := { dst := some 16, op := Op.load 5 (Operand.tmp 15), type := 5, pos := "world.go:115", after := #[{ on := 0, ground := Ground.data }], guard := none }) (v := ?_) rfl (by kernel_rfl) (by kernel_rfl) (by kernel_rfl) (fun _ _ _ h => h) (Or.inl ⟨by rfl, ?_⟩) (by assumption) ?_
        rotate_left
        · (intro wx hSw; (try dsimp only at hSw); go_simp; (try with_reducible rfl))
        (try simp only [Act.put, List.setIfInBounds_toArray, List.set_cons_zero, List.set_cons_succ])
        refine wpAnyH_take (i := 2) (oi := { dst := some 17, op := Op.binOp BinOp.eql 5 (Operand.tmp 16) (Operand.const (Value.int IntKind.u8 0)) 5, type := 4, pos := "world.go:115", after := #[{ on := 1, ground := Ground.data }], guard := none }) (v := ?_) rfl (by kernel_rfl) (by kernel_rfl) (by kernel_rfl) (fun _ _ _ h => h) (Or.inl ⟨by rfl, ?_⟩) (by assumption) ?_
        rotate_left
        · (intro wx hSw; (try dsimp only at hSw); go_simp; (try with_reducible rfl))
        (try simp only [Act.put, List.setIfInBounds_toArray, List.set_cons_zero, List.set_cons_succ])
        refine wpAnyH_take (i := 3) (oi := { dst := some 18, op := Op.move (Operand.tmp 17), type := 4, pos := "world.go:115", after := #[{ on := 2, ground := Ground.data }], guard := none }) (v := ?_) rfl (by kernel_rfl) (by kernel_rfl) (by kernel_rfl) (fun _ _ _ h => h) (Or.inl ⟨by rfl, ?_⟩) (by assumption) ?_
        rotate_left
        · (intro wx hSw; (try dsimp only at hSw); go_simp; (try with_reducible rfl))
        (try simp only [Act.put, List.setIfInBounds_toArray, List.set_cons_zero, List.set_cons_succ])
        refine wpAnyH_take (i := 4) (oi := { dst := some 19, op := Op.fieldAddr 186 (Operand.tmp 7) 1, type := 0, pos := "world.go:115", after := #[{ on := 3, ground := Ground.guard }], guard := some (3, true) }) (v := undef) rfl (by kernel_rfl) (by kernel_rfl) (by kernel_rfl) (fun _ _ _ h => h) (Or.inr ⟨by rfl, rfl⟩) (by assumption) ?_
        (try simp only [Act.put, List.setIfInBounds_toArray, List.set_cons_zero, List.set_cons_succ])
        refine wpAnyH_take (i := 5) (oi := { dst := some 20, op := Op.load 22 (Operand.tmp 19), type := 22, pos := "world.go:115", after := #[{ on := 4, ground := Ground.data }, { on := 3, ground := Ground.guard }], guard := some (3, true) }) (v := undef) rfl (by kernel_rfl) (by kernel_rfl) (by kernel_rfl) (fun _ _ _ h => h) (Or.inr ⟨by rfl, rfl⟩) (by assumption) ?_
        (try simp only [Act.put, List.setIfInBounds_toArray, List.set_cons_zero, List.set_cons_succ])
        refine wpAnyH_take (i := 6) (oi := { dst := some 21, op := Op.move (Operand.tmp 0), type := 25, pos := "world.go:115", after := #[{ on := 3, ground := Ground.guard }], guard := some (3, true) }) (v := undef) rfl (by kernel_rfl) (by kernel_rfl) (by kernel_rfl) (fun _ _ _ h => h) (Or.inr ⟨by rfl, rfl⟩) (by assumption) ?_
        (try simp only [Act.put, List.setIfInBounds_toArray, List.set_cons_zero, List.set_cons_succ])
        refine wpAnyH_take (i := 7) (oi := { dst := some 22, op := Op.nilCheck (Operand.tmp 21), type := 0, pos := "world.go:115", after := #[{ on := 6, ground := Ground.data }, { on := 3, ground := Ground.guard }], guard := some (3, true) }) (v := undef) rfl (by kernel_rfl) (by kernel_rfl) (by kernel_rfl) (fun _ _ _ h => h) (Or.inr ⟨by rfl, rfl⟩) (by assumption) ?_
        (try simp only [Act.put, List.setIfInBounds_toArray, List.set_cons_zero, List.set_cons_succ])
        refine wpAnyH_take (i := 8) (oi := { dst := some 23, op := Op.fieldAddr 117 (Operand.tmp 22) 0, type := 0, pos := "world.go:115", after := #[{ on := 7, ground := Ground.data }, { on := 3, ground := Ground.guard }], guard := some (3, true) }) (v := undef) rfl (by kernel_rfl) (by kernel_rfl) (by kernel_rfl) (fun _ _ _ h => h) (Or.inr ⟨by rfl, rfl⟩) (by assumption) ?_
        (try simp only [Act.put, List.setIfInBounds_toArray, List.set_cons_zero, List.set_cons_succ])
        refine wpAnyH_take (i := 9) (oi := { dst := some 24, op := Op.load 22 (Operand.tmp 23), type := 22, pos := "world.go:115", after := #[{ on := 8, ground := Ground.data }, { on := 3, ground := Ground.guard }], guard := some (3, true) }) (v := undef) rfl (by kernel_rfl) (by kernel_rfl) (by kernel_rfl) (fun _ _ _ h => h) (Or.inr ⟨by rfl, rfl⟩) (by assumption) ?_
        (try simp only [Act.put, List.setIfInBounds_toArray, List.set_cons_zero, List.set_cons_succ])
        refine wpAnyH_take (i := 10) (oi := { dst := some 25, op := Op.binOp BinOp.eql 22 (Operand.tmp 20) (Operand.tmp 24) 22, type := 4, pos := "world.go:115", after := #[{ on := 5, ground := Ground.data }, { on := 9, ground := Ground.data }, { on := 3, ground := Ground.guard }], guard := some (3, true) }) (v := undef) rfl (by kernel_rfl) (by kernel_rfl) (by kernel_rfl) (fun _ _ _ h => h) (Or.inr ⟨by rfl, rfl⟩) (by assumption) ?_
        (try simp only [Act.put, List.setIfInBounds_toArray, List.set_cons_zero, List.set_cons_succ])
        refine wpAnyH_take (i := 11) (oi := { dst := some 26, op := Op.pick (Operand.tmp 18) (Operand.tmp 25) (Operand.const (Value.bool false)), type := 4, pos := "world.go:115", after := #[{ on := 3, ground := Ground.data }, { on := 10, ground := Ground.data }], guard := none }) (v := ?_) rfl (by kernel_rfl) (by kernel_rfl) (by kernel_rfl) (fun _ _ _ h => h) (Or.inl ⟨by rfl, ?_⟩) (by assumption) ?_
        rotate_left
        · (intro wx hSw; (try dsimp only at hSw); go_simp; (try with_reducible rfl))
        (try simp only [Act.put, List.setIfInBounds_toArray, List.set_cons_zero, List.set_cons_succ])
        refine wpAnyH_done (by kernel_rfl) ?_ _
        have H4 : Hid (Own w0 W0.drew _) := H5.out.drew.tail.tail.two
        clear H5 hHeld k1 k4 kt
        go_wp2
        go_roundw
        case rel => exact ⟨L, _, cn', a1, c1, by rw [HLL.out], by rw [HLL.out]; omega, HS.out, by rw [HLL.out]; exact H4.out⟩
        case measure => rw [HM0.out, H4.out.two.siCnt]; exact hlt
end Go.Proofs.YtflmgilmbppieaaGreatDoor

/-
  No map yet: nobody's place was left.
-/
namespace Go.Proofs.YtflmgilmbppieaaGreatDoor
open Go.RowKit Go.Maps
set_option linter.unusedVariables false
set_option maxRecDepth 100000

set_option maxHeartbeats 1000000 in
theorem left_nil (w0 w : World) (l : List Thing) (b : Nat) (wc : Array Value) (mn : Nat) (hwc : wc[3]? = some (.map none)) (h : Own w0 w (Cells b wc 117 :: l)) :
    Calls Tryz.prog 116 #[.pointer (some ⟨b, 0, none⟩), .map (some mn)] w fun e w' => e = .returned (.slice none 0 0) ∧ Own w0 w' (Cells b wc 117 :: l) := by
  have c3 := h.cell 3
  rw [hwc] at c3
  have hrun := run_range_nilMap (P := Tryz.prog) w 115 189 186 Tryz.underlying115
  have H1 : Hid (Own w0 w _) := h
  clear h hwc
  go_enter Tryz.func116, Tryz.ntmps116
  go_wp2
  clear hrun c3
  go_loopw [5] (fun v5 wr => v5 = .slice none 0 0 ∧ wr = w.alloc (.mapIter none 0 #[] 0)) (fun _ _ => 0)
  case atStart => exact ⟨rfl, rfl⟩
  case round =>
    obtain ⟨rfl, rfl⟩ := hrel
    have hnx := run_next_nilMap (P := Tryz.prog) w 0 0 0 #[]
    go_wp2
    go_ret
    exact ⟨rfl, H1.out.alloc _⟩
end Go.Proofs.YtflmgilmbppieaaGreatDoor

/-
  How a component is to be seen: since it was so, or since now.
-/
namespace Go.Proofs.YtflmgilmbppieaaGreatDoor
open Go.RowKit Go.Maps
set_option linter.unusedVariables false
set_option maxRecDepth 100000

theorem eq_a3w (d : Nat) (a b c a' b' c' : Int) (w : World) : (Op.equalIn (d + 1 + 1) 44 (.agg #[.int .i32 a, .int .i32 b, .int .i32 c]) (.agg #[.int .i32 a', .int .i32 b', .int .i32 c'])).run Tryz.prog w = .ok ((a == a') && (b == b') && (c == c')) w := by
  have hi : ∃ i, Tryz.prog.info? 21 = some i := by
    have : (Tryz.prog.info? 21).isSome = true := by kernel_rfl
    exact Option.isSome_iff_exists.1 this
  obtain ⟨i, hi⟩ := hi
  have c1 : Tryz.prog.cellsOf 21 = 1 := by kernel_rfl
  have hz : (Tryz.prog.info? 21).map (·.size) = some 1 := by kernel_rfl
  have hu := Tryz.underlying21
  rw [run_equalIn_array w (d + 1) _ _ Tryz.underlying44 hi]
  simp only [Op.eqItems, show List.range 3 = [0, 1, 2] from rfl, c1]
  cases ha : (a == a') <;> cases hb : (b == b') <;> cases hc : (c == c') <;> go_simp
/-- how a component is seen -/
def sgt (o : Option SgE) (T : Nat) (ck ca cb cc : Int) : SgE := match o with
  | some s => if (((s.k == ck) && ((s.a == ca) && (s.b == cb) && (s.c == cc))) = true) then s else ⟨ck, ca, cb, cc, T⟩
  | none => ⟨ck, ca, cb, cc, T⟩
set_option maxHeartbeats 4000000 in
theorem sight_ok (w0 w : World) (l : List Thing) (b : Nat) (wc : Array Value) (ms n T : Nat) (S : Nat → Nat → Option SgE) (hwc : wc[0]? = some (.int .u32 (T : Int))) (hwm : wc[3]? = some (.map (some ms))) (i k : Nat) (hi : i < 4294967296) (hk : k < 256) (ck : Nat) (ca cb cc : Int)
    (h : Own w0 w (SMap ms n (sgp S) :: Cells b wc 117 :: l)) :
    Calls Tryz.prog 114 #[.pointer (some ⟨b, 0, none⟩), spv i k, .agg #[.int .u8 (ck : Int), .int .i32 ca, .int .i32 cb, .int .i32 cc]] w fun e w' => e = .returned (sgt (S i k) T ck ca cb cc).v ∧ Own w0 w' (SMap ms n (sgp S) :: Cells b wc 117 :: l) := by
  have hA := ((h.allocC #[.int .u32 (i : Int), .int .u8 (k : Int)] 189).allocC #[.int .u8 (ck : Int), .int .i32 ca, .int .i32 cb, .int .i32 cc] 46).allocC #[.int .u8 0, .int .i32 0, .int .i32 0, .int .i32 0, .int .u32 0] 186
  simp only [World.size_alloc] at hA
  have eqa := eq_a3w 9997
  have hbl := h.two.lt
  have hnb1 : b ≠ w.heap.size + 1 + 1 := by omega
  have hnb2 : w.heap.size + 1 + 1 ≠ b := fun q => hnb1 q.symm
  clear hbl
  have HLK : Hid (∀ w' l', Own w0 w' (SMap ms n (sgp S) :: l') → (Instr.lookup 115 (.map (some ms)) (.agg #[.int .u32 (i : Int), .int .u8 (k : Int)]) true).run Tryz.prog w' = .ok (lkS (sgp S i k)) w') := fun w' l' h' => Own.smLook h' i k hi hk
  have HC3 : Hid (∀ w' l', Own w0 w' (Cells b wc 117 :: l') → w'.cell? ⟨b, 3, none⟩ = some (.map (some ms)) ∧ w'.cell? ⟨b, 0, none⟩ = some (.int .u32 (T : Int))) := fun w' l' h' => ⟨by rw [h'.cell 3]; exact hwm, by rw [h'.cell 0]; exact hwc⟩
  have HA : Hid (Own w0 _ _) := hA
  clear h hA hwc hwm
  cases hS : S i k with
  | none =>
    have hp : sgp S i k = none := by unfold sgp; rw [hS]; rfl
    rw [hp] at HLK
    simp only [lkS, zSight] at HLK
    unfold spv
    go_enter Tryz.func114, Tryz.ntmps114
    go_wp2_with fail
    generalize ((w.alloc (.cells #[.int .u32 (i : Int), .int .u8 (k : Int)] 189)).alloc (.cells #[.int .u8 (ck : Int), .int .i32 ca, .int .i32 cb, .int .i32 cc] 46)).alloc (.cells #[.int .u8 0, .int .i32 0, .int .i32 0, .int .i32 0, .int .u32 0] 186) = W at HA ⊢
    have hD := HA.out.drew
    have HS0 : Hid ((fun w' : World => w'.cell? ⟨b, 3, none⟩ = some (.map (some ms)) ∧ w'.cell? ⟨w.heap.size, 0, none⟩ = some (.int .u32 (i : Int)) ∧ w'.cell? ⟨w.heap.size, 1, none⟩ = some (.int .u8 (k : Int)) ∧ (Instr.lookup 115 (.map (some ms)) (.agg #[.int .u32 (i : Int), .int .u8 (k : Int)]) true).run Tryz.prog w' = .ok (.tuple #[.agg #[.int .u8 0, .int .i32 0, .int .i32 0, .int .i32 0, .int .u32 0], .bool false]) w') W.drew) := ⟨(HC3.out _ _ hD.five).1, hD.three.cell 0, hD.three.cell 1, HLK.out _ _ hD.four⟩
    have hB := (HA.out.allocC #[.int .u8 0, .int .i32 0, .int .i32 0, .int .i32 0, .int .u32 0] 186).drew
    have HS1 : Hid ((fun w' : World => w'.cell? ⟨b, 3, none⟩ = some (.map (some ms)) ∧ w'.cell? ⟨w.heap.size, 0, none⟩ = some (.int .u32 (i : Int)) ∧ w'.cell? ⟨w.heap.size, 1, none⟩ = some (.int .u8 (k : Int)) ∧ (Instr.lookup 115 (.map (some ms)) (.agg #[.int .u32 (i : Int), .int .u8 (k : Int)]) true).run Tryz.prog w' = .ok (.tuple #[.agg #[.int .u8 0, .int .i32 0, .int .i32 0, .int .i32 0, .int .u32 0], .bool false]) w') _) := ⟨(HC3.out _ _ hB.tail.five).1, hB.four.cell 0, hB.four.cell 1, HLK.out _ _ hB.five⟩
    have HS2 : Hid ((fun w' : World => w'.cell? ⟨b, 3, none⟩ = some (.map (some ms)) ∧ w'.cell? ⟨w.heap.size, 0, none⟩ = some (.int .u32 (i : Int)) ∧ w'.cell? ⟨w.heap.size, 1, none⟩ = some (.int .u8 (k : Int)) ∧ (Instr.lookup 115 (.map (some ms)) (.agg #[.int .u32 (i : Int), .int .u8 (k : Int)]) true).run Tryz.prog w' = .ok (.tuple #[.agg #[.int .u8 0, .int .i32 0, .int .i32 0, .int .i32 0, .int .u32 0], .bool false]) w') _) := HS1.out
    have HCC : Hid (Own w0 _ _) := hB
    clear hB hD
    refine wp_region_held_drew (S := (fun w' : World => w'.cell? ⟨b, 3, none⟩ = some (.map (some ms)) ∧ w'.cell? ⟨w.heap.size, 0, none⟩ = some (.int .u32 (i : Int)) ∧ w'.cell? ⟨w.heap.size, 1, none⟩ = some (.int .u8 (k : Int)) ∧ (Instr.lookup 115 (.map (some ms)) (.agg #[.int .u32 (i : Int), .int .u8 (k : Int)]) true).run Tryz.prog w' = .ok (.tuple #[.agg #[.int .u8 0, .int .i32 0, .int .i32 0, .int .i32 0, .int .u32 0], .bool false]) w')) (by kernel_rfl) HS0.out (fun hHeld => ?_)
    refine wpAnyH_take (i := 0) (oi := { dst := some 10, op := Op.move (Operand.tmp 0), type := 25, pos := "world.go:94", after := #[], guard := none }) (v := ?_) rfl (by kernel_rfl) (by kernel_rfl) (by kernel_rfl) (fun _ _ _ h => h) (Or.inl ⟨by rfl, ?_⟩) (by assumption) ?_
    rotate_left
    · (intro wx hSw; (try dsimp only at hSw); go_simp; (try with_reducible rfl))
    (try simp only [Act.put, List.setIfInBounds_toArray, List.set_cons_zero, List.set_cons_succ])
    refine wpAnyH_take (i := 1) (oi := { dst := some 11, op := Op.nilCheck (Operand.tmp 10), type := 0, pos := "world.go:94", after := #[{ on := 0, ground := Ground.data }], guard := none }) (v := ?_) rfl (by kernel_rfl) (by kernel_rfl) (by kernel_rfl) (fun _ _ _ h => h) (Or.inl ⟨by rfl, ?_⟩) (by assumption) ?_
    rotate_left
    · (intro wx hSw; (try dsimp only at hSw); go_simp; (try with_reducible rfl))
    (try simp only [Act.put, List.setIfInBounds_toArray, List.set_cons_zero, List.set_cons_succ])
    refine wpAnyH_take (i := 2) (oi := { dst := some 12, op := Op.fieldAddr 117 (Operand.tmp 11) 3, type := 0, pos := "world.go:94", after := #[{ on := 1, ground := Ground.data }], guard := none }) (v := ?_) rfl (by kernel_rfl) (by kernel_rfl) (by kernel_rfl) (fun _ _ _ h => h) (Or.inl ⟨by rfl, ?_⟩) (by assumption) ?_
    rotate_left
    · (intro wx hSw; (try dsimp only at hSw); go_simp; (try with_reducible rfl))
    (try simp only [Act.put, List.setIfInBounds_toArray, List.set_cons_zero, List.set_cons_succ])
    refine wpAnyH_take (i := 3) (oi := { dst := some 13, op := Op.load 115 (Operand.tmp 12), type := 115, pos := "world.go:94", after := #[{ on := 2, ground := Ground.data }], guard := none }) (v := ?_) rfl (by kernel_rfl) (by kernel_rfl) (by kernel_rfl) (fun _ _ _ h => h) (Or.inl ⟨by rfl, ?_⟩) (by assumption) ?_
    rotate_left
    · (intro wx hSw; (try dsimp only at hSw); go_simp; (try with_reducible rfl))
    (try simp only [Act.put, List.setIfInBounds_toArray, List.set_cons_zero, List.set_cons_succ])
    refine wpAnyH_take (i := 4) (oi := { dst := some 14, op := Op.load 189 (Operand.tmp 4), type := 189, pos := "world.go:94", after := #[], guard := none }) (v := ?_) rfl (by kernel_rfl) (by kernel_rfl) (by kernel_rfl) (fun _ _ _ h => h) (Or.inl ⟨by rfl, ?_⟩) (by assumption) ?_
    rotate_left
    · (intro wx hSw; (try dsimp only at hSw); go_simp; (try with_reducible rfl))
    (try simp only [Act.put, List.setIfInBounds_toArray, List.set_cons_zero, List.set_cons_succ])
    refine wpAnyH_take (i := 5) (oi := { dst := some 15, op := Op.lookup 115 (Operand.tmp 13) (Operand.tmp 14) true, type := 187, pos := "world.go:94", after := #[{ on := 3, ground := Ground.data }, { on := 4, ground := Ground.data }], guard := none }) (v := ?_) rfl (by kernel_rfl) (by kernel_rfl) (by kernel_rfl) (fun _ _ _ h => h) (Or.inl ⟨by rfl, ?_⟩) (by assumption) ?_
    rotate_left
    · (intro wx hSw; (try dsimp only at hSw); go_simp; (try with_reducible rfl))
    (try simp only [Act.put, List.setIfInBounds_toArray, List.set_cons_zero, List.set_cons_succ])
    refine wpAnyH_take (i := 6) (oi := { dst := some 9, op := Op.move (Operand.tmp 15), type := 187, pos := "world.go:94", after := #[{ on := 5, ground := Ground.data }], guard := none }) (v := ?_) rfl (by kernel_rfl) (by kernel_rfl) (by kernel_rfl) (fun _ _ _ h => h) (Or.inl ⟨by rfl, ?_⟩) (by assumption) ?_
    rotate_left
    · (intro wx hSw; (try dsimp only at hSw); go_simp; (try with_reducible rfl))
    (try simp only [Act.put, List.setIfInBounds_toArray, List.set_cons_zero, List.set_cons_succ])
    refine wpAnyH_take (i := 7) (oi := { dst := some 16, op := Op.extract (Operand.tmp 9) 0, type := 186, pos := "world.go:94", after := #[{ on := 6, ground := Ground.data }], guard := none }) (v := ?_) rfl (by kernel_rfl) (by kernel_rfl) (by kernel_rfl) (fun _ _ _ h => h) (Or.inl ⟨by rfl, ?_⟩) (by assumption) ?_
    rotate_left
    · (intro wx hSw; (try dsimp only at hSw); go_simp; (try with_reducible rfl))
    (try simp only [Act.put, List.setIfInBounds_toArray, List.set_cons_zero, List.set_cons_succ])
    refine wpAnyH_take (i := 8) (oi := { dst := some 17, op := Op.extract (Operand.tmp 9) 1, type := 4, pos := "world.go:94", after := #[{ on := 6, ground := Ground.data }, { on := 10, ground := Ground.gcOnly Departure.lateStores }], guard := none }) (v := ?_) rfl (by kernel_rfl) (by kernel_rfl) (by kernel_rfl) (fun _ _ _ h => h) (Or.inl ⟨by rfl, ?_⟩) (by assumption) ?_
    rotate_left
    · (intro wx hSw; (try dsimp only at hSw); go_simp; (try with_reducible rfl))
    (try simp only [Act.put, List.setIfInBounds_toArray, List.set_cons_zero, List.set_cons_succ])
    refine wpAnyH_ready (rs := [9]) (by kernel_rfl) (by simp) ?_
    refine AllReadyH.cons (o := { dst := some 7, op := Op.alloc 186, type := 0, pos := "world.go:94", after := #[], guard := none }) rfl (fun K hK => ?_) AllReadyH.nil
    go_simp
    refine hK.out _ _ HS1.out (fun hHeld2 => ?_)
    clear hHeld hK K
    have hHeld := hHeld2
    clear hHeld2
    (try simp only [Act.put, List.setIfInBounds_toArray, List.set_cons_zero, List.set_cons_succ])
    refine wpAnyH_ready (rs := [10]) (by kernel_rfl) (by simp) ?_
    refine AllReadyH.cons (o := { dst := none, op := Op.store 186 (Operand.tmp 7) (Operand.tmp 16), type := 0, pos := "world.go:94", after := #[{ on := 9, ground := Ground.data }, { on := 7, ground := Ground.data }, { on := 0, ground := Ground.phase }, { on := 1, ground := Ground.phase }, { on := 2, ground := Ground.phase }, { on := 3, ground := Ground.phase }, { on := 4, ground := Ground.phase }, { on := 5, ground := Ground.phase }, { on := 6, ground := Ground.phase }, { on := 7, ground := Ground.phase }, { on := 8, ground := Ground.textOnly Departure.lateStores }, { on := 9, ground := Ground.phase }], guard := none }) rfl (fun K hK => ?_) AllReadyH.nil
    go_simp
    refine hK.out _ _ HS2.out (fun hHeld2 => ?_)
    clear hHeld hK K
    have hHeld := hHeld2
    clear hHeld2
    (try simp only [Act.put, List.setIfInBounds_toArray, List.set_cons_zero, List.set_cons_succ])
    refine wpAnyH_take (i := 11) (oi := { dst := some 8, op := Op.assign (Operand.tmp 17), type := 4, pos := "world.go:94", after := #[{ on := 8, ground := Ground.data }, { on := 10, ground := Ground.chain }, { on := 0, ground := Ground.phase }, { on := 1, ground := Ground.phase }, { on := 2, ground := Ground.phase }, { on := 3, ground := Ground.phase }, { on := 4, ground := Ground.phase }, { on := 5, ground := Ground.phase }, { on := 6, ground := Ground.phase }, { on := 7, ground := Ground.phase }, { on := 8, ground := Ground.phase }, { on := 9, ground := Ground.phase }, { on := 10, ground := Ground.phase }], guard := none }) (v := ?_) rfl (by kernel_rfl) (by kernel_rfl) (by kernel_rfl) (fun _ _ _ h => h) (Or.inl ⟨by rfl, ?_⟩) (by assumption) ?_
    rotate_left
    · (intro wx hSw; (try dsimp only at hSw); go_simp; (try with_reducible rfl))
    (try simp only [Act.put, List.setIfInBounds_toArray, List.set_cons_zero, List.set_cons_succ])
    refine wpAnyH_done (by kernel_rfl) ?_ _
    have hB := HCC.out
    have t0 := (HC3.out _ _ hB.tail.five).2
    clear hHeld HS0 HS1 HS2
    generalize (W.alloc (.cells #[.int .u8 0, .int .i32 0, .int .i32 0, .int .i32 0, .int .u32 0] 186)).drew = W2 at hB HCC t0 ⊢
    have u0 := hB.three.cell 0
    have u1 := hB.three.cell 1
    have u2 := hB.three.cell 2
    have u3 := hB.three.cell 3
    simp at u0 u1 u2 u3
    have z0 := hB.two.cell 0
    have z1 := hB.two.cell 1
    have z2 := hB.two.cell 2
    have z3 := hB.two.cell 3
    have z4 := hB.two.cell 4
    simp at z0 z1 z2 z3 z4
    have y0 := hB.two.froz 0
    have y1 := hB.two.froz 1
    have y2 := hB.two.froz 2
    have y3 := hB.two.froz 3
    have y4 := hB.two.froz 4
    have HF : Hid (Own w0 _ _) := (((((hB.two.setC 0 (.int .u8 (ck : Int))).setC 1 (.int .i32 ca)).setC 2 (.int .i32 cb)).setC 3 (.int .i32 cc)).setC 4 (.int .u32 (T : Int))).drew
    clear hB
    go_wp2_with fail
    go_region_held3 (fun w' : World => w'.cell? ⟨w.heap.size + 1, 0, none⟩ = some (.int .u8 (ck : Int)) ∧ w'.cell? ⟨w.heap.size + 1, 1, none⟩ = some (.int .i32 ca) ∧ w'.cell? ⟨w.heap.size + 1, 2, none⟩ = some (.int .i32 cb) ∧ w'.cell? ⟨w.heap.size + 1, 3, none⟩ = some (.int .i32 cc) ∧ w'.cell? ⟨b, 0, none⟩ = some (.int .u32 (T : Int))) (go_keep) (fail)
    all_goals
      go_wp2
      (try simp only [Exit.inBlock, Exit.then])
      refine bodyPost_ret (v := .agg #[.int .u8 (ck : Int), .int .i32 ca, .int .i32 cb, .int .i32 cc, .int .u32 (T : Int)]) ?_ rfl ⟨rfl, HF.out.tail.tail.tail.tail⟩
      have r0 := HF.out.cell 0
      have r1 := HF.out.cell 1
      have r2 := HF.out.cell 2
      have r3 := HF.out.cell 3
      have r4 := HF.out.cell 4
      simp at r0 r1 r2 r3 r4
      simp only [results]
      go_simp
  | some s =>
    obtain ⟨sk, sa, sb, sc, st⟩ := s
    have hp : sgp S i k = some (.agg #[.int .u8 sk, .int .i32 sa, .int .i32 sb, .int .i32 sc, .int .u32 (st : Int)]) := by unfold sgp; rw [hS]; rfl
    rw [hp] at HLK
    simp only [lkS] at HLK
    unfold spv
    go_enter Tryz.func114, Tryz.ntmps114
    go_wp2_with fail
    generalize ((w.alloc (.cells #[.int .u32 (i : Int), .int .u8 (k : Int)] 189)).alloc (.cells #[.int .u8 (ck : Int), .int .i32 ca, .int .i32 cb, .int .i32 cc] 46)).alloc (.cells #[.int .u8 0, .int .i32 0, .int .i32 0, .int .i32 0, .int .u32 0] 186) = W at HA ⊢
    have hD := HA.out.drew
    have HS0 : Hid ((fun w' : World => w'.cell? ⟨b, 3, none⟩ = some (.map (some ms)) ∧ w'.cell? ⟨w.heap.size, 0, none⟩ = some (.int .u32 (i : Int)) ∧ w'.cell? ⟨w.heap.size, 1, none⟩ = some (.int .u8 (k : Int)) ∧ (Instr.lookup 115 (.map (some ms)) (.agg #[.int .u32 (i : Int), .int .u8 (k : Int)]) true).run Tryz.prog w' = .ok (.tuple #[.agg #[.int .u8 sk, .int .i32 sa, .int .i32 sb, .int .i32 sc, .int .u32 (st : Int)], .bool true]) w') W.drew) := ⟨(HC3.out _ _ hD.five).1, hD.three.cell 0, hD.three.cell 1, HLK.out _ _ hD.four⟩
    have hB0 := (HA.out.allocC #[.int .u8 0, .int .i32 0, .int .i32 0, .int .i32 0, .int .u32 0] 186).drew
    have HS1 : Hid ((fun w' : World => w'.cell? ⟨b, 3, none⟩ = some (.map (some ms)) ∧ w'.cell? ⟨w.heap.size, 0, none⟩ = some (.int .u32 (i : Int)) ∧ w'.cell? ⟨w.heap.size, 1, none⟩ = some (.int .u8 (k : Int)) ∧ (Instr.lookup 115 (.map (some ms)) (.agg #[.int .u32 (i : Int), .int .u8 (k : Int)]) true).run Tryz.prog w' = .ok (.tuple #[.agg #[.int .u8 sk, .int .i32 sa, .int .i32 sb, .int .i32 sc, .int .u32 (st : Int)], .bool true]) w') _) := ⟨(HC3.out _ _ hB0.tail.five).1, hB0.four.cell 0, hB0.four.cell 1, HLK.out _ _ hB0.five⟩
    have hB := (HA.out.allocC #[.int .u8 sk, .int .i32 sa, .int .i32 sb, .int .i32 sc, .int .u32 (st : Int)] 186).drew
    have HS2 : Hid ((fun w' : World => w'.cell? ⟨b, 3, none⟩ = some (.map (some ms)) ∧ w'.cell? ⟨w.heap.size, 0, none⟩ = some (.int .u32 (i : Int)) ∧ w'.cell? ⟨w.heap.size, 1, none⟩ = some (.int .u8 (k : Int)) ∧ (Instr.lookup 115 (.map (some ms)) (.agg #[.int .u32 (i : Int), .int .u8 (k : Int)]) true).run Tryz.prog w' = .ok (.tuple #[.agg #[.int .u8 sk, .int .i32 sa, .int .i32 sb, .int .i32 sc, .int .u32 (st : Int)], .bool true]) w') _) := ⟨(HC3.out _ _ hB.tail.five).1, hB.four.cell 0, hB.four.cell 1, HLK.out _ _ hB.five⟩
    have HCC : Hid (Own w0 _ _) := hB
    clear hB hB0 hD
    refine wp_region_held_drew (S := (fun w' : World => w'.cell? ⟨b, 3, none⟩ = some (.map (some ms)) ∧ w'.cell? ⟨w.heap.size, 0, none⟩ = some (.int .u32 (i : Int)) ∧ w'.cell? ⟨w.heap.size, 1, none⟩ = some (.int .u8 (k : Int)) ∧ (Instr.lookup 115 (.map (some ms)) (.agg #[.int .u32 (i : Int), .int .u8 (k : Int)]) true).run Tryz.prog w' = .ok (.tuple #[.agg #[.int .u8 sk, .int .i32 sa, .int .i32 sb, .int .i32 sc, .int .u32 (st : Int)], .bool true]) w')) (by kernel_rfl) HS0.out (fun hHeld => ?_)
    refine wpAnyH_take (i := 0) (oi := { dst := some 10, op := Op.move (Operand.tmp 0), type := 25, pos := "world.go:94", after := #[], guard := none }) (v := ?_) rfl (by kernel_rfl) (by kernel_rfl) (by kernel_rfl) (fun _ _ _ h => h) (Or.inl ⟨by rfl, ?_⟩) (by assumption) ?_
    rotate_left
    · (intro wx hSw; (try dsimp only at hSw); go_simp; (try with_reducible rfl))
    (try simp only [Act.put, List.setIfInBounds_toArray, List.set_cons_zero, List.set_cons_succ])
    refine wpAnyH_take (i := 1) (oi := { dst := some 11, op := Op.nilCheck (Operand.tmp 10), type := 0, pos := "world.go:94", after := #[{ on := 0, ground := Ground.data }], guard := none }) (v := ?_) rfl (by kernel_rfl) (by kernel_rfl) (by kernel_rfl) (fun _ _ _ h => h) (Or.inl ⟨by rfl, ?_⟩) (by assumption) ?_
    rotate_left
    · (intro wx hSw; (try dsimp only at hSw); go_simp; (try with_reducible rfl))
    (try simp only [Act.put, List.setIfInBounds_toArray, List.set_cons_zero, List.set_cons_succ])
    refine wpAnyH_take (i := 2) (oi := { dst := some 12, op := Op.fieldAddr 117 (Operand.tmp 11) 3, type := 0, pos := "world.go:94", after := #[{ on := 1, ground := Ground.data }], guard := none }) (v := ?_) rfl (by kernel_rfl) (by kernel_rfl) (by kernel_rfl) (fun _ _ _ h => h) (Or.inl ⟨by rfl, ?_⟩) (by assumption) ?_
    rotate_left
    · (intro wx hSw; (try dsimp only at hSw); go_simp; (try with_reducible rfl))
    (try simp only [Act.put, List.setIfInBounds_toArray, List.set_cons_zero, List.set_cons_succ])
    refine wpAnyH_take (i := 3) (oi := { dst := some 13, op := Op.load 115 (Operand.tmp 12), type := 115, pos := "world.go:94", after := #[{ on := 2, ground := Ground.data }], guard := none }) (v := ?_) rfl (by kernel_rfl) (by kernel_rfl) (by kernel_rfl) (fun _ _ _ h => h) (Or.inl ⟨by rfl, ?_⟩) (by assumption) ?_
    rotate_left
    · (intro wx hSw; (try dsimp only at hSw); go_simp; (try with_reducible rfl))
    (try simp only [Act.put, List.setIfInBounds_toArray, List.set_cons_zero, List.set_cons_succ])
    refine wpAnyH_take (i := 4) (oi := { dst := some 14, op := Op.load 189 (Operand.tmp 4), type := 189, pos := "world.go:94", after := #[], guard := none }) (v := ?_) rfl (by kernel_rfl) (by kernel_rfl) (by kernel_rfl) (fun _ _ _ h => h) (Or.inl ⟨by rfl, ?_⟩) (by assumption) ?_
    rotate_left
    · (intro wx hSw; (try dsimp only at hSw); go_simp; (try with_reducible rfl))
    (try simp only [Act.put, List.setIfInBounds_toArray, List.set_cons_zero, List.set_cons_succ])
    refine wpAnyH_take (i := 5) (oi := { dst := some 15, op := Op.lookup 115 (Operand.tmp 13) (Operand.tmp 14) true, type := 187, pos := "world.go:94", after := #[{ on := 3, ground := Ground.data }, { on := 4, ground := Ground.data }], guard := none }) (v := ?_) rfl (by kernel_rfl) (by kernel_rfl) (by kernel_rfl) (fun _ _ _ h => h) (Or.inl ⟨by rfl, ?_⟩) (by assumption) ?_
    rotate_left
    · (intro wx hSw; (try dsimp only at hSw); go_simp; (try with_reducible rfl))
    (try simp only [Act.put, List.setIfInBounds_toArray, List.set_cons_zero, List.set_cons_succ])
    refine wpAnyH_take (i := 6) (oi := { dst := some 9, op := Op.move (Operand.tmp 15), type := 187, pos := "world.go:94", after := #[{ on := 5, ground := Ground.data }], guard := none }) (v := ?_) rfl (by kernel_rfl) (by kernel_rfl) (by kernel_rfl) (fun _ _ _ h => h) (Or.inl ⟨by rfl, ?_⟩) (by assumption) ?_
    rotate_left
    · (intro wx hSw; (try dsimp only at hSw); go_simp; (try with_reducible rfl))
    (try simp only [Act.put, List.setIfInBounds_toArray, List.set_cons_zero, List.set_cons_succ])
    refine wpAnyH_take (i := 7) (oi := { dst := some 16, op := Op.extract (Operand.tmp 9) 0, type := 186, pos := "world.go:94", after := #[{ on := 6, ground := Ground.data }], guard := none }) (v := ?_) rfl (by kernel_rfl) (by kernel_rfl) (by kernel_rfl) (fun _ _ _ h => h) (Or.inl ⟨by rfl, ?_⟩) (by assumption) ?_
    rotate_left
    · (intro wx hSw; (try dsimp only at hSw); go_simp; (try with_reducible rfl))
    (try simp only [Act.put, List.setIfInBounds_toArray, List.set_cons_zero, List.set_cons_succ])
    refine wpAnyH_take (i := 8) (oi := { dst := some 17, op := Op.extract (Operand.tmp 9) 1, type := 4, pos := "world.go:94", after := #[{ on := 6, ground := Ground.data }, { on := 10, ground := Ground.gcOnly Departure.lateStores }], guard := none }) (v := ?_) rfl (by kernel_rfl) (by kernel_rfl) (by kernel_rfl) (fun _ _ _ h => h) (Or.inl ⟨by rfl, ?_⟩) (by assumption) ?_
    rotate_left
    · (intro wx hSw; (try dsimp only at hSw); go_simp; (try with_reducible rfl))
    (try simp only [Act.put, List.setIfInBounds_toArray, List.set_cons_zero, List.set_cons_succ])
    refine wpAnyH_ready (rs := [9]) (by kernel_rfl) (by simp) ?_
    refine AllReadyH.cons (o := { dst := some 7, op := Op.alloc 186, type := 0, pos := "world.go:94", after := #[], guard := none }) rfl (fun K hK => ?_) AllReadyH.nil
    go_simp
    refine hK.out _ _ HS1.out (fun hHeld2 => ?_)
    clear hHeld hK K
    have hHeld := hHeld2
    clear hHeld2
    (try simp only [Act.put, List.setIfInBounds_toArray, List.set_cons_zero, List.set_cons_succ])
    refine wpAnyH_ready (rs := [10]) (by kernel_rfl) (by simp) ?_
    refine AllReadyH.cons (o := { dst := none, op := Op.store 186 (Operand.tmp 7) (Operand.tmp 16), type := 0, pos := "world.go:94", after := #[{ on := 9, ground := Ground.data }, { on := 7, ground := Ground.data }, { on := 0, ground := Ground.phase }, { on := 1, ground := Ground.phase }, { on := 2, ground := Ground.phase }, { on := 3, ground := Ground.phase }, { on := 4, ground := Ground.phase }, { on := 5, ground := Ground.phase }, { on := 6, ground := Ground.phase }, { on := 7, ground := Ground.phase }, { on := 8, ground := Ground.textOnly Departure.lateStores }, { on := 9, ground := Ground.phase }], guard := none }) rfl (fun K hK => ?_) AllReadyH.nil
    go_simp
    refine hK.out _ _ HS2.out (fun hHeld2 => ?_)
    clear hHeld hK K
    have hHeld := hHeld2
    clear hHeld2
    (try simp only [Act.put, List.setIfInBounds_toArray, List.set_cons_zero, List.set_cons_succ])
    refine wpAnyH_take (i := 11) (oi := { dst := some 8, op := Op.assign (Operand.tmp 17), type := 4, pos := "world.go:94", after := #[{ on := 8, ground := Ground.data }, { on := 10, ground := Ground.chain }, { on := 0, ground := Ground.phase }, { on := 1, ground := Ground.phase }, { on := 2, ground := Ground.phase }, { on := 3, ground := Ground.phase }, { on := 4, ground := Ground.phase }, { on := 5, ground := Ground.phase }, { on := 6, ground := Ground.phase }, { on := 7, ground := Ground.phase }, { on := 8, ground := Ground.phase }, { on := 9, ground := Ground.phase }, { on := 10, ground := Ground.phase }], guard := none }) (v := ?_) rfl (by kernel_rfl) (by kernel_rfl) (by kernel_rfl) (fun _ _ _ h => h) (Or.inl ⟨by rfl, ?_⟩) (by assumption) ?_
    rotate_left
    · (intro wx hSw; (try dsimp only at hSw); go_simp; (try with_reducible rfl))
    (try simp only [Act.put, List.setIfInBounds_toArray, List.set_cons_zero, List.set_cons_succ])
    refine wpAnyH_done (by kernel_rfl) ?_ _
    have hB := HCC.out
    have t0 := (HC3.out _ _ hB.tail.five).2
    clear hHeld HS0 HS1 HS2
    generalize (W.alloc (.cells #[.int .u8 sk, .int .i32 sa, .int .i32 sb, .int .i32 sc, .int .u32 (st : Int)] 186)).drew = W2 at hB HCC t0 ⊢
    generalize W.heap.size = BY at *
    have v0 := hB.cell 0
    have v1 := hB.cell 1
    have v2 := hB.cell 2
    have v3 := hB.cell 3
    have v4 := hB.cell 4
    have u0 := hB.three.cell 0
    have u1 := hB.three.cell 1
    have u2 := hB.three.cell 2
    have u3 := hB.three.cell 3
    have z0 := hB.two.cell 0
    have z1 := hB.two.cell 1
    have z2 := hB.two.cell 2
    have z3 := hB.two.cell 3
    have z4 := hB.two.cell 4
    simp at v0 v1 v2 v3 v4 u0 u1 u2 u3 z0 z1 z2 z3 z4
    have y0 := hB.two.froz 0
    have y1 := hB.two.froz 1
    have y2 := hB.two.froz 2
    have y3 := hB.two.froz 3
    have y4 := hB.two.froz 4
    by_cases hEq : sk = (ck : Int) ∧ sa = ca ∧ sb = cb ∧ sc = cc
    · obtain ⟨rfl, rfl, rfl, rfl⟩ := hEq
      have g0 : ((ck : Int) == (ck : Int)) = true := by simp
      have g1 : (sa == sa) = true := by simp
      have g2 : (sb == sb) = true := by simp
      have g3 : (sc == sc) = true := by simp
      have hsg : sgt (some ⟨(ck : Int), sa, sb, sc, st⟩) T ck sa sb sc = ⟨(ck : Int), sa, sb, sc, st⟩ := by simp [sgt]
      have HF : Hid (Own w0 _ _) := ((((hB.two.setC 0 (.int .u8 (ck : Int))).setC 1 (.int .i32 sa)).setC 2 (.int .i32 sb)).setC 3 (.int .i32 sc)).setC 4 (.int .u32 (st : Int))
      have HSG : Hid (sgt (some ⟨(ck : Int), sa, sb, sc, st⟩) T ck sa sb sc = ⟨(ck : Int), sa, sb, sc, st⟩) := hsg
      clear hB hsg
      go_wp2
      (try simp only [Exit.inBlock, Exit.then])
      refine bodyPost_ret (v := .agg #[.int .u8 (ck : Int), .int .i32 sa, .int .i32 sb, .int .i32 sc, .int .u32 (st : Int)]) ?_ rfl ⟨by rw [HSG.out]; rfl, HF.out.tail.tail.tail.tail⟩
      have r0 := HF.out.cell 0
      have r1 := HF.out.cell 1
      have r2 := HF.out.cell 2
      have r3 := HF.out.cell 3
      have r4 := HF.out.cell 4
      simp at r0 r1 r2 r3 r4
      simp only [results]
      go_simp
    · have hE : ((sk == (ck : Int)) && ((sa == ca) && ((sb == cb) && (sc == cc)))) = false := by
        rw [Bool.eq_false_iff]
        intro hh
        simp at hh
        exact hEq hh
      have hE2 : ((sk == (ck : Int)) && (((sa == ca) && (sb == cb)) && (sc == cc))) = false := by
        rw [Bool.eq_false_iff]
        intro hh
        simp at hh
        exact hEq ⟨hh.1, hh.2.1.1, hh.2.1.2, hh.2.2⟩
      have HSG : Hid (sgt (some ⟨sk, sa, sb, sc, st⟩) T ck ca cb cc = ⟨(ck : Int), ca, cb, cc, T⟩) := by
        show _ = _
        unfold sgt
        simp only
        rw [if_neg]
        intro hh
        simp at hh
        exact hEq ⟨hh.1, hh.2.1.1, hh.2.1.2, hh.2.2⟩
      have HF : Hid (Own w0 _ _) := (((((hB.two.setC 0 (.int .u8 (ck : Int))).setC 1 (.int .i32 ca)).setC 2 (.int .i32 cb)).setC 3 (.int .i32 cc)).setC 4 (.int .u32 (T : Int))).drew
      have HEQ : Hid (¬(sk = (ck : Int) ∧ sa = ca ∧ sb = cb ∧ sc = cc)) := hEq
      clear hB hEq hE hE2
      go_wp2_with fail
      all_goals (try (exfalso; rename_i h1 h2; simp at h2; exact HEQ.out ⟨h1, h2⟩))
      all_goals
        go_region_held3 (fun w' : World => w'.cell? ⟨w.heap.size + 1, 0, none⟩ = some (.int .u8 (ck : Int)) ∧ w'.cell? ⟨w.heap.size + 1, 1, none⟩ = some (.int .i32 ca) ∧ w'.cell? ⟨w.heap.size + 1, 2, none⟩ = some (.int .i32 cb) ∧ w'.cell? ⟨w.heap.size + 1, 3, none⟩ = some (.int .i32 cc) ∧ w'.cell? ⟨b, 0, none⟩ = some (.int .u32 (T : Int))) (go_keep) (fail)
        all_goals
          go_wp2
          (try simp only [Exit.inBlock, Exit.then])
          refine bodyPost_ret (v := .agg #[.int .u8 (ck : Int), .int .i32 ca, .int .i32 cb, .int .i32 cc, .int .u32 (T : Int)]) ?_ rfl ⟨by rw [HSG.out]; rfl, HF.out.tail.tail.tail.tail⟩
          have r0 := HF.out.cell 0
          have r1 := HF.out.cell 1
          have r2 := HF.out.cell 2
          have r3 := HF.out.cell 3
          have r4 := HF.out.cell 4
          simp at r0 r1 r2 r3 r4
          simp only [results]
          go_simp
end Go.Proofs.YtflmgilmbppieaaGreatDoor

/-
  How a component is to be seen where nothing was seen yet.
-/
namespace Go.Proofs.YtflmgilmbppieaaGreatDoor
open Go.RowKit Go.Maps
set_option linter.unusedVariables false
set_option maxRecDepth 100000

set_option maxHeartbeats 4000000 in
theorem sight_nil (w0 w : World) (l : List Thing) (b : Nat) (wc : Array Value) (T : Nat) (hwc : wc[0]? = some (.int .u32 (T : Int))) (hwm : wc[3]? = some (.map none)) (i k : Nat) (hi : i < 4294967296) (hk : k < 256) (ck : Nat) (ca cb cc : Int)
    (h : Own w0 w (Cells b wc 117 :: l)) :
    Calls Tryz.prog 114 #[.pointer (some ⟨b, 0, none⟩), spv i k, .agg #[.int .u8 (ck : Int), .int .i32 ca, .int .i32 cb, .int .i32 cc]] w fun e w' => e = .returned (sgt none T ck ca cb cc).v ∧ Own w0 w' (Cells b wc 117 :: l) := by
  have hA := ((h.allocC #[.int .u32 (i : Int), .int .u8 (k : Int)] 189).allocC #[.int .u8 (ck : Int), .int .i32 ca, .int .i32 cb, .int .i32 cc] 46).allocC #[.int .u8 0, .int .i32 0, .int .i32 0, .int .i32 0, .int .u32 0] 186
  simp only [World.size_alloc] at hA
  have eqa := eq_a3w 9997
  have hbl := h.lt
  have hnb1 : b ≠ w.heap.size + 1 + 1 := by omega
  have hnb2 : w.heap.size + 1 + 1 ≠ b := fun q => hnb1 q.symm
  clear hbl
  have HLK : Hid (∀ w' : World, (Instr.lookup 115 (.map none) (.agg #[.int .u32 (i : Int), .int .u8 (k : Int)]) true).run Tryz.prog w' = .ok (.tuple #[.agg #[.int .u8 0, .int .i32 0, .int .i32 0, .int .i32 0, .int .u32 0], .bool false]) w') := fun w' => Maps.look_nil true keySpot Tryz.underlying115 (zeroSight w') (spk i k hi hk)
  have HC3 : Hid (∀ w' l', Own w0 w' (Cells b wc 117 :: l') → w'.cell? ⟨b, 3, none⟩ = some (.map none) ∧ w'.cell? ⟨b, 0, none⟩ = some (.int .u32 (T : Int))) := fun w' l' h' => ⟨by rw [h'.cell 3]; exact hwm, by rw [h'.cell 0]; exact hwc⟩
  have HA : Hid (Own w0 _ _) := hA
  clear h hA hwc hwm
  unfold spv
  go_enter Tryz.func114, Tryz.ntmps114
  go_wp2_with fail
  generalize ((w.alloc (.cells #[.int .u32 (i : Int), .int .u8 (k : Int)] 189)).alloc (.cells #[.int .u8 (ck : Int), .int .i32 ca, .int .i32 cb, .int .i32 cc] 46)).alloc (.cells #[.int .u8 0, .int .i32 0, .int .i32 0, .int .i32 0, .int .u32 0] 186) = W at HA ⊢
  have hD := HA.out.drew
  have HS0 : Hid ((fun w' : World => w'.cell? ⟨b, 3, none⟩ = some (.map none) ∧ w'.cell? ⟨w.heap.size, 0, none⟩ = some (.int .u32 (i : Int)) ∧ w'.cell? ⟨w.heap.size, 1, none⟩ = some (.int .u8 (k : Int)) ∧ (Instr.lookup 115 (.map none) (.agg #[.int .u32 (i : Int), .int .u8 (k : Int)]) true).run Tryz.prog w' = .ok (.tuple #[.agg #[.int .u8 0, .int .i32 0, .int .i32 0, .int .i32 0, .int .u32 0], .bool false]) w') W.drew) := ⟨(HC3.out _ _ hD.four).1, hD.three.cell 0, hD.three.cell 1, HLK.out _⟩
  have hB := (HA.out.allocC #[.int .u8 0, .int .i32 0, .int .i32 0, .int .i32 0, .int .u32 0] 186).drew
  have HS1 : Hid ((fun w' : World => w'.cell? ⟨b, 3, none⟩ = some (.map none) ∧ w'.cell? ⟨w.heap.size, 0, none⟩ = some (.int .u32 (i : Int)) ∧ w'.cell? ⟨w.heap.size, 1, none⟩ = some (.int .u8 (k : Int)) ∧ (Instr.lookup 115 (.map none) (.agg #[.int .u32 (i : Int), .int .u8 (k : Int)]) true).run Tryz.prog w' = .ok (.tuple #[.agg #[.int .u8 0, .int .i32 0, .int .i32 0, .int .i32 0, .int .u32 0], .bool false]) w') _) := ⟨(HC3.out _ _ hB.tail.four).1, hB.four.cell 0, hB.four.cell 1, HLK.out _⟩
  have HS2 : Hid ((fun w' : World => w'.cell? ⟨b, 3, none⟩ = some (.map none) ∧ w'.cell? ⟨w.heap.size, 0, none⟩ = some (.int .u32 (i : Int)) ∧ w'.cell? ⟨w.heap.size, 1, none⟩ = some (.int .u8 (k : Int)) ∧ (Instr.lookup 115 (.map none) (.agg #[.int .u32 (i : Int), .int .u8 (k : Int)]) true).run Tryz.prog w' = .ok (.tuple #[.agg #[.int .u8 0, .int .i32 0, .int .i32 0, .int .i32 0, .int .u32 0], .bool false]) w') _) := HS1.out
  have HCC : Hid (Own w0 _ _) := hB
  clear hB hD
  refine wp_region_held_drew (S := (fun w' : World => w'.cell? ⟨b, 3, none⟩ = some (.map none) ∧ w'.cell? ⟨w.heap.size, 0, none⟩ = some (.int .u32 (i : Int)) ∧ w'.cell? ⟨w.heap.size, 1, none⟩ = some (.int .u8 (k : Int)) ∧ (Instr.lookup 115 (.map none) (.agg #[.int .u32 (i : Int), .int .u8 (k : Int)]) true).run Tryz.prog w' = .ok (.tuple #[.agg #[.int .u8 0, .int .i32 0, .int .i32 0, .int .i32 0, .int .u32 0], .bool false]) w')) (by kernel_rfl) HS0.out (fun hHeld => ?_)
  refine wpAnyH_take (i := 0) (oi := { dst := some 10, op := Op.move (Operand.tmp 0), type := 25, pos := "world.go:94", after := #[], guard := none }) (v := ?_) rfl (by kernel_rfl) (by kernel_rfl) (by kernel_rfl) (fun _ _ _ h => h) (Or.inl ⟨by rfl, ?_⟩) (by assumption) ?_
  rotate_left
  · (intro wx hSw; (try dsimp only at hSw); go_simp; (try with_reducible rfl))
  (try simp only [Act.put, List.setIfInBounds_toArray, List.set_cons_zero, List.set_cons_succ])
  refine wpAnyH_take (i := 1) (oi := { dst := some 11, op := Op.nilCheck (Operand.tmp 10), type := 0, pos := "world.go:94", after := #[{ on := 0, ground := Ground.data }], guard := none }) (v := ?_) rfl (by kernel_rfl) (by kernel_rfl) (by kernel_rfl) (fun _ _ _ h => h) (Or.inl ⟨by rfl, ?_⟩) (by assumption) ?_
  rotate_left
  · (intro wx hSw; (try dsimp only at hSw); go_simp; (try with_reducible rfl))
  (try simp only [Act.put, List.setIfInBounds_toArray, List.set_cons_zero, List.set_cons_succ])
  refine wpAnyH_take (i := 2) (oi := { dst := some 12, op := Op.fieldAddr 117 (Operand.tmp 11) 3, type := 0, pos := "world.go:94", after := #[{ on := 1, ground := Ground.data }], guard := none }) (v := ?_) rfl (by kernel_rfl) (by kernel_rfl) (by kernel_rfl) (fun _ _ _ h => h) (Or.inl ⟨by rfl, ?_⟩) (by assumption) ?_
  rotate_left
  · (intro wx hSw; (try dsimp only at hSw); go_simp; (try with_reducible rfl))
  (try simp only [Act.put, List.setIfInBounds_toArray, List.set_cons_zero, List.set_cons_succ])
  refine wpAnyH_take (i := 3) (oi := { dst := some 13, op := Op.load 115 (Operand.tmp 12), type := 115, pos := "world.go:94", after := #[{ on := 2, ground := Ground.data }], guard := none }) (v := ?_) rfl (by kernel_rfl) (by kernel_rfl) (by kernel_rfl) (fun _ _ _ h => h) (Or.inl ⟨by rfl, ?_⟩) (by assumption) ?_
  rotate_left
  · (intro wx hSw; (try dsimp only at hSw); go_simp; (try with_reducible rfl))
  (try simp only [Act.put, List.setIfInBounds_toArray, List.set_cons_zero, List.set_cons_succ])
  refine wpAnyH_take (i := 4) (oi := { dst := some 14, op := Op.load 189 (Operand.tmp 4), type := 189, pos := "world.go:94", after := #[], guard := none }) (v := ?_) rfl (by kernel_rfl) (by kernel_rfl) (by kernel_rfl) (fun _ _ _ h => h) (Or.inl ⟨by rfl, ?_⟩) (by assumption) ?_
  rotate_left
  · (intro wx hSw; (try dsimp only at hSw); go_simp; (try with_reducible rfl))
  (try simp only [Act.put, List.setIfInBounds_toArray, List.set_cons_zero, List.set_cons_succ])
  refine wpAnyH_take (i := 5) (oi := { dst := some 15, op := Op.lookup 115 (Operand.tmp 13) (Operand.tmp 14) true, type := 187, pos := "world.go:94", after := #[{ on := 3, ground := Ground.data }, { on := 4, ground := Ground.data }], guard := none }) (v := ?_) rfl (by kernel_rfl) (by kernel_rfl) (by kernel_rfl) (fun _ _ _ h => h) (Or.inl ⟨by rfl, ?_⟩) (by assumption) ?_
  rotate_left
  · (intro wx hSw; (try dsimp only at hSw); go_simp; (try with_reducible rfl))
  (try simp only [Act.put, List.setIfInBounds_toArray, List.set_cons_zero, List.set_cons_succ])
  refine wpAnyH_take (i := 6) (oi := { dst := some 9, op := Op.move (Operand.tmp 15), type := 187, pos := "world.go:94", after := #[{ on := 5, ground := Ground.data }], guard := none }) (v := ?_) rfl (by kernel_rfl) (by kernel_rfl) (by kernel_rfl) (fun _ _ _ h => h) (Or.inl ⟨by rfl, ?_⟩) (by assumption) ?_
  rotate_left
  · (intro wx hSw; (try dsimp only at hSw); go_simp; (try with_reducible rfl))
  (try simp only [Act.put, List.setIfInBounds_toArray, List.set_cons_zero, List.set_cons_succ])
  refine wpAnyH_take (i := 7) (oi := { dst := some 16, op := Op.extract (Operand.tmp 9) 0, type := 186, pos := "world.go:94", after := #[{ on := 6, ground := Ground.data }], guard := none }) (v := ?_) rfl (by kernel_rfl) (by kernel_rfl) (by kernel_rfl) (fun _ _ _ h => h) (Or.inl ⟨by rfl, ?_⟩) (by assumption) ?_
  rotate_left
  · (intro wx hSw; (try dsimp only at hSw); go_simp; (try with_reducible rfl))
  (try simp only [Act.put, List.setIfInBounds_toArray, List.set_cons_zero, List.set_cons_succ])
  refine wpAnyH_take (i := 8) (oi := { dst := some 17, op := Op.extract (Operand.tmp 9) 1, type := 4, pos := "world.go:94", after := #[{ on := 6, ground := Ground.data }, { on := 10, ground := Ground.gcOnly Departure.lateStores }], guard := none }) (v := ?_) rfl (by kernel_rfl) (by kernel_rfl) (by kernel_rfl) (fun _ _ _ h => h) (Or.inl ⟨by rfl, ?_⟩) (by assumption) ?_
  rotate_left
  · (intro wx hSw; (try dsimp only at hSw); go_simp; (try with_reducible rfl))
  (try simp only [Act.put, List.setIfInBounds_toArray, List.set_cons_zero, List.set_cons_succ])
  refine wpAnyH_ready (rs := [9]) (by kernel_rfl) (by simp) ?_
  refine AllReadyH.cons (o := { dst := some 7, op := Op.alloc 186, type := 0, pos := "world.go:94", after := #[], guard := none }) rfl (fun K hK => ?_) AllReadyH.nil
  go_simp
  refine hK.out _ _ HS1.out (fun hHeld2 => ?_)
  clear hHeld hK K
  have hHeld := hHeld2
  clear hHeld2
  (try simp only [Act.put, List.setIfInBounds_toArray, List.set_cons_zero, List.set_cons_succ])
  refine wpAnyH_ready (rs := [10]) (by kernel_rfl) (by simp) ?_
  refine AllReadyH.cons (o := { dst := none, op := Op.store 186 (Operand.tmp 7) (Operand.tmp 16), type := 0, pos := "world.go:94", after := #[{ on := 9, ground := Ground.data }, { on := 7, ground := Ground.data }, { on := 0, ground := Ground.phase }, { on := 1, ground := Ground.phase }, { on := 2, ground := Ground.phase }, { on := 3, ground := Ground.phase }, { on := 4, ground := Ground.phase }, { on := 5, ground := Ground.phase }, { on := 6, ground := Ground.phase }, { on := 7, ground := Ground.phase }, { on := 8, ground := Ground.textOnly Departure.lateStores }, { on := 9, ground := Ground.phase }], guard := none }) rfl (fun K hK => ?_) AllReadyH.nil
  go_simp
  refine hK.out _ _ HS2.out (fun hHeld2 => ?_)
  clear hHeld hK K
  have hHeld := hHeld2
  clear hHeld2
  (try simp only [Act.put, List.setIfInBounds_toArray, List.set_cons_zero, List.set_cons_succ])
  refine wpAnyH_take (i := 11) (oi := { dst := some 8, op := Op.assign (Operand.tmp 17), type := 4, pos := "world.go:94", after := #[{ on := 8, ground := Ground.data }, { on := 10, ground := Ground.chain }, { on := 0, ground := Ground.phase }, { on := 1, ground := Ground.phase }, { on := 2, ground := Ground.phase }, { on := 3, ground := Ground.phase }, { on := 4, ground := Ground.phase }, { on := 5, ground := Ground.phase }, { on := 6, ground := Ground.phase }, { on := 7, ground := Ground.phase }, { on := 8, ground := Ground.phase }, { on := 9, ground := Ground.phase }, { on := 10, ground := Ground.phase }], guard := none }) (v := ?_) rfl (by kernel_rfl) (by kernel_rfl) (by kernel_rfl) (fun _ _ _ h => h) (Or.inl ⟨by rfl, ?_⟩) (by assumption) ?_
  rotate_left
  · (intro wx hSw; (try dsimp only at hSw); go_simp; (try with_reducible rfl))
  (try simp only [Act.put, List.setIfInBounds_toArray, List.set_cons_zero, List.set_cons_succ])
  refine wpAnyH_done (by kernel_rfl) ?_ _
  have hB := HCC.out
  have t0 := (HC3.out _ _ hB.tail.four).2
  clear hHeld HS0 HS1 HS2
  generalize (W.alloc (.cells #[.int .u8 0, .int .i32 0, .int .i32 0, .int .i32 0, .int .u32 0] 186)).drew = W2 at hB HCC t0 ⊢
  have u0 := hB.three.cell 0
  have u1 := hB.three.cell 1
  have u2 := hB.three.cell 2
  have u3 := hB.three.cell 3
  simp at u0 u1 u2 u3
  have z0 := hB.two.cell 0
  have z1 := hB.two.cell 1
  have z2 := hB.two.cell 2
  have z3 := hB.two.cell 3
  have z4 := hB.two.cell 4
  simp at z0 z1 z2 z3 z4
  have y0 := hB.two.froz 0
  have y1 := hB.two.froz 1
  have y2 := hB.two.froz 2
  have y3 := hB.two.froz 3
  have y4 := hB.two.froz 4
  have HF : Hid (Own w0 _ _) := (((((hB.two.setC 0 (.int .u8 (ck : Int))).setC 1 (.int .i32 ca)).setC 2 (.int .i32 cb)).setC 3 (.int .i32 cc)).setC 4 (.int .u32 (T : Int))).drew
  clear hB
  go_wp2_with fail
  go_region_held3 (fun w' : World => w'.cell? ⟨w.heap.size + 1, 0, none⟩ = some (.int .u8 (ck : Int)) ∧ w'.cell? ⟨w.heap.size + 1, 1, none⟩ = some (.int .i32 ca) ∧ w'.cell? ⟨w.heap.size + 1, 2, none⟩ = some (.int .i32 cb) ∧ w'.cell? ⟨w.heap.size + 1, 3, none⟩ = some (.int .i32 cc) ∧ w'.cell? ⟨b, 0, none⟩ = some (.int .u32 (T : Int))) (go_keep) (fail)
  all_goals
    go_wp2
    (try simp only [Exit.inBlock, Exit.then])
    refine bodyPost_ret (v := .agg #[.int .u8 (ck : Int), .int .i32 ca, .int .i32 cb, .int .i32 cc, .int .u32 (T : Int)]) ?_ rfl ⟨rfl, HF.out.tail.tail.tail.tail⟩
    have r0 := HF.out.cell 0
    have r1 := HF.out.cell 1
    have r2 := HF.out.cell 2
    have r3 := HF.out.cell 3
    have r4 := HF.out.cell 4
    simp at r0 r1 r2 r3 r4
    simp only [results]
    go_simp
end Go.Proofs.YtflmgilmbppieaaGreatDoor
