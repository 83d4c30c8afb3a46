/-
  What is told of a store's numbers: Live, Len, Room, List; a nil store.
-/
import Derived.Test.YtlbbljjfejhniaaDoorOjg
import Derived.Test.YtlbbljjfejhniaaDoorYa
import Derived.Test.YtlbbljjfejhniaaDoorYx
import Derived.Test.YtlbbljjfejhniaaDoorOqg
import Derived.Test.YtlbbljjfejhniaaDoorSm
namespace Go.Proofs.YtlbbljjfejhniaaDoor
open Go.RowKit Go.Maps
set_option linter.unusedVariables false

set_option maxHeartbeats 400000 in
theorem sused (w0 w : World) (l : List Thing) (b bs : Nat) (v : Value) (p : Nat → Option Nat) (σ : Sto) (K : Nat) (h : Own w0 w (StoX b σ K (bs, v, p) :: l)) :
    Calls Tryd.prog 22 #[.pointer (some ⟨b, 0, none⟩)] w fun e w' => e = .returned (.pointer (some ⟨bs, 0, none⟩)) ∧ w' = w := by
  obtain ⟨q0, _, _⟩ := stoCells h
  clear h
  go_enter Tryd.func22, Tryd.ntmps22
  go_wp2
  go_ret
  exact ⟨rfl, rfl⟩
set_option maxHeartbeats 400000 in
theorem sused_nil (w : World) : Calls Tryd.prog 22 #[.pointer none] w fun e w' => e = .returned (.pointer none) ∧ w' = w := by
  go_enter Tryd.func22, Tryd.ntmps22
  go_wp2
  go_ret
  exact ⟨rfl, rfl⟩
set_option maxHeartbeats 400000 in
theorem slist (w0 w : World) (l : List Thing) (b : Nat) (σ : Sto) (K : Nat) (h : Own w0 w (Store b σ K :: l)) (hσ : σ.S.Ok) :
    Calls Tryd.prog 8 #[.pointer (some ⟨b, 0, none⟩)] w fun e w' => ∃ v, e = .returned v ∧ Own w0 w' (Row 32 1 v σ.S.list.length (irow .u32 σ.S.list) :: Store b σ K :: l) := by
  obtain ⟨bs, v, p, h⟩ := h.stoX
  have HU : Hid (Calls _ _ _ _ _) := sused w0 w l b bs v p σ K h
  have HL : Hid (Calls _ _ _ _ _) := list_ok w0 w _ bs σ.S h.stoO.two hσ
  clear h
  go_enter Tryd.func8, Tryd.ntmps8
  go_wp2_with (go_at_call 22; refine HU.out.mono ?_; rintro e w' ⟨rfl, rfl⟩)
  refine HL.out.mono ?_
  rintro e w' ⟨vv, rfl, hO⟩
  have H1 : Hid (Own w0 w' (Row 32 1 vv σ.S.list.length (irow .u32 σ.S.list) :: Store b σ K :: l)) := by
    have k := Own.sink (l := [Cells b (scells bs v p) 67, Slots bs σ.S, Row 5 1 v σ.mks.length (irow .u8 σ.mks), Tabs p σ.T K]) (m := l) hO.in23
    exact (Own.stoS k).xSto.two
  clear hO
  go_wp2
  go_ret
  exact ⟨_, rfl, H1.out⟩
end Go.Proofs.YtlbbljjfejhniaaDoor

/-
  Slices of numbers that can be read; Same of two lists of IDs.
-/
namespace Go.Proofs.YtlbbljjfejhniaaDoor
open Go.RowKit
set_option linter.unusedVariables false

/-- a slice that can be read: these numbers -/
def Nums (k : IntKind) (w : World) (v : Value) (X : List Nat) : Prop := ∃ ao cap, v = .slice ao X.length cap ∧ (X = [] ∨ ∃ g o, ao = some ⟨g, o, none⟩ ∧ ∀ (j x : Nat), X[j]? = some x → w.cell? ⟨g, o + j, none⟩ = some (.int k (x : Int)))
theorem Own.nums {w0 w : World} {l : List Thing} {e : TypeId} {k : IntKind} {v : Value} {X : List Nat} (h : Own w0 w (Row e 1 v X.length (irow k X) :: l)) : Nums k w v X := by
  have r := h.row
  obtain ⟨ao, cap, rfl⟩ := row_any r
  refine ⟨ao, cap, rfl, ?_⟩
  by_cases h0 : X.length = 0
  · exact .inl (List.eq_nil_of_length_eq_zero h0)
  · right
    obtain ⟨g, c, he, _⟩ := row_shape r (by omega)
    cases he
    refine ⟨g, 0, rfl, fun j x hx => ?_⟩
    have hj := (List.getElem?_eq_some_iff.1 hx).1
    rw [Nat.zero_add, r.cellAt _ (by omega), getElem?_irow, hx]; rfl
theorem Nums.quiet {k : IntKind} {w w' : World} {v : Value} {X : List Nat} (h : Nums k w v X) (hf : Fr Nobody w w') : Nums k w' v X := by
  obtain ⟨ao, cap, rfl, h⟩ := h
  refine ⟨ao, cap, rfl, ?_⟩
  rcases h with h | ⟨g, o, ha, hc⟩
  · exact .inl h
  · refine .inr ⟨g, o, ha, fun j x hx => ?_⟩
    have h1 := hc j x hx
    exact (hf.cell (p := ⟨g, o + j, none⟩) (World.block_lt_of_cell? w _ h1) id).trans h1

set_option maxHeartbeats 1000000 in
set_option maxRecDepth 100000 in
theorem same_ok (w : World) (v1 v2 : Value) (X : List Nat) (h1 : Nums .u32 w v1 X) (h2 : Nums .u32 w v2 X) (hX : X.length ≤ 100000000) :
    Calls Tryd.prog 17 #[v1, v2] w fun e w' => e = .returned (.bool true) ∧ Fr Nobody w w' := by
  obtain ⟨a1, c1, rfl, h1⟩ := h1
  obtain ⟨a2, c2, rfl, h2⟩ := h2
  obtain ⟨n, hn⟩ : ∃ n, n = X.length := ⟨_, rfl⟩
  rw [← hn] at hX ⊢
  have HN : Hid (n = X.length) := hn
  have H1 : Hid (X = [] ∨ ∃ g o, a1 = some ⟨g, o, none⟩ ∧ ∀ (j x : Nat), X[j]? = some x → w.cell? ⟨g, o + j, none⟩ = some (.int .u32 (x : Int))) := h1
  have H2 : Hid (X = [] ∨ ∃ g o, a2 = some ⟨g, o, none⟩ ∧ ∀ (j x : Nat), X[j]? = some x → w.cell? ⟨g, o + j, none⟩ = some (.int .u32 (x : Int))) := h2
  clear h1 h2 hn
  have hne : ((n : Int) != (n : Int)) = false := by simp
  go_enter Tryd.func17, Tryd.ntmps17
  go_wp2
  clear hne
  go_loopw [13] (fun cc wr => ∃ k : Nat, k ≤ n ∧ cc = .int .i64 k ∧ Fr Nobody w wr) (fun cc _ => n - (intOf cc).toNat)
  case atStart => exact ⟨0, Nat.zero_le _, rfl, Fr.refl _ _⟩
  case round =>
    obtain ⟨k, hk, rfl, hf⟩ := hrel
    have HF : Hid (Fr Nobody w wr) := hf
    clear hf
    by_cases hlt : k < n
    · obtain ⟨x, hx⟩ : ∃ x, X[k]? = some x := ⟨_, List.getElem?_eq_getElem (by rw [← HN.out]; exact hlt)⟩
      obtain ⟨g1, o1, rfl, d1⟩ : ∃ g o, a1 = some ⟨g, o, none⟩ ∧ wr.cell? ⟨g, o + k, none⟩ = some (.int .u32 (x : Int)) := by
        rcases H1.out with h | ⟨g, o, ha, hc⟩
        · rw [h] at hx; simp at hx
        · have h1 := hc k x hx
          exact ⟨g, o, ha, (HF.out.cell (p := ⟨g, o + k, none⟩) (World.block_lt_of_cell? w _ h1) id).trans h1⟩
      obtain ⟨g2, o2, rfl, d2⟩ : ∃ g o, a2 = some ⟨g, o, none⟩ ∧ wr.cell? ⟨g, o + k, none⟩ = some (.int .u32 (x : Int)) := by
        rcases H2.out with h | ⟨g, o, ha, hc⟩
        · rw [h] at hx; simp at hx
        · have h1 := hc k x hx
          exact ⟨g, o, ha, (HF.out.cell (p := ⟨g, o + k, none⟩) (World.block_lt_of_cell? w _ h1) id).trans h1⟩
      clear hx
      have hxx : ((x : Int) != (x : Int)) = false := by simp
      go_wp2
      go_quiet (fail)
      go_wp2
      go_roundw
      case rel => exact ⟨k + 1, by omega, by go_num, HF.out.drewN _⟩
      case measure => simp [intOf]; omega
    · go_wp2
      go_ret
      exact ⟨rfl, HF.out⟩

end Go.Proofs.YtlbbljjfejhniaaDoor

/-
  The document's example of stores.
-/
namespace Go.Proofs.YtlbbljjfejhniaaDoor
open Go.RowKit Go.Maps
set_option linter.unusedVariables false
set_option maxRecDepth 100000

def aC : List Cp := [⟨0, 0, 0, 0⟩]
def aL : Cp := ⟨2, 0, 0, 0⟩
def ast0 : Sto := Sto.new 5 1
def ast1 : Sto := (ast0.spawn aC).2.2
def ast2 : Sto := (ast1.spawn aC).2.2
def ast3 : Sto := (ast2.spawn aC).2.2
def ast4 : Sto := (ast3.add 1024 aL).2
theorem ast0_ok : ast0.Ok := Sto.new_ok 5 1 (by decide) (by decide) (by decide) (by decide)
theorem ast1_ok : ast1.Ok := Sto.spawn_ok ast0_ok _
theorem ast2_ok : ast2.Ok := Sto.spawn_ok ast1_ok _
theorem ast3_ok : ast3.Ok := Sto.spawn_ok ast2_ok _
theorem as1 : (ast0.spawn aC).1 = 1024 ∧ (ast0.spawn aC).2.1 = 0 := by constructor <;> kernel_rfl
theorem as2 : (ast1.spawn aC).1 = 1025 ∧ (ast1.spawn aC).2.1 = 0 := by constructor <;> kernel_rfl
theorem as3 : (ast2.spawn aC).1 = 1026 ∧ (ast2.spawn aC).2.1 = 0 := by constructor <;> kernel_rfl
theorem as4 : (ast3.add 1024 aL).1 = 0 := by kernel_rfl
theorem as5 : ast4.grs 64 = [(1, [1026, 1025]), (5, [1024])] := by kernel_rfl
theorem spawn_at {σ σ' : Sto} {id : Nat} {er : Int} (w0 w : World) (l : List Thing) (b K : Nat) (ht : Tab w0) (hσ : σ.Ok) (hK : K < 1000000) (B : Nat) (h : Own w0 w (Store b σ K :: Cells B #[.int .u8 0, .int .i32 0, .int .i32 0, .int .i32 0] 46 :: l)) (h1 : (σ.spawn aC).1 = id ∧ (σ.spawn aC).2.1 = er) (h2 : (σ.spawn aC).2.2 = σ') :
    Calls Tryd.prog 6 #[.pointer (some ⟨b, 0, none⟩), .slice (some ⟨B, 0, none⟩) 1 1] w fun e w' => e = .returned (.tuple #[.int .u32 (id : Int), .int .i64 er]) ∧ Own w0 w' (Store b σ' (K + 1) :: Cells B #[.int .u8 0, .int .i32 0, .int .i32 0, .int .i32 0] 46 :: l) := by
  have := spawnC w0 w _ b σ K ht h hσ (some ⟨B, 0, none⟩) 1 1 aC rfl (fun w' h' => .inr ⟨B, 0, rfl, fun j q hq => by
    match j, hq with
    | 0, hq =>
      cases hq
      exact ⟨by rw [h'.cell]; rfl, by rw [h'.cell]; rfl, by rw [h'.cell]; rfl, by rw [h'.cell]; rfl⟩
    | n + 1, hq => simp [aC] at hq⟩) (by simp [aC]) (by decide) hK
  rw [h1.1, h1.2, h2] at this
  exact this
theorem map_two {G : List GrE} {x y : Nat × List Nat} (h : G.map GrE.is = [x, y]) : ∃ a b, G = [a, b] ∧ a.is = x ∧ b.is = y := by
  match G, h with
  | [a, b], h => simp at h; exact ⟨a, b, rfl, h.1, h.2⟩
theorem nums_cells {w0 w : World} {l : List Thing} {B : Nat} {cs : Array Value} {t : TypeId} (h : Own w0 w (Cells B cs t :: l)) (X : List Nat) (c : Nat) (hX : ∀ (j x : Nat), X[j]? = some x → cs[j]? = some (Value.int .u32 (x : Int))) : Nums .u32 w (.slice (some ⟨B, 0, none⟩) X.length c) X :=
  ⟨_, c, rfl, .inr ⟨B, 0, rfl, fun j x hx => by rw [Nat.zero_add, h.cell, hX j x hx]⟩⟩

set_option maxHeartbeats 2000000 in
theorem awake11 (w0 w : World) (l : List Thing) (ht : Tab w0) (h : Own w0 w l) : Calls Tryd.prog 4 #[] w fun e w' => e = .returned (.bool true) ∧ Own w0 w' l := by
  have H : Hid (Own w0 w l) := h
  have HT : Hid (Tab w0) := ht
  clear h ht
  go_enter Tryd.func4, Tryd.ntmps4
  go_wp2_with fail
  refine (snew w0 w l 5 1 H.out (by decide) (by decide) (by decide) (by decide)).mono ?_
  rintro e w1 ⟨b, rfl, hO⟩
  have hA := (hO.allocC #[.int .u8 0, .int .i32 0, .int .i32 0, .int .i32 0] 46).two
  have HS1 : Hid (Calls _ _ _ _ _) := spawn_at w0 _ l b 0 HT.out ast0_ok (by decide) w1.heap.size hA as1 (rfl : _ = ast1)
  clear hO hA H
  go_wp2_with fail
  refine HS1.out.mono ?_
  rintro e w2 ⟨rfl, hO⟩
  have HS2 : Hid (Calls _ _ _ _ _) := spawn_at w0 _ l b 1 HT.out ast1_ok (by decide) w1.heap.size hO as2 (rfl : _ = ast2)
  clear hO HS1
  go_wp2_with fail
  refine HS2.out.mono ?_
  rintro e w3 ⟨rfl, hO⟩
  have HS3 : Hid (Calls _ _ _ _ _) := spawn_at w0 _ l b 2 HT.out ast2_ok (by decide) w1.heap.size hO as3 (rfl : _ = ast3)
  clear hO HS2
  go_wp2_with fail
  refine HS3.out.mono ?_
  rintro e w4 ⟨rfl, hO⟩
  have HAD : Hid (Calls _ _ _ _ _) := addC w0 w4 _ b ast3 3 HT.out hO ast3_ok 1024 (by decide) aL (by decide) (by decide)
  rw [as4, show (ast3.add 1024 aL).2 = ast4 from rfl] at HAD
  unfold Cp.ag aL at HAD
  simp only at HAD
  clear hO HS3
  go_wp2_with fail
  refine HAD.out.mono ?_
  rintro e w5 ⟨rfl, hO⟩
  obtain ⟨bs, v, p, hX⟩ := hO.stoX
  have HGR : Hid (Calls _ _ _ _ _) := sgroupsX w0 w5 _ b bs v p ast4 5 hX (by decide)
  clear hO hX HAD
  go_wp2_with fail
  refine HGR.out.mono ?_
  rintro e w6 ⟨G, ra, rc, rfl, hG, hO⟩
  rw [as5] at hG
  obtain ⟨⟨m1, I1, a1, c1⟩, ⟨m2, I2, a2, c2⟩, rfl, hx, hy⟩ := map_two hG
  simp only [GrE.is, Prod.mk.injEq] at hx hy
  obtain ⟨rfl, rfl⟩ := hx
  obtain ⟨rfl, rfl⟩ := hy
  have hO' : Own w0 w6 (Row 56 2 (.slice ra 2 rc) 2 [.int .u8 1, .slice a1 2 c1, .int .u8 5, .slice a2 1 c2] :: Row 32 1 (.slice a1 2 c1) 2 (irow .u32 [1026, 1025]) :: Row 32 1 (.slice a2 1 c2) 1 (irow .u32 [1024]) :: StoX b ast4 5 (bs, v, p) :: Cells w1.heap.size #[.int .u8 0, .int .i32 0, .int .i32 0, .int .i32 0] 46 :: l) := hO
  obtain ⟨g, rc', hv, _⟩ := row_shape hO'.row (by decide)
  have hra := (Value.slice.inj hv).1
  subst hra
  have r := hO'.row
  have g0 : w6.cell? ⟨g, 0, none⟩ = some (.int .u8 1) := by rw [r.cellAt _ (by decide)]; rfl
  have g1 : w6.cell? ⟨g, 1, none⟩ = some (.slice a1 2 c1) := by rw [r.cellAt _ (by decide)]; rfl
  have hB := hO'.allocC #[.int .u32 1026, .int .u32 1025] 32
  have HM1 : Hid (Calls _ _ _ _ _) := same_ok _ (.slice a1 2 c1) (.slice (some ⟨w6.heap.size, 0, none⟩) 2 2) [1026, 1025] (Own.nums (X := [1026, 1025]) hB.three) (nums_cells hB [1026, 1025] 2 (fun j x hx => by
    match j, hx with
    | 0, hx => cases hx; rfl
    | 1, hx => cases hx; rfl
    | n + 2, hx => simp at hx)) (by decide)
  have HB : Hid (Own w0 _ _) := hB.tail
  clear hO hO' r hv hB HGR hG
  simp only [List.length_cons, List.length_nil, Nat.zero_add]
  go_wp2_with fail
  refine HM1.out.mono ?_
  rintro e w7 ⟨rfl, hf⟩
  have hO7 := HB.out.quiet hf
  have r := hO7.row
  have g3 : w7.cell? ⟨g, 3, none⟩ = some (.slice a2 1 c2) := by rw [r.cellAt _ (by decide)]; rfl
  have hB := hO7.allocC #[.int .u32 1024] 32
  have HM2 : Hid (Calls _ _ _ _ _) := same_ok _ (.slice a2 1 c2) (.slice (some ⟨w7.heap.size, 0, none⟩) 1 1) [1024] (Own.nums (X := [1024]) hB.four) (nums_cells hB [1024] 1 (fun j x hx => by
    match j, hx with
    | 0, hx => cases hx; rfl
    | n + 1, hx => simp at hx)) (by decide)
  have HB2 : Hid (Own w0 _ l) := hB.tail.tail.tail.tail.tail.tail
  clear r hB hO7 hf HB HM1 g0 g1
  go_wp2_with fail
  refine HM2.out.mono ?_
  rintro e w8 ⟨rfl, hf⟩
  have H8 : Hid (Own w0 w8 l) := HB2.out.quiet hf
  clear hf HB2 HM2
  go_wp2
  go_ret
  exact ⟨rfl, H8.out⟩
end Go.Proofs.YtlbbljjfejhniaaDoor

/-
  Two entities that are alike.
-/
namespace Go.Proofs.YtlbbljjfejhniaaDoor
open Go.RowKit
set_option linter.unusedVariables false
set_option maxRecDepth 100000

set_option maxHeartbeats 1000000 in
theorem sameEnt_any (w : World) (id : Nat) (a1 a2 : Option Addr) (n c1 c2 : Nat) (C : List Cp) (h1 : Cs w a1 C) (h2 : Cs w a2 C) (hn : C.length = n) (hm : n ≤ 1000000) :
    Calls Tryd.prog 15 #[.agg #[.int .u32 (id : Int), .slice a1 n c1], .agg #[.int .u32 (id : Int), .slice a2 n c2]] w fun e w' => e = .returned (.bool true) ∧ Fr Nobody w w' := by
  have HF : Hid (Fr Nobody w ((w.alloc (.cells #[.int .u32 (id : Int), .slice a1 n c1] 41)).alloc (.cells #[.int .u32 (id : Int), .slice a2 n c2] 41))) := ((Fr.refl _ _).alloc _).alloc _
  have HS : Hid (Calls _ _ _ _ _) := same_cs _ a1 a2 n c1 c2 C (h1.quiet HF.out) (h2.quiet HF.out) hn hm
  have hii : ((id : Int) == (id : Int)) = true := by simp
  clear h1 h2 hn
  go_enter Tryd.func15, Tryd.ntmps15
  go_wp2_with fail
  refine HS.out.mono ?_
  rintro e w1 ⟨rfl, hf⟩
  have H1 : Hid (Fr Nobody w w1) := HF.out.trans hf
  clear hf HS
  go_wp2
  go_ret
  exact ⟨rfl, H1.out⟩

end Go.Proofs.YtlbbljjfejhniaaDoor
