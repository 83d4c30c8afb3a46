/-
  An entity with all its components.
-/
import Derived.Test.YtflmgilmbppieaaGreatDoorOg
namespace Go.Proofs.YtflmgilmbppieaaGreatDoor
open Go.RowKit Go.Maps
set_option linter.unusedVariables false
set_option maxRecDepth 100000

theorem upd_self {α : Type} (f : Nat → α) (k : Nat) : upd f k (f k) = f := by
  funext j; unfold upd; split
  · rename_i e; rw [e]
  · rfl
theorem Own.stoT {w0 w : World} {l : List Thing} {b bs : Nat} {v : Value} {p : Nat → Option Nat} {σ : Sto} {K m bt c : Nat} (h : Own w0 w (Table bt m (σ.T m) c :: StoB b σ K (bs, v, p) m :: l)) (hm : m < 64) (hp : p m = some bt) (hc : c ≤ K) (hL : σ.T m ≠ []) (hl : (σ.T m).length ≤ K) : Own w0 w (StoX b σ K (bs, v, p) :: l) := by
  have k := h.stoBX hm hp (Nat.le_refl K) hc hL hl
  rw [upd_self] at k
  exact k
theorem stoP {w0 w : World} {l : List Thing} {b bs : Nat} {v : Value} {p : Nat → Option Nat} {σ : Sto} {K m r : Nat} {e : Ent} (h : Own w0 w (StoX b σ K (bs, v, p) :: l)) (hm : m < 64) (he : (σ.T m)[r]? = some e) : ∃ bt, p m = some bt := by
  cases hp : p m with
  | none => exact absurd (h.stoN hm hp).1 (fun q => by rw [q] at he; simp at he)
  | some bt => exact ⟨bt, rfl⟩
set_option maxHeartbeats 2000000 in
theorem sent (w0 w : World) (l : List Thing) (b : Nat) (σ : Sto) (K : Nat) (h : Own w0 w (Store b σ K :: l)) (hσ : σ.Ok) (id : Nat) (hid : id < 4294967296) (hl : σ.S.isLive id = true) (r : Nat) (C : List Cp) (he : (σ.T (σ.hom id))[r]? = some (id, C)) (hK : K ≤ 1000000) :
    Calls Tryz.prog 126 #[.pointer (some ⟨b, 0, none⟩), .int .u32 (id : Int)] w fun e w' => ∃ ao cap, e = .returned (.tuple #[.agg #[.int .u32 (id : Int), .slice ao C.length cap], .int .i64 0]) ∧ Own w0 w' (Row 46 4 (.slice ao C.length cap) C.length (ccat C) :: Store b σ K :: l) := by
  obtain ⟨bs, v, p, h⟩ := h.stoX
  obtain ⟨h6, hn, _⟩ := hσ.home hl
  have hr : plc (σ.T (σ.hom id)) id = some r := (plc_some (hσ.t _ h6).ap id r).2 ⟨_, he, rfl⟩
  have hA := (h.allocC #[.int .u32 0, .slice none 0 0] 67).two
  have HH : Hid (Calls _ _ _ _ _) := home_ok w0 _ _ b bs v p σ K hA hσ.s id hid hl hn h6
  obtain ⟨bt, hp⟩ := stoP h h6 he
  rw [hp, pp_some] at HH
  have HRW : Hid (∀ w' l', Own w0 w' (StoX b σ K (bs, v, p) :: l') → Calls Tryz.prog 181 #[.pointer (some ⟨bt, 0, none⟩), .int .u32 (id : Int)] w' fun e w'' => e = .returned (.tuple #[.int .i64 (r : Int), .bool true]) ∧ w'' = w') := by
    intro w' l' h'
    obtain ⟨c, _, _, _, h2⟩ := h'.stoB h6 hp
    have k := trow w0 w' _ bt _ _ _ _ c h2 id hid
    rw [hr] at k
    exact k
  have HAT : Hid (∀ w' l', Own w0 w' (StoX b σ K (bs, v, p) :: l') → Calls Tryz.prog 182 #[.pointer (some ⟨bt, 0, none⟩), .int .i64 (r : Int)] w' fun out w'' => ∃ ao cap, out = .returned (.tuple #[.agg #[.int .u32 (id : Int), .slice ao C.length cap], .bool true]) ∧ Own w0 w'' (Row 46 4 (.slice ao C.length cap) C.length (ccat C) :: StoX b σ K (bs, v, p) :: l')) := by
    intro w' l' h'
    obtain ⟨c, hc, hne, hlen, h2⟩ := h'.stoB h6 hp
    refine (tatC w0 w' _ bt _ _ c h2 (hσ.t _ h6) r (id, C) he (by omega)).mono ?_
    rintro e w'' ⟨ao, cap, rfl, h3⟩
    refine ⟨ao, cap, rfl, ?_⟩
    have h4 : Own w0 w'' (Table bt (σ.hom id) (σ.T (σ.hom id)) c :: StoB b σ K (bs, v, p) (σ.hom id) :: Row 46 4 (.slice ao C.length cap) C.length (ccat C) :: l') := h3.back3
    exact (h4.stoT h6 hp hc hne hlen).two
  clear h hA hσ hl he hr hp hn hid
  go_enter Tryz.func126, Tryz.ntmps126
  go_wp2_with fail
  refine HH.out.mono ?_
  rintro e w1 ⟨rfl, hO⟩
  have H1 : Hid (Own w0 w1 _) := hO
  clear hO HH
  go_wp2_with fail
  refine (HRW.out _ _ H1.out).mono ?_
  rintro e w2 ⟨rfl, rfl⟩
  go_wp2_with fail
  refine (HAT.out _ _ H1.out).mono ?_
  rintro e w3 ⟨ao, cap, rfl, hO⟩
  have hB := (hO.allocC #[.int .u32 (id : Int), .slice ao C.length cap] 67).four
  have x0 := hB.two.cell 0
  have x1 := hB.two.cell 1
  have z0 := hB.cell 0
  have z1 := hB.cell 1
  simp at x0 x1 z0 z1
  have y0 := hB.froz 0
  have y1 := hB.froz 1
  have hne1 : w3.heap.size ≠ w.heap.size := by
    have := hO.three.lt
    omega
  have hne2 : w.heap.size ≠ w3.heap.size := fun q => hne1 q.symm
  have HF : Hid (Own w0 _ _) := (hB.setC 0 (.int .u32 (id : Int))).setC 1 (.slice ao C.length cap)
  clear hO hB HAT HRW H1
  go_wp2
  (try simp only [Exit.inBlock, Exit.then])
  refine bodyPost_ret (v := .tuple #[.agg #[.int .u32 (id : Int), .slice ao C.length cap], .int .i64 0]) ?_ rfl ⟨ao, cap, rfl, ?_⟩
  · rw [results_cell_tmp rfl]
    have r0 := HF.out.cell 0
    have r1 := HF.out.cell 1
    simp at r0 r1
    go_simp
  · exact HF.out.tail.tail.two.xSto.two
end Go.Proofs.YtflmgilmbppieaaGreatDoor
