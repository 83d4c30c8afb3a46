/-
  GetStep of package comp on a reader.
-/
import Derived.Test.YtllhipfielgnbaaDoorKsg
import Derived.Test.YtllhipfielgnbaaDoorKwg
import Derived.Test.YtllhipfielgnbaaDoorKqg
namespace Go.Proofs.YtllhipfielgnbaaDoor
open Go.RowKit
set_option linter.unusedVariables false
set_option maxRecDepth 100000

set_option maxHeartbeats 2000000 in
theorem stepC_rd (B : Nat) (w : World) (ht : Tab w) (br : Nat) (hbr : br ≠ 0) (g : Option Nat) (P : List Nat) (t k : Nat) (hk : k < 256) (F : Nat → Int) (h : Rd B w br g P t) (RV : Array Value) (hv1 : scode k F P t = 0 → RV = cmp k (sfld k F P t)) (hv2 : scode k F P t ≠ 0 → RV = cmp 0 (f3 0 0 0)) :
    Calls Tryd.prog 16 #[.pointer (some ⟨br, 0, none⟩), .agg (cmp k F)] w fun e w' => e = .returned (.tuple #[.agg RV, .int .i64 (scode k F P t)]) ∧ Rd B w' br g P (t + scons k F P t) ∧ Fr (At br none) w w' := by
  have hlt := h.lt
  have HR : Hid (Rd B w br g P t) := h
  obtain ⟨W, hW⟩ : ∃ W, W = (((w.alloc (.cells #[.pointer (some ⟨br, 0, none⟩)] 40)).alloc (.cells (cmp k F) 24)).alloc (.cells #[.int .u8 0, .int .i32 0, .int .i32 0, .int .i32 0] 24)) := ⟨_, rfl⟩
  have HQ : Hid (Fr Nobody w W) := by subst hW; exact (((Fr.refl _ _).alloc _).alloc _).alloc _
  have HX : Hid (Box W (w.heap.size + 1 + 1) 0 (f3 0 0 0)) := by subst hW; exact Box.new' _ _ 0 (f3 0 0 0) (by simp)
  have d1 : W.cell? ⟨w.heap.size, 0, none⟩ = some (.pointer (some ⟨br, 0, none⟩)) := by
    subst hW
    exact ((((Fr.refl Nobody (w.alloc _)).alloc _).alloc _).cell (p := ⟨w.heap.size, 0, none⟩) (by simp) id).trans (cell_new w _ _ _ rfl)
  have d2 : Box W (w.heap.size + 1) k F := by
    subst hW
    exact (Box.new' (w.alloc _) (w.heap.size + 1) k F (by simp)).quiet ((Fr.refl _ _).alloc _)
  have HTW : Hid (Tab W) := ht.quiet HQ.out
  have E : Hid (∀ _ : Unit, _) := fun _ => tryC_step (.pointer (some ⟨w.heap.size + 1, 0, none⟩)) (.pointer (some ⟨w.heap.size, 0, none⟩)) B W br g P t (scode k F P t) k (sfld k F P t) (scons k F P t) (h.quiet HQ.out) (step1_reads B W HTW.out br w.heap.size (w.heap.size + 1) hbr g P t k hk F d1 d2 (by omega) (by omega)) (fun e => by unfold scons; rw [if_neg e]) RV hv1 hv2
  obtain ⟨k', F', hkf⟩ : ∃ k' F', RV = cmp k' F' := by
    by_cases e : scode k F P t = 0
    · exact ⟨_, _, hv1 e⟩
    · exact ⟨_, _, hv2 e⟩
  clear hv1 hv2 d1 d2
  subst hkf
  generalize scode k F P t = rc at *
  generalize scons k F P t = rn at *
  have hbn : w.heap.size + 1 + 1 ≠ br := by omega
  unfold cmp at E
  unfold cmp at hW
  unfold cmp
  have HEQ : Hid (W = _) := hW
  clear ht h hW
  go_enter Tryd.func16, Tryd.ntmps16
  go_wp2_with fail
  rw [← HEQ.out]
  refine (E.out ()).mono ?_
  rintro e w2 ⟨rfl, hR', hf'⟩
  have X2 : Hid (Box w2 (w.heap.size + 1 + 1) 0 (f3 0 0 0)) := HX.out.fr1 hf' hbn
  obtain ⟨y0, y1, y2, y3⟩ := X2.out.cells
  have z0 := X2.out.frozen 0
  have z1 := X2.out.frozen 1
  have z2 := X2.out.frozen 2
  have z3 := X2.out.frozen 3
  have HRX : Hid (Box (put4 w2 (w.heap.size + 1 + 1) k' F') (w.heap.size + 1 + 1) k' F') := put4_box X2.out
  have HRD : Hid (Rd B (put4 w2 (w.heap.size + 1 + 1) k' F') br g P (t + rn) ∧ Fr (At br none) w (put4 w2 (w.heap.size + 1 + 1) k' F')) := ⟨hR'.put4 X2.out, put4_fr1 ((HQ.out.mono (fun _ _ k => k.elim)).trans hf') (by omega)⟩
  clear hR' hf' X2 E HX HTW HQ HEQ
  simp only [f3] at y1 y2 y3
  go_wp2
  (try simp only [Exit.inBlock, Exit.then])
  refine bodyPost_ret (v := .tuple #[.agg #[.int .u8 (k' : Int), .int .i32 (F' 0), .int .i32 (F' 1), .int .i32 (F' 2)], .int .i64 rc]) ?_ rfl ⟨rfl, HRD.out.1, HRD.out.2⟩
  rw [results_cell_tmp rfl]
  obtain ⟨r0, r1, r2, r3⟩ := HRX.out.cells
  simp only [put4] at r0 r1 r2 r3
  go_simp

theorem stepC_or (w0 w : World) (ht : Tab w0) (br : Nat) (P : List Nat) (t k : Nat) (hk : k < 256) (F : Nat → Int) (h : Or w0 w br P t) (RV : Array Value) (hv1 : scode k F P t = 0 → RV = cmp k (sfld k F P t)) (hv2 : scode k F P t ≠ 0 → RV = cmp 0 (f3 0 0 0)) :
    Calls Tryd.prog 16 #[.pointer (some ⟨br, 0, none⟩), .agg (cmp k F)] w fun e w' => e = .returned (.tuple #[.agg RV, .int .i64 (scode k F P t)]) ∧ Or w0 w' br P (t + scons k F P t) ∧ Fr (At br none) w w' := by
  have hbr := h.low ht
  obtain ⟨g, hR, hf⟩ := h
  refine (stepC_rd _ w (ht.quiet hf) br hbr g P t k hk F hR RV hv1 hv2).mono ?_
  rintro e w' ⟨rfl, hR', hf'⟩
  exact ⟨rfl, Or.of_rd hR hf hR' hf', hf'⟩
def sout (k : Nat) (F : Nat → Int) (P : List Nat) (t : Nat) : Array Value := if scode k F P t = 0 then cmp k (sfld k F P t) else cmp 0 (f3 0 0 0)
theorem sout_1 (k : Nat) (F : Nat → Int) (P : List Nat) (t : Nat) (h : scode k F P t = 0) : sout k F P t = cmp k (sfld k F P t) := by unfold sout; rw [if_pos h]
theorem sout_2 (k : Nat) (F : Nat → Int) (P : List Nat) (t : Nat) (h : scode k F P t ≠ 0) : sout k F P t = cmp 0 (f3 0 0 0) := by unfold sout; rw [if_neg h]
theorem sout_cmp (k : Nat) (F : Nat → Int) (P : List Nat) (t : Nat) : ∃ k' F', sout k F P t = cmp k' F' := by
  by_cases h : scode k F P t = 0
  · exact ⟨_, _, sout_1 k F P t h⟩
  · exact ⟨_, _, sout_2 k F P t h⟩
end Go.Proofs.YtllhipfielgnbaaDoor

/-
  What was written of a component behind another one is read again.
-/
namespace Go.Proofs.YtllhipfielgnbaaDoor
open Go.RowKit
set_option linter.unusedVariables false
set_option maxRecDepth 100000

theorem sbs_split (k : Nat) (F G : Nat → Int) (c j : Nat) (h : j < c) : ∃ R, sbs k F G c = sbs k F G j ++ (sb k F G j ++ R) := by
  induction c with
  | zero => omega
  | succ c ih =>
    by_cases e : j = c
    · subst e; exact ⟨[], by rw [sbs, List.append_nil]⟩
    · obtain ⟨R, hR⟩ := ih (by omega)
      exact ⟨R ++ sb k F G c, by rw [sbs, hR]; simp [List.append_assoc]⟩
theorem gs_back (k : Nat) (F G : Nat → Int) (P : List Nat) (A Z : List Bool) (hP : bitsB P = A ++ (sbs k F G (cnt k) ++ Z)) (hr : ∀ j, j < cnt k → lo k j ≤ G j ∧ G j ≤ hi k j) (j : Nat) (hj : j < cnt k) :
    gs k F P (A.length + ssum k F G j) j = (0, G j, fsz k F G j) := by
  obtain ⟨l0, l1, l2, l3⟩ := rng_ok k j hj
  obtain ⟨R, hR⟩ := sbs_split k F G (cnt k) j hj
  have e : (bitsB P).drop (A.length + ssum k F G j) = sb k F G j ++ (R ++ Z) := by
    rw [hP, hR, ← List.drop_drop, List.drop_left, List.append_assoc, ← length_sbs k F G j, List.drop_left, List.append_assoc]
  have hlen : 8 * P.length = A.length + ssum k F G j + (fsz k F G j + (R ++ Z).length) := by
    have h1 := congrArg List.length e
    rw [List.length_drop, length_bitsB, List.length_append, length_sb] at h1
    have h2 := congrArg List.length hP
    have h3 := congrArg List.length hR
    rw [length_bitsB] at h2
    rw [length_sbs, List.length_append, length_sbs] at h3
    rw [List.length_append, List.length_append, length_sbs] at h2
    have : 1 ≤ fsz k F G j := by unfold fsz; split; omega; split <;> omega
    omega
  generalize R ++ Z = Q at *
  generalize A.length + ssum k F G j = t at *
  have d1 : (bitsB P).drop (t + 1) = (sb k F G j ++ Q).drop 1 := by rw [← List.drop_drop, e]
  have d2 : (bitsB P).drop (t + 1 + 1) = (sb k F G j ++ Q).drop 2 := by rw [Nat.add_assoc, ← List.drop_drop, e]
  have hG := hr j hj
  unfold gs
  have hm : mz F G j = zig (G j - F j) := rfl
  by_cases h0 : mz F G j = 0
  · have hs : sb k F G j = [false] := by unfold sb; rw [if_pos h0]; rfl
    have hz : fsz k F G j = 1 := by unfold fsz; rw [if_pos h0]
    rw [hs] at e
    rw [hz] at hlen ⊢
    have hn : numAt P t 1 = 0 := by rw [numAt_take, e]; rfl
    have hGF : G j = F j := by
      have := zag_zig (G j - F j)
      rw [← hm, h0] at this
      have h2 : zag 0 = 0 := by decide
      omega
    rw [if_neg (by omega), if_pos hn, hGF]
  · by_cases h16 : mz F G j ≤ 16
    · have hs : sb k F G j = [true, true] ++ bitsN 4 (mz F G j - 1) := by unfold sb; rw [if_neg h0, if_pos h16]; rfl
      have hz : fsz k F G j = 6 := by unfold fsz; rw [if_neg h0, if_pos h16]
      rw [hs] at e d1 d2
      rw [hz] at hlen ⊢
      have hn : numAt P t 1 = 1 := by rw [numAt_take, e]; rfl
      have hn1 : numAt P (t + 1) 1 = 1 := by rw [numAt_take, d1]; rfl
      have hn2 : numAt P (t + 1 + 1) 4 = mz F G j - 1 := by
        rw [numAt_take, d2]
        have : ([true, true] ++ bitsN 4 (mz F G j - 1) ++ Q).drop 2 = bitsN 4 (mz F G j - 1) ++ Q := rfl
        rw [this, List.take_append_of_le_length (by rw [length_bitsN]; exact Nat.le_refl _), List.take_of_length_le (by rw [length_bitsN]; exact Nat.le_refl _), num_bitsN, Nat.mod_eq_of_lt (by omega)]
      have hv : F j + zag (mz F G j - 1 + 1) = G j := by
        rw [Nat.sub_add_cancel (by omega), hm, zag_zig]; omega
      rw [if_neg (by omega), if_neg (by omega), if_neg (by omega), if_pos hn1]
      unfold nr
      rw [if_neg (by omega), hn2, hv, if_neg (by omega)]
      rfl
    · have hs : sb k F G j = [true, false] ++ fb k G j := by unfold sb; rw [if_neg h0, if_neg h16]; rfl
      have hz : fsz k F G j = 2 + wd k j := by unfold fsz; rw [if_neg h0, if_neg h16]
      rw [hs] at e d1 d2
      rw [hz] at hlen ⊢
      have hn : numAt P t 1 = 1 := by rw [numAt_take, e]; rfl
      have hn1 : numAt P (t + 1) 1 = 0 := by rw [numAt_take, d1]; rfl
      have hg : gf k P (t + 1 + 1) j = (0, G j, wd k j) := by
        unfold gf
        rw [d2]
        exact gi_back (lo k j) (hi k j) (G j) _ (by omega) (by omega) hG.1 hG.2
      rw [if_neg (by omega), if_neg (by omega), if_neg (by omega), if_neg (by omega)]
      unfold fa
      rw [hg]
      simp only
      rw [if_neg (by simp), if_neg (by rw [← hm]; exact h16)]
theorem srat_back (k : Nat) (F G : Nat → Int) (P : List Nat) (A Z : List Bool) (hP : bitsB P = A ++ (sbs k F G (cnt k) ++ Z)) (hr : ∀ j, j < cnt k → lo k j ≤ G j ∧ G j ≤ hi k j) :
    ∀ j, j ≤ cnt k → rat (fun t j => (gs k F P t j).1) (fun t j => (gs k F P t j).2.2) A.length j = (0, A.length + ssum k F G j) := by
  intro j
  induction j with
  | zero => intro _; rfl
  | succ j ih =>
    intro hj
    have hi' := ih (by omega)
    rw [rat, hi', if_pos rfl]
    have := gs_back k F G P A Z hP hr j (by omega)
    rw [this, ssum, Nat.add_assoc]
theorem step_back (k : Nat) (F G : Nat → Int) (P : List Nat) (A Z : List Bool) (hP : bitsB P = A ++ (sbs k F G (cnt k) ++ Z)) (h1 : chk k F = 0) (h2 : chk k G = 0) :
    scode k F P A.length = 0 ∧ scons k F P A.length = ssum k F G (cnt k) ∧ cmp k (sfld k F P A.length) = cmp k G := by
  obtain ⟨h6, hr, hz⟩ := chk_ok k G h2
  obtain ⟨_, _, hzF⟩ := chk_ok k F h1
  have hr1 := srat_back k F G P A Z hP hr (cnt k) (Nat.le_refl _)
  have g0 : scode k F P A.length = 0 := by unfold scode; rw [if_pos h1, hr1]
  refine ⟨g0, ?_, ?_⟩
  · unfold scons
    rw [if_pos g0, hr1]
    show A.length + ssum k F G (cnt k) - A.length = ssum k F G (cnt k)
    omega
  · have hf : ∀ j, j < 3 → sfld k F P A.length j = G j := by
      intro j hj
      unfold sfld upd
      by_cases hc : j < cnt k
      · rw [if_pos hc, srat_back k F G P A Z hP hr j (by omega)]
        show (gs k F P (A.length + ssum k F G j) j).2.1 = G j
        rw [gs_back k F G P A Z hP hr j hc]
      · rw [if_neg hc, hz j (by omega) hj, hzF j (by omega) hj]
    unfold cmp
    rw [hf 0 (by decide), hf 1 (by decide), hf 2 (by decide)]
end Go.Proofs.YtllhipfielgnbaaDoor
