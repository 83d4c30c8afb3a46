/-
  A store's Despawn and New; what is told of its numbers.
-/
import Derived.Test.YtflmgilmbppieaaGreatDoorOf
namespace Go.Proofs.YtflmgilmbppieaaGreatDoor
open Go.RowKit Go.Maps
set_option linter.unusedVariables false

/-- a row that is made -/
theorem Own.made {P : Program} {w0 w : World} {l : List Thing} (h : Own w0 w l) (t e : TypeId) (i : TypeInfo) (z : Value) (size : Nat) (ht : P.underlying t = some (.slice e)) (hi : P.info? e = some i) (hz : i.zero = some z) (hsize : i.size = size)
    (n : Nat) (hbytes : i.bytes * n ≤ 281474976710656) (h63 : n ≤ maxLen) :
    ∃ w', (Instr.makeSlice t (.int .i64 (n : Int)) (.int .i64 (n : Int))).run P w = .ok (.slice (some ⟨w.heap.size, 0, none⟩) n n) w' ∧ Own w0 w' (Row e size (.slice (some ⟨w.heap.size, 0, none⟩) n n) n (madeCells z.cells (n * size)).toList :: l) ∧ Fr Nobody w w' ∧ w.heap.size < w'.heap.size := by
  obtain ⟨w', h1, h2, h3⟩ := run_make_full (P := P) w 0 t e i z size ht hi hz hsize .i64 .i64 n hbytes h63 (Nat.zero_le _)
  have hf : Fr Nobody w w' := (Fr.refl _ _).grown h3 (by simp)
  exact ⟨w', h1, h.new (Row e size (.slice (some ⟨w.heap.size, 0, none⟩) n n) n _) (fun k => k = w.heap.size) ⟨h2, fun k => by simp [Value.ownBlock]; exact eq_comm⟩ hf (fun k hk => by omega), hf, (h2.lt _ rfl).2⟩
theorem made_bytes (n : Nat) : (madeCells #[.int .u8 0] (n * 1)).toList = irow .u8 (List.replicate n 0) := by
  apply List.ext_getElem?
  intro i
  rw [getElem?_irow]
  by_cases h : i < n
  · have : i % 1 = 0 := Nat.mod_one i
    simp [madeCells, h, this]
  · simp [madeCells, h]
theorem Tryz.infoB2 : (Tryz.prog.info? 5).map (fun i => (i.zero, i.size, i.bytes)) = some (some (.int .u8 0), 1, 1) := by kernel_rfl
set_option maxRecDepth 100000 in
theorem scells_zero (bs : Nat) (v : Value) : (Tryz.zeroCells199.setIfInBounds 0 (.pointer (some ⟨bs, 0, none⟩))).setIfInBounds 1 v = scells bs v (fun _ => none) := by kernel_rfl
set_option maxHeartbeats 1000000 in
set_option maxRecDepth 100000 in
theorem snew (w0 w : World) (l : List Thing) (n f : Nat) (h : Own w0 w l) (h1 : 1 ≤ n) (h2 : n ≤ 1024) (h3 : 1 ≤ f) (h4 : f ≤ 4194303) :
    Calls Tryz.prog 48 #[.int .i64 (n : Int), .int .i64 (f : Int)] w fun e w' => ∃ b, e = .returned (.tuple #[.pointer (some ⟨b, 0, none⟩), .int .i64 0]) ∧ Own w0 w' (Store b (Sto.new n f) 0 :: l) := by
  obtain ⟨i0, hi, hz0, hz1, hz2⟩ := info_parts Tryz.infoB2
  have HN : Hid (Calls _ _ _ _ _) := new_ok w0 w l n f h h1 h2 h3 h4
  have HM : Hid (∀ w' l', Own w0 w' l' → ∃ w'', (Instr.makeSlice 193 (.int .i64 (n : Int)) (.int .i64 (n : Int))).run Tryz.prog w' = .ok (.slice (some ⟨w'.heap.size, 0, none⟩) n n) w'' ∧ Own w0 w'' (Row 5 1 (.slice (some ⟨w'.heap.size, 0, none⟩) n n) n (irow .u8 (List.replicate n 0)) :: l')) := by
    intro w' l' h'
    obtain ⟨w'', r1, r2, _⟩ := h'.made (P := Tryz.prog) 193 5 i0 (.int .u8 0) 1 Tryz.underlying193 hi hz0 hz1 n (by rw [hz2]; omega) (by unfold maxLen; omega)
    have e2 : Value.cells (.int .u8 0) = #[.int .u8 0] := by rfl
    rw [e2, made_bytes] at r2
    exact ⟨w'', r1, r2⟩
  clear hi hz0 hz1 hz2 h
  go_enter Tryz.func48, Tryz.ntmps48
  go_wp2_with fail
  refine HN.out.mono ?_
  rintro e w1 ⟨bs, rfl, _, hO⟩
  obtain ⟨w2, hmk, hO2⟩ := HM.out _ _ hO
  have H2 : Hid (Own w0 w2 _) := hO2
  clear hO hO2 HM HN
  go_wp2
  go_ret2
  refine ⟨_, rfl, ?_⟩
  have k := H2.out.allocC (scells bs (.slice (some ⟨w1.heap.size, 0, none⟩) n n) (fun _ => none)) 199
  rw [← scells_zero] at k
  have k2 := (k.in23.tabsNew 0).back4
  refine (Own.stoS (σ := Sto.new n f) (bs := bs) (v := .slice (some ⟨w1.heap.size, 0, none⟩) n n) (p := fun _ => none) ?_).xSto
  have e : (Sto.new n f).mks.length = n := by simp [Sto.new]
  rw [e, ← scells_zero]
  exact k2

set_option maxHeartbeats 1000000 in
theorem despawnC (w0 w : World) (l : List Thing) (b : Nat) (σ : Sto) (K : Nat) (h : Own w0 w (Store b σ K :: l)) (hσ : σ.Ok) (id : Nat) (hid : id < 4294967296) (hK : K < 1000000) :
    Calls Tryz.prog 111 #[.pointer (some ⟨b, 0, none⟩), .int .u32 (id : Int)] w fun e w' => e = .returned (.int .i64 (σ.despawn id).1) ∧ Own w0 w' (Store b (σ.despawn id).2 (K + 1) :: l) := by
  obtain ⟨bs, v, p, h⟩ := h.stoX
  by_cases hl : σ.S.isLive id = true
  · obtain ⟨h6, hn, r, e, hr, he, hx⟩ := hσ.home hl
    have HH : Hid (Calls _ _ _ _ _) := home_ok w0 w l b bs v p σ K h hσ.s id hid hl hn h6
    have HP : Hid (∀ w', Own w0 w' (StoX b σ K (bs, v, p) :: l) → Calls Tryz.prog 172 #[.pointer (some ⟨b, 0, none⟩), .pointer (pp (p (σ.hom id))), .int .u32 (id : Int)] w' fun out w'' => ∃ ao cap, out = .returned (.slice ao e.2.length cap) ∧ Own w0 w'' (Row 46 4 (.slice ao e.2.length cap) e.2.length (ccat e.2) :: Store b (σ.out (σ.hom id) r) (K + 1) :: l)) := fun w' h' => pull_ok w0 w' l b bs v p σ K h' (σ.hom id) h6 _ rfl (hσ.t _ h6) id hid r e hr he hK
    have HV : Hid (σ.despawn id = (0, { σ.out (σ.hom id) r with S := σ.S.less id })) := by show _ = _; unfold Sto.despawn; rw [if_pos hl, hr]; rfl
    have HF : Hid (∀ w', Own w0 w' (Store b (σ.out (σ.hom id) r) (K + 1) :: l) → ∃ bs, w'.cell? ⟨b, 0, none⟩ = some (.pointer (some ⟨bs, 0, none⟩)) ∧ Calls Tryz.prog 173 #[.pointer (some ⟨bs, 0, none⟩), .int .u32 (id : Int)] w' fun e w'' => e = .returned (.int .i64 0) ∧ Own w0 w'' (Store b { σ.out (σ.hom id) r with S := σ.S.less id } (K + 1) :: l)) := by
      intro w' h'
      obtain ⟨bs, v, p, h'⟩ := h'.stoX
      have k := free_ok w0 w' _ bs (σ.out (σ.hom id) r).S id h'.stoO.two hσ.s hid
      rw [show (σ.out (σ.hom id) r).S = σ.S from rfl, (St.free_live hσ.s hl).1] at k
      refine ⟨bs, (stoCells h').1, k.mono ?_⟩
      rintro e w'' ⟨rfl, h2⟩
      exact ⟨rfl, (Own.stoS (σ := { σ.out (σ.hom id) r with S := σ.S.less id }) h2.two).xSto⟩
    clear h hσ hl hr he hx hK
    generalize pp (p (σ.hom id)) = pt at *
    go_enter Tryz.func111, Tryz.ntmps111
    go_wp2_with fail
    refine HH.out.mono ?_
    rintro e w1 ⟨rfl, hO⟩
    have HP1 : Hid (Calls _ _ _ _ _) := HP.out _ hO
    clear hO HH HP
    go_wp2_with fail
    refine HP1.out.mono ?_
    rintro e w2 ⟨ao, cap, rfl, hO⟩
    obtain ⟨bs2, q0, hfr⟩ := HF.out _ hO.tail
    have HF1 : Hid (Calls _ _ _ _ _) := hfr
    clear hO hfr HP1 HF
    go_wp2_with fail
    refine HF1.out.mono ?_
    rintro e w3 ⟨rfl, hO⟩
    have H3 : Hid (Own w0 w3 _) := hO
    clear hO
    go_wp2
    go_ret
    rw [HV.out]
    exact ⟨rfl, H3.out⟩
  · have hl' : σ.S.isLive id = false := by simpa using hl
    have HH : Hid (Calls _ _ _ _ _) := home_dead w0 w l b bs v p σ K h hσ.s id hid hl'
    have HV : Hid (σ.despawn id = (7, σ)) := by show _ = _; unfold Sto.despawn; rw [if_neg hl]
    clear h hσ hl hl'
    go_enter Tryz.func111, Tryz.ntmps111
    go_wp2_with fail
    refine HH.out.mono ?_
    rintro e w1 ⟨rfl, hO⟩
    have H1 : Hid (Own w0 w1 _) := hO
    clear hO HH
    go_wp2
    go_ret
    rw [HV.out]
    exact ⟨rfl, H1.out.xSto.stoK (Nat.le_succ K)⟩
end Go.Proofs.YtflmgilmbppieaaGreatDoor
