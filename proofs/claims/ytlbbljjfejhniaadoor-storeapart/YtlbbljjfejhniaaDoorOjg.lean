/-
  A store's Spawn, Despawn and New.
-/
import Derived.Test.YtlbbljjfejhniaaDoorOe
namespace Go.Proofs.YtlbbljjfejhniaaDoor
open Go.RowKit Go.Maps
set_option linter.unusedVariables false

theorem Own.stoK {w0 w : World} {l : List Thing} {b : Nat} {σ : Sto} {K K' : Nat} (hK : K ≤ K') (h : Own w0 w (Store b σ K :: l)) : Own w0 w (Store b σ K' :: l) := by
  obtain ⟨bs, v, p, h⟩ := h.stoX
  exact (Own.stoS (TabsOn.mono hK h.stoO.four).back4).xSto
def Sto.spawn (σ : Sto) (C : List Cp) : Nat × Int × Sto :=
  if lst (-1) C ≠ 0 then (0, (lst (-1) C : Int), σ) else if σ.S.take.2.1 ≠ 0 then (0, σ.S.take.2.1, σ) else (σ.S.take.1, 0, Sto.put { σ with S := σ.S.take.2.2 } σ.S.take.1 C)
theorem Sto.spawn_ok {σ : Sto} (h : σ.Ok) (C : List Cp) : (σ.spawn C).2.2.Ok := by
  unfold Sto.spawn
  split
  · exact h
  · rename_i h0
    split
    · exact h
    · rename_i h1
      exact (h.take (by simpa using h1)).put (by simpa using h0)
/-- what goes -/
def Sto.despawn (σ : Sto) (id : Nat) : Int × Sto :=
  if σ.S.isLive id then (0, { σ.out (σ.hom id) ((plc (σ.T (σ.hom id)) id).getD 0) with S := σ.S.less id }) else (7, σ)
theorem Sto.despawn_ok {σ : Sto} (h : σ.Ok) (id : Nat) : (σ.despawn id).2.Ok := by
  unfold Sto.despawn
  split
  · rename_i hl
    obtain ⟨_, _, r, e, hr, _⟩ := h.home hl
    rw [hr]
    exact (h.out hl hr).free
  · exact h

set_option maxHeartbeats 1000000 in
set_option maxRecDepth 100000 in
theorem spawnC (w0 w : World) (l : List Thing) (b : Nat) (σ : Sto) (K : Nat) (ht : Tab w0) (h : Own w0 w (Store b σ K :: l)) (hσ : σ.Ok)
    (ao : Option Addr) (len cap : Nat) (C : List Cp) (hCl : C.length = len) (hCs : ∀ w', Own w0 w' l → Cs w' ao C) (hCk : ∀ q ∈ C, q.k < 256) (hlen : len ≤ 1000000) (hK : K < 1000000) :
    Calls Tryd.prog 6 #[.pointer (some ⟨b, 0, none⟩), .slice ao len cap] w fun e w' => e = .returned (.tuple #[.int .u32 ((σ.spawn C).1 : Int), .int .i64 (σ.spawn C).2.1]) ∧ Own w0 w' (Store b (σ.spawn C).2.2 (K + 1) :: l) := by
  have H : Hid (Own w0 w (Store b σ K :: l)) := h
  have HLS : Hid (Calls _ _ _ _ _) := list_any w (ht.quiet h.fr) ao len cap C hCl (hCs _ h.tail) hCk hlen
  by_cases h0 : lst (-1) C = 0
  · rw [h0] at HLS
    have HTK : Hid (∀ w', Own w0 w' (Store b σ K :: l) → ∃ bs, w'.cell? ⟨b, 0, none⟩ = some (.pointer (some ⟨bs, 0, none⟩)) ∧ Calls Tryd.prog 20 #[.pointer (some ⟨bs, 0, none⟩)] w' fun e w'' => e = .returned (.tuple #[.int .u32 (σ.S.take.1 : Int), .int .i64 σ.S.take.2.1]) ∧ Own w0 w'' (Store b { σ with S := σ.S.take.2.2 } K :: l)) := by
      intro w' h'
      obtain ⟨bs, v, p, h'⟩ := h'.stoX
      refine ⟨bs, (stoCells h').1, (take_ok w0 w' _ bs σ.S h'.stoO.two hσ.s).mono ?_⟩
      rintro e w'' ⟨rfl, h2⟩
      exact ⟨rfl, (Own.stoS (σ := { σ with S := σ.S.take.2.2 }) h2.two).xSto⟩
    by_cases h1 : σ.S.take.2.1 = 0
    · have HV : Hid (σ.spawn C = (σ.S.take.1, 0, Sto.put { σ with S := σ.S.take.2.2 } σ.S.take.1 C)) := by show _ = _; unfold Sto.spawn; rw [if_neg (by simp [h0]), if_neg (by simp [h1])]
      have hL := hσ.take h1
      have hli := St.live_lt hL.s hL.li
      have HPU : Hid (∀ w', Own w0 w' (Store b { σ with S := σ.S.take.2.2 } K :: l) → Calls Tryd.prog 21 #[.pointer (some ⟨b, 0, none⟩), .int .u32 (σ.S.take.1 : Int), .slice ao len cap] w' fun e w'' => e = .returned (.tuple #[]) ∧ Own w0 w'' (Store b (Sto.put { σ with S := σ.S.take.2.2 } σ.S.take.1 C) (K + 1) :: l)) := by
        intro w' h'
        obtain ⟨bs, v, p, h'⟩ := h'.stoX
        exact put_ok w0 w' l b bs v p _ K ht h' σ.S.take.1 hli.1 (by rw [hL.ml]; exact hli.2) ao len cap C hCl hCs hCk hlen h0 (hL.t _ (msk64 C)) (hL.none (msk64 C)) hK
      rw [h1] at HTK
      clear h hCs hσ h0 h1 hL hli
      go_enter Tryd.func6, Tryd.ntmps6
      go_wp2_with fail
      refine HLS.out.mono ?_
      rintro e w1 ⟨rfl, hf⟩
      obtain ⟨bs, q0, htk⟩ := HTK.out _ (H.out.quiet hf)
      have HTK1 : Hid (Calls _ _ _ _ _) := htk
      clear htk hf HTK H HLS
      go_wp2_with fail
      refine HTK1.out.mono ?_
      rintro e w2 ⟨rfl, hO⟩
      have H2 : Hid (Own w0 w2 _) := hO
      clear hO HTK1
      go_wp2_with fail
      refine (HPU.out _ H2.out).mono ?_
      rintro e w3 ⟨rfl, hO⟩
      have H3 : Hid (Own w0 w3 _) := hO
      clear hO
      go_wp2
      go_ret2
      rw [HV.out]
      exact ⟨rfl, H3.out⟩
    · have HV : Hid (σ.spawn C = (0, σ.S.take.2.1, σ)) := by show _ = _; unfold Sto.spawn; rw [if_neg (by simp [h0]), if_pos (by simp [h1])]
      have HS : Hid (σ.S.take.2.2 = σ.S) := by
        show _ = _
        unfold St.take at h1 ⊢
        split at h1
        · exact absurd rfl h1
        · split at h1
          · exact absurd rfl h1
          · rename_i c; simp [c]
      clear h hCs hσ h0
      generalize σ.S.take.2.1 = r at *
      have h1' : (r == (0 : Int)) = false := by simpa using h1
      go_enter Tryd.func6, Tryd.ntmps6
      go_wp2_with fail
      refine HLS.out.mono ?_
      rintro e w1 ⟨rfl, hf⟩
      obtain ⟨bs, q0, htk⟩ := HTK.out _ (H.out.quiet hf)
      have HTK1 : Hid (Calls _ _ _ _ _) := htk
      clear htk hf HTK H HLS
      go_wp2_with fail
      refine HTK1.out.mono ?_
      rintro e w2 ⟨rfl, hO⟩
      rw [HS.out] at hO
      have H2 : Hid (Own w0 w2 _) := hO
      clear hO HTK1
      go_wp2
      go_ret2
      rw [HV.out]
      exact ⟨rfl, H2.out.stoK (Nat.le_succ K)⟩
  · have HV : Hid (σ.spawn C = (0, (lst (-1) C : Int), σ)) := by show _ = _; unfold Sto.spawn; rw [if_pos h0]
    clear h hCs hσ
    generalize lst (-1) C = r at *
    have h1' : ((r : Int) == (0 : Int)) = false := by simp; omega
    go_enter Tryd.func6, Tryd.ntmps6
    go_wp2_with fail
    refine HLS.out.mono ?_
    rintro e w1 ⟨rfl, hf⟩
    have H1 : Hid (Own w0 w1 (Store b σ K :: l)) := H.out.quiet hf
    clear hf H HLS
    go_wp2
    go_ret2
    rw [HV.out]
    exact ⟨rfl, H1.out.stoK (Nat.le_succ K)⟩
end Go.Proofs.YtlbbljjfejhniaaDoor

/-
  A store's Despawn and New; what is told of its numbers.
-/
namespace Go.Proofs.YtlbbljjfejhniaaDoor
open Go.RowKit Go.Maps
set_option linter.unusedVariables false

/-- a row that is made -/
theorem Own.made {P : Program} {w0 w : World} {l : List Thing} (h : Own w0 w l) (t e : TypeId) (i : TypeInfo) (z : Value) (size : Nat) (ht : P.underlying t = some (.slice e)) (hi : P.info? e = some i) (hz : i.zero = some z) (hsize : i.size = size)
    (n : Nat) (hbytes : i.bytes * n ≤ 281474976710656) (h63 : n ≤ maxLen) :
    ∃ w', (Instr.makeSlice t (.int .i64 (n : Int)) (.int .i64 (n : Int))).run P w = .ok (.slice (some ⟨w.heap.size, 0, none⟩) n n) w' ∧ Own w0 w' (Row e size (.slice (some ⟨w.heap.size, 0, none⟩) n n) n (madeCells z.cells (n * size)).toList :: l) ∧ Fr Nobody w w' ∧ w.heap.size < w'.heap.size := by
  obtain ⟨w', h1, h2, h3⟩ := run_make_full (P := P) w 0 t e i z size ht hi hz hsize .i64 .i64 n hbytes h63 (Nat.zero_le _)
  have hf : Fr Nobody w w' := (Fr.refl _ _).grown h3 (by simp)
  exact ⟨w', h1, h.new (Row e size (.slice (some ⟨w.heap.size, 0, none⟩) n n) n _) (fun k => k = w.heap.size) ⟨h2, fun k => by simp [Value.ownBlock]; exact eq_comm⟩ hf (fun k hk => by omega), hf, (h2.lt _ rfl).2⟩
theorem made_bytes (n : Nat) : (madeCells #[.int .u8 0] (n * 1)).toList = irow .u8 (List.replicate n 0) := by
  apply List.ext_getElem?
  intro i
  rw [getElem?_irow]
  by_cases h : i < n
  · have : i % 1 = 0 := Nat.mod_one i
    simp [madeCells, h, this]
  · simp [madeCells, h]
theorem Tryd.infoB2 : (Tryd.prog.info? 5).map (fun i => (i.zero, i.size, i.bytes)) = some (some (.int .u8 0), 1, 1) := by kernel_rfl
set_option maxRecDepth 100000 in
theorem scells_zero (bs : Nat) (v : Value) : (Tryd.zeroCells67.setIfInBounds 0 (.pointer (some ⟨bs, 0, none⟩))).setIfInBounds 1 v = scells bs v (fun _ => none) := by kernel_rfl
set_option maxHeartbeats 1000000 in
set_option maxRecDepth 100000 in
theorem snew (w0 w : World) (l : List Thing) (n f : Nat) (h : Own w0 w l) (h1 : 1 ≤ n) (h2 : n ≤ 1024) (h3 : 1 ≤ f) (h4 : f ≤ 4194303) :
    Calls Tryd.prog 5 #[.int .i64 (n : Int), .int .i64 (f : Int)] w fun e w' => ∃ b, e = .returned (.tuple #[.pointer (some ⟨b, 0, none⟩), .int .i64 0]) ∧ Own w0 w' (Store b (Sto.new n f) 0 :: l) := by
  obtain ⟨i0, hi, hz0, hz1, hz2⟩ := info_parts Tryd.infoB2
  have HN : Hid (Calls _ _ _ _ _) := new_ok w0 w l n f h h1 h2 h3 h4
  have HM : Hid (∀ w' l', Own w0 w' l' → ∃ w'', (Instr.makeSlice 61 (.int .i64 (n : Int)) (.int .i64 (n : Int))).run Tryd.prog w' = .ok (.slice (some ⟨w'.heap.size, 0, none⟩) n n) w'' ∧ Own w0 w'' (Row 5 1 (.slice (some ⟨w'.heap.size, 0, none⟩) n n) n (irow .u8 (List.replicate n 0)) :: l')) := by
    intro w' l' h'
    obtain ⟨w'', r1, r2, _⟩ := h'.made (P := Tryd.prog) 61 5 i0 (.int .u8 0) 1 Tryd.underlying61 hi hz0 hz1 n (by rw [hz2]; omega) (by unfold maxLen; omega)
    have e2 : Value.cells (.int .u8 0) = #[.int .u8 0] := by rfl
    rw [e2, made_bytes] at r2
    exact ⟨w'', r1, r2⟩
  clear hi hz0 hz1 hz2 h
  go_enter Tryd.func5, Tryd.ntmps5
  go_wp2_with fail
  refine HN.out.mono ?_
  rintro e w1 ⟨bs, rfl, _, hO⟩
  obtain ⟨w2, hmk, hO2⟩ := HM.out _ _ hO
  have H2 : Hid (Own w0 w2 _) := hO2
  clear hO hO2 HM HN
  go_wp2
  go_ret2
  refine ⟨_, rfl, ?_⟩
  have k := H2.out.allocC (scells bs (.slice (some ⟨w1.heap.size, 0, none⟩) n n) (fun _ => none)) 67
  rw [← scells_zero] at k
  have k2 := (k.in23.tabsNew 0).back4
  refine (Own.stoS (σ := Sto.new n f) (bs := bs) (v := .slice (some ⟨w1.heap.size, 0, none⟩) n n) (p := fun _ => none) ?_).xSto
  have e : (Sto.new n f).mks.length = n := by simp [Sto.new]
  rw [e, ← scells_zero]
  exact k2

set_option maxHeartbeats 1000000 in
theorem despawnC (w0 w : World) (l : List Thing) (b : Nat) (σ : Sto) (K : Nat) (h : Own w0 w (Store b σ K :: l)) (hσ : σ.Ok) (id : Nat) (hid : id < 4294967296) (hK : K < 1000000) :
    Calls Tryd.prog 11 #[.pointer (some ⟨b, 0, none⟩), .int .u32 (id : Int)] w fun e w' => e = .returned (.int .i64 (σ.despawn id).1) ∧ Own w0 w' (Store b (σ.despawn id).2 (K + 1) :: l) := by
  obtain ⟨bs, v, p, h⟩ := h.stoX
  by_cases hl : σ.S.isLive id = true
  · obtain ⟨h6, hn, r, e, hr, he, hx⟩ := hσ.home hl
    have HH : Hid (Calls _ _ _ _ _) := home_ok w0 w l b bs v p σ K h hσ.s id hid hl hn h6
    have HP : Hid (∀ w', Own w0 w' (StoX b σ K (bs, v, p) :: l) → Calls Tryd.prog 27 #[.pointer (some ⟨b, 0, none⟩), .pointer (pp (p (σ.hom id))), .int .u32 (id : Int)] w' fun out w'' => ∃ ao cap, out = .returned (.slice ao e.2.length cap) ∧ Own w0 w'' (Row 46 4 (.slice ao e.2.length cap) e.2.length (ccat e.2) :: Store b (σ.out (σ.hom id) r) (K + 1) :: l)) := fun w' h' => pull_ok w0 w' l b bs v p σ K h' (σ.hom id) h6 _ rfl (hσ.t _ h6) id hid r e hr he hK
    have HV : Hid (σ.despawn id = (0, { σ.out (σ.hom id) r with S := σ.S.less id })) := by show _ = _; unfold Sto.despawn; rw [if_pos hl, hr]; rfl
    have HF : Hid (∀ w', Own w0 w' (Store b (σ.out (σ.hom id) r) (K + 1) :: l) → ∃ bs, w'.cell? ⟨b, 0, none⟩ = some (.pointer (some ⟨bs, 0, none⟩)) ∧ Calls Tryd.prog 28 #[.pointer (some ⟨bs, 0, none⟩), .int .u32 (id : Int)] w' fun e w'' => e = .returned (.int .i64 0) ∧ Own w0 w'' (Store b { σ.out (σ.hom id) r with S := σ.S.less id } (K + 1) :: l)) := by
      intro w' h'
      obtain ⟨bs, v, p, h'⟩ := h'.stoX
      have k := free_ok w0 w' _ bs (σ.out (σ.hom id) r).S id h'.stoO.two hσ.s hid
      rw [show (σ.out (σ.hom id) r).S = σ.S from rfl, (St.free_live hσ.s hl).1] at k
      refine ⟨bs, (stoCells h').1, k.mono ?_⟩
      rintro e w'' ⟨rfl, h2⟩
      exact ⟨rfl, (Own.stoS (σ := { σ.out (σ.hom id) r with S := σ.S.less id }) h2.two).xSto⟩
    clear h hσ hl hr he hx hK
    generalize pp (p (σ.hom id)) = pt at *
    go_enter Tryd.func11, Tryd.ntmps11
    go_wp2_with fail
    refine HH.out.mono ?_
    rintro e w1 ⟨rfl, hO⟩
    have HP1 : Hid (Calls _ _ _ _ _) := HP.out _ hO
    clear hO HH HP
    go_wp2_with fail
    refine HP1.out.mono ?_
    rintro e w2 ⟨ao, cap, rfl, hO⟩
    obtain ⟨bs2, q0, hfr⟩ := HF.out _ hO.tail
    have HF1 : Hid (Calls _ _ _ _ _) := hfr
    clear hO hfr HP1 HF
    go_wp2_with fail
    refine HF1.out.mono ?_
    rintro e w3 ⟨rfl, hO⟩
    have H3 : Hid (Own w0 w3 _) := hO
    clear hO
    go_wp2
    go_ret
    rw [HV.out]
    exact ⟨rfl, H3.out⟩
  · have hl' : σ.S.isLive id = false := by simpa using hl
    have HH : Hid (Calls _ _ _ _ _) := home_dead w0 w l b bs v p σ K h hσ.s id hid hl'
    have HV : Hid (σ.despawn id = (7, σ)) := by show _ = _; unfold Sto.despawn; rw [if_neg hl]
    clear h hσ hl hl'
    go_enter Tryd.func11, Tryd.ntmps11
    go_wp2_with fail
    refine HH.out.mono ?_
    rintro e w1 ⟨rfl, hO⟩
    have H1 : Hid (Own w0 w1 _) := hO
    clear hO HH
    go_wp2
    go_ret
    rw [HV.out]
    exact ⟨rfl, H1.out.xSto.stoK (Nat.le_succ K)⟩
end Go.Proofs.YtlbbljjfejhniaaDoor

/-
  An entity with all its components.
-/
namespace Go.Proofs.YtlbbljjfejhniaaDoor
open Go.RowKit Go.Maps
set_option linter.unusedVariables false
set_option maxRecDepth 100000

theorem upd_self {α : Type} (f : Nat → α) (k : Nat) : upd f k (f k) = f := by
  funext j; unfold upd; split
  · rename_i e; rw [e]
  · rfl
theorem Own.stoT {w0 w : World} {l : List Thing} {b bs : Nat} {v : Value} {p : Nat → Option Nat} {σ : Sto} {K m bt c : Nat} (h : Own w0 w (Table bt m (σ.T m) c :: StoB b σ K (bs, v, p) m :: l)) (hm : m < 64) (hp : p m = some bt) (hc : c ≤ K) (hL : σ.T m ≠ []) (hl : (σ.T m).length ≤ K) : Own w0 w (StoX b σ K (bs, v, p) :: l) := by
  have k := h.stoBX hm hp (Nat.le_refl K) hc hL hl
  rw [upd_self] at k
  exact k
theorem stoP {w0 w : World} {l : List Thing} {b bs : Nat} {v : Value} {p : Nat → Option Nat} {σ : Sto} {K m r : Nat} {e : Ent} (h : Own w0 w (StoX b σ K (bs, v, p) :: l)) (hm : m < 64) (he : (σ.T m)[r]? = some e) : ∃ bt, p m = some bt := by
  cases hp : p m with
  | none => exact absurd (h.stoN hm hp).1 (fun q => by rw [q] at he; simp at he)
  | some bt => exact ⟨bt, rfl⟩
set_option maxHeartbeats 2000000 in
theorem sent (w0 w : World) (l : List Thing) (b : Nat) (σ : Sto) (K : Nat) (h : Own w0 w (Store b σ K :: l)) (hσ : σ.Ok) (id : Nat) (hid : id < 4294967296) (hl : σ.S.isLive id = true) (r : Nat) (C : List Cp) (he : (σ.T (σ.hom id))[r]? = some (id, C)) (hK : K ≤ 1000000) :
    Calls Tryd.prog 9 #[.pointer (some ⟨b, 0, none⟩), .int .u32 (id : Int)] w fun e w' => ∃ ao cap, e = .returned (.tuple #[.agg #[.int .u32 (id : Int), .slice ao C.length cap], .int .i64 0]) ∧ Own w0 w' (Row 46 4 (.slice ao C.length cap) C.length (ccat C) :: Store b σ K :: l) := by
  obtain ⟨bs, v, p, h⟩ := h.stoX
  obtain ⟨h6, hn, _⟩ := hσ.home hl
  have hr : plc (σ.T (σ.hom id)) id = some r := (plc_some (hσ.t _ h6).ap id r).2 ⟨_, he, rfl⟩
  have hA := (h.allocC #[.int .u32 0, .slice none 0 0] 41).two
  have HH : Hid (Calls _ _ _ _ _) := home_ok w0 _ _ b bs v p σ K hA hσ.s id hid hl hn h6
  obtain ⟨bt, hp⟩ := stoP h h6 he
  rw [hp, pp_some] at HH
  have HRW : Hid (∀ w' l', Own w0 w' (StoX b σ K (bs, v, p) :: l') → Calls Tryd.prog 25 #[.pointer (some ⟨bt, 0, none⟩), .int .u32 (id : Int)] w' fun e w'' => e = .returned (.tuple #[.int .i64 (r : Int), .bool true]) ∧ w'' = w') := by
    intro w' l' h'
    obtain ⟨c, _, _, _, h2⟩ := h'.stoB h6 hp
    have k := trow w0 w' _ bt _ _ _ _ c h2 id hid
    rw [hr] at k
    exact k
  have HAT : Hid (∀ w' l', Own w0 w' (StoX b σ K (bs, v, p) :: l') → Calls Tryd.prog 26 #[.pointer (some ⟨bt, 0, none⟩), .int .i64 (r : Int)] w' fun out w'' => ∃ ao cap, out = .returned (.tuple #[.agg #[.int .u32 (id : Int), .slice ao C.length cap], .bool true]) ∧ Own w0 w'' (Row 46 4 (.slice ao C.length cap) C.length (ccat C) :: StoX b σ K (bs, v, p) :: l')) := by
    intro w' l' h'
    obtain ⟨c, hc, hne, hlen, h2⟩ := h'.stoB h6 hp
    refine (tatC w0 w' _ bt _ _ c h2 (hσ.t _ h6) r (id, C) he (by omega)).mono ?_
    rintro e w'' ⟨ao, cap, rfl, h3⟩
    refine ⟨ao, cap, rfl, ?_⟩
    have h4 : Own w0 w'' (Table bt (σ.hom id) (σ.T (σ.hom id)) c :: StoB b σ K (bs, v, p) (σ.hom id) :: Row 46 4 (.slice ao C.length cap) C.length (ccat C) :: l') := h3.back3
    exact (h4.stoT h6 hp hc hne hlen).two
  clear h hA hσ hl he hr hp hn hid
  go_enter Tryd.func9, Tryd.ntmps9
  go_wp2_with fail
  refine HH.out.mono ?_
  rintro e w1 ⟨rfl, hO⟩
  have H1 : Hid (Own w0 w1 _) := hO
  clear hO HH
  go_wp2_with fail
  refine (HRW.out _ _ H1.out).mono ?_
  rintro e w2 ⟨rfl, rfl⟩
  go_wp2_with fail
  refine (HAT.out _ _ H1.out).mono ?_
  rintro e w3 ⟨ao, cap, rfl, hO⟩
  have hB := (hO.allocC #[.int .u32 (id : Int), .slice ao C.length cap] 41).four
  have x0 := hB.two.cell 0
  have x1 := hB.two.cell 1
  have z0 := hB.cell 0
  have z1 := hB.cell 1
  simp at x0 x1 z0 z1
  have y0 := hB.froz 0
  have y1 := hB.froz 1
  have hne1 : w3.heap.size ≠ w.heap.size := by
    have := hO.three.lt
    omega
  have hne2 : w.heap.size ≠ w3.heap.size := fun q => hne1 q.symm
  have HF : Hid (Own w0 _ _) := (hB.setC 0 (.int .u32 (id : Int))).setC 1 (.slice ao C.length cap)
  clear hO hB HAT HRW H1
  go_wp2
  (try simp only [Exit.inBlock, Exit.then])
  refine bodyPost_ret (v := .tuple #[.agg #[.int .u32 (id : Int), .slice ao C.length cap], .int .i64 0]) ?_ rfl ⟨ao, cap, rfl, ?_⟩
  · rw [results_cell_tmp rfl]
    have r0 := HF.out.cell 0
    have r1 := HF.out.cell 1
    simp at r0 r1
    go_simp
  · exact HF.out.tail.tail.two.xSto.two
end Go.Proofs.YtlbbljjfejhniaaDoor
