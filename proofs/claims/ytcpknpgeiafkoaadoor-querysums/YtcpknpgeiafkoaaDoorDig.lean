/-
  A store's Add.
-/
import Derived.Test.YtcpknpgeiafkoaaDoorIeg
import Derived.Test.YtcpknpgeiafkoaaDoorUj
namespace Go.Proofs.YtcpknpgeiafkoaaDoor
open Go.RowKit Go.Maps
set_option linter.unusedVariables false
set_option maxRecDepth 100000

theorem k6_of {c : Cp} (h : c.chk = 0) : c.k < 6 := chk_k h
theorem lst_k {C : List Cp} (h : lst (-1) C = 0) : ∀ q ∈ C, q.k < 256 := fun q hq => by have := chk_k (((lst_iff C).1 h).2 q hq); omega
theorem lst_len {C : List Cp} (h : lst (-1) C = 0) : C.length ≤ 6 := by
  have e := kinds_of h rfl
  have := congrArg List.length e
  rw [List.length_map] at this
  rw [this]
  exact Nat.le_trans (List.length_filter_le _ _) (by simp)
/-- what a call to Get of the home answers -/
theorem homeGet (w0 w : World) (l : List Thing) (b bs : Nat) (v : Value) (p : Nat → Option Nat) (σ : Sto) (K : Nat) (hσ : σ.Ok) (id : Nat) (hid : id < 4294967296) (hl : σ.S.isLive id = true) (bt0 : Nat) (hp : p (σ.hom id) = some bt0) (h : Own w0 w (StoX b σ K (bs, v, p) :: l)) (k : Nat) (hk : k < 256) :
    Calls Tryd.prog 60 #[.pointer (some ⟨bt0, 0, none⟩), .int .u32 (id : Int), .int .u8 (k : Int)] w fun e w' => e = .returned (.tuple #[(if hasK (σ.cps id) k then mkc k (fv (σ.cps id) k) else ⟨0, 0, 0, 0⟩ : Cp).ag, .int .i64 (if hasK (σ.cps id) k then 0 else 10)]) ∧ Own w0 w' (StoX b σ K (bs, v, p) :: l) := by
  obtain ⟨r, C, hr, he, hC, hm, h6⟩ := hσ.ent hl
  obtain ⟨c, hc, hne, hlen, h2⟩ := h.stoB h6 hp
  have hcps := Sto.cps_of hr he
  have hbt : bt (σ.hom id) k = hasK C k := by
    by_cases hk6 : k < 6
    · rw [← hm]; exact bt_msk C k hk6
    · cases hb : bt (σ.hom id) k with
      | true => exact absurd (bt_lt h6 hb) hk6
      | false =>
        cases hh : hasK C k with
        | false => rfl
        | true =>
          obtain ⟨q, hq, e⟩ := (hasK_iff _ _).1 hh
          have := chk_k (((lst_iff C).1 hC).2 q hq)
          omega
  have hg : tget (σ.hom id) (σ.T (σ.hom id)) id k = (if hasK C k then 0 else 10, if hasK C k then mkc k (fv C k) else ⟨0, 0, 0, 0⟩) := by
    unfold tget
    rw [hr]
    simp only [he, Option.map_some, Option.getD_some, hbt]
    split <;> rfl
  have k2 := tgetC w0 w _ bt0 _ _ c h2 (hσ.t _ h6) id hid k hk
  rw [hg] at k2
  rw [hcps]
  refine k2.mono ?_
  rintro e w' ⟨rfl, h3⟩
  refine ⟨?_, h3.stoT h6 hp hc hne hlen⟩
  split <;> rfl
end Go.Proofs.YtcpknpgeiafkoaaDoor

/-
  A store's Set.
-/
namespace Go.Proofs.YtcpknpgeiafkoaaDoor
open Go.RowKit Go.Maps
set_option linter.unusedVariables false
set_option maxRecDepth 100000

theorem plc_same {L : List Ent} {r id : Nat} {C C' : List Cp} (he : L[r]? = some (id, C)) (x : Nat) : plc (L.set r (id, C')) x = plc L x := by
  have key : ∀ M : List Ent, plc M x = (ids M).findIdx? (fun y => decide (y = x)) := by
    intro M
    unfold plc ids
    rw [List.findIdx?_map]
    rfl
  rw [key, key]
  have : ids (L.set r (id, C')) = ids L := by
    unfold ids
    apply List.ext_getElem?
    intro i
    rw [List.getElem?_map, List.getElem?_map, List.getElem?_set]
    by_cases c : r = i
    · subst c
      have hr := (List.getElem?_eq_some_iff.1 he).1
      rw [he]; simp [hr]
    · rw [if_neg c]
  rw [this]
def Sto.set (σ : Sto) (id : Nat) (c : Cp) : Int × Sto :=
  if c.chk ≠ 0 then ((c.chk : Int), σ) else if σ.S.isLive id = false then (7, σ) else if hasK (σ.cps id) c.k = false then (10, σ) else (0, { σ with T := upd σ.T (σ.hom id) ((σ.T (σ.hom id)).set ((plc (σ.T (σ.hom id)) id).getD 0) (id, setc (σ.cps id) c)) })
theorem Sto.set_ok {σ : Sto} (h : σ.Ok) (id : Nat) (c : Cp) : (σ.set id c).2.Ok := by
  unfold Sto.set
  split
  · exact h
  · rename_i h0
    have hc : c.chk = 0 := by simpa using h0
    split
    · exact h
    · rename_i h1
      have hl : σ.S.isLive id = true := by simpa using h1
      split
      · exact h
      · obtain ⟨r, C, hr, he, hC, hm, h6⟩ := h.ent hl
        rw [Sto.cps_of hr he, hr]
        simp only [Option.getD_some]
        generalize hk : σ.hom id = k at *
        refine ⟨h.s, h.ml, ?_, ?_, ?_⟩
        · intro m hm'
          show TOk m (upd σ.T k _ m)
          by_cases e : m = k
          · subst e; rw [upd_same]; exact (h.t m hm').set he c hc
          · rw [upd_other _ _ _ e]; exact h.t m hm'
        · intro m hm' x hx
          replace hx : x ∈ upd σ.T k ((σ.T k).set r (id, setc C c)) m := hx
          by_cases e : m = k
          · subst e
            rw [upd_same] at hx
            rcases List.mem_or_eq_of_mem_set hx with hx | hx
            · exact h.lv m hm' x hx
            · subst hx
              exact h.lv m hm' (id, C) (List.mem_of_getElem? he)
          · rw [upd_other _ _ _ e] at hx; exact h.lv m hm' x hx
        · intro x hx
          obtain ⟨m, hm', h1', r', h2'⟩ := h.hm x hx
          refine ⟨m, hm', h1', r', ?_⟩
          show plc (upd σ.T k _ m) x = _
          by_cases e : m = k
          · subst e; rw [upd_same, plc_same he]; exact h2'
          · rw [upd_other _ _ _ e]; exact h2'
theorem Sto.add_ok {σ : Sto} (h : σ.Ok) (id : Nat) (c : Cp) : (σ.add id c).2.Ok := by
  unfold Sto.add
  split
  · exact h
  · rename_i h0
    split
    · exact h
    · rename_i h1
      have hl : σ.S.isLive id = true := by simpa using h1
      split
      · exact h
      · rename_i h2
        obtain ⟨r, C, hr, he, hC, hm, h6⟩ := h.ent hl
        have hcps := Sto.cps_of hr he
        rw [hcps] at h2 ⊢
        exact Sto.turn_ok h hl (insw_ok hC (by simpa using h0) (by simpa using h2))
end Go.Proofs.YtcpknpgeiafkoaaDoor

/-
  slices.DeleteFunc: a component less.
-/
namespace Go.Proofs.YtcpknpgeiafkoaaDoor
open Go.RowKit
set_option linter.unusedVariables false
set_option maxRecDepth 100000

theorem ccat_set4 (C : List Cp) (k : Nat) (q : Cp) (hk : k < C.length) : ccat (C.set k q) = ((((ccat C).set (k * 4) (.int .u8 (q.k : Int))).set (k * 4 + 1) (.int .i32 q.a)).set (k * 4 + 2) (.int .i32 q.b)).set (k * 4 + 3) (.int .i32 q.c) := by
  induction C generalizing k with
  | nil => simp at hk
  | cons y C ih =>
    have e1 : ∀ (A : List Cp) (z : Cp), ccat (z :: A) = [.int .u8 (z.k : Int), .int .i32 z.a, .int .i32 z.b, .int .i32 z.c] ++ ccat A := fun _ _ => rfl
    cases k with
    | zero => rw [List.set_cons_zero, e1, e1]; simp
    | succ k =>
      have ih := ih k (by simpa using hk)
      rw [List.set_cons_succ, e1, e1, ih]
      have h0 : (k + 1) * 4 = k * 4 + 4 := by omega
      have h1 : (k + 1) * 4 + 1 = (k * 4 + 1) + 4 := by omega
      have h2 : (k + 1) * 4 + 2 = (k * 4 + 2) + 4 := by omega
      have h3 : (k + 1) * 4 + 3 = (k * 4 + 3) + 4 := by omega
      rw [h1, h2, h3, h0]
      simp
theorem zeroComp2 (w : World) : (zeroValue 58).run Tryd.prog w = .ok (.agg #[.int .u8 0, .int .i32 0, .int .i32 0, .int .i32 0]) w := by kernel_rfl
end Go.Proofs.YtcpknpgeiafkoaaDoor

/-
  A store's Remove.
-/
namespace Go.Proofs.YtcpknpgeiafkoaaDoor
open Go.RowKit Go.Maps
set_option linter.unusedVariables false
set_option maxRecDepth 100000

/-- without a kind -/
def outk (C : List Cp) (k : Nat) : List Cp := C.filter (fun q => decide (q.k ≠ k))
theorem outk_none {C : List Cp} {k : Nat} (h : ∀ q ∈ C, q.k ≠ k) : outk C k = C := List.filter_eq_self.2 (fun q hq => by simpa using h q hq)
theorem outk_erase {C : List Cp} {k r : Nat} {q : Cp} (h : C.Pairwise (fun x y => x.k < y.k)) (hr : C[r]? = some q) (hq : q.k = k) : C.eraseIdx r = outk C k := by
  induction C generalizing r with
  | nil => simp at hr
  | cons a C ih =>
    obtain ⟨h1, h2⟩ := List.pairwise_cons.1 h
    cases r with
    | zero =>
      simp at hr
      subst hr
      have : outk (a :: C) k = outk C k := by unfold outk; rw [List.filter_cons]; simp [hq]
      rw [this, outk_none (fun x hx => by have := h1 x hx; omega)]
      rfl
    | succ r =>
      have hm : q ∈ C := List.mem_of_getElem? (by simpa using hr)
      have ha : a.k ≠ k := by have := h1 q hm; omega
      have := ih h2 (r := r) (by simpa using hr)
      rw [List.eraseIdx_cons_succ, this]
      unfold outk
      rw [List.filter_cons]; simp [ha]
theorem outk_ok {C : List Cp} (h : lst (-1) C = 0) (k : Nat) : lst (-1) (outk C k) = 0 := by
  rw [lst_iff] at h ⊢
  exact ⟨h.1.filter _, fun x hx => h.2 x (List.mem_filter.1 hx).1⟩
def Sto.remove (σ : Sto) (id k : Nat) : Int × Sto :=
  if σ.S.isLive id = false then (7, σ) else if hasK (σ.cps id) k = false then (10, σ) else (0, σ.turn id (outk (σ.cps id) k))
end Go.Proofs.YtcpknpgeiafkoaaDoor

/-
  The document's store: Get, Set, Add, Remove.
-/
namespace Go.Proofs.YtcpknpgeiafkoaaDoor
open Go.RowKit Go.Maps
set_option linter.unusedVariables false
set_option maxRecDepth 100000

theorem outk_snoc (C : List Cp) (q : Cp) (k : Nat) : outk (C ++ [q]) k = outk C k ++ (if q.k = k then [] else [q]) := by
  unfold outk
  rw [List.filter_append, List.filter_cons]
  by_cases h : q.k = k <;> simp [h]
end Go.Proofs.YtcpknpgeiafkoaaDoor
