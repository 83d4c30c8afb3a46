/-
  A component more: what becomes of a store.
-/
import Derived.Test.YtflmgilmbppieaaGreatDoorOm
import Derived.Test.YtflmgilmbppieaaGreatDoorOj
namespace Go.Proofs.YtflmgilmbppieaaGreatDoor
open Go.RowKit Go.Maps
set_option linter.unusedVariables false
set_option maxRecDepth 100000

theorem insw_cons (q : Cp) (t : List Cp) (c : Cp) : insw (q :: t) c = if q.k < c.k then q :: insw t c else c :: q :: t := by
  unfold insw
  by_cases h : q.k < c.k <;> simp [h]
theorem insw_mem {C : List Cp} {c x : Cp} (h : x ∈ insw C c) : x ∈ C ∨ x = c := by
  induction C with
  | nil => simp [insw] at h; exact .inr h
  | cons q t ih =>
    rw [insw_cons] at h
    split at h
    · rcases List.mem_cons.1 h with rfl | h
      · exact .inl List.mem_cons_self
      · rcases ih h with h | h
        · exact .inl (List.mem_cons_of_mem _ h)
        · exact .inr h
    · rcases List.mem_cons.1 h with rfl | h
      · exact .inr rfl
      · exact .inl h
theorem insw_sorted {C : List Cp} {c : Cp} (h : C.Pairwise (fun x y => x.k < y.k)) (hk : hasK C c.k = false) : (insw C c).Pairwise (fun x y => x.k < y.k) := by
  induction C with
  | nil => simp [insw]
  | cons q t ih =>
    obtain ⟨h1, h2⟩ := List.pairwise_cons.1 h
    have hq : q.k ≠ c.k := by
      intro e
      have : hasK (q :: t) c.k = true := (hasK_iff _ _).2 ⟨q, List.mem_cons_self, e⟩
      rw [hk] at this; cases this
    have ht : hasK t c.k = false := by
      cases hh : hasK t c.k with
      | false => rfl
      | true =>
        obtain ⟨x, hx, e⟩ := (hasK_iff _ _).1 hh
        have : hasK (q :: t) c.k = true := (hasK_iff _ _).2 ⟨x, List.mem_cons_of_mem _ hx, e⟩
        rw [hk] at this; cases this
    rw [insw_cons]
    split
    · rename_i hlt
      refine List.pairwise_cons.2 ⟨fun x hx => ?_, ih h2 ht⟩
      rcases insw_mem hx with hx | hx
      · exact h1 x hx
      · rw [hx]; exact hlt
    · rename_i hlt
      refine List.pairwise_cons.2 ⟨fun x hx => ?_, h⟩
      rcases List.mem_cons.1 hx with rfl | hx
      · omega
      · have := h1 x hx; omega
theorem insw_ok {C : List Cp} {c : Cp} (h : lst (-1) C = 0) (hc : c.chk = 0) (hk : hasK C c.k = false) : lst (-1) (insw C c) = 0 := by
  rw [lst_iff] at h ⊢
  refine ⟨insw_sorted h.1 hk, fun x hx => ?_⟩
  rcases insw_mem hx with hx | hx
  · exact h.2 x hx
  · rw [hx]; exact hc
theorem insw_len (C : List Cp) (c : Cp) : (insw C c).length = C.length + 1 := by
  unfold insw
  have := congrArg List.length (List.takeWhile_append_dropWhile (p := fun q => decide (q.k < c.k)) (l := C))
  rw [List.length_append] at this
  rw [List.length_append, List.length_cons]; omega

section
variable (w0 w : World) (l : List Thing) (b bs : Nat) (v : Value) (p : Nat → Option Nat) (σ : Sto) (K : Nat)
set_option maxHeartbeats 1000000 in
theorem homeFor_bad (ht : Tab w0) (h : Own w0 w (StoX b σ K (bs, v, p) :: l)) (id : Nat) (c : Cp) (hk : c.k < 256) (hc : c.chk ≠ 0) :
    Calls Tryz.prog 174 #[.pointer (some ⟨b, 0, none⟩), .int .u32 (id : Int), c.ag] w fun e w' => e = .returned (.tuple #[.pointer none, .int .i64 (c.chk : Int)]) ∧ Own w0 w' (StoX b σ K (bs, v, p) :: l) := by
  obtain ⟨ck, ca, cb, cc⟩ := c
  have hA := h.alloc (.cells #[.int .u8 (ck : Int), .int .i32 ca, .int .i32 cb, .int .i32 cc] 46)
  have HC : Hid (Calls _ _ _ _ _) := check3 _ (ht.quiet hA.fr) ck hk ca cb cc
  have HA : Hid (Own w0 _ _) := hA
  have hx : ¬ ((Cp.chk ⟨ck, ca, cb, cc⟩ : Nat) : Int) = 0 := by omega
  show Calls _ _ #[_, _, .agg #[.int .u8 (ck : Int), .int .i32 ca, .int .i32 cb, .int .i32 cc]] _ _
  change Hid (Calls _ _ _ _ fun e w' => e = .returned (.int .i64 ((Cp.chk ⟨ck, ca, cb, cc⟩ : Nat) : Int)) ∧ _) at HC
  generalize Cp.chk ⟨ck, ca, cb, cc⟩ = x at *
  clear h hA hc
  go_enter Tryz.func174, Tryz.ntmps174
  go_wp2_with fail
  refine HC.out.mono ?_
  rintro e w1 ⟨rfl, hf⟩
  go_wp2
  go_ret2
  exact ⟨rfl, HA.out.quiet hf⟩
set_option maxHeartbeats 1000000 in
theorem homeFor_of (ht : Tab w0) (h : Own w0 w (StoX b σ K (bs, v, p) :: l)) (id : Nat) (c : Cp) (hk : c.k < 256) (hc : c.chk = 0) (hp : Option Addr) (er : Int)
    (HH : ∀ w', Own w0 w' (StoX b σ K (bs, v, p) :: l) → Calls Tryz.prog 170 #[.pointer (some ⟨b, 0, none⟩), .int .u32 (id : Int)] w' fun e w'' => e = .returned (.tuple #[.pointer hp, .int .i64 er]) ∧ Own w0 w'' (StoX b σ K (bs, v, p) :: l)) :
    Calls Tryz.prog 174 #[.pointer (some ⟨b, 0, none⟩), .int .u32 (id : Int), c.ag] w fun e w' => e = .returned (.tuple #[.pointer hp, .int .i64 er]) ∧ Own w0 w' (StoX b σ K (bs, v, p) :: l) := by
  obtain ⟨ck, ca, cb, cc⟩ := c
  have hA := h.alloc (.cells #[.int .u8 (ck : Int), .int .i32 ca, .int .i32 cb, .int .i32 cc] 46)
  have HC : Hid (Calls _ _ _ _ _) := check3 _ (ht.quiet hA.fr) ck hk ca cb cc
  have HA : Hid (Own w0 _ _) := hA
  have HHH : Hid _ := HH
  show Calls _ _ #[_, _, .agg #[.int .u8 (ck : Int), .int .i32 ca, .int .i32 cb, .int .i32 cc]] _ _
  change Hid (Calls _ _ _ _ fun e w' => e = .returned (.int .i64 ((Cp.chk ⟨ck, ca, cb, cc⟩ : Nat) : Int)) ∧ _) at HC
  rw [hc] at HC
  clear h hA hc HH
  go_enter Tryz.func174, Tryz.ntmps174
  go_wp2_with fail
  refine HC.out.mono ?_
  rintro e w1 ⟨rfl, hf⟩
  have H1 : Hid (Own w0 w1 _) := HA.out.quiet hf
  clear hf
  go_wp2_with fail
  refine (HHH.out _ H1.out).mono ?_
  rintro e w2 ⟨rfl, hO⟩
  have H2 : Hid (Own w0 w2 _) := hO
  clear hO
  go_wp2
  go_ret2
  exact ⟨rfl, H2.out⟩
end
/-- the components of an entity -/
def Sto.cps (σ : Sto) (id : Nat) : List Cp := (((plc (σ.T (σ.hom id)) id).bind fun r => (σ.T (σ.hom id))[r]?).map (·.2)).getD []
theorem Sto.cps_of {σ : Sto} {id r : Nat} {C : List Cp} (hr : plc (σ.T (σ.hom id)) id = some r) (he : (σ.T (σ.hom id))[r]? = some (id, C)) : σ.cps id = C := by
  unfold Sto.cps; rw [hr]; simp [he]
def Sto.turn (σ : Sto) (id : Nat) (C : List Cp) : Sto := (σ.out (σ.hom id) ((plc (σ.T (σ.hom id)) id).getD 0)).put id C
def Sto.add (σ : Sto) (id : Nat) (c : Cp) : Int × Sto :=
  if c.chk ≠ 0 then ((c.chk : Int), σ) else if σ.S.isLive id = false then (7, σ) else if hasK (σ.cps id) c.k then (9, σ) else (0, σ.turn id (insw (σ.cps id) c))
theorem Sto.Ok.ent {σ : Sto} (h : σ.Ok) {id : Nat} (hl : σ.S.isLive id = true) : ∃ r C, plc (σ.T (σ.hom id)) id = some r ∧ (σ.T (σ.hom id))[r]? = some (id, C) ∧ lst (-1) C = 0 ∧ msk C = σ.hom id ∧ σ.hom id < 64 := by
  obtain ⟨h6, _, r, e, hr, he, hx⟩ := h.home hl
  obtain ⟨e1, e2⟩ := e
  simp only at hx
  subst hx
  obtain ⟨a, b⟩ := (h.t _ h6).ok _ (List.mem_of_getElem? he)
  exact ⟨r, e2, hr, he, a, b, h6⟩
theorem Sto.turn_ok {σ : Sto} (h : σ.Ok) {id : Nat} (hl : σ.S.isLive id = true) {C : List Cp} (hC : lst (-1) C = 0) : (σ.turn id C).Ok := by
  obtain ⟨r, _, hr, _⟩ := h.ent hl
  unfold Sto.turn
  rw [hr]
  exact (h.out hl hr).put hC
end Go.Proofs.YtflmgilmbppieaaGreatDoor
