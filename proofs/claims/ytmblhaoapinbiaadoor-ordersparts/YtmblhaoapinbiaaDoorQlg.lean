/-
  Orders to set, to add and to remove; Do of any order.
-/
import Derived.Test.YtmblhaoapinbiaaDoorQjg
import Derived.Test.YtmblhaoapinbiaaDoorOug
namespace Go.Proofs.YtmblhaoapinbiaaDoor
open Go.RowKit
set_option linter.unusedVariables false
set_option maxRecDepth 100000

theorem Sto.remove_ok {σ : Sto} (h : σ.Ok) (id k : Nat) : (σ.remove id k).2.Ok := by
  unfold Sto.remove
  split
  · exact h
  · rename_i h1
    have hl : σ.S.isLive id = true := by simpa using h1
    split
    · exact h
    · obtain ⟨r, C, hr, he, hC, hm, h6⟩ := h.ent hl
      rw [Sto.cps_of hr he]
      exact Sto.turn_ok h hl (outk_ok hC k)
set_option maxHeartbeats 2000000 in
theorem tell_set (w0 w : World) (l : List Thing) (b : Nat) (σ : Sto) (K : Nat) (ht : Tab w0) (h : Own w0 w (Store b σ K :: l)) (hσ : σ.Ok) (id k : Nat) (hid : id < 4294967296) (q : Cp) (hq : q.k < 256) (ao : Option Addr) (cap : Nat) (hCs : ∀ w', Own w0 w' l → Cs w' ao [q]) (hK : K + 1 < 1000000) :
    Calls Tryd.prog 29 #[.pointer (some ⟨b, 0, none⟩), .agg #[.int .u8 3, .int .u32 (id : Int), .int .u8 (k : Int), .slice ao 1 cap]] w fun e w' => e = .returned (.tuple #[.int .u32 (id : Int), .int .i64 (σ.set id q).1]) ∧ Own w0 w' (Store b (σ.set id q).2 K :: l) := by
  have hA := (h.allocC #[.int .u8 3, .int .u32 (id : Int), .int .u8 (k : Int), .slice ao 1 cap] 46).two
  obtain ⟨g, o, rfl, _, c0, c1, c2, c3⟩ := (hCs _ hA.tail.tail).at 0 q rfl
  have HCE : Hid (∀ w', Own w0 w' l → At4 w' g o q) := by
    intro w' h'
    obtain ⟨g', o', he, _, hat⟩ := (hCs _ h').at 0 q rfl
    cases he
    simpa using hat
  have HS : Hid (Calls _ _ _ _ _) := setC0 w0 _ _ b σ K ht hA.drew hσ id hid q hq (by omega)
  have HB : Hid (w.heap.size = w.heap.size) := rfl
  have b1 := hA.two.cell 1
  have b3 := hA.two.cell 3
  simp at b1 b3
  simp only [Nat.zero_mul, Nat.add_zero] at c0 c1 c2 c3
  obtain ⟨qk, qa, qb, qc⟩ := q
  unfold Cp.ag at HS
  simp only at c0 c1 c2 c3 HS
  generalize σ.set id ⟨qk, qa, qb, qc⟩ = r at *
  clear h hσ hA hCs
  go_enter Tryd.func29, Tryd.ntmps29
  go_wp2_with fail
  go_region_held3 (fun w' => w'.cell? ⟨w.heap.size, 1, none⟩ = some (.int .u32 (id : Int)) ∧ w'.cell? ⟨w.heap.size, 3, none⟩ = some (.slice (some ⟨g, o, none⟩) 1 cap) ∧ w'.cell? ⟨g, o, none⟩ = some (.int .u8 (qk : Int)) ∧ w'.cell? ⟨g, o + 1, none⟩ = some (.int .i32 qa) ∧ w'.cell? ⟨g, o + 2, none⟩ = some (.int .i32 qb) ∧ w'.cell? ⟨g, o + 3, none⟩ = some (.int .i32 qc)) (go_keep)
    (first
     | (go_at_call 40; refine HS.out.mono ?_; rintro e w1 ⟨rfl, hO⟩
        have t1 := hO.two.cell 1
        have t3 := hO.two.cell 3
        simp at t1 t3
        obtain ⟨s0, s1, s2, s3⟩ := HCE.out _ hO.tail.tail
        have H1 : Hid (Own w0 w1 _) := hO
        clear hO))
  all_goals
    go_wp2
    go_ret2
    exact ⟨rfl, H1.out.two.tail⟩
set_option maxHeartbeats 2000000 in
theorem tell_add (w0 w : World) (l : List Thing) (b : Nat) (σ : Sto) (K : Nat) (ht : Tab w0) (h : Own w0 w (Store b σ K :: l)) (hσ : σ.Ok) (id k : Nat) (hid : id < 4294967296) (q : Cp) (hq : q.k < 256) (ao : Option Addr) (cap : Nat) (hCs : ∀ w', Own w0 w' l → Cs w' ao [q]) (hK : K + 1 < 1000000) :
    Calls Tryd.prog 29 #[.pointer (some ⟨b, 0, none⟩), .agg #[.int .u8 4, .int .u32 (id : Int), .int .u8 (k : Int), .slice ao 1 cap]] w fun e w' => e = .returned (.tuple #[.int .u32 (id : Int), .int .i64 (σ.add id q).1]) ∧ Own w0 w' (Store b (σ.add id q).2 (K + 2) :: l) := by
  have hA := (h.allocC #[.int .u8 4, .int .u32 (id : Int), .int .u8 (k : Int), .slice ao 1 cap] 46).two
  obtain ⟨g, o, rfl, _, c0, c1, c2, c3⟩ := (hCs _ hA.tail.tail).at 0 q rfl
  have HCE : Hid (∀ w', Own w0 w' l → At4 w' g o q) := by
    intro w' h'
    obtain ⟨g', o', he, _, hat⟩ := (hCs _ h').at 0 q rfl
    cases he
    simpa using hat
  have HS : Hid (Calls _ _ _ _ _) := addC w0 _ _ b σ K ht hA.drew hσ id hid q hq hK
  have HB : Hid (w.heap.size = w.heap.size) := rfl
  have b1 := hA.two.cell 1
  have b3 := hA.two.cell 3
  simp at b1 b3
  simp only [Nat.zero_mul, Nat.add_zero] at c0 c1 c2 c3
  obtain ⟨qk, qa, qb, qc⟩ := q
  unfold Cp.ag at HS
  simp only at c0 c1 c2 c3 HS
  generalize σ.add id ⟨qk, qa, qb, qc⟩ = r at *
  clear h hσ hA hCs
  go_enter Tryd.func29, Tryd.ntmps29
  go_wp2_with fail
  go_region_held3 (fun w' => w'.cell? ⟨w.heap.size, 1, none⟩ = some (.int .u32 (id : Int)) ∧ w'.cell? ⟨w.heap.size, 3, none⟩ = some (.slice (some ⟨g, o, none⟩) 1 cap) ∧ w'.cell? ⟨g, o, none⟩ = some (.int .u8 (qk : Int)) ∧ w'.cell? ⟨g, o + 1, none⟩ = some (.int .i32 qa) ∧ w'.cell? ⟨g, o + 2, none⟩ = some (.int .i32 qb) ∧ w'.cell? ⟨g, o + 3, none⟩ = some (.int .i32 qc)) (go_keep)
    (first
     | (go_at_call 41; refine HS.out.mono ?_; rintro e w1 ⟨rfl, hO⟩
        have t1 := hO.two.cell 1
        have t3 := hO.two.cell 3
        simp at t1 t3
        obtain ⟨s0, s1, s2, s3⟩ := HCE.out _ hO.tail.tail
        have H1 : Hid (Own w0 w1 _) := hO
        clear hO))
  all_goals
    go_wp2
    go_ret2
    exact ⟨rfl, H1.out.two.tail⟩
set_option maxHeartbeats 2000000 in
theorem tell_remove (w0 w : World) (l : List Thing) (b : Nat) (σ : Sto) (K : Nat) (ht : Tab w0) (h : Own w0 w (Store b σ K :: l)) (hσ : σ.Ok) (id k : Nat) (hid : id < 4294967296) (hk : k < 256) (v : Value) (hv : v.oneCell' = true) (hK : K + 1 < 1000000) (ao : Option Addr) (len cap : Nat) :
    Calls Tryd.prog 29 #[.pointer (some ⟨b, 0, none⟩), .agg #[.int .u8 5, .int .u32 (id : Int), .int .u8 (k : Int), .slice ao len cap]] w fun e w' => e = .returned (.tuple #[.int .u32 (id : Int), .int .i64 (σ.remove id k).1]) ∧ Own w0 w' (Store b (σ.remove id k).2 (K + 2) :: l) := by
  have hA := (h.allocC #[.int .u8 5, .int .u32 (id : Int), .int .u8 (k : Int), .slice ao len cap] 46).two
  have HS : Hid (Calls _ _ _ _ _) := removeC w0 _ _ b σ K ht hA.drew hσ id hid k hk hK
  have b1 := hA.two.cell 1
  have b2 := hA.two.cell 2
  simp at b1 b2
  generalize σ.remove id k = r at *
  clear h hσ hA
  go_enter Tryd.func29, Tryd.ntmps29
  go_wp2_with fail
  go_region_held3 (fun w' => w'.cell? ⟨w.heap.size, 1, none⟩ = some (.int .u32 (id : Int)) ∧ w'.cell? ⟨w.heap.size, 2, none⟩ = some (.int .u8 (k : Int))) (go_keep)
    (first
     | (go_at_call 42; refine HS.out.mono ?_; rintro e w1 ⟨rfl, hO⟩
        have t1 := hO.two.cell 1
        have t2 := hO.two.cell 2
        simp at t1 t2
        have H1 : Hid (Own w0 w1 _) := hO
        clear hO))
  all_goals
    go_wp2
    go_ret2
    exact ⟨rfl, H1.out.two.tail⟩
end Go.Proofs.YtmblhaoapinbiaaDoor

/-
  Do of any order on a store.
-/
namespace Go.Proofs.YtmblhaoapinbiaaDoor
open Go.RowKit
set_option linter.unusedVariables false
set_option maxRecDepth 100000

def OrdE.c (o : OrdE) : Cp := o.C.headD ⟨0, 0, 0, 0⟩
/-- what becomes of a store by an order, and what is told -/
def stq (s : Sto × Nat) (o : OrdE) : (Int × Nat) × (Sto × Nat) :=
  if o.ck ≠ 0 then (((o.ck : Int), 0), (s.1, s.2 + 2))
  else if o.d = 1 then (res (s.1.spawn o.C).2.1 (s.1.spawn o.C).1, ((s.1.spawn o.C).2.2, s.2 + 2))
  else if o.d = 2 then (res (s.1.despawn o.id).1 o.id, ((s.1.despawn o.id).2, s.2 + 2))
  else if o.d = 3 then (res (s.1.set o.id o.c).1 o.id, ((s.1.set o.id o.c).2, s.2 + 2))
  else if o.d = 4 then (res (s.1.add o.id o.c).1 o.id, ((s.1.add o.id o.c).2, s.2 + 2))
  else (res (s.1.remove o.id o.k).1 o.id, ((s.1.remove o.id o.k).2, s.2 + 2))
theorem stq_ok (s : Sto × Nat) (h : s.1.Ok) (o : OrdE) : (stq s o).2.1.Ok ∧ (stq s o).2.2 = s.2 + 2 := by
  unfold stq
  split
  · exact ⟨h, rfl⟩
  · split
    · exact ⟨Sto.spawn_ok h _, rfl⟩
    · split
      · exact ⟨Sto.despawn_ok h _, rfl⟩
      · split
        · exact ⟨Sto.set_ok h _ _, rfl⟩
        · split
          · exact ⟨Sto.add_ok h _ _, rfl⟩
          · exact ⟨Sto.remove_ok h _ _, rfl⟩
theorem do_any (w0 w : World) (l : List Thing) (b : Nat) (s : Sto × Nat) (ht : Tab w0) (h : Own w0 w (Store b s.1 s.2 :: l)) (hσ : s.1.Ok) (hK : s.2 + 1 < 1000000) (o : OrdE) (hi : o.In) (hCs : ∀ w', Own w0 w' l → Cs w' o.ao o.C) :
    Calls Tryd.prog 17 #[.pointer (some ⟨b, 0, none⟩), o.ag] w fun e w' => e = .returned (rag (stq s o).1) ∧ Own w0 w' (Store b (stq s o).2.1 (stq s o).2.2 :: l) := by
  obtain ⟨σ, K⟩ := s
  simp only at h hσ hK
  by_cases hb : o.ck = 0
  · have key : ∀ (id : Nat) (er : Int) (σ' : Sto), (∀ w' l', Own w0 w' (Store b σ K :: l') → (∀ w'', Own w0 w'' l' → Cs w'' o.ao o.C) → Calls Tryd.prog 29 #[.pointer (some ⟨b, 0, none⟩), o.ag] w' fun e w'' => e = .returned (.tuple #[.int .u32 (id : Int), .int .i64 er]) ∧ Own w0 w'' (Store b σ' (K + 2) :: l')) → stq (σ, K) o = (res er id, (σ', K + 2)) → Calls Tryd.prog 17 #[.pointer (some ⟨b, 0, none⟩), o.ag] w fun e w' => e = .returned (rag (stq (σ, K) o).1) ∧ Own w0 w' (Store b (stq (σ, K) o).2.1 (stq (σ, K) o).2.2 :: l) := by
      intro id er σ' HT he
      rw [he]
      exact do_of w0 w _ (Store b σ' (K + 2)) l h ht _ o hi hCs hb id er HT
    obtain ⟨d, id, k, C, ao, cap⟩ := o
    have hw := ock_ways hb
    simp only at hw
    rcases hw with rfl | rfl | rfl | rfl | rfl
    · refine key _ _ (σ.spawn C).2.2 (fun w' l' h' hC => ?_) (by unfold stq; rw [if_neg (by simp [hb]), if_pos rfl])
      refine (tell_spawn w0 w' l' b σ K ht h' hσ _ hi rfl hC (by omega)).mono ?_
      rintro e w'' ⟨he, h2⟩
      exact ⟨he, h2.stoK (by omega)⟩
    · refine key _ _ (σ.despawn id).2 (fun w' l' h' hC => ?_) (by unfold stq; rw [if_neg (by simp [hb]), if_neg (by simp), if_pos rfl])
      refine (tell_despawn w0 w' l' b σ K h' hσ _ hi rfl (by omega)).mono ?_
      rintro e w'' ⟨he, h2⟩
      exact ⟨he, h2.stoK (by omega)⟩
    · obtain ⟨q, rfl⟩ : ∃ q, C = [q] := List.length_eq_one_iff.1 (ock_one (.inl rfl) hb)
      refine key _ _ (σ.set id q).2 (fun w' l' h' hC => ?_) (by unfold stq; rw [if_neg (by simp [hb]), if_neg (by simp), if_neg (by simp), if_pos rfl]; rfl)
      refine (tell_set w0 w' l' b σ K ht h' hσ id k hi.id q (hi.C q (by simp)) ao cap hC hK).mono ?_
      rintro e w'' ⟨he, h2⟩
      exact ⟨he, h2.stoK (by omega)⟩
    · obtain ⟨q, rfl⟩ : ∃ q, C = [q] := List.length_eq_one_iff.1 (ock_one (.inr rfl) hb)
      refine key _ _ (σ.add id q).2 (fun w' l' h' hC => ?_) (by unfold stq; rw [if_neg (by simp [hb]), if_neg (by simp), if_neg (by simp), if_neg (by simp), if_pos rfl]; rfl)
      exact tell_add w0 w' l' b σ K ht h' hσ id k hi.id q (hi.C q (by simp)) ao cap hC hK
    · refine key _ _ (σ.remove id k).2 (fun w' l' h' hC => ?_) (by unfold stq; rw [if_neg (by simp [hb]), if_neg (by simp), if_neg (by simp), if_neg (by simp), if_neg (by simp)])
      exact tell_remove w0 w' l' b σ K ht h' hσ id k hi.id hi.k (.bool false) rfl hK ao C.length cap
  · have e : stq (σ, K) o = (((o.ck : Int), 0), (σ, K + 2)) := by unfold stq; rw [if_pos hb]
    rw [e]
    refine (do_bad w0 w _ h ht _ o hi (fun w' h' => hCs w' h'.tail) hb).mono ?_
    rintro e w' ⟨he, h2⟩
    exact ⟨he, h2.stoK (Nat.le_add_right K 2)⟩
/-- orders that are done in two goes are done as in one -/
theorem runs_app {α : Type} (step : α → OrdE → (Int × Nat) × α) (A B : List OrdE) : ∀ s, runs step s (A ++ B) = ((runs step s A).1 ++ (runs step (runs step s A).2 B).1, (runs step (runs step s A).2 B).2) := by
  induction A with
  | nil => intro s; simp [runs]
  | cons x A ih => intro s; simp [runs, ih]
/-- what is done does not hang on where the components lie -/
theorem stq_is (s : Sto × Nat) (x y : OrdE) (h : x.is = y.is) : stq s x = stq s y := by
  obtain ⟨d, id, k, C, a, c⟩ := x
  obtain ⟨d', id', k', C', a', c'⟩ := y
  simp only [OrdE.is, Prod.mk.injEq] at h
  obtain ⟨rfl, rfl, rfl, rfl⟩ := h
  rfl
theorem runs_is (A : List OrdE) : ∀ (B : List OrdE) (s : Sto × Nat), A.map OrdE.is = B.map OrdE.is → runs stq s A = runs stq s B := by
  induction A with
  | nil =>
    intro B s h
    cases B with
    | nil => rfl
    | cons y B => simp at h
  | cons x A ih =>
    intro B s h
    cases B with
    | nil => simp at h
    | cons y B =>
      simp only [List.map_cons, List.cons.injEq] at h
      unfold runs
      rw [stq_is s x y h.1, ih B _ h.2]
end Go.Proofs.YtmblhaoapinbiaaDoor
