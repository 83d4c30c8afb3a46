/-
  Orders: Do of an order that is wrong, and of one that is told to the store.
-/
import Derived.Test.YtoobfmedkhbkiaaDoorQa
import Derived.Test.YtoobfmedkhbkiaaDoorOg
import Derived.Test.YtoobfmedkhbkiaaDoorOi
namespace Go.Proofs.YtoobfmedkhbkiaaDoor
open Go.RowKit
set_option linter.unusedVariables false
set_option maxRecDepth 100000

/-- an order: what to do, to whom, a kind, components and where they lie -/
structure OrdE where
  d : Nat
  id : Nat
  k : Nat
  C : List Cp
  ao : Option Addr
  cap : Nat
def OrdE.ag (o : OrdE) : Value := .agg #[.int .u8 (o.d : Int), .int .u32 (o.id : Int), .int .u8 (o.k : Int), .slice o.ao o.C.length o.cap]
def OrdE.cs (o : OrdE) : List Value := [.int .u8 (o.d : Int), .int .u32 (o.id : Int), .int .u8 (o.k : Int), .slice o.ao o.C.length o.cap]
structure OrdE.In (o : OrdE) : Prop where
  d : o.d < 256
  id : o.id < 4294967296
  k : o.k < 256
  C : ∀ q ∈ o.C, q.k < 256
  len : o.C.length ≤ 1000000
def OrdE.ck (o : OrdE) : Nat := ock o.d o.k o.C
theorem OrdE.check (o : OrdE) (w : World) (ht : Tab w) (hi : o.In) (hs : Cs w o.ao o.C) : Calls Tryd.prog 11 #[o.ag] w fun e w' => e = .returned (.int .i64 ((o.ck : Nat) : Int)) ∧ Fr Nobody w w' :=
  ocheck w ht o.d o.id o.k hi.k o.ao o.C.length o.cap o.C rfl hs hi.C hi.len
theorem OrdE.rcheck (o : OrdE) (w : World) (hi : o.In) (hs : Cs w o.ao o.C) : Calls Tryd.prog 10 #[o.ag] w fun e w' => e = .returned (.int .i64 ((o.ck : Nat) : Int)) ∧ Fr Nobody w w' :=
  rocheck w o.d o.id o.k hi.k o.ao o.C.length o.cap o.C rfl hs hi.C hi.len
/-- a result -/
def rag (r : Int × Nat) : Value := .agg #[.int .i64 r.1, .int .u32 (r.2 : Int)]
def rcel (r : Int × Nat) : List Value := [.int .i64 r.1, .int .u32 (r.2 : Int)]
def res (e : Int) (id : Nat) : Int × Nat := if e = 0 then (0, id) else (e, 0)

set_option maxHeartbeats 1000000 in
theorem do_bad (w0 w : World) (l : List Thing) (h : Own w0 w l) (ht : Tab w0) (p : Option Addr) (o : OrdE) (hi : o.In) (hCs : ∀ w', Own w0 w' l → Cs w' o.ao o.C) (hb : o.ck ≠ 0) :
    Calls Tryd.prog 16 #[.pointer p, o.ag] w fun e w' => e = .returned (rag ((o.ck : Int), 0)) ∧ Own w0 w' l := by
  have hA := (h.allocC #[.int .u8 (o.d : Int), .int .u32 (o.id : Int), .int .u8 (o.k : Int), .slice o.ao o.C.length o.cap] 32).allocC #[.int .i64 0, .int .u32 0] 44
  have e1 : (w.alloc (.cells #[.int .u8 (o.d : Int), .int .u32 (o.id : Int), .int .u8 (o.k : Int), .slice o.ao o.C.length o.cap] 32)).heap.size = w.heap.size + 1 := by simp
  rw [e1] at hA
  have HC : Hid (Calls _ _ _ _ _) := o.check _ (ht.quiet hA.fr) hi (hCs _ hA.tail.tail)
  have HA : Hid (Own w0 _ _) := hA
  have hx : ¬ ((o.ck : Nat) : Int) = 0 := by omega
  unfold OrdE.ag at HC ⊢
  unfold rag
  obtain ⟨d, id, k, C, ao, cap⟩ := o
  generalize OrdE.ck ⟨d, id, k, C, ao, cap⟩ = x at *
  simp only at HC HA ⊢
  clear h hA hb e1 hCs hi
  go_enter Tryd.func16, Tryd.ntmps16
  go_wp2_with fail
  refine HC.out.mono ?_
  rintro e w1 ⟨rfl, hf⟩
  have hB := HA.out.quiet hf
  have z0 := hB.cell 0
  have z1 := hB.cell 1
  simp at z0 z1
  have y0 := hB.froz 0
  have y1 := hB.froz 1
  have HF : Hid (Own w0 _ _) := (hB.setC 0 (.int .i64 (x : Int))).setC 1 (.int .u32 0)
  clear hB hf HC HA
  go_wp2
  (try simp only [Exit.inBlock, Exit.then])
  refine bodyPost_ret (v := .agg #[.int .i64 (x : Int), .int .u32 0]) ?_ rfl ⟨rfl, HF.out.tail.tail⟩
  have r0 := HF.out.cell 0
  have r1 := HF.out.cell 1
  simp at r0 r1
  simp only [results]
  go_simp

set_option maxHeartbeats 2000000 in
theorem do_of (w0 w : World) (P P' : Thing) (l : List Thing) (h : Own w0 w (P :: l)) (ht : Tab w0) (p : Option Addr) (o : OrdE) (hi : o.In) (hCs : ∀ w', Own w0 w' l → Cs w' o.ao o.C) (hb : o.ck = 0) (id : Nat) (er : Int)
    (HT : ∀ w' l', Own w0 w' (P :: l') → (∀ w'', Own w0 w'' l' → Cs w'' o.ao o.C) → Calls Tryd.prog 29 #[.pointer p, o.ag] w' fun e w'' => e = .returned (.tuple #[.int .u32 (id : Int), .int .i64 er]) ∧ Own w0 w'' (P' :: l')) :
    Calls Tryd.prog 16 #[.pointer p, o.ag] w fun e w' => e = .returned (rag (res er id)) ∧ Own w0 w' (P' :: l) := by
  have hA := (h.allocC #[.int .u8 (o.d : Int), .int .u32 (o.id : Int), .int .u8 (o.k : Int), .slice o.ao o.C.length o.cap] 32).allocC #[.int .i64 0, .int .u32 0] 44
  have e1 : (w.alloc (.cells #[.int .u8 (o.d : Int), .int .u32 (o.id : Int), .int .u8 (o.k : Int), .slice o.ao o.C.length o.cap] 32)).heap.size = w.heap.size + 1 := by simp
  rw [e1] at hA
  have HC : Hid (Calls _ _ _ _ _) := o.check _ (ht.quiet hA.fr) hi (hCs _ hA.tail.tail.tail)
  rw [hb] at HC
  have HA : Hid (Own w0 _ _) := hA
  have HTT : Hid (∀ w', Own w0 w' (Cells (w.heap.size + 1) #[.int .i64 0, .int .u32 0] 44 :: Cells w.heap.size #[.int .u8 (o.d : Int), .int .u32 (o.id : Int), .int .u8 (o.k : Int), .slice o.ao o.C.length o.cap] 32 :: P :: l) → Calls Tryd.prog 29 #[.pointer p, o.ag] w' fun e w'' => e = .returned (.tuple #[.int .u32 (id : Int), .int .i64 er]) ∧ Own w0 w'' (Cells (w.heap.size + 1) #[.int .i64 0, .int .u32 0] 44 :: P' :: l)) := by
    intro w' h'
    refine (HT w' _ h'.three (fun w'' h'' => hCs _ h''.tail.tail)).mono ?_
    rintro e w'' ⟨rfl, h2⟩
    exact ⟨rfl, h2.three.tail.two⟩
  unfold OrdE.ag at HC HTT ⊢
  obtain ⟨d, oid, k, C, ao, cap⟩ := o
  simp only at HC HA HTT ⊢
  clear h hA hb e1 hCs hi HT
  have hres : ∀ e id, rag (res e id) = if e = 0 then .agg #[.int .i64 0, .int .u32 (id : Int)] else .agg #[.int .i64 e, .int .u32 0] := by
    intro e id
    unfold rag res
    split <;> rfl
  rw [hres]
  clear hres
  by_cases hx : er = 0
  · subst hx
    rw [if_pos rfl]
    go_enter Tryd.func16, Tryd.ntmps16
    go_wp2_with fail
    refine HC.out.mono ?_
    rintro e w1 ⟨rfl, hf⟩
    have hB := HA.out.quiet hf
    have HB : Hid (Own w0 w1 _) := hB
    have q0 := hB.two.cell 0
    have q1 := hB.two.cell 1
    have q2 := hB.two.cell 2
    have q3 := hB.two.cell 3
    simp at q0 q1 q2 q3
    clear hB hf HC HA
    go_wp2_with fail
    refine (HTT.out _ HB.out).mono ?_
    rintro e w2 ⟨rfl, hB⟩
    have z0 := hB.cell 0
    have z1 := hB.cell 1
    simp at z0 z1
    have y0 := hB.froz 0
    have y1 := hB.froz 1
    have HF : Hid (Own w0 _ _) := (hB.setC 0 (.int .i64 0)).setC 1 (.int .u32 (id : Int))
    clear hB HTT q0 q1 q2 q3 HB
    go_wp2
    (try simp only [Exit.inBlock, Exit.then])
    refine bodyPost_ret (v := .agg #[.int .i64 0, .int .u32 (id : Int)]) ?_ rfl ⟨rfl, HF.out.tail⟩
    have r0 := HF.out.cell 0
    have r1 := HF.out.cell 1
    simp at r0 r1
    simp only [results]
    go_simp
  · rw [if_neg hx]
    go_enter Tryd.func16, Tryd.ntmps16
    go_wp2_with fail
    refine HC.out.mono ?_
    rintro e w1 ⟨rfl, hf⟩
    have hB := HA.out.quiet hf
    have HB : Hid (Own w0 w1 _) := hB
    have q0 := hB.two.cell 0
    have q1 := hB.two.cell 1
    have q2 := hB.two.cell 2
    have q3 := hB.two.cell 3
    simp at q0 q1 q2 q3
    clear hB hf HC HA
    go_wp2_with fail
    refine (HTT.out _ HB.out).mono ?_
    rintro e w2 ⟨rfl, hB⟩
    have z0 := hB.cell 0
    have z1 := hB.cell 1
    simp at z0 z1
    have y0 := hB.froz 0
    have y1 := hB.froz 1
    have HF : Hid (Own w0 _ _) := (hB.setC 0 (.int .i64 er)).setC 1 (.int .u32 0)
    clear hB HTT q0 q1 q2 q3 HB
    go_wp2
    (try simp only [Exit.inBlock, Exit.then])
    refine bodyPost_ret (v := .agg #[.int .i64 er, .int .u32 0]) ?_ rfl ⟨rfl, HF.out.tail⟩
    have r0 := HF.out.cell 0
    have r1 := HF.out.cell 1
    simp at r0 r1
    simp only [results]
    go_simp

set_option maxHeartbeats 1000000 in
theorem tell_spawn (w0 w : World) (l : List Thing) (b : Nat) (σ : Sto) (K : Nat) (ht : Tab w0) (h : Own w0 w (Store b σ K :: l)) (hσ : σ.Ok) (o : OrdE) (hi : o.In) (hd : o.d = 1) (hCs : ∀ w', Own w0 w' l → Cs w' o.ao o.C) (hK : K < 1000000) :
    Calls Tryd.prog 29 #[.pointer (some ⟨b, 0, none⟩), o.ag] w fun e w' => e = .returned (.tuple #[.int .u32 ((σ.spawn o.C).1 : Int), .int .i64 (σ.spawn o.C).2.1]) ∧ Own w0 w' (Store b (σ.spawn o.C).2.2 (K + 1) :: l) := by
  have HS : Hid (Calls _ _ _ _ _) := spawnC w0 _ l b σ K ht (h.alloc (.cells #[.int .u8 (o.d : Int), .int .u32 (o.id : Int), .int .u8 (o.k : Int), .slice o.ao o.C.length o.cap] 32)) hσ o.ao o.C.length o.cap o.C rfl hCs hi.C hi.len hK
  unfold OrdE.ag
  obtain ⟨d, oid, k, C, ao, cap⟩ := o
  simp only at HS hd ⊢
  subst hd
  generalize σ.spawn C = r at *
  clear h hσ hi hCs
  go_enter Tryd.func29, Tryd.ntmps29
  go_wp2_with fail
  refine HS.out.mono ?_
  rintro e w1 ⟨rfl, hO⟩
  have H1 : Hid (Own w0 w1 _) := hO
  clear hO HS
  go_wp2
  go_ret2
  exact ⟨rfl, H1.out⟩
set_option maxHeartbeats 1000000 in
theorem tell_despawn (w0 w : World) (l : List Thing) (b : Nat) (σ : Sto) (K : Nat) (h : Own w0 w (Store b σ K :: l)) (hσ : σ.Ok) (o : OrdE) (hi : o.In) (hd : o.d = 2) (hK : K < 1000000) :
    Calls Tryd.prog 29 #[.pointer (some ⟨b, 0, none⟩), o.ag] w fun e w' => e = .returned (.tuple #[.int .u32 (o.id : Int), .int .i64 (σ.despawn o.id).1]) ∧ Own w0 w' (Store b (σ.despawn o.id).2 (K + 1) :: l) := by
  have hA := (h.allocC #[.int .u8 (o.d : Int), .int .u32 (o.id : Int), .int .u8 (o.k : Int), .slice o.ao o.C.length o.cap] 32).two
  have HS : Hid (Calls _ _ _ _ _) := despawnC w0 _ _ b σ K hA.drew hσ o.id hi.id hK
  unfold OrdE.ag
  obtain ⟨d, oid, k, C, ao, cap⟩ := o
  simp only at HS hd hA ⊢
  subst hd
  generalize σ.despawn oid = r at *
  clear h hσ hi hA
  go_enter Tryd.func29, Tryd.ntmps29
  go_wp2_with fail
  go_region_with (
    go_at_call 35
    refine HS.out.mono ?_
    rintro e w1 ⟨rfl, hO⟩
    have q1 := hO.two.cell 1
    simp at q1
    have H1 : Hid (Own w0 w1 _) := hO
    clear hO)
  all_goals
    go_wp2
    go_ret2
    exact ⟨rfl, H1.out.two.tail⟩
end Go.Proofs.YtoobfmedkhbkiaaDoor
