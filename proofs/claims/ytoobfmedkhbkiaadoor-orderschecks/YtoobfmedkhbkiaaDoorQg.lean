/-
  Orders that come in; orders on no store.
-/
import Derived.Test.YtoobfmedkhbkiaaDoorQf
namespace Go.Proofs.YtoobfmedkhbkiaaDoor
open Go.ChangeShapes Go.WideShapes Go.ChangeAt Go.RowKit Go.Deep
set_option linter.unusedVariables false
set_option maxRecDepth 100000

theorem cellsOrd : Tryd.prog.cellsOf 32 = 4 := by kernel_rfl
theorem cellsOB : Tryd.prog.cellsOf 5 = 1 := by kernel_rfl
theorem cellsOU : Tryd.prog.cellsOf 29 = 1 := by kernel_rfl
theorem cellsOC : Tryd.prog.cellsOf 30 = 1 := by kernel_rfl
theorem lst4 {β : Type} {l : List β} (h : l.length = 4) : ∃ a b c d, l = [a, b, c, d] := by
  match l, h with
  | [a, b, c, d], _ => exact ⟨a, b, c, d, rfl⟩
/-- an order that comes in -/
def OrdT (W : World) (cs : List Value) (o : OrdE) : Prop := cs = o.cs ∧ o.d < 256 ∧ o.id < 4294967296 ∧ o.k < 256 ∧ IsComps W o.ao o.C.length o.cap o.C
theorem ord_is {H : Type} {enc : TypeId × Value → H} {W : World} (fuel : Nat) (cs : List Value) (x : DataW H × List MemPlace)
    (h : DataW.trod enc Tryd.prog W 0 (fun _ => true) true fuel 32 cs = some x) : ∃ o, OrdT W cs o := by
  obtain ⟨xs, n, _, hx, hl, hlen, hf⟩ := DataW.trod_struct Tryd.underlying32 h
  rw [cellsOrd] at hl
  obtain ⟨c0, c1, c2, c3, rfl⟩ := lst4 hl
  obtain ⟨y0, y1, y2, y3, rfl⟩ := lst4 hlen
  have h0 := hf 0 _ rfl
  have h1 := hf 1 _ rfl
  have h2 := hf 2 _ rfl
  have h3 := hf 3 _ rfl
  simp [cellsOB, cellsOU, cellsOC] at h0 h1 h2 h3
  obtain ⟨a, a0, _, wa⟩ := DataW.trod_int Tryd.underlying5 h0
  obtain ⟨b, b0, _, wb⟩ := DataW.trod_int Tryd.underlying29 h1
  obtain ⟨c, e0, _, wc⟩ := DataW.trod_int Tryd.underlying5 h2
  simp at a0 b0 e0
  subst a0 b0 e0
  have ha : 0 ≤ a ∧ a ≤ 255 := by simpa [Lit.wf, IntKind.min, IntKind.max, IntKind.signed, IntKind.bits] using wa
  have hb : 0 ≤ b ∧ b ≤ 4294967295 := by simpa [Lit.wf, IntKind.min, IntKind.max, IntKind.signed, IntKind.bits] using wb
  have hc : 0 ≤ c ∧ c ≤ 255 := by simpa [Lit.wf, IntKind.min, IntKind.max, IntKind.signed, IntKind.bits] using wc
  obtain ⟨an, rfl⟩ := Int.eq_ofNat_of_zero_le ha.1
  obtain ⟨bn, rfl⟩ := Int.eq_ofNat_of_zero_le hb.1
  obtain ⟨cn, rfl⟩ := Int.eq_ofNat_of_zero_le hc.1
  obtain ⟨ao, len, cap, hv⟩ : ∃ ao len cap, c3 = .slice ao len cap := by
    rcases open_slice Tryd.underlying30 h3 with ⟨hc, _⟩ | ⟨a, l, c, m, n, D, Pl, hc, _⟩
    · simp at hc; exact ⟨_, _, _, hc⟩
    · simp at hc; exact ⟨_, _, _, hc⟩
  subst hv
  obtain ⟨d, p⟩ := y3
  obtain ⟨Q, hQ⟩ : ∃ Q, IsComps W ao len cap Q := open_rows 4 Tryd.underlying30 cellsComp (by decide) CompIs (fun fuel cs x hx => by
    obtain ⟨k, a, b, c, h1, h2, h3, h4, hcs, _⟩ := comp_cells hx
    obtain ⟨n, rfl, hn⟩ := ok8_nat h1
    exact ⟨⟨n, a, b, c⟩, hcs, hn⟩) ⟨_, h3⟩
  have hql := hQ.1
  subst hql
  exact ⟨⟨an, bn, cn, Q, ao, cap⟩, rfl, by show an < _; omega, by show bn < _; omega, by show cn < _; omega, hQ⟩
theorem open_order {H : Type} {enc : TypeId × Value → H} {W : World} {base : Nat} {v : Value} {d : DataW H} {p : List MemPlace}
    (hv : Value.okWide Tryd.prog W .any base 32 v) (h : DataW.Trod enc Tryd.prog W 0 (fun _ => true) true 32 v d p) : ∃ o : OrdE, v = o.ag ∧ o.d < 256 ∧ o.id < 4294967296 ∧ o.k < 256 ∧ IsComps W o.ao o.C.length o.cap o.C := by
  obtain ⟨cs, rfl, hsz, _⟩ : ∃ cs, v = .agg cs ∧ cs.size = Tryd.prog.cellsOf 32 ∧ Row.okWide Tryd.prog W .any base 32 cs := by
    simpa [Value.okWide, Tryd.underlying32] using hv
  obtain ⟨fuel, hf⟩ := h
  obtain ⟨o, he, h1, h2, h3, h4⟩ := ord_is fuel _ _ hf
  refine ⟨o, ?_, h1, h2, h3, h4⟩
  have : cs.toList = o.cs := he
  unfold OrdE.ag
  congr 1
  apply Array.toList_inj.1
  rw [this]; rfl

theorem Own.emp {w0 w : World} {l : List Thing} (h : Own w0 w l) : Own w0 w (Emp :: l) := h.new Emp (fun _ => False) (fun _ h => h) (Fr.refl _ _) (fun _ h => h.elim)
set_option maxHeartbeats 1000000 in
theorem tell_nil1 (w0 w : World) (l : List Thing) (h : Own w0 w l) (id k : Nat) (C : List Cp) (ao : Option Addr) (len cap : Nat) (hl : C.length = len) (hCs : ∀ w', Own w0 w' l → Cs w' ao C) :
    Calls Tryd.prog 29 #[.pointer none, .agg #[.int .u8 1, .int .u32 (id : Int), .int .u8 (k : Int), .slice ao len cap]] w fun e w' => e = .returned (.tuple #[.int .u32 0, .int .i64 10]) ∧ Own w0 w' l := by
  have hA := h.allocC #[.int .u8 1, .int .u32 (id : Int), .int .u8 (k : Int), .slice ao len cap] 32
  have HA : Hid (Own w0 _ _) := hA
  clear h hA hCs
  go_enter Tryd.func29, Tryd.ntmps29
  go_wp2_with fail
  refine (spawn_nil _ _).mono ?_
  rintro e w1 ⟨rfl, hf⟩
  go_wp2
  go_ret2
  exact ⟨rfl, HA.out.tail.quiet hf⟩
set_option maxHeartbeats 1000000 in
theorem tell_nil2 (w0 w : World) (l : List Thing) (h : Own w0 w l) (id k : Nat) (C : List Cp) (ao : Option Addr) (len cap : Nat) (hl : C.length = len) (hCs : ∀ w', Own w0 w' l → Cs w' ao C) :
    Calls Tryd.prog 29 #[.pointer none, .agg #[.int .u8 2, .int .u32 (id : Int), .int .u8 (k : Int), .slice ao len cap]] w fun e w' => e = .returned (.tuple #[.int .u32 (id : Int), .int .i64 10]) ∧ Own w0 w' l := by
  have hA := h.allocC #[.int .u8 2, .int .u32 (id : Int), .int .u8 (k : Int), .slice ao len cap] 32
  have HA : Hid (Own w0 _ _) := hA
  clear h hA hCs
  go_enter Tryd.func29, Tryd.ntmps29
  go_wp2_with fail
  go_region_with (
    go_at_call 35
    refine (despawn_nil _ _).mono ?_
    rintro e w1 ⟨rfl, hf⟩
    have hB := HA.out.drew.quiet hf
    have q1 := hB.cell 1
    simp at q1
    have HB : Hid (Own w0 w1 _) := hB
    clear hB hf)
  all_goals
    go_wp2
    go_ret2
    exact ⟨rfl, HB.out.tail⟩
set_option maxHeartbeats 1000000 in
theorem tell_nil3 (w0 w : World) (l : List Thing) (h : Own w0 w l) (id k : Nat) (C : List Cp) (ao : Option Addr) (len cap : Nat) (hl : C.length = len) (hCs : ∀ w', Own w0 w' l → Cs w' ao C) (h1 : len = 1) :
    Calls Tryd.prog 29 #[.pointer none, .agg #[.int .u8 3, .int .u32 (id : Int), .int .u8 (k : Int), .slice ao len cap]] w fun e w' => e = .returned (.tuple #[.int .u32 (id : Int), .int .i64 10]) ∧ Own w0 w' l := by
  have hA := h.allocC #[.int .u8 3, .int .u32 (id : Int), .int .u8 (k : Int), .slice ao len cap] 32
  obtain ⟨q, rfl⟩ : ∃ q, C = [q] := List.length_eq_one_iff.1 (by omega)
  obtain ⟨g, o, rfl, _, c0, c1, c2, c3⟩ := (hCs _ hA.tail).at 0 q rfl
  simp only [Nat.zero_mul, Nat.add_zero] at c0 c1 c2 c3
  obtain ⟨qk, qa, qb, qc⟩ := q
  simp only at c0 c1 c2 c3
  subst h1
  have HA : Hid (Own w0 _ _) := hA
  clear h hA hCs
  go_enter Tryd.func29, Tryd.ntmps29
  go_wp2_with fail
  go_region_with (
    go_at_call 36
    refine (set_nil _ _ _ _ _ _).mono ?_
    rintro e w1 ⟨rfl, hf⟩
    have hB := HA.out.drew.quiet hf
    have q1 := hB.cell 1
    simp at q1
    have HB : Hid (Own w0 w1 _) := hB
    clear hB hf)
  all_goals
    go_wp2
    go_ret2
    exact ⟨rfl, HB.out.tail⟩
set_option maxHeartbeats 1000000 in
theorem tell_nil4 (w0 w : World) (l : List Thing) (h : Own w0 w l) (id k : Nat) (C : List Cp) (ao : Option Addr) (len cap : Nat) (hl : C.length = len) (hCs : ∀ w', Own w0 w' l → Cs w' ao C) (h1 : len = 1) :
    Calls Tryd.prog 29 #[.pointer none, .agg #[.int .u8 4, .int .u32 (id : Int), .int .u8 (k : Int), .slice ao len cap]] w fun e w' => e = .returned (.tuple #[.int .u32 (id : Int), .int .i64 10]) ∧ Own w0 w' l := by
  have hA := h.allocC #[.int .u8 4, .int .u32 (id : Int), .int .u8 (k : Int), .slice ao len cap] 32
  obtain ⟨q, rfl⟩ : ∃ q, C = [q] := List.length_eq_one_iff.1 (by omega)
  obtain ⟨g, o, rfl, _, c0, c1, c2, c3⟩ := (hCs _ hA.tail).at 0 q rfl
  simp only [Nat.zero_mul, Nat.add_zero] at c0 c1 c2 c3
  obtain ⟨qk, qa, qb, qc⟩ := q
  simp only at c0 c1 c2 c3
  subst h1
  have HA : Hid (Own w0 _ _) := hA
  clear h hA hCs
  go_enter Tryd.func29, Tryd.ntmps29
  go_wp2_with fail
  go_region_with (
    go_at_call 37
    refine (add_nil _ _ _ _ _ _).mono ?_
    rintro e w1 ⟨rfl, hf⟩
    have hB := HA.out.drew.quiet hf
    have q1 := hB.cell 1
    simp at q1
    have HB : Hid (Own w0 w1 _) := hB
    clear hB hf)
  all_goals
    go_wp2
    go_ret2
    exact ⟨rfl, HB.out.tail⟩
set_option maxHeartbeats 1000000 in
theorem tell_nil5 (w0 w : World) (l : List Thing) (h : Own w0 w l) (id k : Nat) (C : List Cp) (ao : Option Addr) (len cap : Nat) (hl : C.length = len) (hCs : ∀ w', Own w0 w' l → Cs w' ao C) :
    Calls Tryd.prog 29 #[.pointer none, .agg #[.int .u8 5, .int .u32 (id : Int), .int .u8 (k : Int), .slice ao len cap]] w fun e w' => e = .returned (.tuple #[.int .u32 (id : Int), .int .i64 10]) ∧ Own w0 w' l := by
  have hA := h.allocC #[.int .u8 5, .int .u32 (id : Int), .int .u8 (k : Int), .slice ao len cap] 32
  have HA : Hid (Own w0 _ _) := hA
  clear h hA hCs
  go_enter Tryd.func29, Tryd.ntmps29
  go_wp2_with fail
  go_region_with (
    go_at_call 38
    refine (remove_nil _ _ _).mono ?_
    rintro e w1 ⟨rfl, hf⟩
    have hB := HA.out.drew.quiet hf
    have q1 := hB.cell 1
    simp at q1
    have HB : Hid (Own w0 w1 _) := hB
    clear hB hf)
  all_goals
    go_wp2
    go_ret2
    exact ⟨rfl, HB.out.tail⟩
theorem ock_one {d k : Nat} {C : List Cp} (hd : d = 3 ∨ d = 4) (h : ock d k C = 0) : C.length = 1 := by
  unfold ock at h
  rw [if_neg (by omega), if_neg (by omega), if_pos hd] at h
  split at h
  · assumption
  · cases h
theorem ock_ways {d k : Nat} {C : List Cp} (h : ock d k C = 0) : d = 1 ∨ d = 2 ∨ d = 3 ∨ d = 4 ∨ d = 5 := by
  rcases Nat.lt_or_ge d 1 with c | c
  · rw [ock_bad d k C (.inl c)] at h; cases h
  · rcases Nat.lt_or_ge 5 d with e | e
    · rw [ock_bad d k C (.inr e)] at h; cases h
    · omega
theorem do_none (w0 w : World) (l : List Thing) (ht : Tab w0) (h : Own w0 w l) (o : OrdE) (hi : o.In) (hCs : ∀ w', Own w0 w' l → Cs w' o.ao o.C) :
    Calls Tryd.prog 16 #[.pointer none, o.ag] w fun e w' => e = .returned (rag (if o.ck = 0 then (10, 0) else ((o.ck : Int), 0))) ∧ Own w0 w' l := by
  by_cases hb : o.ck = 0
  · rw [if_pos hb]
    have key : ∀ id : Nat, (∀ w' l', Own w0 w' (Emp :: l') → (∀ w'', Own w0 w'' l' → Cs w'' o.ao o.C) → Calls Tryd.prog 29 #[.pointer none, o.ag] w' fun e w'' => e = .returned (.tuple #[.int .u32 (id : Int), .int .i64 10]) ∧ Own w0 w'' (Emp :: l')) → Calls Tryd.prog 16 #[.pointer none, o.ag] w fun e w' => e = .returned (rag (10, 0)) ∧ Own w0 w' l := by
      intro id HT
      refine (do_of w0 w Emp Emp l h.emp ht none o hi hCs hb id 10 HT).mono ?_
      rintro e w' ⟨rfl, h'⟩
      exact ⟨rfl, h'.tail⟩
    obtain ⟨d, id, k, C, ao, cap⟩ := o
    have hw := ock_ways hb
    simp only at hw key
    rcases hw with rfl | rfl | rfl | rfl | rfl
    · exact key 0 (fun w' l' h' hC => (tell_nil1 w0 w' l' h'.tail id k C ao C.length cap rfl hC).mono fun e w'' ⟨he, h2⟩ => ⟨he, h2.emp⟩)
    · exact key id (fun w' l' h' hC => (tell_nil2 w0 w' l' h'.tail id k C ao C.length cap rfl hC).mono fun e w'' ⟨he, h2⟩ => ⟨he, h2.emp⟩)
    · exact key id (fun w' l' h' hC => (tell_nil3 w0 w' l' h'.tail id k C ao C.length cap rfl hC (ock_one (.inl rfl) hb)).mono fun e w'' ⟨he, h2⟩ => ⟨he, h2.emp⟩)
    · exact key id (fun w' l' h' hC => (tell_nil4 w0 w' l' h'.tail id k C ao C.length cap rfl hC (ock_one (.inr rfl) hb)).mono fun e w'' ⟨he, h2⟩ => ⟨he, h2.emp⟩)
    · exact key id (fun w' l' h' hC => (tell_nil5 w0 w' l' h'.tail id k C ao C.length cap rfl hC).mono fun e w'' ⟨he, h2⟩ => ⟨he, h2.emp⟩)
  · rw [if_neg hb]
    exact do_bad w0 w l h ht none o hi hCs hb
end Go.Proofs.YtoobfmedkhbkiaaDoor
