/-
  The grid in memory; Drop.
-/
import Derived.Test.YthokgjkgfolojabDoorCec
import Derived.Deep.RegionHeld3
import Derived.BigCall
import Derived.Deep.QuietTactic
import Derived.BigQuiet
namespace Go.Proofs.YthokgjkgfolojabDoor
open Go.RowKit Go.Maps
set_option linter.unusedVariables false
set_option maxRecDepth 100000

/-- a crowd: a map in which just these IDs stand -/
def Crw (b K : Nat) (C : List Nat) : Thing := GMap idK b K C.length (fun id => if id ∈ C then some (.agg #[]) else none)
def lkp (M : List (Cll × Nat)) (c : Cll) : Option Nat := (M.find? (fun m => decide (m.1 = c))).map (·.2)
def cmap (M : List (Cll × Nat)) (c : Cll) : Option Value := (lkp M c).map (fun b => .map (some b))
def hmap (L : List Spt) (id : Nat) : Option Value := (hom L id).map cv
def crowds (M : List (Cll × Nat)) (L : List Spt) (K : Nat) : List Thing := M.map (fun m => Crw m.2 K (crd L m.1))
def GridX (g b1 b2 : Nat) (M : List (Cll × Nat)) (L : List Spt) (K : Nat) : List Thing :=
  Cells g #[.map (some b1), .map (some b2)] 51 :: GMap clK b1 K M.length (cmap M) :: GMap idK b2 K L.length (hmap L) :: crowds M L K
structure GIx (L : List Spt) where
  b1 : Nat
  b2 : Nat
  M : List (Cll × Nat)
  nd : (M.map (·.1)).Nodup
  mem : ∀ c, c ∈ M.map (·.1) ↔ crd L c ≠ []
/-- a grid: who is where -/
def Grid (g : Nat) (L : List Spt) (K : Nat) : Thing := Ex (fun x : GIx L => GridX g x.b1 x.b2 x.M L K)
theorem Grid.open {w0 w : World} {l : List Thing} {g K : Nat} {L : List Spt} (h : Own w0 w (Grid g L K :: l)) : ∃ b1 b2 M, (M.map (·.1)).Nodup ∧ (∀ c, c ∈ M.map (·.1) ↔ crd L c ≠ []) ∧ Own w0 w (Cells g #[.map (some b1), .map (some b2)] 51 :: GMap clK b1 K M.length (cmap M) :: GMap idK b2 K L.length (hmap L) :: (crowds M L K ++ l)) := by
  obtain ⟨x, h⟩ := Own.ex_iff.1 h
  exact ⟨x.b1, x.b2, x.M, x.nd, x.mem, h⟩
theorem Grid.shut {w0 w : World} {l : List Thing} {g K b1 b2 : Nat} {L : List Spt} {M : List (Cll × Nat)} (nd : (M.map (·.1)).Nodup) (mem : ∀ c, c ∈ M.map (·.1) ↔ crd L c ≠ []) (h : Own w0 w (Cells g #[.map (some b1), .map (some b2)] 51 :: GMap clK b1 K M.length (cmap M) :: GMap idK b2 K L.length (hmap L) :: (crowds M L K ++ l))) : Own w0 w (Grid g L K :: l) :=
  Own.ex_iff.2 ⟨⟨b1, b2, M, nd, mem⟩, h⟩
theorem lkp_at {M1 M2 : List (Cll × Nat)} {c : Cll} {b : Nat} (nd : ((M1 ++ (c, b) :: M2).map (·.1)).Nodup) (y : Cll) : lkp (M1 ++ (c, b) :: M2) y = if y = c then some b else lkp (M1 ++ M2) y := by
  unfold lkp
  rw [List.map_append, List.map_cons, List.nodup_append] at nd
  obtain ⟨_, h2, h3⟩ := nd
  by_cases e : y = c
  · subst e
    rw [if_pos rfl, List.find?_append]
    have : M1.find? (fun m => decide (m.1 = y)) = none := by
      rw [List.find?_eq_none]
      intro m hm
      have := h3 m.1 (List.mem_map_of_mem hm) y (List.mem_cons_self ..)
      simpa using this
    rw [this]
    simp
  · rw [if_neg e, List.find?_append, List.find?_append]
    have : ¬ c = y := fun q => e q.symm
    simp [this]
theorem lkp_none {M : List (Cll × Nat)} {c : Cll} (h : c ∉ M.map (·.1)) : lkp M c = none := by
  unfold lkp
  rw [Option.map_eq_none_iff, List.find?_eq_none]
  intro m hm
  have : m.1 ≠ c := fun q => h (by rw [← q]; exact List.mem_map_of_mem hm)
  simpa using this
theorem split_at {M : List (Cll × Nat)} {c : Cll} (h : c ∈ M.map (·.1)) : ∃ M1 b M2, M = M1 ++ (c, b) :: M2 := by
  obtain ⟨m, hm, rfl⟩ := List.mem_map.1 h
  obtain ⟨M1, M2, rfl⟩ := List.append_of_mem hm
  exact ⟨M1, m.2, M2, rfl⟩
theorem zeroCll (w : World) : (zeroValue 59).run Tryd.prog w = .ok (.agg #[.int .i64 0, .int .i64 0]) w := by kernel_rfl
theorem zeroCrw (w : World) : (zeroValue 61).run Tryd.prog w = .ok (.map none) w := by kernel_rfl
theorem zeroUnit (w : World) : (zeroValue 62).run Tryd.prog w = .ok (.agg #[]) w := by kernel_rfl
theorem crowds_at {M1 M2 : List (Cll × Nat)} {c : Cll} {b K : Nat} {L : List Spt} : crowds (M1 ++ (c, b) :: M2) L K = crowds M1 L K ++ Crw b K (crd L c) :: crowds M2 L K := by simp [crowds]
theorem crowds_congr {M : List (Cll × Nat)} {L L' : List Spt} {K : Nat} (h : ∀ m ∈ M, crd L' m.1 = crd L m.1) : crowds M L' K = crowds M L K := by
  unfold crowds
  apply List.map_congr_left
  intro m hm
  rw [h m hm]
theorem crd_drop {L : List Spt} (id : Nat) (c : Cll) : crd (dropL L id) c = (crd L c).filter (fun y => decide (y ≠ id)) := by
  unfold crd dropL
  rw [List.filter_map, List.filter_filter, List.filter_filter]
  congr 1
  apply List.filter_congr
  intro t _
  simp [Bool.and_comm]
theorem crd_drop_other {L : List Spt} (h : Rise L) {id : Nat} {c c' : Cll} (hc : hom L id = some c) (hne : c' ≠ c) : crd (dropL L id) c' = crd L c' := by
  rw [crd_drop, List.filter_eq_self]
  intro y hy
  have h1 := (mem_crd_hom h).1 hy
  have : y ≠ id := by
    rintro rfl
    rw [h1] at hc
    exact hne (Option.some.inj hc)
  simpa using this
theorem crd_len_drop {L : List Spt} (h : Rise L) {id : Nat} {c : Cll} (hc : hom L id = some c) : (crd (dropL L id) c).length = (crd L c).length - 1 := by
  rw [crd_drop]
  have hm := (mem_crd_hom h).2 hc
  have hnd := crd_nodup h c
  have := List.length_erase_of_mem hm
  rw [← this, List.Nodup.erase_eq_filter hnd]
  congr 1
  apply List.filter_congr
  intro y _
  by_cases e : y = id <;> simp [e]
/-- delete of a key, its run being told -/
theorem del_run {P : Program} {w w' : World} {ops : Array Oper} {rest : List Oper} {o : Oper} {a : Act} {Q : Exit → Act → World → Prop} (hgd : o.guard = none) (s x : Operand) (t t' : TypeId)
    (ho : o.op = .call { callee := .builtin .delete, args := #[s, x], argTypes := #[t, t'] }) (vs vx : Value) (hs : a.eval s = vs) (hx : a.eval x = vx)
    (hrun : (Builtin.delete_ #[t, t'] o.type #[vs, vx]).run P w = .ok (.tuple #[]) w') (h : wpList P ops Q rest (a.put o.dst (.tuple #[])) w') : wpList P ops Q (o :: rest) a w := by
  refine wpList_plain hgd fun K hK' => ?_
  unfold Oper.wp
  simp [execOp, ho, resolve, invoke, builtin, hs, hx, hrun, Result.andThen]
  exact hK' _ _ h
def GOk (L : List Spt) : Prop := Rise L ∧ ∀ s ∈ L, s.1 < 4294967296 ∧ I32 s.2.1 ∧ I32 s.2.2
theorem GOk.cell {L : List Spt} (h : GOk L) {id : Nat} {c : Cll} (hc : hom L id = some c) : COk c := by
  obtain ⟨s, hs, rfl, rfl⟩ := (hom_some h.1).1 hc
  obtain ⟨_, h1, h2⟩ := h.2 s hs
  have a := cel_lo h1
  have b := cel_lo h2
  unfold COk J64 scl
  constructor <;> (simp only; omega)
theorem GOk.drop {L : List Spt} (h : GOk L) (id : Nat) : GOk (dropL L id) := ⟨h.1.drop id, fun s hs => h.2 s (mem_drop.1 hs).1⟩
set_option maxHeartbeats 4000000 in
theorem gdropNo (w0 w : World) (l : List Thing) (g K : Nat) (L : List Spt) (h : Own w0 w (Grid g L K :: l)) (hL : GOk L) (id : Nat) (hid : id < 4294967296) (hn : hom L id = none) :
    Calls Tryd.prog 18 #[.pointer (some ⟨g, 0, none⟩), .int .u32 (id : Int)] w fun e w' => e = .returned (.int .i64 7) ∧ Own w0 w' (Grid g L K :: l) := by
  have H : Hid (Own w0 w (Grid g L K :: l)) := h
  obtain ⟨b1, b2, M, nd, mem, hO⟩ := Grid.open h
  have q1 := hO.cell 1
  simp at q1
  have hlk := hO.three.gmLook Tryd.underlying49 (zeroCll w) id hid
  have hlk2 : (Instr.lookup 49 (.map (some b2)) (.int .u32 (id : Int)) true).run Tryd.prog w = .ok (.tuple #[.agg #[.int .i64 0, .int .i64 0], .bool false]) w := by
    have e : hmap L id = none := by unfold hmap; rw [hn]; rfl
    rw [e] at hlk
    exact hlk
  clear hO hlk h nd mem
  go_enter Tryd.func18, Tryd.ntmps18
  go_wp2
  go_ret
  exact ⟨rfl, H.out.alloc _⟩
theorem Own.to4 {w0 w : World} {A B C D : Thing} {P : Thing} {l m : List Thing} (h : Own w0 w (A :: B :: C :: D :: (l ++ P :: m))) : Own w0 w (P :: A :: B :: C :: D :: (l ++ m)) := h.perm (List.perm_middle (l₁ := A :: B :: C :: D :: l) (a := P) (l₂ := m))
theorem Own.of4 {w0 w : World} {A B C D : Thing} {P : Thing} {l m : List Thing} (h : Own w0 w (P :: A :: B :: C :: D :: (l ++ m))) : Own w0 w (A :: B :: C :: D :: (l ++ P :: m)) := h.perm (List.perm_middle (l₁ := A :: B :: C :: D :: l) (a := P) (l₂ := m)).symm
theorem crw_drop (C : List Nat) (hnd : C.Nodup) (id : Nat) (hm : id ∈ C) (y : Nat) : (if y = id then none else if y ∈ C then some (Value.agg #[]) else none) = if y ∈ C.filter (fun y => decide (y ≠ id)) then some (Value.agg #[]) else none := by
  by_cases e : y = id <;> simp [e]
set_option maxHeartbeats 8000000 in
theorem gdropC (w0 w : World) (l : List Thing) (g K : Nat) (L : List Spt) (h : Own w0 w (Grid g L K :: l)) (hL : GOk L) (id : Nat) (hid : id < 4294967296) (c : Cll) (hc : hom L id = some c) :
    Calls Tryd.prog 18 #[.pointer (some ⟨g, 0, none⟩), .int .u32 (id : Int)] w fun e w' => e = .returned (.int .i64 0) ∧ Own w0 w' (Grid g (dropL L id) K :: l) := by
  obtain ⟨b1, b2, M, nd, mem, hO⟩ := Grid.open h
  have hcM : c ∈ M.map (·.1) := (mem c).2 (fun e => by have := (mem_crd_hom hL.1).2 hc; rw [e] at this; cases this)
  obtain ⟨M1, bl, M2, rfl⟩ := split_at hcM
  have hcok := hL.cell hc
  have hidc := (mem_crd_hom hL.1).2 hc
  have q1 := hO.cell 1
  simp at q1
  have hlk2 : (Instr.lookup 49 (.map (some b2)) (.int .u32 (id : Int)) true).run Tryd.prog w = .ok (.tuple #[.agg #[.int .i64 c.1, .int .i64 c.2], .bool true]) w := by
    have hlk := hO.three.gmLook Tryd.underlying49 (zeroCll w) id hid
    have e : hmap L id = some (cv c) := by unfold hmap; rw [hc]; rfl
    rw [e] at hlk
    exact hlk
  have hA := hO.allocC #[.int .i64 c.1, .int .i64 c.2] 59
  have q1a := hA.two.cell 1
  simp at q1a
  obtain ⟨w2, hd2, hO2⟩ := hA.four.gmDrop Tryd.underlying49 id hid 0
  have hd2' : ∀ ty, (Builtin.delete_ #[49, 29] ty #[.map (some b2), .int .u32 (id : Int)]).run Tryd.prog (w.alloc (.cells #[.int .i64 c.1, .int .i64 c.2] 59)) = .ok (.tuple #[]) w2 := fun ty => hd2
  have eh : hmap L id = some (cv c) := by unfold hmap; rw [hc]; rfl
  rw [eh, Option.isSome_some, if_pos rfl] at hO2
  have hO2b := Own.gmIs (q := hmap (dropL L id)) hO2 (Nat.le_refl _) (fun y _ => by unfold hmap; rw [hom_drop hL.1]; by_cases e : y = id <;> simp [e])
  have elen : L.length - 1 = (dropL L id).length := by have := len_drop hL.1 hc; omega
  rw [elen] at hO2b
  -- HM' :: B :: g :: CM :: crowds
  rw [crowds_at, List.append_assoc, List.cons_append] at hO2b
  have hO3 := Own.to4 hO2b
  have g0 := hO2b.three.cell 0
  have bB0 := hO2b.two.cell 0
  have bB1 := hO2b.two.cell 1
  simp at g0 bB0 bB1
  have elk : cmap (M1 ++ (c, bl) :: M2) c = some (.map (some bl)) := by unfold cmap; rw [lkp_at nd, if_pos rfl]; rfl
  have hlk3 : (Instr.lookup 48 (.map (some b1)) (.agg #[.int .i64 c.1, .int .i64 c.2]) false).run Tryd.prog w2.drew = .ok (.map (some bl)) w2.drew := by
    have hlk := hO2b.four.drew.gmAt Tryd.underlying48 (zeroCrw _) c hcok
    rw [elk] at hlk
    exact hlk
  obtain ⟨w3, hd3, hO4⟩ := Own.gmDrop (hO3.drew) Tryd.underlying61 id hid 0
  have hd3' : ∀ ty, (Builtin.delete_ #[61, 29] ty #[.map (some bl), .int .u32 (id : Int)]).run Tryd.prog w2.drew = .ok (.tuple #[]) w3 := fun ty => hd3
  rw [if_pos hidc, Option.isSome_some, if_pos rfl, ← crd_len_drop hL.1 hc] at hO4
  have hO5 := Own.gmIs (q := fun y => if y ∈ crd (dropL L id) c then some (Value.agg #[]) else none) hO4 (Nat.le_refl _) (fun y _ => by
    rw [crw_drop _ (crd_nodup hL.1 c) id hidc, crd_drop])
  have hO5' : Own w0 w3 (Crw bl K (crd (dropL L id) c) :: GMap idK b2 K (dropL L id).length (hmap (dropL L id)) :: Cells w.heap.size #[.int .i64 c.1, .int .i64 c.2] 59 :: Cells g #[.map (some b1), .map (some b2)] 51 :: GMap clK b1 K (M1 ++ (c, bl) :: M2).length (cmap (M1 ++ (c, bl) :: M2)) :: (crowds M1 L K ++ (crowds M2 L K ++ l))) := hO5
  have g3 := hO5'.four.cell 0
  have b30 := hO5'.three.cell 0
  have b31 := hO5'.three.cell 1
  simp at g3 b30 b31
  have hlk4 : ∀ k, (Instr.lookup 48 (.map (some b1)) (.agg #[.int .i64 c.1, .int .i64 c.2]) false).run Tryd.prog (w3.drewN k) = .ok (.map (some bl)) (w3.drewN k) := fun k => by
    have hlk := (hO5'.two.tail.four.drewN k).gmAt Tryd.underlying48 (zeroCrw _) c hcok
    rw [elk] at hlk
    exact hlk
  have hln : ∀ k ty, (Builtin.len_ #[61] ty #[.map (some bl)]).run Tryd.prog (w3.drewN k) = .ok (.int .i64 ((crd (dropL L id) c).length : Int)) (w3.drewN k) := fun k ty => Own.gmLen (hO5'.drewN k) Tryd.underlying61 ty
  have hncM : ∀ m ∈ M1 ++ M2, m.1 ≠ c := by
    intro m hm e
    rw [List.map_append, List.map_cons, List.nodup_append] at nd
    obtain ⟨_, n2, n3⟩ := nd
    rcases List.mem_append.1 hm with hm | hm
    · exact n3 m.1 (List.mem_map_of_mem hm) c (List.mem_cons_self ..) e
    · exact (List.nodup_cons.1 n2).1 (List.mem_map.2 ⟨m, hm, e⟩)
  have hcr1 : crowds M1 L K = crowds M1 (dropL L id) K := (crowds_congr (fun m hm => crd_drop_other hL.1 hc (hncM m (List.mem_append_left _ hm)))).symm
  have hcr2 : crowds M2 L K = crowds M2 (dropL L id) K := (crowds_congr (fun m hm => crd_drop_other hL.1 hc (hncM m (List.mem_append_right _ hm)))).symm
  have HO5 : Hid (Own w0 w3 _) := hO5'
  have hmem2 : ∀ y, y ≠ c → (y ∈ (M1 ++ (c, bl) :: M2).map (·.1) ↔ crd (dropL L id) y ≠ []) := fun y hy => by rw [crd_drop_other hL.1 hc hy]; exact mem y
  obtain ⟨nC, hnC⟩ : ∃ nC, nC = (crd (dropL L id) c).length := ⟨_, rfl⟩
  rw [← hnC] at hln
  have HNC : Hid (nC = (crd (dropL L id) c).length) := hnC
  have HFIN : Hid (∀ W, Own w0 W (Crw bl K (crd (dropL L id) c) :: GMap idK b2 K (dropL L id).length (hmap (dropL L id)) :: Cells w.heap.size #[.int .i64 c.1, .int .i64 c.2] 59 :: Cells g #[.map (some b1), .map (some b2)] 51 :: GMap clK b1 K (M1 ++ (c, bl) :: M2).length (cmap (M1 ++ (c, bl) :: M2)) :: (crowds M1 L K ++ (crowds M2 L K ++ l))) → nC ≠ 0 → Own w0 W (Grid g (dropL L id) K :: l)) := by
    intro W hW hn0
    refine Grid.shut (b1 := b1) (b2 := b2) (M := M1 ++ (c, bl) :: M2) nd (fun y => ?_) ?_
    · by_cases e : y = c
      · subst e
        refine ⟨fun _ e2 => hn0 (by rw [hnC, e2]; rfl), fun _ => hcM⟩
      · exact hmem2 y e
    · rw [crowds_at, ← hcr1, ← hcr2, List.append_assoc, List.cons_append]
      have h1 := Own.of4 hW
      exact h1.two.tail.back3
  have HFIN0 : Hid (∀ W, Own w0 W (Crw bl K (crd (dropL L id) c) :: GMap idK b2 K (dropL L id).length (hmap (dropL L id)) :: Cells w.heap.size #[.int .i64 c.1, .int .i64 c.2] 59 :: Cells g #[.map (some b1), .map (some b2)] 51 :: GMap clK b1 K (M1 ++ (c, bl) :: M2).length (cmap (M1 ++ (c, bl) :: M2)) :: (crowds M1 L K ++ (crowds M2 L K ++ l))) → nC = 0 →
      ∃ W', (∀ ty, (Builtin.delete_ #[48, 59] ty #[.map (some b1), .agg #[.int .i64 c.1, .int .i64 c.2]]).run Tryd.prog W = .ok (.tuple #[]) W') ∧ Own w0 W' (Grid g (dropL L id) K :: l)) := by
    intro W hW hn0
    obtain ⟨W', hd, hO'⟩ := Own.gmDrop (hW.tail.four) Tryd.underlying48 c hcok 0
    refine ⟨W', fun ty => hd, ?_⟩
    rw [elk, Option.isSome_some, if_pos rfl] at hO'
    have hO2 := Own.gmIs (q := cmap (M1 ++ M2)) hO' (Nat.le_refl _) (fun y _ => by
      unfold cmap
      rw [lkp_at nd]
      by_cases e : y = c
      · subst e
        rw [if_pos rfl, lkp_none (fun hq => by obtain ⟨m, hm, e⟩ := List.mem_map.1 hq; exact hncM m hm e)]
        rfl
      · simp [e])
    have el : (M1 ++ (c, bl) :: M2).length - 1 = (M1 ++ M2).length := by simp
    rw [el] at hO2
    refine Grid.shut (b1 := b1) (b2 := b2) (M := M1 ++ M2) ?_ (fun y => ?_) ?_
    · have := nd
      rw [List.map_append, List.map_cons] at this
      rw [List.map_append]
      exact (List.nodup_cons.1 ((List.perm_middle.nodup_iff).1 this)).2
    · have hcc : crd (dropL L id) c = [] := List.eq_nil_of_length_eq_zero (by rw [← hnC]; exact hn0)
      by_cases e : y = c
      · subst e
        rw [hcc]
        simp only [ne_eq, not_true_eq_false, iff_false]
        intro hq
        obtain ⟨m, hm, e⟩ := List.mem_map.1 hq
        exact hncM m hm e
      · rw [← hmem2 y e]
        simp [e]
    · have ec : crowds (M1 ++ M2) (dropL L id) K = crowds M1 L K ++ crowds M2 L K := by rw [hcr1, hcr2]; simp [crowds]
      rw [ec, List.append_assoc]
      exact hO2.three.tail.three
  clear hO hA hO2 hO2b hO3 hO4 hO5 hO5' nd mem hcM hmem2 hncM hcr1 hcr2 elk eh elen hidc hc hL hd2 hd3 h hnC hcok
  clear hid
  go_enter Tryd.func18, Tryd.ntmps18
  go_wp2_with (at_delete; refine del_run rfl _ _ _ _ rfl _ _ rfl rfl (hd2' _) ?_)
  go_wp2
  go_region
  all_goals
    clear hd2' hd3' hlk2 hlk3 q1 q1a g0 bB0 bB1
    go_wp2
    go_quiet (fail)
    generalize hWg : w3.drewN nq = W4
    have hO6 := HO5.out.drewN nq
    rw [hWg] at hO6
    clear hWg hlk4 hln g3 b30 b31
    by_cases hn0 : nC = 0
    · obtain ⟨W5, hdl, hOF⟩ := HFIN0.out W4.drew hO6.drew hn0
      have g4 := hO6.four.cell 0
      have b40 := hO6.three.cell 0
      have b41 := hO6.three.cell 1
      simp at g4 b40 b41
      have HOF : Hid (Own w0 W5 _) := hOF
      clear hO6 hOF
      subst hn0
      go_wp2
      go_region
      all_goals
        go_wp2
        go_ret
        exact ⟨rfl, HOF.out⟩
    · have HOF : Hid (Own w0 W4 _) := HFIN.out W4 hO6 hn0
      have hn0' : ((nC : Int) == 0) = false := by rw [beq_eq_false_iff_ne]; omega
      clear hO6
      go_wp2
      go_ret
      exact ⟨rfl, HOF.out⟩
end Go.Proofs.YthokgjkgfolojabDoor
