/-
  The IDs of a crowd, put behind others: maps.Keys, slices.AppendSeq.
-/
import Derived.Test.YthokgjkgfolojabDoorMpb
import Derived.Test.YthokgjkgfolojabDoorCed
namespace Go.Proofs.YthokgjkgfolojabDoor
open Go.RowKit Go.Maps Go.Shelf
set_option linter.unusedVariables false
set_option maxRecDepth 100000
attribute [local go_sem] Oper.semAt_some

theorem Own.rgLeft {P : Program} {k : TypeId} {κ : Type} {S : Keys P k κ} {w0 w : World} {l : List Thing} {b r cnt : Nat} {p : κ → Option Value} {left : κ → Prop} {o o' : Obj} (h : Own w0 w (Objt b o :: Objt r o' :: l)) (hR : Rng S b r p o o' left cnt) : w.rangeLeft b r = cnt := by
  obtain ⟨n, D, lf, hRr, _⟩ := hR w h.objt h.two.objt
  exact hRr.left_eq
set_option maxHeartbeats 1000000 in
theorem keys_ok (w0 w : World) (l : List Thing) (h : Own w0 w l) (p : Option Nat) :
    Calls Tryd.prog 29 #[.map p] w fun e w' => e = .returned (.func (.func 34) #[] #[.pointer (some ⟨w.heap.size, 0, none⟩)]) ∧ Own w0 w' (Cells w.heap.size #[.map p] 61 :: l) ∧ w'.heap.size = w.heap.size + 1 := by
  have H : Hid (Own w0 _ _) := h.allocC #[.map p] 61
  clear h
  go_enter Tryd.func29, Tryd.ntmps29
  go_wp2
  go_ret
  exact ⟨rfl, H.out, by simp⟩
/-- what has come so far -/
def pfx (C xs : List Nat) : Prop := xs.Nodup ∧ ∀ y ∈ xs, y ∈ C
def whl (C xs : List Nat) : Prop := xs.Nodup ∧ ∀ y, y ∈ xs ↔ y ∈ C
set_option maxHeartbeats 4000000 in
theorem keys_seq (w0 : World) (b K : Nat) (C : List Nat) (o : Obj) (ho : ∀ (v0 v : World) (m : List Thing), Own v0 v (Objt b o :: m) → Own v0 v (Crw b K C :: m)) (h32 : ∀ y ∈ C, y < 4294967296) (B : Nat) (Z Y : List Nat → List Thing) :
    Seq 3 Tryd.prog 34 #[.pointer (some ⟨B, 0, none⟩)] w0 (fun id : Nat => #[.int .u32 (id : Int)]) (fun pre => Cells B #[.map (some b)] 61 :: Objt b o :: Z pre) Y (pfx C) (whl C) (fun _ => True) := by
  intro l R R2 W hY hO
  have HY : Hid _ := hY
  have q0 := Own.cell hO 0
  simp at q0
  obtain ⟨W1, o', hrun, hO1, hR1⟩ := Own.rgStart (S := idK) (t := 61) (e := 62) (show Own w0 W (Objt b o :: _) from Own.two hO) ho Tryd.underlying61
  obtain ⟨r, hr⟩ : ∃ r, r = W.heap.size := ⟨_, rfl⟩
  rw [← hr] at hrun hO1 hR1
  have H1 : Hid (Own w0 W1 (Objt b o :: Objt r o' :: (Cells B #[.map (some b)] 61 :: (Z [] ++ R)))) := hO1
  have HR1 : Hid (Rng idK b r _ o o' _ _) := hR1
  clear hY hO hO1 hR1 hr ho
  refine callsIn_of_wp Tryd.func34 rfl trivial ?_ rfl
  simp only [Tryd.ntmps34, List.size_toArray, List.length_cons, List.length_nil, Nat.reduceAdd, Nat.reduceSub, Array.replicate_succ, Array.replicate_zero, List.push_toArray, List.append_toArray, List.nil_append, List.cons_append]
  gi_wp2
  gi_loopw [3] (fun _ wr => ∃ (pre : List Nat) (o'' : Obj) (cnt : Nat), pfx C pre ∧ Rng idK b r (fun id => if id ∈ C then some (Value.agg #[]) else none) o o'' (fun y => y ∈ C ∧ y ∉ pre) cnt ∧ Own w0 wr (Objt b o :: Objt r o'' :: (Cells B #[.map (some b)] 61 :: (Z pre ++ R)))) (fun _ wr => wr.rangeLeft b r)
  case atStart =>
    refine ⟨[], o', C.length, ⟨List.nodup_nil, fun y hy => by cases hy⟩, ?_, H1.out⟩
    have e : (fun x : Nat => ((if x ∈ C then some (Value.agg #[]) else none : Option Value)).isSome = true) = fun y => y ∈ C ∧ y ∉ ([] : List Nat) := by
      funext y
      by_cases hy : y ∈ C <;> simp [hy]
    rw [← e]
    exact HR1.out
  case round =>
    obtain ⟨pre, o2, cnt, hpre, hR, hO⟩ := hrel
    have HPR : Hid (pfx C pre) := hpre
    have HM0 : Hid (wr.rangeLeft b r = cnt) := hO.rgLeft hR
    clear H1 HR1
    rcases Own.rgNext hO hR 0 with ⟨h0, hall, hnx⟩ | ⟨id, v, w2, o3, cnt', hid, ⟨hidC, hidp⟩, hpv, hnx, hent, hlt, hO2, hR2⟩
    · have HO : Hid (Own w0 wr _) := hO
      have HAL : Hid (∀ x, x < 4294967296 → ¬ (x ∈ C ∧ x ∉ pre)) := hall
      have hnx' : ∀ ty, (Instr.next (.pointer (some ⟨r, 0, none⟩)) false ty).run Tryd.prog wr = .ok (.tuple #[.bool false]) wr := fun ty => hnx
      clear hO hR hall hnx
      gi_wp2
      go_end0
      refine ⟨⟨_, rfl⟩, .inl ⟨pre, ⟨HPR.out.1, fun y => ⟨HPR.out.2 y, fun hy => ?_⟩⟩, ?_⟩⟩
      · by_cases hp : y ∈ pre
        · exact hp
        · exact absurd ⟨hy, hp⟩ (HAL.out y (h32 y hy))
      · exact (HO.out.two.tail).two
    · have hv : v = .agg #[] := by
        have e := hpv
        simp only [hidC, if_true] at e
        exact (Option.some.inj e).symm
      subst hv
      have hG : pfx C (pre ++ [id]) := by
        refine ⟨List.nodup_append.2 ⟨hpre.1, by simp, fun a ha b hb => ?_⟩, fun y hy => ?_⟩
        · simp at hb
          subst hb
          exact fun e => hidp (by rw [← e]; exact ha)
        · rcases List.mem_append.1 hy with hy | hy
          · exact hpre.2 y hy
          · simp at hy
            subst hy
            exact hidC
      have hO4 : Own w0 w2 ((Cells B #[.map (some b)] 61 :: Objt b o :: Z pre) ++ ([Objt r o3] ++ R)) := by
        have h1 := hO2.two
        exact (Own.sink (l := Objt b o :: Cells B #[.map (some b)] 61 :: Z pre) (m := R) h1).two
      obtain ⟨fn, tmps, assign, body, hy, hRn⟩ := HY.out pre id w2 [Objt r o3] hG hO4
      have hnx' : ∀ ty, (Instr.next (.pointer (some ⟨r, 0, none⟩)) false ty).run Tryd.prog wr = .ok (.tuple #[.bool true, .int .u32 (id : Int), .agg #[]]) w2 := fun ty => hnx
      have hent' : (Instr.entry (.pointer (some ⟨r, 0, none⟩))).run Tryd.prog w2 = .ok (.tuple #[.int .u32 (id : Int), .agg #[]]) w2 := hent
      have HR2 : Hid (Rng idK b r _ o o3 (fun y => (y ∈ C ∧ y ∉ pre) ∧ y ≠ id) cnt') := hR2
      have HG : Hid (pfx C (pre ++ [id])) := hG
      have HLT : Hid (cnt' < cnt) := hlt
      clear hO hR hnx hent hO2 hR2 hG hlt hO4 hpv hid hidC hidp hpre
      gi_wp2
      refine hRn.mono ?_
      rintro e w4 (⟨rfl, hO4⟩ | ⟨rfl, hO4⟩)
      · have H4 : Hid (Own w0 w4 ((Cells B #[.map (some b)] 61 :: Objt b o :: Z (pre ++ [id])) ++ ([Objt r o3] ++ R))) := hO4
        clear hO4 hRn hy hnx' hent'
        gi_wp2
        have h5 : Own w0 w4 (Objt b o :: Objt r o3 :: (Cells B #[.map (some b)] 61 :: (Z (pre ++ [id]) ++ R))) := by
          have h1 := Own.two H4.out
          exact (Own.lift (l := Objt b o :: Cells B #[.map (some b)] 61 :: Z (pre ++ [id])) (m := R) h1).two
        have hR5 : Rng idK b r (fun id => if id ∈ C then some (Value.agg #[]) else none) o o3 (fun y => y ∈ C ∧ y ∉ pre ++ [id]) cnt' := by
          have e : (fun y => (y ∈ C ∧ y ∉ pre) ∧ y ≠ id) = fun y => y ∈ C ∧ y ∉ pre ++ [id] := by
            funext y
            simp [and_assoc]
          rw [← e]
          exact HR2.out
        refine ⟨⟨pre ++ [id], o3, cnt', HG.out, hR5, h5⟩, ?_⟩
        rw [HM0.out, h5.rgLeft hR5]
        exact HLT.out
      · have H4 : Hid (Own w0 w4 (Y (pre ++ [id]) ++ ([Objt r o3] ++ R2))) := hO4
        clear hO4 hRn hy hnx' hent'
        gi_wp2
        refine bodyPost_ret (results_none rfl _ _ _) rfl ?_
        refine ⟨⟨_, rfl⟩, .inr ⟨pre ++ [id], trivial, ?_⟩⟩
        exact (Own.pull (T := []) (B := R2) H4.out).tail
end Go.Proofs.YthokgjkgfolojabDoor
