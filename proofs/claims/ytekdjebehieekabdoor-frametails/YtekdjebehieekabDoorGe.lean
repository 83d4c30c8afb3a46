/-
  Seal of package frame.
-/
import Derived.Test.YtekdjebehieekabDoorGc
namespace Go.Proofs.YtekdjebehieekabDoor
open Go.RowKit
set_option linter.unusedVariables false

/-- four bytes of a number, the lowest first -/
def le4 (s : Nat) : List Nat := [s % 256, s / 256 % 256, s / 65536 % 256, s / 16777216 % 256]
theorem le4_byte (s : Nat) : ∀ x ∈ le4 s, x < 256 := by
  intro x hx
  simp only [le4, List.mem_cons, List.not_mem_nil, or_false] at hx
  rcases hx with rfl | rfl | rfl | rfl <;> omega
theorem bnum_le4 (s : Nat) (h : s < 4294967296) : bnum (le4 s) = s := by simp only [le4, bnum]; omega
theorem le4_at (s k : Nat) (hk : k < 4) : (le4 s)[k]? = some (s / 2 ^ (8 * k) % 256) := by
  match k, hk with
  | 0, _ => simp [le4]
  | 1, _ => rfl
  | 2, _ => rfl
  | 3, _ => rfl
  | n + 4, h => exact absurd h (by omega)

theorem make_room (n : Nat) (hn : n ≤ 100000) (u : World) : (Instr.makeSlice 22 (.int .i64 0) (.int .i64 (n : Int))).run Tryd.prog u =
      .ok (.slice (some ⟨u.heap.size, 0, none⟩) 0 n) (u.alloc (.cells (madeCells #[.int .u8 0] n) 5)) := by
  obtain ⟨i0, hi, hz0, hz1, hz2⟩ := info_parts Tryd.infoB
  have h := run_make (P := Tryd.prog) u 22 5 i0 (.int .u8 0) Tryd.underlying22 hi hz0 .i64 .i64 (0 : Int) (n : Int) (by omega) (by omega) (by rw [hz2]; omega) (by omega)
  simpa [hz1, Value.cells] using h
/-- the copy of bytes into room that was made for them -/
theorem copy_room {w : World} {ops : Array Oper} {rest : List Oper} {o : Oper} {a : Act} {Q : Exit → Act → World → Prop} (hgd : o.guard = none) (s x : Operand)
    (ho : o.op = .call { callee := .builtin .append, args := #[s, x], argTypes := #[22, 22] }) (ao : Option Addr) (m cap n : Nat) (P : List Nat) (h : Src w (.slice ao m cap) P.length (vrow P)) (hm : P.length = m) (hL : n ≤ 100000) (hmn : m ≤ n)
    (hs : a.eval s = .slice (some ⟨w.heap.size, 0, none⟩) 0 n) (hx : a.eval x = .slice ao m cap)
    (hK : ∀ v' w', w'.ownsRow w.heap.size 5 1 v' m (vrow P) → Fr Nobody w w' → wpList Tryd.prog ops Q rest (a.put o.dst v') w') :
    wpList Tryd.prog ops Q (o :: rest) a (w.alloc (.cells (madeCells #[.int .u8 0] n) 5)) := by
  obtain ⟨i0, hi, hz0, hz1, hz2⟩ := info_parts Tryd.infoB
  have hown := World.ownsRow_made (e := 5) (size := 1) (base := w.heap.size) w (madeCells #[.int .u8 0] n) n (Nat.le_refl _) (by unfold maxLen; omega) (by rw [size_madeCells, Nat.mul_one])
  have hfr : Fr Nobody w (w.alloc (.cells (madeCells #[.int .u8 0] n) 5)) := (Fr.refl _ w).alloc _
  rcases h with ⟨hv, h0, h00⟩ | ⟨a', cap', hv, hl, hc⟩
  · have hP0 : P = [] := List.eq_nil_of_length_eq_zero h0
    subst hP0
    subst hm
    rw [hv] at hx
    refine wpList_plain hgd fun K hK' => ?_
    have hr := run_append_owned_none (P := Tryd.prog) (w.alloc (.cells (madeCells #[.int .u8 0] n) 5)) w.heap.size 22 o.type 5 i0 1 Tryd.underlying22 hi _ 0 [] hown
    unfold Oper.wp
    simp [execOp, ho, resolve, invoke, builtin, hs, hx, hr, Result.andThen]
    exact hK' _ _ (hK _ _ hown hfr)
  · simp only [Value.slice.injEq] at hv
    obtain ⟨rfl, _, rfl⟩ := hv
    refine wpList_append_own (w.alloc (.cells (madeCells #[.int .u8 0] n) 5)) hgd s x 22 ho w.heap.size 5 i0 (.int .u8 0) 1 1 Tryd.underlying22 hi hz0 hz1 hz2 rfl (by decide) _ 0 [] hs hown a' m cap (vrow P) hx (by rw [length_vrow]; omega) (fun j u hu => Lib.cell?_alloc_some _ (hc j u hu)) (one_vrow P) (by unfold maxLen; omega) (by omega) (by simp) ?_
    intro v' w' ho' hg' _
    exact hK v' w' (by simpa using ho') (hfr.grown hg' (by intro k hk; simp [Value.ownBlock] at hk; omega))

/-- a frame: the body, and its sum behind it -/
def frm (P : List Nat) : List Nat := P ++ le4 (crc P)
theorem length_frm (P : List Nat) : (frm P).length = P.length + 4 := by simp [frm, le4]
theorem frm_byte (P : List Nat) (h : ∀ x ∈ P, x < 256) : ∀ x ∈ frm P, x < 256 := by
  intro x hx
  rcases List.mem_append.1 hx with hx | hx
  · exact h x hx
  · exact le4_byte _ x hx

end Go.Proofs.YtekdjebehieekabDoor
