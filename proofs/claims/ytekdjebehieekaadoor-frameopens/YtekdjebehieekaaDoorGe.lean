/-
  Seal of package frame.
-/
import Derived.Test.YtekdjebehieekaaDoorGc
namespace Go.Proofs.YtekdjebehieekaaDoor
open Go.RowKit
set_option linter.unusedVariables false

/-- four bytes of a number, the lowest first -/
def le4 (s : Nat) : List Nat := [s % 256, s / 256 % 256, s / 65536 % 256, s / 16777216 % 256]
theorem le4_byte (s : Nat) : ∀ x ∈ le4 s, x < 256 := by
  intro x hx
  simp only [le4, List.mem_cons, List.not_mem_nil, or_false] at hx
  rcases hx with rfl | rfl | rfl | rfl <;> omega
theorem bnum_le4 (s : Nat) (h : s < 4294967296) : bnum (le4 s) = s := by simp only [le4, bnum]; omega
theorem le4_at (s k : Nat) (hk : k < 4) : (le4 s)[k]? = some (s / 2 ^ (8 * k) % 256) := by
  match k, hk with
  | 0, _ => simp [le4]
  | 1, _ => rfl
  | 2, _ => rfl
  | 3, _ => rfl
  | n + 4, h => exact absurd h (by omega)

set_option maxHeartbeats 400000 in
theorem seal_long (w : World) (ao : Option Addr) (cap len : Nat) (h : 4096 < len) (hmax : len ≤ maxLen) :
    Calls Tryd.prog 14 #[.slice ao len cap] w fun e w' => e = .returned (.tuple #[.slice none 0 0, .int .i64 3]) ∧ w' = w := by
  unfold maxLen at hmax
  go_enter Tryd.func14, Tryd.ntmps14
  go_wp2
  go_ret2
  exact ⟨rfl, rfl⟩

theorem make_room (n : Nat) (hn : n ≤ 100000) (u : World) : (Instr.makeSlice 22 (.int .i64 0) (.int .i64 (n : Int))).run Tryd.prog u =
      .ok (.slice (some ⟨u.heap.size, 0, none⟩) 0 n) (u.alloc (.cells (madeCells #[.int .u8 0] n) 5)) := by
  obtain ⟨i0, hi, hz0, hz1, hz2⟩ := info_parts Tryd.infoB
  have h := run_make (P := Tryd.prog) u 22 5 i0 (.int .u8 0) Tryd.underlying22 hi hz0 .i64 .i64 (0 : Int) (n : Int) (by omega) (by omega) (by rw [hz2]; omega) (by omega)
  simpa [hz1, Value.cells] using h
/-- the copy of bytes into room that was made for them -/
theorem copy_room {w : World} {ops : Array Oper} {rest : List Oper} {o : Oper} {a : Act} {Q : Exit → Act → World → Prop} (hgd : o.guard = none) (s x : Operand)
    (ho : o.op = .call { callee := .builtin .append, args := #[s, x], argTypes := #[22, 22] }) (ao : Option Addr) (m cap n : Nat) (P : List Nat) (h : Src w (.slice ao m cap) P.length (vrow P)) (hm : P.length = m) (hL : n ≤ 100000) (hmn : m ≤ n)
    (hs : a.eval s = .slice (some ⟨w.heap.size, 0, none⟩) 0 n) (hx : a.eval x = .slice ao m cap)
    (hK : ∀ v' w', w'.ownsRow w.heap.size 5 1 v' m (vrow P) → Fr Nobody w w' → wpList Tryd.prog ops Q rest (a.put o.dst v') w') :
    wpList Tryd.prog ops Q (o :: rest) a (w.alloc (.cells (madeCells #[.int .u8 0] n) 5)) := by
  obtain ⟨i0, hi, hz0, hz1, hz2⟩ := info_parts Tryd.infoB
  have hown := World.ownsRow_made (e := 5) (size := 1) (base := w.heap.size) w (madeCells #[.int .u8 0] n) n (Nat.le_refl _) (by unfold maxLen; omega) (by rw [size_madeCells, Nat.mul_one])
  have hfr : Fr Nobody w (w.alloc (.cells (madeCells #[.int .u8 0] n) 5)) := (Fr.refl _ w).alloc _
  rcases h with ⟨hv, h0, h00⟩ | ⟨a', cap', hv, hl, hc⟩
  · have hP0 : P = [] := List.eq_nil_of_length_eq_zero h0
    subst hP0
    subst hm
    rw [hv] at hx
    refine wpList_plain hgd fun K hK' => ?_
    have hr := run_append_owned_none (P := Tryd.prog) (w.alloc (.cells (madeCells #[.int .u8 0] n) 5)) w.heap.size 22 o.type 5 i0 1 Tryd.underlying22 hi _ 0 [] hown
    unfold Oper.wp
    simp [execOp, ho, resolve, invoke, builtin, hs, hx, hr, Result.andThen]
    exact hK' _ _ (hK _ _ hown hfr)
  · simp only [Value.slice.injEq] at hv
    obtain ⟨rfl, _, rfl⟩ := hv
    refine wpList_append_own (w.alloc (.cells (madeCells #[.int .u8 0] n) 5)) hgd s x 22 ho w.heap.size 5 i0 (.int .u8 0) 1 1 Tryd.underlying22 hi hz0 hz1 hz2 rfl (by decide) _ 0 [] hs hown a' m cap (vrow P) hx (by rw [length_vrow]; omega) (fun j u hu => Lib.cell?_alloc_some _ (hc j u hu)) (one_vrow P) (by unfold maxLen; omega) (by omega) (by simp) ?_
    intro v' w' ho' hg' _
    exact hK v' w' (by simpa using ho') (hfr.grown hg' (by intro k hk; simp [Value.ownBlock] at hk; omega))

/-- a frame: the body, and its sum behind it -/
def frm (P : List Nat) : List Nat := P ++ le4 (crc P)
theorem length_frm (P : List Nat) : (frm P).length = P.length + 4 := by simp [frm, le4]
theorem frm_byte (P : List Nat) (h : ∀ x ∈ P, x < 256) : ∀ x ∈ frm P, x < 256 := by
  intro x hx
  rcases List.mem_append.1 hx with hx | hx
  · exact h x hx
  · exact le4_byte _ x hx

set_option maxHeartbeats 1000000 in
theorem seal_ok (w : World) (ao : Option Addr) (cap len : Nat) (P : List Nat) (h : In w ao len cap P) (hL : len ≤ 4096) (ht : Tab w) :
    Calls Tryd.prog 14 #[.slice ao len cap] w fun e w' => ∃ g cp, e = .returned (.tuple #[.slice (some ⟨g, 0, none⟩) (len + 4) cp, .int .i64 0]) ∧ w'.ownsRow w.heap.size 5 1 (.slice (some ⟨g, 0, none⟩) (len + 4) cp) (len + 4) (vrow (frm P)) ∧ Fr Nobody w w' := by
  obtain ⟨i0, hi, hz0, hz1, hz2⟩ := info_parts Tryd.infoB
  have hmk := make_room (len + 4) (by omega)
  have hcast : ((len + 4 : Nat) : Int) = (len : Int) + 4 := by omega
  rw [hcast] at hmk
  have HI : Hid (In w ao len cap P) := h
  have HT : Hid (Tab w) := ht
  clear h ht hcast
  go_enter Tryd.func14, Tryd.ntmps14
  go_wp2_with (at_builtin; refine copy_room rfl _ _ rfl ao len cap (len + 4) P HI.out.src HI.out.eqn (by omega) (by omega) rfl rfl ?_)
  clear hmk
  intro v1 w1 ho1 hf1
  have H1 : Hid (w1.ownsRow w.heap.size 5 1 v1 len (vrow P) ∧ Fr Nobody w w1) := ⟨ho1, hf1⟩
  clear ho1 hf1
  go_wp2_with fail
  refine (sum_in _ _ _ _ _ (HI.out.quiet H1.out.2) (by omega) (HT.out.quiet H1.out.2)).mono ?_
  rintro e w2 ⟨rfl, rfl⟩
  have hc := crc_lt P
  have HC : Hid (frm P = P ++ le4 (crc P)) := rfl
  generalize crc P = c at *
  go_wp2
  go_loopw [4, 18] (fun u cc wr => ∃ k : Nat, k ≤ 4 ∧ cc = .int .i64 k ∧ wr.ownsRow w.heap.size 5 1 u (len + k) (vrow (P ++ (le4 c).take k)) ∧ Fr Nobody w wr) (fun _ cc _ => 4 - (intOf cc).toNat)
  case atStart => exact ⟨0, by omega, rfl, by simpa using H1.out.1, H1.out.2⟩
  case round =>
    obtain ⟨k, hk, rfl, ho, hf⟩ := hrel
    have HO : Hid (wr.ownsRow w.heap.size 5 1 u4 (len + k) (vrow (P ++ (le4 c).take k)) ∧ Fr Nobody w wr) := ⟨ho, hf⟩
    clear ho hf
    by_cases hlt : k < 4
    · have HV : Hid (vrow (P ++ (le4 c).take k) ++ [.int .u8 ((c : Int) / 2 ^ (8 * k) % 256)] = vrow (P ++ (le4 c).take (k + 1))) := by
        show _ = _
        rw [List.take_add_one, le4_at c k hlt]
        simp [vrow]
      have hsz := HO.out.2.size
      go_wp2_with (at_builtin; refine wpList_append_own _ rfl _ _ 22 rfl w.heap.size 5 i0 (.int .u8 0) 1 1 Tryd.underlying22 hi hz0 hz1 hz2 rfl (by decide) _ _ _ rfl (HO.out.1.alloc _) ⟨wr.heap.size, 0, none⟩ 1 1 [.int .u8 ((c : Int) / 2 ^ (8 * k) % 256)] rfl rfl (cell_one_new _ _ _) (one_int _ _) (by unfold maxLen; omega) (by omega) (by simp; omega) ?_)
      intro v2 w3 ho2 hg2 _
      have H3 : Hid (w3.ownsRow w.heap.size 5 1 v2 (len + (k + 1)) (vrow (P ++ (le4 c).take (k + 1))) ∧ Fr Nobody w w3) := by
        refine ⟨?_, (HO.out.2.alloc _).grown hg2 (fun q hq => .inr (HO.out.1.lt q hq).1)⟩
        rw [← HV.out]
        exact ho2
      clear ho2 hg2
      go_wp2
      exact ⟨⟨k + 1, by omega, by go_num, H3.out.1, H3.out.2⟩, by simp [intOf]; omega⟩
    · have e : k = 4 := by omega
      subst e
      obtain ⟨g, cp, hv, hg⟩ := row_shape HO.out.1 (by omega)
      subst hv
      go_wp2
      go_ret2
      refine ⟨g, cp, rfl, ?_, HO.out.2⟩
      have h2 := HO.out.1
      rw [HC.out]
      exact h2
end Go.Proofs.YtekdjebehieekaaDoor
