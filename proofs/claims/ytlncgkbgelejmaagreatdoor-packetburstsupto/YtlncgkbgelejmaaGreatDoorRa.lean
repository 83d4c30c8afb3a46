/-
  The document's side of layer 1: lists of bits in memory, and Put on them.
-/
import Derived.Test.YtlncgkbgelejmaaGreatDoorWg
namespace Go.Proofs.YtlncgkbgelejmaaGreatDoor
open Go.RowKit
set_option linter.unusedVariables false
set_option maxRecDepth 100000

/-- A slice that reads as the bits L: nil, or cells of a row of bools. -/
def Bs (w : World) (v : Value) (L : List Bool) : Prop :=
  (v = .slice none 0 0 ∧ L = []) ∨ ∃ g o cap cur, v = .slice (some ⟨g, o, none⟩) L.length cap ∧ L.length ≤ cap ∧ w.heap[g]? = some (.cells cur 4 (0, 0)) ∧ ∀ j u, (brow L)[j]? = some u → cur[o + j]? = some u

theorem Bs.src {w : World} {v : Value} {L : List Bool} (h : Bs w v L) : Src w v L.length (brow L) := by
  rcases h with ⟨rfl, rfl⟩ | ⟨g, o, cap, cur, rfl, _, hg, hc⟩
  · left; exact ⟨rfl, rfl, rfl⟩
  · right
    refine ⟨_, _, rfl, length_brow L, fun j u hu => ?_⟩
    rw [addr_add, cell_of_row w g _ cur 4 (0, 0) hg]
    exact hc j u hu
theorem Bs.of_row {w : World} {v : Value} {L : List Bool} (h : w.ownsRow 0 4 1 v L.length (brow L)) : Bs w v L := by
  rcases h.2 with ⟨rfl, h0⟩ | ⟨g, cap, cur, rfl, _, hg, hn, _, hs, ht⟩
  · left; exact ⟨rfl, List.eq_nil_of_length_eq_zero h0⟩
  · right
    refine ⟨g, 0, cap, cur, rfl, hn, hg, fun j u hu => ?_⟩
    rw [← ht, List.getElem?_take] at hu
    split at hu
    · simpa using hu
    · cases hu
/-- It stays while only other blocks turn. -/
theorem Bs.keep {S : Nat → Prop} {w w' : World} {v : Value} {L : List Bool} (h : Bs w v L) (hf : Fr S w w') (hs : ∀ k cur, w.heap[k]? = some (.cells cur 4 (0, 0)) → ¬ S k) : Bs w' v L := by
  rcases h with hn | ⟨g, o, cap, cur, rfl, hn, hg, hc⟩
  · exact .inl hn
  · refine .inr ⟨g, o, cap, cur, rfl, hn, ?_, hc⟩
    rw [hf.block g (Array.getElem?_eq_some_iff.1 hg).1 (hs g cur hg)]
    exact hg
theorem Bs.quiet {w w' : World} {v : Value} {L : List Bool} (h : Bs w v L) (hf : Fr Nobody w w') : Bs w' v L := h.keep hf (fun _ _ _ => id)
/-- No block of a writer is a row of bools. -/
theorem Wr.apart {B : Nat} {w : World} {b : Nat} {g : Option Nat} {M : List Bool} (h : Wr B w b g M) : ∀ k cur, w.heap[k]? = some (.cells cur 4 (0, 0)) → ¬ At b g k := by
  obtain ⟨v, hb, ho, hv⟩ := h.obj
  rintro k cur hk (e | e)
  · subst e; rw [hb] at hk; simp at hk
  · rcases ho.2 with ⟨rfl, _⟩ | ⟨g', cap, cur', rfl, _, hg, _⟩
    · rw [← hv] at e; simp [Value.ownBlock] at e
    · rw [← hv] at e
      simp [Value.ownBlock] at e
      subst e
      rw [hg] at hk; simp at hk
theorem Rd.apart {B : Nat} {w : World} {b : Nat} {g : Option Nat} {P : List Nat} {t : Nat} (h : Rd B w b g P t) : ∀ k cur, w.heap[k]? = some (.cells cur 4 (0, 0)) → ¬ At b g k := by
  obtain ⟨v, hb, ho, hv⟩ := h.obj
  rintro k cur hk (e | e)
  · subst e; rw [hb] at hk; simp at hk
  · rcases ho.2 with ⟨rfl, _⟩ | ⟨g', cap, cur', rfl, _, hg, _⟩
    · rw [← hv] at e; simp [Value.ownBlock] at e
    · rw [← hv] at e
      simp [Value.ownBlock] at e
      subst e
      rw [hg] at hk; simp at hk

/-- A slice of bools of the call's own, from block B on. -/
def Bo (B : Nat) (w : World) (v : Value) (L : List Bool) : Prop := w.ownsRow B 4 1 v L.length (brow L)
theorem row_low {w : World} {B B' : Nat} {e : TypeId} {size n : Nat} {v : Value} {xs : List Value} (h : w.ownsRow B e size v n xs) (hB : B' ≤ B) : w.ownsRow B' e size v n xs := by
  refine ⟨h.1, ?_⟩
  rcases h.2 with hn | ⟨g, cap, cur, rfl, hb, rest⟩
  · exact .inl hn
  · exact .inr ⟨g, cap, cur, rfl, Nat.le_trans hB hb, rest⟩
theorem Bo.low {B B' : Nat} {w : World} {v : Value} {L : List Bool} (h : Bo B w v L) (hB : B' ≤ B) : Bo B' w v L := row_low h hB
theorem Bo.bs {B : Nat} {w : World} {v : Value} {L : List Bool} (h : Bo B w v L) : Bs w v L := Bs.of_row (row_low h (Nat.zero_le _))
theorem Bo.keep {S : Nat → Prop} {B : Nat} {w w' : World} {v : Value} {L : List Bool} (h : Bo B w v L) (hf : Fr S w w') (hs : ∀ k cur, w.heap[k]? = some (.cells cur 4 (0, 0)) → ¬ S k) : Bo B w' v L := by
  refine hf.row h (fun k hk => ?_)
  rcases h.2 with ⟨rfl, _⟩ | ⟨g, cap, cur, rfl, _, hg, _⟩
  · simp [Value.ownBlock] at hk
  · simp [Value.ownBlock] at hk
    subst hk
    exact hs _ cur hg
theorem Bo.quiet {B : Nat} {w w' : World} {v : Value} {L : List Bool} (h : Bo B w v L) (hf : Fr Nobody w w') : Bo B w' v L := h.keep hf (fun _ _ _ => id)
theorem Bo.nil (B : Nat) (w : World) : Bo B w (.slice none 0 0) [] := World.ownsRow_nil _ _ _ _

set_option maxHeartbeats 400000 in
theorem rput_arg (w : World) (v : Value) (x n : Int) (h : n < 0 ∨ 64 < n) : Calls Tryz.prog 22 #[v, .int .u64 x, .int .i64 n] w fun e w' => e = .returned (.tuple #[v, .int .i64 1]) ∧ w' = w := by
  rcases h with h | h
  · go_enter Tryz.func22, Tryz.ntmps22
    go_wp2
    go_ret2
    exact ⟨rfl, rfl⟩
  · have h0 : ¬ n < 0 := by omega
    go_enter Tryz.func22, Tryz.ntmps22
    go_wp2
    go_ret2
    exact ⟨rfl, rfl⟩

/-- the copy that Put begins with, as a fact on lists of operations -/
theorem copy_bools {w : World} {ops : Array Oper} {rest : List Oper} {o : Oper} {a : Act} {Q : Exit → Act → World → Prop} (hgd : o.guard = none) (s x : Operand)
    (ho : o.op = .call { callee := .builtin .append, args := #[s, x], argTypes := #[46, 46] }) (v : Value) (L : List Bool) (h : Bs w v L) (hL : L.length ≤ 100000000)
    (hs : a.eval s = .slice (some ⟨w.heap.size, 0, none⟩) 0 0) (hx : a.eval x = v)
    (hK : ∀ v' w', w'.ownsRow w.heap.size 4 1 v' L.length (brow L) → Fr Nobody w w' → v' ≠ .slice none 0 0 → wpList Tryz.prog ops Q rest (a.put o.dst v') w') :
    wpList Tryz.prog ops Q (o :: rest) a (w.alloc (.cells #[] 4)) := by
  obtain ⟨i0, hi, hz0, hz1, hz2⟩ := info_parts Tryz.infoBool
  have hown := World.ownsRow_made (e := 4) (size := 1) (base := w.heap.size) w #[] 0 (Nat.le_refl _) (Nat.zero_le _) rfl
  have hfr : Fr Nobody w (w.alloc (.cells #[] 4)) := (Fr.refl _ w).alloc _
  rcases h with ⟨rfl, rfl⟩ | ⟨g, off, cap, cur, rfl, hn, hg, hc⟩
  · refine wpList_plain hgd fun K hK' => ?_
    have hr := run_append_owned_none (P := Tryz.prog) (w.alloc (.cells #[] 4)) w.heap.size 46 o.type 4 i0 1 Tryz.underlying46 hi _ 0 [] hown
    unfold Oper.wp
    simp [execOp, ho, resolve, invoke, builtin, hs, hx, hr, Result.andThen]
    exact hK' _ _ (hK _ _ hown hfr (by simp))
  · refine wpList_append_own (w.alloc (.cells #[] 4)) hgd s x 46 ho w.heap.size 4 i0 (.bool false) 1 1 Tryz.underlying46 hi hz0 hz1 hz2 rfl (by decide) _ 0 [] hs hown ⟨g, off, none⟩ L.length cap (brow L) hx (by rw [length_brow]; omega) ?_ (one_brow L) (by unfold maxLen; omega) (by omega) (by simp) ?_
    · intro j u hu
      refine Lib.cell?_alloc_some _ ?_
      rw [addr_add, cell_of_row w g _ cur 4 (0, 0) hg]
      exact hc j u hu
    · intro v' w' ho' hg' hnil
      refine hK v' w' (by simpa using ho') (hfr.grown hg' (by intro k hk; simp [Value.ownBlock] at hk; omega)) ?_
      intro e
      exact absurd (hnil.1 e).1 (by simp)

/-- what Put of the document makes of a list -/
def rputL (L : List Bool) (x n : Nat) : List Bool := if x / 2 ^ n = 0 ∧ L.length + n ≤ 1048576 then L ++ bitsN n x else L
def rputE (L : List Bool) (x n : Nat) : Int := if x / 2 ^ n = 0 then (if L.length + n ≤ 1048576 then 0 else 3) else 5

/-- what stands behind Put: a new list, or the old one -/
def RPut (w w' : World) (v v' : Value) (M : List Bool) (c : Int) : Prop := ((c = 0 ∧ Bo w.heap.size w' v' M) ∨ (c ≠ 0 ∧ v' = v)) ∧ Fr Nobody w w'
theorem half_pow (x k : Nat) : x / 2 ^ k / 2 = x / 2 ^ (k + 1) := by rw [Nat.div_div_eq_div_mul, ← Nat.pow_succ]

set_option maxHeartbeats 1000000 in
theorem rput_main (w : World) (v : Value) (L M : List Bool) (c : Int) (x n : Nat) (h : Bs w v L) (hL : L.length ≤ 1048576) (hx : x < 18446744073709551616) (hn : n ≤ 64)
    (hc : (x / 2 ^ n = 0 ∧ L.length + n ≤ 1048576 ∧ M = L ++ bitsN n x ∧ c = 0) ∨ (x / 2 ^ n = 0 ∧ ¬ L.length + n ≤ 1048576 ∧ L = M ∧ c = 3) ∨ (¬ x / 2 ^ n = 0 ∧ L = M ∧ c = 5)) :
    Calls Tryz.prog 22 #[v, .int .u64 x, .int .i64 n] w fun e w' => ∃ v', e = .returned (.tuple #[v', .int .i64 c]) ∧ RPut w w' v v' M c := by
  have h0 : ¬ (n : Int) < 0 := by omega
  have h1 : ¬ (64 : Int) < (n : Int) := by omega
  have H : Hid (Bs w v L) := h
  obtain ⟨i0, hi, hz0, hz1, hz2⟩ := info_parts Tryz.infoBool
  have HC : Hid _ := hc
  clear h hc
  go_enter Tryz.func22, Tryz.ntmps22
  go_wp2_with (at_builtin; refine copy_bools rfl _ _ rfl v L H.out (by omega) rfl rfl ?_)
  intro v' w1 ho1 hf1 _
  have H1 : Hid (w1.ownsRow w.heap.size 4 1 v' L.length (brow L) ∧ Fr Nobody w w1) := ⟨ho1, hf1⟩
  clear ho1 hf1
  go_wp2
  clear h0 h1
  go_loopw [1, 8, 20] (fun xv u cc wr => ∃ k y : Nat, k ≤ n ∧ cc = .int .i64 k ∧ y = x / 2 ^ k ∧ xv = .int .u64 y ∧ wr.ownsRow w.heap.size 4 1 u (L.length + k) (brow (L ++ bitsN k x)) ∧ Fr Nobody w wr) (fun _ _ cc _ => n - (intOf cc).toNat)
  case atStart => exact ⟨0, x, Nat.zero_le _, rfl, by simp, rfl, by simpa [bitsN] using H1.out.1, H1.out.2⟩
  case round =>
    obtain ⟨k, y, hk, rfl, hy, rfl, ho, hf⟩ := hrel
    have HY : Hid (y = x / 2 ^ k) := hy
    have hyx : y < 18446744073709551616 := by rw [hy]; exact Nat.lt_of_le_of_lt (Nat.div_le_self _ _) hx
    clear hy H1
    by_cases hlt : k < n
    · obtain ⟨bb, hbb⟩ : ∃ bb : Bool, (((y : Int) % 2 == 1) : Bool) = bb := ⟨_, rfl⟩
      have HB : Hid ((x / 2 ^ k % 2 == 1) = bb) := by
        show _ = _
        rw [← hbb, ← HY.out, Bool.eq_iff_iff]; simp; omega
      have hsz := hf.size
      go_wp2_with (at_builtin; refine wpList_append_own _ rfl _ _ 46 rfl w.heap.size 4 i0 (.bool false) 1 1 Tryz.underlying46 hi hz0 hz1 hz2 rfl (by decide) _ _ _ rfl (ho.alloc _) ⟨wr.heap.size, 0, none⟩ 1 1 [.bool bb] rfl rfl (cell_one_new _ _ _) (one_bool _) (by unfold maxLen; omega) (by omega) (by simp; omega) ?_)
      intro u' w2 ho2 hg2 _
      have H2 : Hid (w2.ownsRow w.heap.size 4 1 u' (L.length + (k + 1)) (brow (L ++ bitsN (k + 1) x)) ∧ Fr Nobody w w2) := by
        refine ⟨?_, (hf.alloc _).grown hg2 (fun j hj => .inr (ho.lt j hj).1)⟩
        rw [bitsN_snoc, HB.out, ← List.append_assoc, brow_append (L ++ bitsN k x)]
        exact ho2
      have HY2 : Hid (y / 2 = x / 2 ^ (k + 1)) := by show _ = _; rw [HY.out, half_pow]
      clear ho hf ho2 hg2 HB HY hbb
      go_wp2
      go_roundw
      case rel => exact ⟨k + 1, y / 2, by omega, by go_num, HY2.out, by go_num, H2.out.1, H2.out.2⟩
      case measure => simp [intOf]; omega
    · have e : k = n := by omega
      subst e
      have ho' := ho
      rw [show L.length + k = (L ++ bitsN k x).length from by rw [List.length_append, length_bitsN]] at ho'
      have HB : Hid (_ ∧ Fr Nobody w wr) := ⟨ho', hf⟩
      obtain ⟨ao, cap, hu⟩ := row_any ho
      subst hu
      clear ho ho' hf H
      rcases HC.out with ⟨c1, c2, rfl, rfl⟩ | ⟨c1, c2, rfl, rfl⟩ | ⟨c1, rfl, rfl⟩
      · have hy0 : y = 0 := by rw [HY.out, c1]
        subst hy0
        have c3 : ¬ (1048576 : Int) < ((L.length + k : Nat) : Int) := by omega
        clear HC c1 HY
        go_wp2
        go_ret2
        exact ⟨_, rfl, .inl ⟨rfl, HB.out.1⟩, HB.out.2⟩
      · have hy0 : y = 0 := by rw [HY.out, c1]
        subst hy0
        have c3 : (1048576 : Int) < ((L.length + k : Nat) : Int) := by omega
        clear HC c1 HY
        go_wp2
        go_ret2
        exact ⟨_, rfl, .inr ⟨by decide, rfl⟩, HB.out.2⟩
      · have hy0 : ((y : Int) != 0) = true := by rw [bne_iff_ne]; have := HY.out; omega
        clear HC c1 HY
        go_wp2
        go_ret2
        exact ⟨_, rfl, .inr ⟨by decide, rfl⟩, HB.out.2⟩

theorem rput_raw (w : World) (v : Value) (L : List Bool) (x n : Nat) (h : Bs w v L) (hL : L.length ≤ 1048576) (hx : x < 18446744073709551616) (hn : n ≤ 64) :
    Calls Tryz.prog 22 #[v, .int .u64 x, .int .i64 n] w fun e w' => ∃ v', e = .returned (.tuple #[v', .int .i64 (rputE L x n)]) ∧ RPut w w' v v' (rputL L x n) (rputE L x n) := by
  refine rput_main w v L _ _ x n h hL hx hn ?_
  unfold rputL rputE
  by_cases c1 : x / 2 ^ n = 0
  · by_cases c2 : L.length + n ≤ 1048576
    · left; simp [c1, c2]
    · right; left; simp [c1, c2]
  · right; right; simp [c1]
theorem rputL_same (L : List Bool) (x n : Nat) (h : rputE L x n ≠ 0) : rputL L x n = L := by
  unfold rputE at h
  unfold rputL
  by_cases c1 : x / 2 ^ n = 0
  · by_cases c2 : L.length + n ≤ 1048576
    · simp [c1, c2] at h
    · rw [if_neg (fun hh => c2 hh.2)]
  · rw [if_neg (fun hh => c1 hh.1)]
theorem rput_own (B : Nat) (w : World) (v : Value) (L : List Bool) (x n : Nat) (h : Bo B w v L) (hB : B ≤ w.heap.size) (hL : L.length ≤ 1048576) (hx : x < 18446744073709551616) (hn : n ≤ 64) :
    Calls Tryz.prog 22 #[v, .int .u64 x, .int .i64 n] w fun e w' => ∃ v', e = .returned (.tuple #[v', .int .i64 (rputE L x n)]) ∧ Bo B w' v' (rputL L x n) ∧ Fr Nobody w w' := by
  refine (rput_raw w v L x n h.bs hL hx hn).mono ?_
  rintro e w' ⟨v', rfl, hc, hf⟩
  refine ⟨v', rfl, ?_, hf⟩
  rcases hc with ⟨_, hb⟩ | ⟨hne, rfl⟩
  · exact hb.low hB
  · rw [rputL_same L x n hne]; exact h.quiet hf

end Go.Proofs.YtlncgkbgelejmaaGreatDoor

