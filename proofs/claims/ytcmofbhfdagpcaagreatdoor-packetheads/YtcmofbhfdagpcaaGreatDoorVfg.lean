/-
  The document's side of layer 2: GetVar is gv.
-/
import Derived.Test.YtcmofbhfdagpcaaGreatDoorVbg
import Derived.Test.YtcmofbhfdagpcaaGreatDoorRfg
namespace Go.Proofs.YtcmofbhfdagpcaaGreatDoor
open Go.RowKit
set_option linter.unusedVariables false
set_option maxRecDepth 100000

/-- the number of the first k groups -/
def vTo (L : List Bool) : Nat → Nat
  | 0 => 0
  | k + 1 => vTo L k + g5 (L.drop (5 * k)) % 16 * 2 ^ (4 * k)
theorem vTo_lt (L : List Bool) (k : Nat) : vTo L k < 2 ^ (4 * k) := by
  induction k with
  | zero => simp [vTo]
  | succ k ih => rw [vTo]; exact vstep_lt _ _ _ ih
theorem vTo_split (L : List Bool) (j m : Nat) : ∃ q, vTo L (j + m) = vTo L j + 2 ^ (4 * j) * q := by
  induction m with
  | zero => exact ⟨0, by simp⟩
  | succ m ih =>
    obtain ⟨q, hq⟩ := ih
    refine ⟨q + g5 (L.drop (5 * (j + m))) % 16 * 2 ^ (4 * m), ?_⟩
    rw [← Nat.add_assoc, vTo, hq, Nat.mul_add, Nat.add_assoc]
    congr 2
    rw [show 4 * (j + m) = 4 * j + 4 * m from by omega, Nat.pow_add, Nat.mul_left_comm, Nat.mul_add]
theorem vTo_nib (L : List Bool) (n j : Nat) (h : j < n) : vTo L n / 2 ^ (4 * j) % 16 = g5 (L.drop (5 * j)) % 16 := by
  obtain ⟨m, rfl⟩ : ∃ m, n = (j + 1) + m := ⟨n - (j + 1), by omega⟩
  obtain ⟨q, hq⟩ := vTo_split L (j + 1) m
  have hp := Nat.two_pow_pos (4 * j)
  have e : 2 ^ (4 * (j + 1)) = 2 ^ (4 * j) * 16 := by rw [show 4 * (j + 1) = 4 * j + 4 from by omega, Nat.pow_add]
  have hs : vTo L (j + 1 + m) = vTo L j + 2 ^ (4 * j) * (g5 (L.drop (5 * j)) % 16 + 16 * q) := by
    rw [hq, vTo, e, Nat.mul_add, Nat.mul_comm (g5 (L.drop (5 * j)) % 16), ← Nat.mul_assoc, Nat.add_assoc]
  rw [hs, Nat.add_mul_div_left _ _ hp, Nat.div_eq_of_lt (vTo_lt L j), Nat.zero_add]
  omega
theorem vTo_step (L : List Bool) (n j : Nat) (h : j < n) : vTo L n / 2 ^ (4 * j) = 16 * (vTo L n / 2 ^ (4 * (j + 1))) + g5 (L.drop (5 * j)) % 16 := by
  rw [← vTo_nib L n j h]
  have e : vTo L n / 2 ^ (4 * (j + 1)) = vTo L n / 2 ^ (4 * j) / 16 := by rw [Nat.div_div_eq_div_mul, show 4 * (j + 1) = 4 * j + 4 from by omega, Nat.pow_add]
  rw [e]; omega
theorem num_take_mod (l : List Bool) (m n : Nat) (h : m ≤ n) : num (l.take m) = num (l.take n) % 2 ^ m := by
  induction l generalizing m n with
  | nil => simp [num]
  | cons b l ih =>
    cases m with
    | zero => simp [num, Nat.mod_one]
    | succ m =>
      obtain ⟨n', rfl⟩ : ∃ n', n = n' + 1 := ⟨n - 1, by omega⟩
      rw [List.take_succ_cons, List.take_succ_cons, num, num, ih m n' (by omega), Nat.pow_succ', Nat.mod_mul]
      have h1 : (b.toNat + 2 * num (l.take n')) / 2 = num (l.take n') := by cases b <;> simp <;> omega
      have h2 : (b.toNat + 2 * num (l.take n')) % 2 = b.toNat := by cases b <;> simp <;> omega
      rw [h1, h2]
theorem g5_low (M : List Bool) : num (M.take 4) = g5 M % 16 := by
  unfold g5; exact num_take_mod M 4 5 (by decide)
theorem g5_top (M : List Bool) (b : Bool) (h : M[4]? = some b) : 16 ≤ g5 M ↔ b = true := by
  unfold g5
  have hl : 4 < M.length := by
    rcases Nat.lt_or_ge 4 M.length with hh | hh
    · exact hh
    · rw [List.getElem?_eq_none hh] at h; cases h
  rw [show (5 : Nat) = 4 + 1 from rfl, List.take_add_one, h, num_append, List.length_take, Nat.min_eq_left (by omega)]
  have := num_lt (M.take 4)
  rw [List.length_take, Nat.min_eq_left (by omega)] at this
  cases b
  · simp [num]; omega
  · simp [num]

end Go.Proofs.YtcmofbhfdagpcaaGreatDoor


/-
  The document's side of layer 2: GetVar.
-/
namespace Go.Proofs.YtcmofbhfdagpcaaGreatDoor
open Go.RowKit
set_option linter.unusedVariables false
set_option maxRecDepth 100000

/-- what GetVar of the document leaves: the rest of the list -/
def GvRest (w w' : World) (u : Value) (M : List Bool) : Prop := Bs w' u M ∧ Fr Nobody w w'

theorem Bs.cell {w : World} {ao : Option Addr} {cap : Nat} {L : List Bool} (h : Bs w (.slice ao L.length cap) L) {i : Nat} {b : Bool} (hb : L[i]? = some b) : ∃ g o, ao = some ⟨g, o, none⟩ ∧ w.cell? ⟨g, o + i, none⟩ = some (.bool b) := by
  rcases h with ⟨_, h0⟩ | ⟨g, o, cap', cur, hv, _, hg, hc⟩
  · subst h0; simp at hb
  · simp only [Value.slice.injEq] at hv
    refine ⟨g, o, hv.1, ?_⟩
    rw [cell_of_row w g _ cur 4 (0, 0) hg]
    exact hc i (.bool b) (by simp [brow, hb])

end Go.Proofs.YtcmofbhfdagpcaaGreatDoor


/-
  What NumsGets and NumsIns share: the bytes that came in, a reader beside a list of bits.
-/
namespace Go.Proofs.YtcmofbhfdagpcaaGreatDoor
open Go.RowKit
set_option linter.unusedVariables false
set_option maxRecDepth 100000

theorem IsRow.more {k : IntKind} {w : World} {a : Option Addr} {len cap : Nat} {zs : List Int} (h : IsRow k w a len cap zs) : len ≤ cap ∧ (a = none → cap = 0) := by
  rcases h with ⟨rfl, rfl, rfl, rfl⟩ | ⟨x, rfl, hl, _⟩
  · exact ⟨Nat.le_refl _, fun _ => rfl⟩
  · exact ⟨hl, fun h => by cases h⟩
/-- the first m numbers of a slice of bytes, as bytes -/
theorem bytes_of (w : World) (ao : Option Addr) (Z : List Int) (m : Nat) (h : Ints .u8 w ao Z) (hb : ∀ x ∈ Z, 0 ≤ x ∧ x ≤ 255) (hm : m ≤ Z.length) : ∃ P : List Nat, P.length = m ∧ BytesAt w ao P ∧ ∀ x ∈ P, x < 256 := by
  refine ⟨(Z.take m).map Int.toNat, by rw [List.length_map, List.length_take]; omega, ?_, ?_⟩
  · rcases h with rfl | ⟨g, o, ha, hc⟩
    · left; simp
    · right
      refine ⟨g, o, ha, fun j x hx => ?_⟩
      rw [List.getElem?_map, List.getElem?_take] at hx
      split at hx
      · cases hz : Z[j]? with
        | none => rw [hz] at hx; cases hx
        | some y =>
          rw [hz] at hx
          simp only [Option.map_some, Option.some.injEq] at hx
          have hy := hb y (List.mem_of_getElem? hz)
          rw [hc j y hz, ← hx, Int.toNat_of_nonneg hy.1]
      · cases hx
  · intro x hx
    obtain ⟨y, hy, rfl⟩ := List.mem_map.1 hx
    have := hb y (List.mem_of_mem_take hy)
    omega

/-- A reader beside a list of bits. -/
def Duo (w0 w : World) (br : Nat) (P : List Nat) (t : Nat) (x : Value) (M : List Bool) : Prop := Or w0 w br P t ∧ Bs w x M
theorem Duo.quiet {w0 w w' : World} {br : Nat} {P : List Nat} {t : Nat} {x : Value} {M : List Bool} (h : Duo w0 w br P t x M) (hf : Fr Nobody w w') : Duo w0 w' br P t x M := ⟨h.1.quiet hf, h.2.quiet hf⟩
theorem get_duo (w0 w : World) (br : Nat) (P : List Nat) (t n : Nat) (x : Value) (M : List Bool) (h : Duo w0 w br P t x M) (hn : n ≤ 64) (hl : t + n ≤ 8 * P.length) :
    Calls Tryz.prog 88 #[.pointer (some ⟨br, 0, none⟩), .int .i64 n] w fun e w' => e = .returned (.tuple #[.int .u64 (numAt P t n : Nat), .int .i64 0]) ∧ Duo w0 w' br P (t + n) x M := by
  obtain ⟨⟨g, hR, hF⟩, hx⟩ := h
  refine (get_ok _ w br g P t n hR hn hl).mono ?_
  rintro e w' ⟨rfl, hR', hf⟩
  exact ⟨rfl, ⟨g, hR', hF.fresh hf hR.lowAt⟩, hx.keep hf hR.apart⟩

end Go.Proofs.YtcmofbhfdagpcaaGreatDoor


/-
  GetIn of package nums: the closure, Try, and the whole.
-/
namespace Go.Proofs.YtcmofbhfdagpcaaGreatDoor
open Go.RowKit
set_option linter.unusedVariables false
set_option maxRecDepth 100000

/-- what GetIn answers of a list of bits: the error, the number, and how many bits it took -/
def gi (lo hi : Int) (L : List Bool) : Int × Int × Nat :=
  if hi < lo then (1, 0, 0)
  else if L.length < wid lo hi then (2, 0, 0)
  else if (hi - lo).toNat < num (L.take (wid lo hi)) then (5, 0, 0)
  else (0, lo + (num (L.take (wid lo hi)) : Nat), wid lo hi)
theorem gi_zero (lo hi : Int) (L : List Bool) (h : (gi lo hi L).1 ≠ 0) : (gi lo hi L).2.1 = 0 ∧ (gi lo hi L).2.2 = 0 := by
  unfold gi at *
  split
  · exact ⟨rfl, rfl⟩
  · split
    · exact ⟨rfl, rfl⟩
    · split
      · exact ⟨rfl, rfl⟩
      · rename_i a b c
        rw [if_neg a, if_neg b, if_neg c] at h
        exact absurd rfl h

set_option maxHeartbeats 1000000 in
theorem tryI_any (f : FuncId) (hf : f = 111) (caps : Array Value) (B : Nat) (w : World) (br : Nat) (g : Option Nat) (P : List Nat) (t : Nat) (rv rc : Int) (rn : Nat) (h : Rd B w br g P t) (hr : Reads .i64 f caps B w br g P t rv rc rn) (hz : rc ≠ 0 → rv = 0 ∧ rn = 0) :
    Calls Tryz.prog 110 #[.pointer (some ⟨br, 0, none⟩), .func (.func 111) #[] caps] w fun e w' => e = .returned (.tuple #[.int .i64 rv, .int .i64 rc]) ∧ Rd B w' br g P (t + rn) ∧ Fr (At br none) w w' := by
  subst hf
  obtain ⟨v, hb, ho, hv⟩ := h.obj
  have c0 := cell0 hb
  have c1 := cell1 hb
  obtain ⟨ao, cap, hvs⟩ : ∃ ao cap, v = .slice ao P.length cap := by
    rcases ho.2 with ⟨rfl, h0⟩ | ⟨g, cap, cur, rfl, _⟩
    · exact ⟨none, 0, by rw [h0]⟩
    · exact ⟨_, _, rfl⟩
  subst hvs
  have hlt := h.lt
  have H : Hid (Rd B w br g P t ∧ Reads .i64 111 caps B w br g P t rv rc rn ∧ (rc ≠ 0 → rv = 0 ∧ rn = 0)) := ⟨h, hr, hz⟩
  have HO : Hid (w.ownsRow 0 5 1 (.slice ao P.length cap) P.length (vrow P) ∧ (Value.slice ao P.length cap).ownBlock = g) := ⟨ho, hv⟩
  clear h hr hz hb ho hv
  go_enter Tryz.func110, Tryz.ntmps110
  go_wp2_with fail
  have HA : Hid (Fr (At br none) w (w.alloc (.cells #[.slice ao P.length cap, .int .i64 (t : Int)] 109))) := (Fr.refl _ _).alloc _
  have HN : Hid ((w.alloc (.cells #[.slice ao P.length cap, .int .i64 (t : Int)] 109)).heap[w.heap.size]? = some (.cells #[.slice ao P.length cap, .int .i64 (t : Int)] 109 (0, 0))) := heap_alloc_new w _
  refine (H.out.2.1 _ (H.out.1.quiet ((Fr.refl _ _).alloc _)) HA.out).mono ?_
  rintro e w2 ⟨rfl, hE⟩
  obtain ⟨t', hR', hf', ht'⟩ := hE
  have hs2 : (w.alloc (.cells #[.slice ao P.length cap, .int .i64 (t : Int)] 109)).heap.size ≤ w2.heap.size := hf'.size
  have hnew : w2.heap[w.heap.size]? = some (.cells #[.slice ao P.length cap, .int .i64 (t : Int)] 109 (0, 0)) := (hf'.block w.heap.size (by simp) (by rintro (e | e); omega; cases e)).trans HN.out
  have d0 := cell0 hnew
  have d1 := cell1 hnew
  have HF : Hid (Fr (At br none) w w2 ∧ Rd B w2 br g P t' ∧ (rc = 0 → t' = t + rn)) := ⟨HA.out.trans hf', hR', ht'⟩
  obtain ⟨v2, hb2, _, _⟩ := hR'.obj
  have HB2 : Hid (w2.heap[br]? = some (.cells #[v2, .int .i64 (t' : Int)] 109 (0, 0))) := hb2
  have e0 := cell0 hb2
  have e1 := cell1 hb2
  have f0 : w2.frozen? ⟨br, 0, none⟩ = false := froz hb2
  have f1 : w2.frozen? ⟨br, 1, none⟩ = false := froz hb2
  have hne : br ≠ w.heap.size := by omega
  clear hR' hf' ht' hb2 hnew HA HN c0 c1
  by_cases hrc : rc = 0
  · have HT : Hid (Rd B w2 br g P (t + rn) ∧ Fr (At br none) w w2) := ⟨by rw [← HF.out.2.2 hrc]; exact HF.out.2.1, HF.out.1⟩
    clear HF H
    subst hrc
    go_wp2
    go_ret2
    exact ⟨rfl, HT.out⟩
  · have tr : (rc != 0) = true := by rw [bne_iff_ne]; exact hrc
    obtain ⟨hz1, hz2⟩ := H.out.2.2 hrc
    subst hz1
    subst hz2
    have HT : Hid (Rd B ((w2.setCell ⟨br, 0, none⟩ (.slice ao P.length cap)).setCell ⟨br, 1, none⟩ (.int .i64 (t : Int))) br g P (t + 0) ∧ Fr (At br none) w ((w2.setCell ⟨br, 0, none⟩ (.slice ao P.length cap)).setCell ⟨br, 1, none⟩ (.int .i64 (t : Int)))) := by
      have R := H.out.1
      have hgne : g ≠ some br := R.ne
      have ho2 : w2.ownsRow 0 5 1 (.slice ao P.length cap) P.length (vrow P) := HF.out.1.row HO.out.1 (fun k hk => by
        rintro (e | e)
        · subst e; exact hgne (HO.out.2.symm.trans hk)
        · cases e)
      have hk1 : (Value.slice ao P.length cap).ownBlock ≠ some br := by rw [HO.out.2]; exact hgne
      refine ⟨⟨R.low, R.glow, R.ne, R.byt, R.len, R.le, ⟨.slice ao P.length cap, ?_, row_setCell (row_setCell ho2 _ _ hk1) _ _ hk1, HO.out.2⟩⟩, (HF.out.1.setCell (.inl (.inl rfl)) _).setCell (.inl (.inl rfl)) _⟩
      refine (setCell_heap _ br 1 _ _ _ (setCell_heap w2 br 0 _ _ _ HB2.out)).trans ?_
      simp
    clear HF H HB2 HO
    go_wp2
    go_ret2
    exact ⟨rfl, HT.out⟩

end Go.Proofs.YtcmofbhfdagpcaaGreatDoor

