/-
  The walks of Read, Left, next, Get and End of package bits.
-/
import Derived.Test.YtlncgkbgelejmaaGreatDoorWe
import Derived.Test.YtlncgkbgelejmaaGreatDoorPm
namespace Go.Proofs.YtlncgkbgelejmaaGreatDoor
open Go.RowKit
set_option linter.unusedVariables false

/-- A READER at block b of the bytes P, at bit t; g: the block of its bytes. -/
structure Rd (B : Nat) (w : World) (b : Nat) (g : Option Nat) (P : List Nat) (t : Nat) : Prop where
  low : B ≤ b
  glow : ∀ k, g = some k → B ≤ k
  ne : g ≠ some b
  byt : ∀ x ∈ P, x < 256
  len : P.length ≤ 1048576
  le : t ≤ 8 * P.length
  obj : ∃ v, w.heap[b]? = some (.cells #[v, .int .i64 (t : Int)] 139 (0, 0)) ∧ w.ownsRow 0 5 1 v P.length (vrow P) ∧ v.ownBlock = g

theorem Rd.lt {B : Nat} {w : World} {b : Nat} {g : Option Nat} {P : List Nat} {t : Nat} (h : Rd B w b g P t) : b < w.heap.size := by
  obtain ⟨v, hb, _⟩ := h.obj
  exact (Array.getElem?_eq_some_iff.1 hb).1
theorem Rd.glt {B : Nat} {w : World} {b : Nat} {g : Option Nat} {P : List Nat} {t : Nat} (h : Rd B w b g P t) : ∀ k, g = some k → k < w.heap.size := by
  intro k hk
  obtain ⟨v, _, ho, hv⟩ := h.obj
  exact (ho.lt k (hv.trans hk)).2
theorem Rd.keep {S : Nat → Prop} {B : Nat} {w w' : World} {b : Nat} {g : Option Nat} {P : List Nat} {t : Nat} (h : Rd B w b g P t) (hf : Fr S w w') (hb : ¬ S b) (hg : ∀ k, g = some k → ¬ S k) : Rd B w' b g P t := by
  refine ⟨h.low, h.glow, h.ne, h.byt, h.len, h.le, ?_⟩
  have hl := h.lt
  obtain ⟨v, h1, h2, h3⟩ := h.obj
  exact ⟨v, (hf.block b hl hb).trans h1, hf.row h2 (fun k hk => hg k (h3.symm.trans hk)), h3⟩
theorem Rd.quiet {B : Nat} {w w' : World} {b : Nat} {g : Option Nat} {P : List Nat} {t : Nat} (h : Rd B w b g P t) (hf : Fr Nobody w w') : Rd B w' b g P t := h.keep hf id (fun _ _ => id)
theorem Wr.quiet {B : Nat} {w w' : World} {b : Nat} {g : Option Nat} {L : List Bool} (h : Wr B w b g L) (hf : Fr Nobody w w') : Wr B w' b g L := h.keep hf id (fun _ _ => id)

set_option maxHeartbeats 400000 in
theorem read_any (B : Nat) (w : World) (v : Value) (P : List Nat) (h : Src w v P.length (vrow P)) (hb : ∀ x ∈ P, x < 256) (hn : P.length ≤ 1048576) (hB : B ≤ w.heap.size) :
    Calls Tryz.prog 59 #[v] w fun e w' => ∃ b g, e = .returned (.pointer (some ⟨b, 0, none⟩)) ∧ w.heap.size ≤ b ∧ (∀ k, g = some k → w.heap.size ≤ k) ∧ Rd B w' b g P 0 ∧ Fr Nobody w w' := by
  have H : Hid (Src w v P.length (vrow P)) := h
  clear h
  go_enter Tryz.func59, Tryz.ntmps59
  go_wp2_with fail
  refine (clone_any w v _ _ H.out (one_vrow _) (by omega)).mono ?_
  rintro e w1 ⟨v', rfl, ho, hf, hk⟩
  have HH : Hid (w1.ownsRow 0 5 1 v' P.length (vrow P) ∧ Fr Nobody w w1 ∧ (∀ k, v'.ownBlock = some k → w.heap.size ≤ k)) := ⟨ho, hf, hk⟩
  have hvs : ∃ ao n cap, v' = .slice ao n cap := by
    rcases ho.2 with ⟨rfl, _⟩ | ⟨g, cap, cur, rfl, _⟩
    · exact ⟨_, _, _, rfl⟩
    · exact ⟨_, _, _, rfl⟩
  clear ho hf hk H
  obtain ⟨ao, n, cap, hvs⟩ := hvs
  subst hvs
  go_wp2
  go_ret
  obtain ⟨ho, hf, hk⟩ := HH.out
  have hs := hf.size
  refine ⟨_, (Value.slice ao n cap).ownBlock, rfl, hs, hk, ⟨by omega, fun k hk' => Nat.le_trans hB (hk k hk'), ?_, hb, hn, Nat.zero_le _, ⟨_, heap_alloc_new w1 _, ho.alloc _, rfl⟩⟩, hf.alloc _⟩
  intro e
  have := (ho.lt _ e).2
  omega

set_option maxHeartbeats 400000 in
theorem left_nil (w : World) : Calls Tryz.prog 87 #[.pointer none] w fun e w' => e = .returned (.int .i64 0) ∧ w' = w := by
  go_enter Tryz.func87, Tryz.ntmps87
  go_wp2
  go_ret
  exact ⟨rfl, rfl⟩

set_option maxHeartbeats 400000 in
theorem left_any (B : Nat) (w : World) (b : Nat) (g : Option Nat) (P : List Nat) (t : Nat) (h : Rd B w b g P t) :
    Calls Tryz.prog 87 #[.pointer (some ⟨b, 0, none⟩)] w fun e w' => e = .returned (.int .i64 ((8 * P.length - t : Nat) : Int)) ∧ Fr Nobody w w' := by
  obtain ⟨v, hb, ho, _⟩ := h.obj
  have hle := h.le
  have hlen := h.len
  have c0 := cell0 hb
  have c1 := cell1 hb
  obtain ⟨ao, cap, hvs⟩ : ∃ ao cap, v = .slice ao P.length cap := by
    rcases ho.2 with ⟨rfl, h0⟩ | ⟨g, cap, cur, rfl, _⟩
    · exact ⟨none, 0, by rw [h0]⟩
    · exact ⟨_, _, rfl⟩
  subst hvs
  clear hb h ho
  generalize P.length = m at *
  go_enter Tryz.func87, Tryz.ntmps87
  go_wp2
  go_quiet (fail)
  go_wp2
  go_ret
  exact ⟨ret_int (by omega), (Fr.refl _ w).drewN _⟩

theorem and_one_u8 (x r : Nat) (hx : x < 256) : bits .and .u8 ((x : Int) / 2 ^ r) 1 = ((x / 2 ^ r % 2 : Nat) : Int) := by
  have h2 : ((x : Int) / 2 ^ r) = ((x / 2 ^ r : Nat) : Int) := by simp
  have hle : x / 2 ^ r ≤ x := Nat.div_le_self _ _
  have h3 := u8_and_nat (x / 2 ^ r) 1 (by omega) (by decide)
  have h1 : ((1 : Nat) : Int) = 1 := rfl
  rw [h1] at h3
  rw [h2, h3, nat_mask1]
theorem or_num (m k x r : Nat) (hm : m < 2 ^ k) (hk : k < 64) (hx : x < 256) :
    bits .or .u64 (m : Int) (IntKind.u64.wrap (IntKind.u64.wrap (bits .and .u8 ((x : Int) / 2 ^ r) 1) * 2 ^ k)) = ((m + x / 2 ^ r % 2 * 2 ^ k : Nat) : Int) := by
  have hp : 2 ^ k ≤ 9223372036854775808 := by
    have := Nat.pow_le_pow_right (n := 2) (by decide) (show k ≤ 63 by omega)
    simpa using this
  have hc : x / 2 ^ r % 2 = 0 ∨ x / 2 ^ r % 2 = 1 := by omega
  have hk2 : ((2 : Int) ^ k) = ((2 ^ k : Nat) : Int) := by simp
  rw [and_one_u8 x r hx, hk2, IntKind.wrap_u64, IntKind.wrap_u64]
  rcases hc with hc | hc
  · rw [hc]
    have := u64_or_nat m 0 (by omega) (by decide)
    simpa using this
  · rw [hc]
    have e : ((((1 : Nat) : Int) % 18446744073709551616 * ((2 ^ k : Nat) : Int)) % 18446744073709551616) = ((2 ^ k : Nat) : Int) := by omega
    rw [e, u64_or_nat m (2 ^ k) (by omega) (by omega), Nat.or_comm, nat_join k (2 ^ k) m (by simp) hm, Nat.one_mul, Nat.add_comm]

set_option maxHeartbeats 400000 in
theorem next_any (B : Nat) (w : World) (b : Nat) (g : Option Nat) (P : List Nat) (t n : Nat) (h : Rd B w b g P t) (hn : n ≤ 64) (hl : t + n ≤ 8 * P.length) :
    Calls Tryz.prog 88 #[.pointer (some ⟨b, 0, none⟩), .int .i64 n] w fun e w' => e = .returned (.int .u64 (numAt P t n : Nat)) ∧ Fr Nobody w w' := by
  obtain ⟨v, hb, ho, _⟩ := h.obj
  have hlen := h.len
  have hbyt := h.byt
  have c0 := cell0 hb
  have c1 := cell1 hb
  have HO : Hid (w.ownsRow 0 5 1 v P.length (vrow P)) := ho
  have HB : Hid (∀ x ∈ P, x < 256) := hbyt
  clear hb h ho hbyt
  go_enter Tryz.func88, Tryz.ntmps88
  go_wp2
  go_loopw [5, 10] (fun u c wr => ∃ k : Nat, k ≤ n ∧ c = .int .i64 k ∧ u = .int .u64 (numAt P t k : Nat) ∧ wr = w) (fun _ c _ => n - (intOf c).toNat)
  case atStart => exact ⟨0, Nat.zero_le _, rfl, by rw [numAt_zero]; rfl, rfl⟩
  case round =>
    obtain ⟨k, hk, rfl, rfl, rfl⟩ := hrel
    by_cases hlt : k < n
    · have hP : (t + k) / 8 < P.length := by omega
      obtain ⟨g', cap, hv, _⟩ := row_shape HO.out (by omega)
      subst hv
      have hx : P[(t + k) / 8]? = some P[(t + k) / 8] := List.getElem?_eq_getElem hP
      have hx2 := HB.out P[(t + k) / 8] (List.getElem_mem _)
      have HS : Hid _ := numAt_succ P t k _ hx
      have cx : wr.cell? ⟨g', (t + k) / 8, none⟩ = some (.int .u8 ((P[(t + k) / 8] : Nat) : Int)) := by
        rw [HO.out.cellAt _ (by omega), getElem?_vrow, hx]; rfl
      generalize P[(t + k) / 8] = x at *
      clear hx
      go_wp2
      go_roundw
      case rel => exact ⟨k + 1, by omega, by go_num, by rw [HS.out, or_num _ _ _ _ (numAt_lt P t k) (by omega) hx2], trivial⟩
      case measure => simp [intOf]; omega
    · go_wp2
      go_ret
      have e : k = n := by omega
      subst e
      exact ⟨rfl, Fr.refl _ _⟩

set_option maxHeartbeats 400000 in
theorem get_nil (w : World) (n : Int) : Calls Tryz.prog 82 #[.pointer none, .int .i64 n] w fun e w' => e = .returned (.tuple #[.int .u64 0, .int .i64 10]) ∧ w' = w := by
  go_enter Tryz.func82, Tryz.ntmps82
  go_wp2
  go_ret2
  exact ⟨rfl, rfl⟩
set_option maxHeartbeats 400000 in
theorem get_arg (w : World) (b : Nat) (n : Int) (h : n < 0 ∨ 64 < n) : Calls Tryz.prog 82 #[.pointer (some ⟨b, 0, none⟩), .int .i64 n] w fun e w' => e = .returned (.tuple #[.int .u64 0, .int .i64 1]) ∧ w' = w := by
  rcases h with h | h
  · go_enter Tryz.func82, Tryz.ntmps82
    go_wp2
    go_ret2
    exact ⟨rfl, rfl⟩
  · have h0 : ¬ n < 0 := by omega
    go_enter Tryz.func82, Tryz.ntmps82
    go_wp2
    go_ret2
    exact ⟨rfl, rfl⟩
set_option maxHeartbeats 400000 in
theorem get_short (B : Nat) (w : World) (b : Nat) (g : Option Nat) (P : List Nat) (t n : Nat) (h : Rd B w b g P t) (hn : n ≤ 64) (hl : 8 * P.length < t + n) :
    Calls Tryz.prog 82 #[.pointer (some ⟨b, 0, none⟩), .int .i64 n] w fun e w' => e = .returned (.tuple #[.int .u64 0, .int .i64 2]) ∧ Fr Nobody w w' := by
  have h0 : ¬ (n : Int) < 0 := by omega
  have h1 : ¬ (64 : Int) < (n : Int) := by omega
  have hle := h.le
  have h2 : ((8 * P.length - t : Nat) : Int) < (n : Int) := by omega
  have H : Hid (Rd B w b g P t) := h
  clear h
  go_enter Tryz.func82, Tryz.ntmps82
  go_wp2_with fail
  refine (left_any B w b g P t H.out).mono ?_
  generalize 8 * P.length - t = lft at *
  rintro e w1 ⟨rfl, hf⟩
  go_wp2
  go_ret2
  exact ⟨rfl, hf⟩
set_option maxHeartbeats 400000 in
theorem get_ok (B : Nat) (w : World) (b : Nat) (g : Option Nat) (P : List Nat) (t n : Nat) (h : Rd B w b g P t) (hn : n ≤ 64) (hl : t + n ≤ 8 * P.length) :
    Calls Tryz.prog 82 #[.pointer (some ⟨b, 0, none⟩), .int .i64 n] w fun e w' => e = .returned (.tuple #[.int .u64 (numAt P t n : Nat), .int .i64 0]) ∧ Rd B w' b g P (t + n) ∧ Fr (At b g) w w' := by
  have h0 : ¬ (n : Int) < 0 := by omega
  have h1 : ¬ (64 : Int) < (n : Int) := by omega
  have hle := h.le
  have hlen := h.len
  have h2 : ¬ ((8 * P.length - t : Nat) : Int) < (n : Int) := by omega
  have H : Hid (Rd B w b g P t) := h
  clear h
  go_enter Tryz.func82, Tryz.ntmps82
  go_wp2_with fail
  refine (left_any B w b g P t H.out).mono ?_
  generalize 8 * P.length - t = lft at h2 ⊢
  rintro e w1 ⟨rfl, hf⟩
  have H1 : Hid (Rd B w1 b g P t ∧ Fr Nobody w w1) := ⟨H.out.quiet hf, hf⟩
  clear hf H
  go_wp2_with fail
  refine (next_any B w1 b g P t n H1.out.1 hn hl).mono ?_
  rintro e w2 ⟨rfl, hf⟩
  have H2 : Hid (Rd B w2 b g P t ∧ Fr Nobody w w2) := ⟨H1.out.1.quiet hf, H1.out.2.trans hf⟩
  clear hf H1
  obtain ⟨v, hb, ho, hv⟩ := H2.out.1.obj
  have HH : Hid (w2.heap[b]? = some (.cells #[v, .int .i64 (t : Int)] 139 (0, 0)) ∧ w2.ownsRow 0 5 1 v P.length (vrow P) ∧ v.ownBlock = g) := ⟨hb, ho, hv⟩
  have c1 := cell1 hb
  have f1 : w2.frozen? ⟨b, 1, none⟩ = false := froz hb
  clear hb ho hv
  go_wp2
  go_ret2
  have R := H2.out.1
  have hne := R.ne
  obtain ⟨hb, ho, hv⟩ := HH.out
  refine ⟨rfl, ⟨R.low, R.glow, R.ne, R.byt, R.len, hl, ⟨v, ?_, row_setCell ho _ _ (by rw [hv]; exact hne), hv⟩⟩, ?_⟩
  · refine (setCell_heap w2 b 1 _ _ _ hb).trans ?_
    simp
  · exact (H2.out.2.mono (fun _ _ k => k.elim)).setCell (.inl (.inl rfl)) _

set_option maxHeartbeats 400000 in
theorem end_nil (w : World) : Calls Tryz.prog 68 #[.pointer none] w fun e w' => e = .returned (.int .i64 10) ∧ w' = w := by
  go_enter Tryz.func68, Tryz.ntmps68
  go_wp2
  go_ret
  exact ⟨rfl, rfl⟩
set_option maxHeartbeats 400000 in
theorem end_much (B : Nat) (w : World) (b : Nat) (g : Option Nat) (P : List Nat) (t : Nat) (h : Rd B w b g P t) (hl : 8 ≤ 8 * P.length - t) :
    Calls Tryz.prog 68 #[.pointer (some ⟨b, 0, none⟩)] w fun e w' => e = .returned (.int .i64 4) ∧ Fr Nobody w w' := by
  have h2 : (8 : Int) ≤ ((8 * P.length - t : Nat) : Int) := by omega
  have H : Hid (Rd B w b g P t) := h
  clear h hl
  go_enter Tryz.func68, Tryz.ntmps68
  go_wp2_with fail
  refine (left_any B w b g P t H.out).mono ?_
  generalize 8 * P.length - t = lft at h2 ⊢
  rintro e w1 ⟨rfl, hf⟩
  clear H
  go_wp2
  go_ret
  exact ⟨rfl, hf⟩
set_option maxHeartbeats 400000 in
theorem end_zero (B : Nat) (w : World) (b : Nat) (g : Option Nat) (P : List Nat) (t : Nat) (h : Rd B w b g P t) (hl : 8 * P.length - t < 8) (hz : numAt P t (8 * P.length - t) = 0) :
    Calls Tryz.prog 68 #[.pointer (some ⟨b, 0, none⟩)] w fun e w' => e = .returned (.int .i64 0) ∧ Fr Nobody w w' := by
  have h2 : ¬ (8 : Int) ≤ ((8 * P.length - t : Nat) : Int) := by omega
  have hz' : (((numAt P t (8 * P.length - t) : Nat) : Int) != 0) = false := by rw [hz]; rfl
  have H : Hid (Rd B w b g P t) := h
  have hle := h.le
  have hlft : t + (8 * P.length - t) ≤ 8 * P.length := by omega
  clear h hz
  go_enter Tryz.func68, Tryz.ntmps68
  go_wp2_with fail
  refine (left_any B w b g P t H.out).mono ?_
  generalize 8 * P.length - t = lft at *
  rintro e w1 ⟨rfl, hf⟩
  have H1 : Hid (Rd B w1 b g P t ∧ Fr Nobody w w1) := ⟨H.out.quiet hf, hf⟩
  clear hf H
  go_wp2_with fail
  refine (next_any B w1 b g P t lft H1.out.1 (by omega) hlft).mono ?_
  rintro e w2 ⟨rfl, hf⟩
  have H2 : Hid (Fr Nobody w w2) := H1.out.2.trans hf
  clear hf H1
  generalize numAt P t lft = v at *
  go_wp2
  go_ret
  exact ⟨rfl, H2.out⟩
set_option maxHeartbeats 400000 in
theorem end_bad (B : Nat) (w : World) (b : Nat) (g : Option Nat) (P : List Nat) (t : Nat) (h : Rd B w b g P t) (hl : 8 * P.length - t < 8) (hz : numAt P t (8 * P.length - t) ≠ 0) :
    Calls Tryz.prog 68 #[.pointer (some ⟨b, 0, none⟩)] w fun e w' => e = .returned (.int .i64 4) ∧ Fr Nobody w w' := by
  have h2 : ¬ (8 : Int) ≤ ((8 * P.length - t : Nat) : Int) := by omega
  have hz' : (((numAt P t (8 * P.length - t) : Nat) : Int) != 0) = true := by rw [bne_iff_ne]; omega
  have H : Hid (Rd B w b g P t) := h
  have hle := h.le
  have hlft : t + (8 * P.length - t) ≤ 8 * P.length := by omega
  clear h hz
  go_enter Tryz.func68, Tryz.ntmps68
  go_wp2_with fail
  refine (left_any B w b g P t H.out).mono ?_
  generalize 8 * P.length - t = lft at *
  rintro e w1 ⟨rfl, hf⟩
  have H1 : Hid (Rd B w1 b g P t ∧ Fr Nobody w w1) := ⟨H.out.quiet hf, hf⟩
  clear hf H
  go_wp2_with fail
  refine (next_any B w1 b g P t lft H1.out.1 (by omega) hlft).mono ?_
  rintro e w2 ⟨rfl, hf⟩
  have H2 : Hid (Fr Nobody w w2) := H1.out.2.trans hf
  clear hf H1
  generalize numAt P t lft = v at *
  go_wp2
  go_ret
  exact ⟨rfl, H2.out⟩

end Go.Proofs.YtlncgkbgelejmaaGreatDoor

