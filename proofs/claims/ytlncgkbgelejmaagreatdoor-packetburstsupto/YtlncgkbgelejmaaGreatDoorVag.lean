/-
  Plain facts on the groups of Var: what stands next in a list of bits.
-/
import Derived.Test.YtlncgkbgelejmaaGreatDoorRdg
namespace Go.Proofs.YtlncgkbgelejmaaGreatDoor

/-- the first group of a list of bits -/
def g5 (M : List Bool) : Nat := num (M.take 5)
theorem g5_lt (M : List Bool) : g5 M < 32 := by
  have h := num_lt (M.take 5)
  have h2 : (M.take 5).length ≤ 5 := List.length_take_le _ _
  exact Nat.lt_of_lt_of_le h (Nat.pow_le_pow_right (by decide) h2)

/-- the number of which Var stands next: the error, the number, how many bits it has; i groups are read, v is their number -/
def gvAux : Nat → Nat → Nat → List Bool → Int × Nat × Nat
  | 0, _, _, _ => (4, 0, 0)
  | n + 1, i, v, M =>
    if M.length < 5 then (2, 0, 0)
    else if 16 ≤ g5 M then gvAux n (i + 1) (v + g5 M % 16 * 2 ^ (4 * i)) (M.drop 5)
    else if grp (v + g5 M % 16 * 2 ^ (4 * i)) ≠ i + 1 then (4, 0, 0)
    else (0, v + g5 M % 16 * 2 ^ (4 * i), 5 * (i + 1))
def gv (M : List Bool) : Int × Nat × Nat := gvAux 16 0 0 M

theorem vstep_lt (v g i : Nat) (hv : v < 2 ^ (4 * i)) : v + g % 16 * 2 ^ (4 * i) < 2 ^ (4 * (i + 1)) := by
  have h : g % 16 < 16 := Nat.mod_lt _ (by decide)
  have e : 2 ^ (4 * (i + 1)) = 16 * 2 ^ (4 * i) := by rw [show 4 * (i + 1) = 4 * i + 4 from by omega, Nat.pow_add]; omega
  rw [e]
  have h2 : g % 16 * 2 ^ (4 * i) ≤ 15 * 2 ^ (4 * i) := Nat.mul_le_mul_right _ (by omega)
  omega
theorem gvAux_ok (n i v : Nat) (M : List Bool) (hi : n + i = 16) (hv : v < 2 ^ (4 * i)) : (gvAux n i v M).2.1 < 18446744073709551616 ∧ (gvAux n i v M).2.2 ≤ M.length + 5 * i ∧ ((gvAux n i v M).1 ≠ 0 → (gvAux n i v M).2 = (0, 0)) := by
  induction n generalizing i v M with
  | zero => rw [gvAux]; exact ⟨by decide, Nat.zero_le _, fun _ => rfl⟩
  | succ n ih =>
    rw [gvAux]
    by_cases c1 : M.length < 5
    · rw [if_pos c1]; exact ⟨by decide, Nat.zero_le _, fun _ => rfl⟩
    · rw [if_neg c1]
      by_cases c2 : 16 ≤ g5 M
      · rw [if_pos c2]
        obtain ⟨a, b, c⟩ := ih (i + 1) (v + g5 M % 16 * 2 ^ (4 * i)) (M.drop 5) (by omega) (vstep_lt v _ i hv)
        rw [List.length_drop] at b
        exact ⟨a, by omega, c⟩
      · rw [if_neg c2]
        by_cases c3 : grp (v + g5 M % 16 * 2 ^ (4 * i)) ≠ i + 1
        · rw [if_pos c3]; exact ⟨by decide, Nat.zero_le _, fun _ => rfl⟩
        · rw [if_neg c3]
          have h := vstep_lt v (g5 M) i hv
          have h2 : 2 ^ (4 * (i + 1)) ≤ 2 ^ 64 := Nat.pow_le_pow_right (by decide) (by omega)
          exact ⟨Nat.lt_of_lt_of_le h h2, by show 5 * (i + 1) ≤ _; omega, fun h => absurd rfl h⟩
theorem gv_ok (M : List Bool) : (gv M).2.1 < 18446744073709551616 ∧ (gv M).2.2 ≤ M.length ∧ ((gv M).1 ≠ 0 → (gv M).2 = (0, 0)) := by
  have h := gvAux_ok 16 0 0 M rfl (by decide)
  simpa [gv] using h

end Go.Proofs.YtlncgkbgelejmaaGreatDoor


/-
  GetVar and GetInt of package nums: the closure, Try, and the whole.
-/
namespace Go.Proofs.YtlncgkbgelejmaaGreatDoor
open Go.RowKit
set_option linter.unusedVariables false
set_option maxRecDepth 100000

theorem bits_drop (P : List Nat) (t k : Nat) : ((bitsB P).drop t).drop k = (bitsB P).drop (t + k) := by rw [List.drop_drop]
theorem numAt_g5 (P : List Nat) (t : Nat) : numAt P t 5 = g5 ((bitsB P).drop t) := rfl

theorem or_grp (v g i : Nat) (hv : v < 2 ^ (4 * i)) (hi : i < 16) : bits .or .u64 (v : Int) (IntKind.u64.wrap (((g : Int) % 16) * 2 ^ (4 * i))) = ((v + g % 16 * 2 ^ (4 * i) : Nat) : Int) := by
  have hp : 2 ^ (4 * i) ≤ 2 ^ 60 := Nat.pow_le_pow_right (by decide) (by omega)
  have hk2 : ((2 : Int) ^ (4 * i)) = ((2 ^ (4 * i) : Nat) : Int) := by simp
  have hg : ((g : Int) % 16) = ((g % 16 : Nat) : Int) := by omega
  have hg2 : g % 16 < 16 := Nat.mod_lt _ (by decide)
  have hm : g % 16 * 2 ^ (4 * i) ≤ 15 * 2 ^ (4 * i) := Nat.mul_le_mul_right _ (by omega)
  have hj : (g % 16 * 2 ^ (4 * i)) % 2 ^ (4 * i) = 0 := Nat.mul_mod_left _ _
  have e : IntKind.u64.wrap (((g : Int) % 16) * 2 ^ (4 * i)) = ((g % 16 * 2 ^ (4 * i) : Nat) : Int) := by
    rw [hg, hk2, ← Int.natCast_mul, IntKind.wrap_u64]
    omega
  rw [e, u64_or_nat v _ (by omega) (by omega), Nat.or_comm, nat_join (4 * i) _ v hj hv, Nat.add_comm]

set_option maxHeartbeats 400000 in
theorem get_ok2 (B : Nat) (w : World) (b : Nat) (g : Option Nat) (P : List Nat) (t n : Nat) (h : Rd B w b g P t) (hn : n ≤ 64) (hl : t + n ≤ 8 * P.length) :
    Calls Tryz.prog 82 #[.pointer (some ⟨b, 0, none⟩), .int .i64 n] w fun e w' => e = .returned (.tuple #[.int .u64 (numAt P t n : Nat), .int .i64 0]) ∧ Rd B w' b g P (t + n) ∧ Fr (At b none) w w' := by
  have h0 : ¬ (n : Int) < 0 := by omega
  have h1 : ¬ (64 : Int) < (n : Int) := by omega
  have hle := h.le
  have hlen := h.len
  have h2 : ¬ ((8 * P.length - t : Nat) : Int) < (n : Int) := by omega
  have H : Hid (Rd B w b g P t) := h
  clear h
  go_enter Tryz.func82, Tryz.ntmps82
  go_wp2_with fail
  refine (left_any B w b g P t H.out).mono ?_
  generalize 8 * P.length - t = lft at h2 ⊢
  rintro e w1 ⟨rfl, hf⟩
  have H1 : Hid (Rd B w1 b g P t ∧ Fr Nobody w w1) := ⟨H.out.quiet hf, hf⟩
  clear hf H
  go_wp2_with fail
  refine (next_any B w1 b g P t n H1.out.1 hn hl).mono ?_
  rintro e w2 ⟨rfl, hf⟩
  have H2 : Hid (Rd B w2 b g P t ∧ Fr Nobody w w2) := ⟨H1.out.1.quiet hf, H1.out.2.trans hf⟩
  clear hf H1
  obtain ⟨v, hb, ho, hv⟩ := H2.out.1.obj
  have HH : Hid (w2.heap[b]? = some (.cells #[v, .int .i64 (t : Int)] 139 (0, 0)) ∧ w2.ownsRow 0 5 1 v P.length (vrow P) ∧ v.ownBlock = g) := ⟨hb, ho, hv⟩
  have c1 := cell1 hb
  have f1 : w2.frozen? ⟨b, 1, none⟩ = false := froz hb
  clear hb ho hv
  go_wp2
  go_ret2
  have R := H2.out.1
  have hne := R.ne
  obtain ⟨hb, ho, hv⟩ := HH.out
  refine ⟨rfl, ⟨R.low, R.glow, R.ne, R.byt, R.len, hl, ⟨v, ?_, row_setCell ho _ _ (by rw [hv]; exact hne), hv⟩⟩, ?_⟩
  · refine (setCell_heap w2 b 1 _ _ _ hb).trans ?_
    simp
  · exact (H2.out.2.mono (fun _ _ k => k.elim)).setCell (.inl (.inl rfl)) _

/-- what the closure leaves: the reader somewhere, where it says if there is no error -/
def GvEnd (B : Nat) (w w' : World) (br : Nat) (g : Option Nat) (P : List Nat) (t : Nat) (rc : Int) (rn : Nat) : Prop := ∃ t', Rd B w' br g P t' ∧ Fr (At br none) w w' ∧ (rc = 0 → t' = t + rn)

set_option maxHeartbeats 1000000 in
theorem getVar1_any (B : Nat) (w : World) (bx br : Nat) (g : Option Nat) (P : List Nat) (t : Nat) (h : Rd B w br g P t) (hbx : w.cell? ⟨bx, 0, none⟩ = some (.pointer (some ⟨br, 0, none⟩))) (hap : ¬ At br none bx) :
    Calls Tryz.prog 133 #[.pointer (some ⟨bx, 0, none⟩)] w fun e w' => e = .returned (.tuple #[.int .u64 ((gv ((bitsB P).drop t)).2.1 : Nat), .int .i64 (gv ((bitsB P).drop t)).1]) ∧ GvEnd B w w' br g P t (gv ((bitsB P).drop t)).1 (gv ((bitsB P).drop t)).2.2 := by
  have hlt : bx < w.heap.size := World.block_lt_of_cell? w _ hbx
  have H : Hid (Rd B w br g P t) := h
  have HB : Hid (w.cell? ⟨bx, 0, none⟩ = some (.pointer (some ⟨br, 0, none⟩)) ∧ ¬ At br none bx) := ⟨hbx, hap⟩
  obtain ⟨r, hr⟩ : ∃ r, r = gv ((bitsB P).drop t) := ⟨_, rfl⟩
  rw [← hr]
  have HR : Hid (r = gvAux 16 0 0 ((bitsB P).drop t)) := hr
  have hlen := h.len
  clear h hbx hap hr
  obtain ⟨rc, rv, rn⟩ := r
  go_enter Tryz.func133, Tryz.ntmps133
  go_wp2
  go_loopw [3, 7] (fun xv c wr => ∃ i v : Nat, i ≤ 16 ∧ c = .int .i64 i ∧ xv = .int .u64 (v : Int) ∧ v < 2 ^ (4 * i) ∧ (rc, rv, rn) = gvAux (16 - i) i v ((bitsB P).drop (t + 5 * i)) ∧ Rd B wr br g P (t + 5 * i) ∧ Fr (At br none) w wr) (fun _ c _ => 16 - (intOf c).toNat)
  case atStart => exact ⟨0, 0, by decide, rfl, rfl, by decide, HR.out, H.out, Fr.refl _ _⟩
  case round =>
    obtain ⟨i, v, hi, rfl, rfl, hv, hgv, hR, hf⟩ := hrel
    have cb : wr.cell? ⟨bx, 0, none⟩ = some (.pointer (some ⟨br, 0, none⟩)) := (hf.cell (p := ⟨bx, 0, none⟩) hlt HB.out.2).trans HB.out.1
    have HV : Hid (v < 2 ^ (4 * i) ∧ (rc, rv, rn) = gvAux (16 - i) i v ((bitsB P).drop (t + 5 * i)) ∧ Rd B wr br g P (t + 5 * i) ∧ Fr (At br none) w wr) := ⟨hv, hgv, hR, hf⟩
    have hle := hR.le
    clear hv hgv hR hf H HR
    by_cases h16 : i < 16
    · have hM : ((bitsB P).drop (t + 5 * i)).length = 8 * P.length - (t + 5 * i) := by rw [List.length_drop, length_bitsB]
      have hstep := HV.out.2.1
      rw [show 16 - i = (15 - i) + 1 from by omega, gvAux] at hstep
      by_cases hsh : 8 * P.length < t + 5 * i + 5
      · rw [if_pos (by omega)] at hstep
        simp only [Prod.mk.injEq] at hstep
        obtain ⟨rfl, rfl, rfl⟩ := hstep
        clear hM
        go_wp2_with fail
        refine (get_short B wr br g P (t + 5 * i) 5 HV.out.2.2.1 (by decide) hsh).mono ?_
        rintro e w2 ⟨rfl, hf2⟩
        have H2 : Hid (Rd B w2 br g P (t + 5 * i) ∧ Fr (At br none) w w2) := ⟨HV.out.2.2.1.quiet hf2, HV.out.2.2.2.trans (hf2.mono (fun _ _ k => k.elim))⟩
        clear hf2 HV cb
        go_wp2
        go_ret2
        exact ⟨rfl, t + 5 * i, H2.out.1, H2.out.2, fun h => by simp at h⟩
      · rw [if_neg (by omega)] at hstep
        have HS : Hid _ := hstep
        clear hstep hM
        go_wp2_with fail
        refine (get_ok2 B wr br g P (t + 5 * i) 5 HV.out.2.2.1 (by decide) (by omega)).mono ?_
        rw [numAt_g5]
        have hg32 := g5_lt ((bitsB P).drop (t + 5 * i))
        have HD : Hid (((bitsB P).drop (t + 5 * i)).drop 5 = (bitsB P).drop (t + 5 * (i + 1))) := by show _ = _; rw [bits_drop]; congr 1
        generalize hGG : g5 ((bitsB P).drop (t + 5 * i)) = gg at *
        rintro e w2 ⟨rfl, hR2, hf2⟩
        have H2 : Hid (Rd B w2 br g P (t + 5 * (i + 1)) ∧ Fr (At br none) w w2) := ⟨hR2, HV.out.2.2.2.trans hf2⟩
        have hor := or_grp v gg i HV.out.1 h16
        have HVL : Hid (v + gg % 16 * 2 ^ (4 * i) < 2 ^ (4 * (i + 1))) := vstep_lt v gg i HV.out.1
        have hvl64 : v + gg % 16 * 2 ^ (4 * i) < 18446744073709551616 := Nat.lt_of_lt_of_le HVL.out (Nat.pow_le_pow_right (n := 2) (i := 4 * (i + 1)) (j := 64) (by decide) (by omega))
        have HS2 : Hid ((rc, rv, rn) = if 16 ≤ gg then gvAux (15 - i) (i + 1) (v + gg % 16 * 2 ^ (4 * i)) ((bitsB P).drop (t + 5 * (i + 1))) else if grp (v + gg % 16 * 2 ^ (4 * i)) ≠ i + 1 then (4, 0, 0) else (0, v + gg % 16 * 2 ^ (4 * i), 5 * (i + 1))) := by
          show _ = _
          rw [← HD.out]
          exact HS.out
        clear hR2 hf2 HV cb HS HD hGG
        generalize v + gg % 16 * 2 ^ (4 * i) = y at *
        by_cases c16 : 16 ≤ gg
        · have HS3 : Hid ((rc, rv, rn) = gvAux (16 - (i + 1)) (i + 1) y ((bitsB P).drop (t + 5 * (i + 1)))) := by
            have := HS2.out; rw [if_pos c16] at this; show _ = _; rw [this, show 16 - (i + 1) = 15 - i from by omega]
          clear HS2
          go_wp2
          go_roundw
          case rel => exact ⟨i + 1, y, by omega, by go_num, rfl, HVL.out, HS3.out, H2.out.1, H2.out.2⟩
          case measure => simp [intOf]; omega
        · have HS3 : Hid ((rc, rv, rn) = if grp y ≠ i + 1 then (4, 0, 0) else (0, y, 5 * (i + 1))) := by
            have := HS2.out; rw [if_neg c16] at this; exact this
          clear HS2
          go_wp2_with fail
          refine (groups_any y w2 hvl64).mono ?_
          generalize grp y = gy at *
          rintro e w3 ⟨rfl, rfl⟩
          by_cases cg : gy = i + 1
          · subst cg
            have hh := HS3.out
            rw [if_neg (by simp)] at hh
            simp only [Prod.mk.injEq] at hh
            obtain ⟨rfl, rfl, rfl⟩ := hh
            have tg : ((((i + 1 : Nat) : Int)) != (i : Int) + 1) = false := by simp
            go_wp2
            go_ret2
            exact ⟨rfl, t + 5 * (i + 1), H2.out.1, H2.out.2, fun _ => rfl⟩
          · have hh := HS3.out
            rw [if_pos cg] at hh
            simp only [Prod.mk.injEq] at hh
            obtain ⟨rfl, rfl, rfl⟩ := hh
            have tg : ((gy : Int) != (i : Int) + 1) = true := by rw [bne_iff_ne]; omega
            go_wp2
            go_ret2
            exact ⟨rfl, t + 5 * (i + 1), H2.out.1, H2.out.2, fun h => by simp at h⟩
    · have ei : i = 16 := by omega
      subst ei
      have hh := HV.out.2.1
      rw [show 16 - 16 = 0 from rfl, gvAux] at hh
      simp only [Prod.mk.injEq] at hh
      obtain ⟨rfl, rfl, rfl⟩ := hh
      go_wp2
      go_ret2
      exact ⟨rfl, t + 5 * 16, HV.out.2.2.1, HV.out.2.2.2, fun h => by simp at h⟩

/-- the closure's contract, as Try wants it: of a function value f: it answers rv and rc, and leaves the reader somewhere -/
def Reads (k : IntKind) (f : FuncId) (caps : Array Value) (B : Nat) (w0 : World) (br : Nat) (g : Option Nat) (P : List Nat) (t : Nat) (rv : Int) (rc : Int) (rn : Nat) : Prop :=
  ∀ w, Rd B w br g P t → Fr (At br none) w0 w → Calls Tryz.prog f caps w fun e w' => e = .returned (.tuple #[.int k rv, .int .i64 rc]) ∧ GvEnd B w w' br g P t rc rn

set_option maxHeartbeats 1000000 in
theorem tryU_any (f : FuncId) (hf : f = 133) (bx : Nat) (B : Nat) (w : World) (br : Nat) (g : Option Nat) (P : List Nat) (t : Nat) (rv rc : Int) (rn : Nat) (h : Rd B w br g P t) (hr : Reads .u64 f #[.pointer (some ⟨bx, 0, none⟩)] B w br g P t rv rc rn) (hz : rc ≠ 0 → rv = 0 ∧ rn = 0) :
    Calls Tryz.prog 132 #[.pointer (some ⟨br, 0, none⟩), .func (.func 133) #[] #[.pointer (some ⟨bx, 0, none⟩)]] w fun e w' => e = .returned (.tuple #[.int .u64 rv, .int .i64 rc]) ∧ Rd B w' br g P (t + rn) ∧ Fr (At br none) w w' := by
  subst hf
  obtain ⟨v, hb, ho, hv⟩ := h.obj
  have c0 := cell0 hb
  have c1 := cell1 hb
  obtain ⟨ao, cap, hvs⟩ : ∃ ao cap, v = .slice ao P.length cap := by
    rcases ho.2 with ⟨rfl, h0⟩ | ⟨g, cap, cur, rfl, _⟩
    · exact ⟨none, 0, by rw [h0]⟩
    · exact ⟨_, _, rfl⟩
  subst hvs
  have hlt := h.lt
  have H : Hid (Rd B w br g P t ∧ Reads .u64 133 #[.pointer (some ⟨bx, 0, none⟩)] B w br g P t rv rc rn ∧ (rc ≠ 0 → rv = 0 ∧ rn = 0)) := ⟨h, hr, hz⟩
  have HO : Hid (w.ownsRow 0 5 1 (.slice ao P.length cap) P.length (vrow P) ∧ (Value.slice ao P.length cap).ownBlock = g) := ⟨ho, hv⟩
  clear h hr hz hb ho hv
  go_enter Tryz.func132, Tryz.ntmps132
  go_wp2_with fail
  have HA : Hid (Fr (At br none) w (w.alloc (.cells #[.slice ao P.length cap, .int .i64 (t : Int)] 139))) := (Fr.refl _ _).alloc _
  have HN : Hid ((w.alloc (.cells #[.slice ao P.length cap, .int .i64 (t : Int)] 139)).heap[w.heap.size]? = some (.cells #[.slice ao P.length cap, .int .i64 (t : Int)] 139 (0, 0))) := heap_alloc_new w _
  refine (H.out.2.1 _ (H.out.1.quiet ((Fr.refl _ _).alloc _)) HA.out).mono ?_
  rintro e w2 ⟨rfl, hE⟩
  obtain ⟨t', hR', hf', ht'⟩ := hE
  have hs2 : (w.alloc (.cells #[.slice ao P.length cap, .int .i64 (t : Int)] 139)).heap.size ≤ w2.heap.size := hf'.size
  have hnew : w2.heap[w.heap.size]? = some (.cells #[.slice ao P.length cap, .int .i64 (t : Int)] 139 (0, 0)) := (hf'.block w.heap.size (by simp) (by rintro (e | e); omega; cases e)).trans HN.out
  have d0 := cell0 hnew
  have d1 := cell1 hnew
  have HF : Hid (Fr (At br none) w w2 ∧ Rd B w2 br g P t' ∧ (rc = 0 → t' = t + rn)) := ⟨HA.out.trans hf', hR', ht'⟩
  obtain ⟨v2, hb2, _, _⟩ := hR'.obj
  have HB2 : Hid (w2.heap[br]? = some (.cells #[v2, .int .i64 (t' : Int)] 139 (0, 0))) := hb2
  have e0 := cell0 hb2
  have e1 := cell1 hb2
  have f0 : w2.frozen? ⟨br, 0, none⟩ = false := froz hb2
  have f1 : w2.frozen? ⟨br, 1, none⟩ = false := froz hb2
  have hne : br ≠ w.heap.size := by omega
  clear hR' hf' ht' hb2 hnew HA HN c0 c1
  by_cases hrc : rc = 0
  · have HT : Hid (Rd B w2 br g P (t + rn) ∧ Fr (At br none) w w2) := ⟨by rw [← HF.out.2.2 hrc]; exact HF.out.2.1, HF.out.1⟩
    clear HF H
    subst hrc
    go_wp2
    go_ret2
    exact ⟨rfl, HT.out⟩
  · have tr : (rc != 0) = true := by rw [bne_iff_ne]; exact hrc
    obtain ⟨hz1, hz2⟩ := H.out.2.2 hrc
    subst hz1
    subst hz2
    have HT : Hid (Rd B ((w2.setCell ⟨br, 0, none⟩ (.slice ao P.length cap)).setCell ⟨br, 1, none⟩ (.int .i64 (t : Int))) br g P (t + 0) ∧ Fr (At br none) w ((w2.setCell ⟨br, 0, none⟩ (.slice ao P.length cap)).setCell ⟨br, 1, none⟩ (.int .i64 (t : Int)))) := by
      have R := H.out.1
      have hgne : g ≠ some br := R.ne
      have ho2 : w2.ownsRow 0 5 1 (.slice ao P.length cap) P.length (vrow P) := HF.out.1.row HO.out.1 (fun k hk => by
        rintro (e | e)
        · subst e; exact hgne (HO.out.2.symm.trans hk)
        · cases e)
      have hk1 : (Value.slice ao P.length cap).ownBlock ≠ some br := by rw [HO.out.2]; exact hgne
      refine ⟨⟨R.low, R.glow, R.ne, R.byt, R.len, R.le, ⟨.slice ao P.length cap, ?_, row_setCell (row_setCell ho2 _ _ hk1) _ _ hk1, HO.out.2⟩⟩, (HF.out.1.setCell (.inl (.inl rfl)) _).setCell (.inl (.inl rfl)) _⟩
      refine (setCell_heap _ br 1 _ _ _ (setCell_heap w2 br 0 _ _ _ HB2.out)).trans ?_
      simp
    clear HF H HB2 HO
    go_wp2
    go_ret2
    exact ⟨rfl, HT.out⟩

set_option maxHeartbeats 1000000 in
theorem getVar_rd (B : Nat) (w : World) (br : Nat) (g : Option Nat) (P : List Nat) (t : Nat) (h : Rd B w br g P t) :
    Calls Tryz.prog 109 #[.pointer (some ⟨br, 0, none⟩)] w fun e w' => e = .returned (.tuple #[.int .u64 ((gv ((bitsB P).drop t)).2.1 : Nat), .int .i64 (gv ((bitsB P).drop t)).1]) ∧ Rd B w' br g P (t + (gv ((bitsB P).drop t)).2.2) ∧ Fr (At br none) w w' := by
  have hlt := h.lt
  obtain ⟨hv, _, hz⟩ := gv_ok ((bitsB P).drop t)
  have key : ∀ w1 : World, Rd B w1 br g P t → ∀ bx, bx ≠ br → w1.cell? ⟨bx, 0, none⟩ = some (.pointer (some ⟨br, 0, none⟩)) → bx < w1.heap.size → Calls Tryz.prog 132 #[.pointer (some ⟨br, 0, none⟩), .func (.func 133) #[] #[.pointer (some ⟨bx, 0, none⟩)]] w1 fun e w' => e = .returned (.tuple #[.int .u64 ((gv ((bitsB P).drop t)).2.1 : Nat), .int .i64 (gv ((bitsB P).drop t)).1]) ∧ Rd B w' br g P (t + (gv ((bitsB P).drop t)).2.2) ∧ Fr (At br none) w1 w' := by
    intro w1 h1 bx hbx hc hbl
    refine tryU_any _ rfl bx B w1 br g P t _ _ _ h1 ?_ (fun hne => ?_)
    · intro w2 h2 hf2
      have hap : ¬ At br none bx := by rintro (e | e); exact hbx e; cases e
      exact getVar1_any B w2 bx br g P t h2 ((hf2.cell (p := ⟨bx, 0, none⟩) hbl hap).trans hc) hap
    · have := hz hne
      rw [this]; exact ⟨rfl, rfl⟩
  have K : Hid _ := key
  have H : Hid (Rd B w br g P t) := h
  clear key h hv hz
  generalize gv ((bitsB P).drop t) = r at *
  obtain ⟨rc, rv, rn⟩ := r
  go_enter Tryz.func109, Tryz.ntmps109
  go_wp2_with fail
  have HA : Hid (Fr (At br none) w (w.alloc (.cells #[.pointer (some ⟨br, 0, none⟩)] 79))) := (Fr.refl _ _).alloc _
  refine (K.out _ (H.out.quiet ((Fr.refl _ _).alloc _)) w.heap.size (by omega) (by simp) (by simp)).mono ?_
  rintro e w2 ⟨rfl, hR, hf⟩
  have H2 : Hid (Rd B w2 br g P (t + rn) ∧ Fr (At br none) w w2) := ⟨hR, HA.out.trans hf⟩
  clear hR hf HA H K
  go_wp2
  go_ret2
  exact ⟨rfl, H2.out⟩

end Go.Proofs.YtlncgkbgelejmaaGreatDoor


/-
  GetVar and GetInt of readers made by the law; what Var wrote is read again: plain facts.
-/
namespace Go.Proofs.YtlncgkbgelejmaaGreatDoor
open Go.RowKit
set_option linter.unusedVariables false
set_option maxRecDepth 100000

theorem getVar_or (w0 w : World) (br : Nat) (P : List Nat) (t : Nat) (h : Or w0 w br P t) :
    Calls Tryz.prog 109 #[.pointer (some ⟨br, 0, none⟩)] w fun e w' => e = .returned (.tuple #[.int .u64 ((gv ((bitsB P).drop t)).2.1 : Nat), .int .i64 (gv ((bitsB P).drop t)).1]) ∧ Or w0 w' br P (t + (gv ((bitsB P).drop t)).2.2) := by
  obtain ⟨g, hR, hF⟩ := h
  refine (getVar_rd _ w br g P t hR).mono ?_
  rintro e w' ⟨rfl, hR', hf⟩
  refine ⟨rfl, g, hR', hF.fresh hf ?_⟩
  rintro k (e | e)
  · subst e; exact hR.low
  · cases e
theorem lt_bitLen' (x : Nat) (h : x < 18446744073709551616) : x < 2 ^ Lib.bitLen x := by
  induction x using Nat.strongRecOn with
  | ind x ih =>
    by_cases h0 : x = 0
    · subst h0; exact Nat.two_pow_pos _
    · rw [Lib.bitLen_half x h0 h, Nat.add_comm, Nat.pow_succ]
      have := ih (x / 2) (by omega) (by omega)
      omega
theorem lt_grp (v : Nat) (h : v < 18446744073709551616) : v < 2 ^ (4 * grp v) := by
  have h1 := lt_bitLen' v h
  have h2 : 2 ^ Lib.bitLen v ≤ 2 ^ (4 * grp v) := Nat.pow_le_pow_right (by decide) (by unfold grp; omega)
  omega
/-- groups from k on -/
def varFrom (v n : Nat) : Nat → Nat → List Bool
  | _, 0 => []
  | k, m + 1 => bitsN 5 (grpAt v n k) ++ varFrom v n (k + 1) m
theorem varTo_from (v n k m : Nat) : varTo v n k ++ varFrom v n k m = varTo v n (k + m) := by
  induction m generalizing k with
  | zero => simp [varFrom]
  | succ m ih =>
    rw [varFrom, ← List.append_assoc, ← varTo, ih (k + 1)]
    congr 1; omega
theorem var_from (v : Nat) : var v = varFrom v (grp v) 0 (grp v) := by
  have h := varTo_from v (grp v) 0 (grp v)
  rw [Nat.zero_add] at h
  exact h.symm
theorem g5_group (x : Nat) (hx : x < 32) (R : List Bool) : g5 (bitsN 5 x ++ R) = x ∧ (bitsN 5 x ++ R).drop 5 = R ∧ ¬ (bitsN 5 x ++ R).length < 5 := by
  refine ⟨?_, ?_, ?_⟩
  · unfold g5; rw [List.take_left' (length_bitsN 5 x), num_bitsN]; exact Nat.mod_eq_of_lt hx
  · rw [List.drop_left' (length_bitsN 5 x)]
  · rw [List.length_append, length_bitsN]; omega
theorem mod_step (v k : Nat) : v % 2 ^ (4 * k) + v / 2 ^ (4 * k) % 16 * 2 ^ (4 * k) = v % 2 ^ (4 * (k + 1)) := by
  rw [show 4 * (k + 1) = 4 * k + 4 from by omega, Nat.pow_add, Nat.mod_mul, Nat.mul_comm (2 ^ (4 * k)) (v / 2 ^ (4 * k) % 2 ^ 4)]
theorem gvAux_var (v : Nat) (hv : v < 18446744073709551616) (R : List Bool) (m k : Nat) (hk : k + (m + 1) = grp v) : gvAux (16 - k) k (v % 2 ^ (4 * k)) (varFrom v (grp v) k (m + 1) ++ R) = (0, v, 5 * grp v) := by
  have hb := grp_bd v hv
  induction m generalizing k with
  | zero =>
    rw [varFrom, varFrom, List.append_nil, show 16 - k = (15 - k) + 1 from by omega, gvAux]
    obtain ⟨a, b, c⟩ := g5_group (grpAt v (grp v) k) (grpAt_lt _ _ _) R
    rw [if_neg c, a]
    have e : grpAt v (grp v) k = v / 2 ^ (4 * k) % 16 := by unfold grpAt; rw [if_neg (by omega)]; rfl
    rw [e, if_neg (by have := Nat.mod_lt (v / 2 ^ (4 * k)) (show 0 < 16 by decide); omega), Nat.mod_mod, mod_step]
    have ek : k + 1 = grp v := by omega
    rw [ek, Nat.mod_eq_of_lt (lt_grp v hv), if_neg (by simp)]
  | succ m ih =>
    rw [varFrom, List.append_assoc, show 16 - k = (15 - k) + 1 from by omega, gvAux]
    obtain ⟨a, b, c⟩ := g5_group (grpAt v (grp v) k) (grpAt_lt _ _ _) (varFrom v (grp v) (k + 1) (m + 1) ++ R)
    rw [if_neg c, a, b]
    have e : grpAt v (grp v) k = v / 2 ^ (4 * k) % 16 + 16 := by unfold grpAt; rw [if_pos (by omega)]
    have e2 : (v / 2 ^ (4 * k) % 16 + 16) % 16 = v / 2 ^ (4 * k) % 16 := by omega
    rw [e, if_pos (by omega), e2, mod_step, show 15 - k = 16 - (k + 1) from by omega]
    exact ih (k + 1) (by omega)
theorem gv_var (v : Nat) (hv : v < 18446744073709551616) (R : List Bool) : gv (var v ++ R) = (0, v, 5 * grp v) := by
  have hb := grp_bd v hv
  obtain ⟨m, hm⟩ : ∃ m, grp v = m + 1 := ⟨grp v - 1, by omega⟩
  have h := gvAux_var v hv R m 0 (by omega)
  rw [Nat.mul_zero, Nat.pow_zero, Nat.mod_one, Nat.sub_zero] at h
  unfold gv
  rw [var_from, hm]
  rw [hm] at h
  exact h

end Go.Proofs.YtlncgkbgelejmaaGreatDoor


/-
  The document's side of layer 2: Var.
-/
namespace Go.Proofs.YtlncgkbgelejmaaGreatDoor
open Go.RowKit
set_option linter.unusedVariables false
set_option maxRecDepth 100000

theorem bitLen_ge (x : Nat) (h0 : x ≠ 0) (h : x < 18446744073709551616) : 2 ^ (Lib.bitLen x - 1) ≤ x := by
  induction x using Nat.strongRecOn with
  | ind x ih =>
    rw [Lib.bitLen_half x h0 h]
    by_cases h1 : x / 2 = 0
    · rw [h1, bitLen0]; simp; omega
    · have h2 := ih (x / 2) (by omega) h1 (by omega)
      have h3 : Lib.bitLen (x / 2) ≠ 0 := by
        intro e
        have h4 := lt_bitLen' (x / 2) (by omega)
        rw [e] at h4; omega
      obtain ⟨m, hm⟩ : ∃ m, Lib.bitLen (x / 2) = m + 1 := ⟨Lib.bitLen (x / 2) - 1, by omega⟩
      rw [hm] at h2 ⊢
      rw [show 1 + (m + 1) - 1 = m + 1 from by omega, Nat.pow_succ]
      rw [show m + 1 - 1 = m from by omega] at h2
      omega
theorem grp_more (v i : Nat) (hv : v < 18446744073709551616) : i + 1 < grp v ↔ v / 2 ^ (4 * (i + 1)) ≠ 0 := by
  constructor
  · intro h
    have hb : 4 * (i + 1) < Lib.bitLen v := by unfold grp at h; omega
    have h0 : v ≠ 0 := by rintro rfl; rw [bitLen0] at hb; omega
    have h1 := bitLen_ge v h0 hv
    have h2 : 2 ^ (4 * (i + 1)) ≤ 2 ^ (Lib.bitLen v - 1) := Nat.pow_le_pow_right (by decide) (by omega)
    intro e
    rw [Nat.div_eq_zero_iff_lt (Nat.two_pow_pos _)] at e
    omega
  · intro h
    rcases Nat.lt_or_ge (i + 1) (grp v) with c | c
    · exact c
    · exfalso
      have h1 := lt_grp v hv
      have h2 : 2 ^ (4 * grp v) ≤ 2 ^ (4 * (i + 1)) := Nat.pow_le_pow_right (by decide) (by omega)
      exact h (Nat.div_eq_of_lt (by omega))
theorem bits_group (v n i : Nat) (b : Bool) (hb : b = decide (i + 1 < n)) : bitsN 5 (grpAt v n i) = bitsN 4 (v / 2 ^ (4 * i)) ++ [b] := by
  subst hb
  unfold grpAt
  generalize v / 2 ^ (4 * i) = y
  by_cases c : i + 1 < n
  · rw [if_pos c]
    have e0 : (y % 16 + 16) % 2 = y % 2 := by omega
    have e1 : (y % 16 + 16) / 2 % 2 = y / 2 % 2 := by omega
    have e2 : (y % 16 + 16) / 2 / 2 % 2 = y / 2 / 2 % 2 := by omega
    have e3 : (y % 16 + 16) / 2 / 2 / 2 % 2 = y / 2 / 2 / 2 % 2 := by omega
    have e4 : (y % 16 + 16) / 2 / 2 / 2 / 2 % 2 = 1 := by omega
    simp only [bitsN, e0, e1, e2, e3, e4, c]
    simp
  · rw [if_neg c]
    have e0 : (y % 16 + 0) % 2 = y % 2 := by omega
    have e1 : (y % 16 + 0) / 2 % 2 = y / 2 % 2 := by omega
    have e2 : (y % 16 + 0) / 2 / 2 % 2 = y / 2 / 2 % 2 := by omega
    have e3 : (y % 16 + 0) / 2 / 2 / 2 % 2 = y / 2 / 2 / 2 % 2 := by omega
    have e4 : (y % 16 + 0) / 2 / 2 / 2 / 2 % 2 = 0 := by omega
    simp only [bitsN, e0, e1, e2, e3, e4, c]
    simp
theorem div16 (v i : Nat) : v / 2 ^ (4 * i) / 2 ^ 4 = v / 2 ^ (4 * (i + 1)) := by
  rw [Nat.div_div_eq_div_mul, ← Nat.pow_add]; congr 1

set_option maxHeartbeats 1000000 in
theorem rvar_any (w : World) (v : Nat) (hv : v < 18446744073709551616) : Calls Tryz.prog 20 #[.int .u64 (v : Int)] w fun e w' => ∃ u, e = .returned u ∧ Bo w.heap.size w' u (var v) ∧ Fr Nobody w w' := by
  obtain ⟨i0, hi, hz0, hz1, hz2⟩ := info_parts Tryz.infoBool
  have hg := grp_bd v hv
  have HM : Hid (∀ i, i + 1 < grp v ↔ v / 2 ^ (4 * (i + 1)) ≠ 0) := fun i => grp_more v i hv
  have HV : Hid (var v = varTo v (grp v) (grp v)) := rfl
  generalize var v = vv at *
  generalize grp v = n at *
  go_enter Tryz.func20, Tryz.ntmps20
  go_wp2
  go_loopw [0, 3] (fun xv u wr => ∃ i y : Nat, i < n ∧ y = v / 2 ^ (4 * i) ∧ y < 18446744073709551616 ∧ xv = .int .u64 (y : Int) ∧ Bo w.heap.size wr u (varTo v n i) ∧ Fr Nobody w wr) (fun xv _ _ => (intOf xv).toNat)
  case atStart => exact ⟨0, v, by omega, by simp, hv, rfl, Bo.nil _ _, Fr.refl _ _⟩
  case round =>
    obtain ⟨i, y, hin, hy, hyl, rfl, hB, hf⟩ := hrel
    have H1 : Hid (Bo w.heap.size wr _ (varTo v n i) ∧ Fr Nobody w wr) := ⟨hB, hf⟩
    have HY : Hid (y = v / 2 ^ (4 * i)) := hy
    have HL : Hid ((varTo v n i).length = 5 * i) := length_varTo v n i
    clear hB hf hy
    go_wp2
    go_loopw [0, 3, 4] (fun xv u c wr2 => ∃ j z : Nat, j ≤ 4 ∧ c = .int .i64 j ∧ z = y / 2 ^ j ∧ xv = .int .u64 (z : Int) ∧ Bo w.heap.size wr2 u (varTo v n i ++ bitsN j y) ∧ Fr Nobody w wr2) (fun _ _ c _ => 4 - (intOf c).toNat)
    case atStart => exact ⟨0, y, by decide, rfl, by simp, rfl, by simpa [bitsN] using H1.out.1, H1.out.2⟩
    case round =>
      obtain ⟨j, z, hj, rfl, hz, rfl, hB, hf⟩ := hrel
      have HZ : Hid (z = y / 2 ^ j) := hz
      have hz2 : z < 18446744073709551616 := by rw [hz]; exact Nat.lt_of_le_of_lt (Nat.div_le_self _ _) hyl
      have hsz := hf.size
      clear hz
      by_cases hj4 : j < 4
      · obtain ⟨bb, hbb⟩ : ∃ bb : Bool, (((z : Int) % 2 == 1) : Bool) = bb := ⟨_, rfl⟩
        have HB : Hid ((y / 2 ^ j % 2 == 1) = bb) := by
          show _ = _
          rw [← hbb, ← HZ.out, Bool.eq_iff_iff]; simp; omega
        have hln : (varTo v n i ++ bitsN j y).length ≤ 100000 := by rw [List.length_append, length_bitsN, HL.out]; omega
        go_wp2_with (at_builtin; refine wpList_append_own _ rfl _ _ 46 rfl w.heap.size 4 i0 (.bool false) 1 1 Tryz.underlying46 hi hz0 hz1 ‹_› rfl (by decide) _ _ _ rfl (World.ownsRow.alloc hB _) ⟨_, 0, none⟩ 1 1 [.bool bb] rfl rfl (cell_one_new _ _ _) (one_bool _) (by unfold maxLen; omega) (by omega) (by simp; omega) ?_)
        intro u' w2 ho2 hg2 _
        have H2 : Hid (Bo w.heap.size w2 u' (varTo v n i ++ bitsN (j + 1) y) ∧ Fr Nobody w w2) := by
          refine ⟨?_, (hf.alloc _).grown hg2 (fun q hq => .inr (World.ownsRow.lt hB q hq).1)⟩
          unfold Bo
          rw [bitsN_snoc, HB.out, ← List.append_assoc, brow_append (varTo v n i ++ bitsN j y), show (varTo v n i ++ bitsN j y ++ [bb]).length = (varTo v n i).length + (bitsN j y).length + 1 from by rw [List.length_append, List.length_append]; rfl]
          exact ho2
        have HY2 : Hid (z / 2 = y / 2 ^ (j + 1)) := by show _ = _; rw [HZ.out, half_pow]
        clear hB hf ho2 hg2 HB HZ hbb hln
        go_wp2
        go_roundw
        case rel => exact ⟨j + 1, z / 2, by omega, by go_num, HY2.out, by go_num, H2.out.1, H2.out.2⟩
        case measure => simp [intOf]; omega
      · have ej : j = 4 := by omega
        subst ej
        have HZ2 : Hid (z = v / 2 ^ (4 * (i + 1))) := by show _ = _; rw [HZ.out, HY.out, div16]
        have hln : (varTo v n i ++ bitsN 4 y).length ≤ 100000 := by rw [List.length_append, length_bitsN, HL.out]; omega
        have hm : z < y ∨ y = 0 := by have := HZ.out; omega
        have HZX : Hid (z ≤ y) := by have := HZ.out; show _ ≤ _; omega
        obtain ⟨bb, hbb⟩ : ∃ bb : Bool, decide (0 < z) = bb := ⟨_, rfl⟩
        have HG : Hid (varTo v n (i + 1) = varTo v n i ++ bitsN 4 y ++ [bb]) := by
          show _ = _
          rw [varTo, bits_group v n i bb, ← HY.out, List.append_assoc]
          rw [← hbb]
          have := HM.out i
          rw [← HZ2.out] at this
          rw [decide_eq_decide, this]; omega
        have hd : decide ((4 : Int) < 4) = false := by decide
        go_wp2_with (at_builtin; refine wpList_append_own _ rfl _ _ 46 rfl w.heap.size 4 i0 (.bool false) 1 1 Tryz.underlying46 hi hz0 hz1 ‹_› rfl (by decide) _ _ _ rfl (World.ownsRow.alloc hB _) ⟨_, 0, none⟩ 1 1 [.bool bb] rfl rfl (cell_one_new _ _ _) (one_bool _) (by unfold maxLen; omega) (by omega) (by simp; omega) ?_)
        intro u' w2 ho2 hg2 _
        have H2 : Hid (Bo w.heap.size w2 u' (varTo v n (i + 1)) ∧ Fr Nobody w w2) := by
          refine ⟨?_, (hf.alloc _).grown hg2 (fun q hq => .inr (World.ownsRow.lt hB q hq).1)⟩
          rw [HG.out]
          unfold Bo
          rw [brow_append (varTo v n i ++ bitsN 4 y), show (varTo v n i ++ bitsN 4 y ++ [bb]).length = (varTo v n i).length + (bitsN 4 y).length + 1 from by rw [List.length_append, List.length_append]; rfl]
          exact ho2
        have HI : Hid (i + 1 < n ↔ z ≠ 0) := by have := HM.out i; rw [← HZ2.out] at this; exact this
        clear hB hf ho2 hg2 HG HZ hbb hln HY
        by_cases z0 : z = 0
        · have H3 : Hid (Bo w.heap.size w2 u' vv ∧ Fr Nobody w w2) := by
            have e : i + 1 = n := by have := HI.out; omega
            have h2 := H2.out
            rw [e] at h2
            exact ⟨by rw [HV.out]; exact h2.1, h2.2⟩
          clear HI HM H2 HZ2 hm HZX
          subst z0
          go_wp2
          go_ret
          exact ⟨_, rfl, H3.out.1, H3.out.2⟩
        · have hi1 : i + 1 < n := HI.out.2 z0
          have tz : ((z : Int) == 0) = false := by simp; omega
          have HX : Hid (z < y) := by rcases hm with h | h; exact h; exact absurd (by have := HZX.out; omega) z0
          clear HI HM hm HZX
          go_wp2
          go_roundw
          case rel => exact ⟨i + 1, z, hi1, HZ2.out, hz2, rfl, H2.out.1, H2.out.2⟩
          case measure => have := HX.out; simp [intOf]; omega

end Go.Proofs.YtlncgkbgelejmaaGreatDoor

