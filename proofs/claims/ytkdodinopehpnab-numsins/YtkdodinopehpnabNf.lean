/-
  GetVar and GetInt of package nums: the closure, Try, and the whole.
-/
import Derived.Test.YtkdodinopehpnabNd
import Derived.Test.YtkdodinopehpnabPn
namespace Go.Proofs.Ytkdodinopehpnab
open Go.RowKit
set_option linter.unusedVariables false

theorem bits_drop (P : List Nat) (t k : Nat) : ((bitsB P).drop t).drop k = (bitsB P).drop (t + k) := by rw [List.drop_drop]
theorem numAt_g5 (P : List Nat) (t : Nat) : numAt P t 5 = g5 ((bitsB P).drop t) := rfl

theorem or_grp (v g i : Nat) (hv : v < 2 ^ (4 * i)) (hi : i < 16) : bits .or .u64 (v : Int) (IntKind.u64.wrap (((g : Int) % 16) * 2 ^ (4 * i))) = ((v + g % 16 * 2 ^ (4 * i) : Nat) : Int) := by
  have hp : 2 ^ (4 * i) ≤ 2 ^ 60 := Nat.pow_le_pow_right (by decide) (by omega)
  have hk2 : ((2 : Int) ^ (4 * i)) = ((2 ^ (4 * i) : Nat) : Int) := by simp
  have hg : ((g : Int) % 16) = ((g % 16 : Nat) : Int) := by omega
  have hg2 : g % 16 < 16 := Nat.mod_lt _ (by decide)
  have hm : g % 16 * 2 ^ (4 * i) ≤ 15 * 2 ^ (4 * i) := Nat.mul_le_mul_right _ (by omega)
  have hj : (g % 16 * 2 ^ (4 * i)) % 2 ^ (4 * i) = 0 := Nat.mul_mod_left _ _
  have e : IntKind.u64.wrap (((g : Int) % 16) * 2 ^ (4 * i)) = ((g % 16 * 2 ^ (4 * i) : Nat) : Int) := by
    rw [hg, hk2, ← Int.natCast_mul, IntKind.wrap_u64]
    omega
  rw [e, u64_or_nat v _ (by omega) (by omega), Nat.or_comm, nat_join (4 * i) _ v hj hv, Nat.add_comm]

set_option maxHeartbeats 400000 in
theorem get_ok2 (B : Nat) (w : World) (b : Nat) (g : Option Nat) (P : List Nat) (t n : Nat) (h : Rd B w b g P t) (hn : n ≤ 64) (hl : t + n ≤ 8 * P.length) :
    Calls Try.prog 20 #[.pointer (some ⟨b, 0, none⟩), .int .i64 n] w fun e w' => e = .returned (.tuple #[.int .u64 (numAt P t n : Nat), .int .i64 0]) ∧ Rd B w' b g P (t + n) ∧ Fr (At b none) w w' := by
  have h0 : ¬ (n : Int) < 0 := by omega
  have h1 : ¬ (64 : Int) < (n : Int) := by omega
  have hle := h.le
  have hlen := h.len
  have h2 : ¬ ((8 * P.length - t : Nat) : Int) < (n : Int) := by omega
  have H : Hid (Rd B w b g P t) := h
  clear h
  go_enter Try.func20, Try.ntmps20
  go_wp2_with fail
  refine (left_any B w b g P t H.out).mono ?_
  generalize 8 * P.length - t = lft at h2 ⊢
  rintro e w1 ⟨rfl, hf⟩
  have H1 : Hid (Rd B w1 b g P t ∧ Fr Nobody w w1) := ⟨H.out.quiet hf, hf⟩
  clear hf H
  go_wp2_with fail
  refine (next_any B w1 b g P t n H1.out.1 hn hl).mono ?_
  rintro e w2 ⟨rfl, hf⟩
  have H2 : Hid (Rd B w2 b g P t ∧ Fr Nobody w w2) := ⟨H1.out.1.quiet hf, H1.out.2.trans hf⟩
  clear hf H1
  obtain ⟨v, hb, ho, hv⟩ := H2.out.1.obj
  have HH : Hid (w2.heap[b]? = some (.cells #[v, .int .i64 (t : Int)] 72 (0, 0)) ∧ w2.ownsRow 0 5 1 v P.length (vrow P) ∧ v.ownBlock = g) := ⟨hb, ho, hv⟩
  have c1 := cell1 hb
  have f1 : w2.frozen? ⟨b, 1, none⟩ = false := froz hb
  clear hb ho hv
  go_wp2
  go_ret2
  have R := H2.out.1
  have hne := R.ne
  obtain ⟨hb, ho, hv⟩ := HH.out
  refine ⟨rfl, ⟨R.low, R.glow, R.ne, R.byt, R.len, hl, ⟨v, ?_, row_setCell ho _ _ (by rw [hv]; exact hne), hv⟩⟩, ?_⟩
  · refine (setCell_heap w2 b 1 _ _ _ hb).trans ?_
    simp
  · exact (H2.out.2.mono (fun _ _ k => k.elim)).setCell (.inl (.inl rfl)) _

/-- what the closure leaves: the reader somewhere, where it says if there is no error -/
def GvEnd (B : Nat) (w w' : World) (br : Nat) (g : Option Nat) (P : List Nat) (t : Nat) (rc : Int) (rn : Nat) : Prop := ∃ t', Rd B w' br g P t' ∧ Fr (At br none) w w' ∧ (rc = 0 → t' = t + rn)

set_option maxHeartbeats 1000000 in
theorem getVar1_any (B : Nat) (w : World) (bx br : Nat) (g : Option Nat) (P : List Nat) (t : Nat) (h : Rd B w br g P t) (hbx : w.cell? ⟨bx, 0, none⟩ = some (.pointer (some ⟨br, 0, none⟩))) (hap : ¬ At br none bx) :
    Calls Try.prog 43 #[.pointer (some ⟨bx, 0, none⟩)] w fun e w' => e = .returned (.tuple #[.int .u64 ((gv ((bitsB P).drop t)).2.1 : Nat), .int .i64 (gv ((bitsB P).drop t)).1]) ∧ GvEnd B w w' br g P t (gv ((bitsB P).drop t)).1 (gv ((bitsB P).drop t)).2.2 := by
  have hlt : bx < w.heap.size := World.block_lt_of_cell? w _ hbx
  have H : Hid (Rd B w br g P t) := h
  have HB : Hid (w.cell? ⟨bx, 0, none⟩ = some (.pointer (some ⟨br, 0, none⟩)) ∧ ¬ At br none bx) := ⟨hbx, hap⟩
  obtain ⟨r, hr⟩ : ∃ r, r = gv ((bitsB P).drop t) := ⟨_, rfl⟩
  rw [← hr]
  have HR : Hid (r = gvAux 16 0 0 ((bitsB P).drop t)) := hr
  have hlen := h.len
  clear h hbx hap hr
  obtain ⟨rc, rv, rn⟩ := r
  go_enter Try.func43, Try.ntmps43
  go_wp2
  go_loopw [3, 7] (fun xv c wr => ∃ i v : Nat, i ≤ 16 ∧ c = .int .i64 i ∧ xv = .int .u64 (v : Int) ∧ v < 2 ^ (4 * i) ∧ (rc, rv, rn) = gvAux (16 - i) i v ((bitsB P).drop (t + 5 * i)) ∧ Rd B wr br g P (t + 5 * i) ∧ Fr (At br none) w wr) (fun _ c _ => 16 - (intOf c).toNat)
  case atStart => exact ⟨0, 0, by decide, rfl, rfl, by decide, HR.out, H.out, Fr.refl _ _⟩
  case round =>
    obtain ⟨i, v, hi, rfl, rfl, hv, hgv, hR, hf⟩ := hrel
    have cb : wr.cell? ⟨bx, 0, none⟩ = some (.pointer (some ⟨br, 0, none⟩)) := (hf.cell (p := ⟨bx, 0, none⟩) hlt HB.out.2).trans HB.out.1
    have HV : Hid (v < 2 ^ (4 * i) ∧ (rc, rv, rn) = gvAux (16 - i) i v ((bitsB P).drop (t + 5 * i)) ∧ Rd B wr br g P (t + 5 * i) ∧ Fr (At br none) w wr) := ⟨hv, hgv, hR, hf⟩
    have hle := hR.le
    clear hv hgv hR hf H HR
    by_cases h16 : i < 16
    · have hM : ((bitsB P).drop (t + 5 * i)).length = 8 * P.length - (t + 5 * i) := by rw [List.length_drop, length_bitsB]
      have hstep := HV.out.2.1
      rw [show 16 - i = (15 - i) + 1 from by omega, gvAux] at hstep
      by_cases hsh : 8 * P.length < t + 5 * i + 5
      · rw [if_pos (by omega)] at hstep
        simp only [Prod.mk.injEq] at hstep
        obtain ⟨rfl, rfl, rfl⟩ := hstep
        clear hM
        go_wp2_with fail
        refine (get_short B wr br g P (t + 5 * i) 5 HV.out.2.2.1 (by decide) hsh).mono ?_
        rintro e w2 ⟨rfl, hf2⟩
        have H2 : Hid (Rd B w2 br g P (t + 5 * i) ∧ Fr (At br none) w w2) := ⟨HV.out.2.2.1.quiet hf2, HV.out.2.2.2.trans (hf2.mono (fun _ _ k => k.elim))⟩
        clear hf2 HV cb
        go_wp2
        go_ret2
        exact ⟨rfl, t + 5 * i, H2.out.1, H2.out.2, fun h => by simp at h⟩
      · rw [if_neg (by omega)] at hstep
        have HS : Hid _ := hstep
        clear hstep hM
        go_wp2_with fail
        refine (get_ok2 B wr br g P (t + 5 * i) 5 HV.out.2.2.1 (by decide) (by omega)).mono ?_
        rw [numAt_g5]
        have hg32 := g5_lt ((bitsB P).drop (t + 5 * i))
        have HD : Hid (((bitsB P).drop (t + 5 * i)).drop 5 = (bitsB P).drop (t + 5 * (i + 1))) := by show _ = _; rw [bits_drop]; congr 1
        generalize hGG : g5 ((bitsB P).drop (t + 5 * i)) = gg at *
        rintro e w2 ⟨rfl, hR2, hf2⟩
        have H2 : Hid (Rd B w2 br g P (t + 5 * (i + 1)) ∧ Fr (At br none) w w2) := ⟨hR2, HV.out.2.2.2.trans hf2⟩
        have hor := or_grp v gg i HV.out.1 h16
        have HVL : Hid (v + gg % 16 * 2 ^ (4 * i) < 2 ^ (4 * (i + 1))) := vstep_lt v gg i HV.out.1
        have hvl64 : v + gg % 16 * 2 ^ (4 * i) < 18446744073709551616 := Nat.lt_of_lt_of_le HVL.out (Nat.pow_le_pow_right (n := 2) (i := 4 * (i + 1)) (j := 64) (by decide) (by omega))
        have HS2 : Hid ((rc, rv, rn) = if 16 ≤ gg then gvAux (15 - i) (i + 1) (v + gg % 16 * 2 ^ (4 * i)) ((bitsB P).drop (t + 5 * (i + 1))) else if grp (v + gg % 16 * 2 ^ (4 * i)) ≠ i + 1 then (4, 0, 0) else (0, v + gg % 16 * 2 ^ (4 * i), 5 * (i + 1))) := by
          show _ = _
          rw [← HD.out]
          exact HS.out
        clear hR2 hf2 HV cb HS HD hGG
        generalize v + gg % 16 * 2 ^ (4 * i) = y at *
        by_cases c16 : 16 ≤ gg
        · have HS3 : Hid ((rc, rv, rn) = gvAux (16 - (i + 1)) (i + 1) y ((bitsB P).drop (t + 5 * (i + 1)))) := by
            have := HS2.out; rw [if_pos c16] at this; show _ = _; rw [this, show 16 - (i + 1) = 15 - i from by omega]
          clear HS2
          go_wp2
          go_roundw
          case rel => exact ⟨i + 1, y, by omega, by go_num, rfl, HVL.out, HS3.out, H2.out.1, H2.out.2⟩
          case measure => simp [intOf]; omega
        · have HS3 : Hid ((rc, rv, rn) = if grp y ≠ i + 1 then (4, 0, 0) else (0, y, 5 * (i + 1))) := by
            have := HS2.out; rw [if_neg c16] at this; exact this
          clear HS2
          go_wp2_with fail
          refine (groups_any y w2 hvl64).mono ?_
          generalize grp y = gy at *
          rintro e w3 ⟨rfl, rfl⟩
          by_cases cg : gy = i + 1
          · subst cg
            have hh := HS3.out
            rw [if_neg (by simp)] at hh
            simp only [Prod.mk.injEq] at hh
            obtain ⟨rfl, rfl, rfl⟩ := hh
            have tg : ((((i + 1 : Nat) : Int)) != (i : Int) + 1) = false := by simp
            go_wp2
            go_ret2
            exact ⟨rfl, t + 5 * (i + 1), H2.out.1, H2.out.2, fun _ => rfl⟩
          · have hh := HS3.out
            rw [if_pos cg] at hh
            simp only [Prod.mk.injEq] at hh
            obtain ⟨rfl, rfl, rfl⟩ := hh
            have tg : ((gy : Int) != (i : Int) + 1) = true := by rw [bne_iff_ne]; omega
            go_wp2
            go_ret2
            exact ⟨rfl, t + 5 * (i + 1), H2.out.1, H2.out.2, fun h => by simp at h⟩
    · have ei : i = 16 := by omega
      subst ei
      have hh := HV.out.2.1
      rw [show 16 - 16 = 0 from rfl, gvAux] at hh
      simp only [Prod.mk.injEq] at hh
      obtain ⟨rfl, rfl, rfl⟩ := hh
      go_wp2
      go_ret2
      exact ⟨rfl, t + 5 * 16, HV.out.2.2.1, HV.out.2.2.2, fun h => by simp at h⟩

/-- the closure's contract, as Try wants it: of a function value f: it answers rv and rc, and leaves the reader somewhere -/
def Reads (k : IntKind) (f : FuncId) (caps : Array Value) (B : Nat) (w0 : World) (br : Nat) (g : Option Nat) (P : List Nat) (t : Nat) (rv : Int) (rc : Int) (rn : Nat) : Prop :=
  ∀ w, Rd B w br g P t → Fr (At br none) w0 w → Calls Try.prog f caps w fun e w' => e = .returned (.tuple #[.int k rv, .int .i64 rc]) ∧ GvEnd B w w' br g P t rc rn

set_option maxHeartbeats 1000000 in
theorem tryU_any (f : FuncId) (hf : f = 43) (bx : Nat) (B : Nat) (w : World) (br : Nat) (g : Option Nat) (P : List Nat) (t : Nat) (rv rc : Int) (rn : Nat) (h : Rd B w br g P t) (hr : Reads .u64 f #[.pointer (some ⟨bx, 0, none⟩)] B w br g P t rv rc rn) (hz : rc ≠ 0 → rv = 0 ∧ rn = 0) :
    Calls Try.prog 42 #[.pointer (some ⟨br, 0, none⟩), .func (.func 43) #[] #[.pointer (some ⟨bx, 0, none⟩)]] w fun e w' => e = .returned (.tuple #[.int .u64 rv, .int .i64 rc]) ∧ Rd B w' br g P (t + rn) ∧ Fr (At br none) w w' := by
  subst hf
  obtain ⟨v, hb, ho, hv⟩ := h.obj
  have c0 := cell0 hb
  have c1 := cell1 hb
  obtain ⟨ao, cap, hvs⟩ : ∃ ao cap, v = .slice ao P.length cap := by
    rcases ho.2 with ⟨rfl, h0⟩ | ⟨g, cap, cur, rfl, _⟩
    · exact ⟨none, 0, by rw [h0]⟩
    · exact ⟨_, _, rfl⟩
  subst hvs
  have hlt := h.lt
  have H : Hid (Rd B w br g P t ∧ Reads .u64 43 #[.pointer (some ⟨bx, 0, none⟩)] B w br g P t rv rc rn ∧ (rc ≠ 0 → rv = 0 ∧ rn = 0)) := ⟨h, hr, hz⟩
  have HO : Hid (w.ownsRow 0 5 1 (.slice ao P.length cap) P.length (vrow P) ∧ (Value.slice ao P.length cap).ownBlock = g) := ⟨ho, hv⟩
  clear h hr hz hb ho hv
  go_enter Try.func42, Try.ntmps42
  go_wp2_with fail
  have HA : Hid (Fr (At br none) w (w.alloc (.cells #[.slice ao P.length cap, .int .i64 (t : Int)] 72))) := (Fr.refl _ _).alloc _
  have HN : Hid ((w.alloc (.cells #[.slice ao P.length cap, .int .i64 (t : Int)] 72)).heap[w.heap.size]? = some (.cells #[.slice ao P.length cap, .int .i64 (t : Int)] 72 (0, 0))) := heap_alloc_new w _
  refine (H.out.2.1 _ (H.out.1.quiet ((Fr.refl _ _).alloc _)) HA.out).mono ?_
  rintro e w2 ⟨rfl, hE⟩
  obtain ⟨t', hR', hf', ht'⟩ := hE
  have hs2 : (w.alloc (.cells #[.slice ao P.length cap, .int .i64 (t : Int)] 72)).heap.size ≤ w2.heap.size := hf'.size
  have hnew : w2.heap[w.heap.size]? = some (.cells #[.slice ao P.length cap, .int .i64 (t : Int)] 72 (0, 0)) := (hf'.block w.heap.size (by simp) (by rintro (e | e); omega; cases e)).trans HN.out
  have d0 := cell0 hnew
  have d1 := cell1 hnew
  have HF : Hid (Fr (At br none) w w2 ∧ Rd B w2 br g P t' ∧ (rc = 0 → t' = t + rn)) := ⟨HA.out.trans hf', hR', ht'⟩
  obtain ⟨v2, hb2, _, _⟩ := hR'.obj
  have HB2 : Hid (w2.heap[br]? = some (.cells #[v2, .int .i64 (t' : Int)] 72 (0, 0))) := hb2
  have e0 := cell0 hb2
  have e1 := cell1 hb2
  have f0 : w2.frozen? ⟨br, 0, none⟩ = false := froz hb2
  have f1 : w2.frozen? ⟨br, 1, none⟩ = false := froz hb2
  have hne : br ≠ w.heap.size := by omega
  clear hR' hf' ht' hb2 hnew HA HN c0 c1
  by_cases hrc : rc = 0
  · have HT : Hid (Rd B w2 br g P (t + rn) ∧ Fr (At br none) w w2) := ⟨by rw [← HF.out.2.2 hrc]; exact HF.out.2.1, HF.out.1⟩
    clear HF H
    subst hrc
    go_wp2
    go_ret2
    exact ⟨rfl, HT.out⟩
  · have tr : (rc != 0) = true := by rw [bne_iff_ne]; exact hrc
    obtain ⟨hz1, hz2⟩ := H.out.2.2 hrc
    subst hz1
    subst hz2
    have HT : Hid (Rd B ((w2.setCell ⟨br, 0, none⟩ (.slice ao P.length cap)).setCell ⟨br, 1, none⟩ (.int .i64 (t : Int))) br g P (t + 0) ∧ Fr (At br none) w ((w2.setCell ⟨br, 0, none⟩ (.slice ao P.length cap)).setCell ⟨br, 1, none⟩ (.int .i64 (t : Int)))) := by
      have R := H.out.1
      have hgne : g ≠ some br := R.ne
      have ho2 : w2.ownsRow 0 5 1 (.slice ao P.length cap) P.length (vrow P) := HF.out.1.row HO.out.1 (fun k hk => by
        rintro (e | e)
        · subst e; exact hgne (HO.out.2.symm.trans hk)
        · cases e)
      have hk1 : (Value.slice ao P.length cap).ownBlock ≠ some br := by rw [HO.out.2]; exact hgne
      refine ⟨⟨R.low, R.glow, R.ne, R.byt, R.len, R.le, ⟨.slice ao P.length cap, ?_, row_setCell (row_setCell ho2 _ _ hk1) _ _ hk1, HO.out.2⟩⟩, (HF.out.1.setCell (.inl (.inl rfl)) _).setCell (.inl (.inl rfl)) _⟩
      refine (setCell_heap _ br 1 _ _ _ (setCell_heap w2 br 0 _ _ _ HB2.out)).trans ?_
      simp
    clear HF H HB2 HO
    go_wp2
    go_ret2
    exact ⟨rfl, HT.out⟩

set_option maxHeartbeats 1000000 in
theorem getVar_rd (B : Nat) (w : World) (br : Nat) (g : Option Nat) (P : List Nat) (t : Nat) (h : Rd B w br g P t) :
    Calls Try.prog 21 #[.pointer (some ⟨br, 0, none⟩)] w fun e w' => e = .returned (.tuple #[.int .u64 ((gv ((bitsB P).drop t)).2.1 : Nat), .int .i64 (gv ((bitsB P).drop t)).1]) ∧ Rd B w' br g P (t + (gv ((bitsB P).drop t)).2.2) ∧ Fr (At br none) w w' := by
  have hlt := h.lt
  obtain ⟨hv, _, hz⟩ := gv_ok ((bitsB P).drop t)
  have key : ∀ w1 : World, Rd B w1 br g P t → ∀ bx, bx ≠ br → w1.cell? ⟨bx, 0, none⟩ = some (.pointer (some ⟨br, 0, none⟩)) → bx < w1.heap.size → Calls Try.prog 42 #[.pointer (some ⟨br, 0, none⟩), .func (.func 43) #[] #[.pointer (some ⟨bx, 0, none⟩)]] w1 fun e w' => e = .returned (.tuple #[.int .u64 ((gv ((bitsB P).drop t)).2.1 : Nat), .int .i64 (gv ((bitsB P).drop t)).1]) ∧ Rd B w' br g P (t + (gv ((bitsB P).drop t)).2.2) ∧ Fr (At br none) w1 w' := by
    intro w1 h1 bx hbx hc hbl
    refine tryU_any _ rfl bx B w1 br g P t _ _ _ h1 ?_ (fun hne => ?_)
    · intro w2 h2 hf2
      have hap : ¬ At br none bx := by rintro (e | e); exact hbx e; cases e
      exact getVar1_any B w2 bx br g P t h2 ((hf2.cell (p := ⟨bx, 0, none⟩) hbl hap).trans hc) hap
    · have := hz hne
      rw [this]; exact ⟨rfl, rfl⟩
  have K : Hid _ := key
  have H : Hid (Rd B w br g P t) := h
  clear key h hv hz
  generalize gv ((bitsB P).drop t) = r at *
  obtain ⟨rc, rv, rn⟩ := r
  go_enter Try.func21, Try.ntmps21
  go_wp2_with fail
  have HA : Hid (Fr (At br none) w (w.alloc (.cells #[.pointer (some ⟨br, 0, none⟩)] 38))) := (Fr.refl _ _).alloc _
  refine (K.out _ (H.out.quiet ((Fr.refl _ _).alloc _)) w.heap.size (by omega) (by simp) (by simp)).mono ?_
  rintro e w2 ⟨rfl, hR, hf⟩
  have H2 : Hid (Rd B w2 br g P (t + rn) ∧ Fr (At br none) w w2) := ⟨hR, HA.out.trans hf⟩
  clear hR hf HA H K
  go_wp2
  go_ret2
  exact ⟨rfl, H2.out⟩

end Go.Proofs.Ytkdodinopehpnab
