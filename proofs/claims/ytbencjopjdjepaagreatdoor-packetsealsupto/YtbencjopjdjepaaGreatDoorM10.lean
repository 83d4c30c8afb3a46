/-
  GetIn of package nums: the closure, Try, and the whole.
-/
import Derived.Test.YtbencjopjdjepaaGreatDoorM09
namespace Go.Proofs.YtbencjopjdjepaaGreatDoor
open Go.RowKit
set_option linter.unusedVariables false
set_option maxRecDepth 100000

/-- what GetIn answers of a list of bits: the error, the number, and how many bits it took -/
def gi (lo hi : Int) (L : List Bool) : Int × Int × Nat :=
  if hi < lo then (1, 0, 0)
  else if L.length < wid lo hi then (2, 0, 0)
  else if (hi - lo).toNat < num (L.take (wid lo hi)) then (5, 0, 0)
  else (0, lo + (num (L.take (wid lo hi)) : Nat), wid lo hi)
theorem gi_zero (lo hi : Int) (L : List Bool) (h : (gi lo hi L).1 ≠ 0) : (gi lo hi L).2.1 = 0 ∧ (gi lo hi L).2.2 = 0 := by
  unfold gi at *
  split
  · exact ⟨rfl, rfl⟩
  · split
    · exact ⟨rfl, rfl⟩
    · split
      · exact ⟨rfl, rfl⟩
      · rename_i a b c
        rw [if_neg a, if_neg b, if_neg c] at h
        exact absurd rfl h

set_option maxHeartbeats 1000000 in
theorem tryI_any (f : FuncId) (hf : f = 176) (caps : Array Value) (B : Nat) (w : World) (br : Nat) (g : Option Nat) (P : List Nat) (t : Nat) (rv rc : Int) (rn : Nat) (h : Rd B w br g P t) (hr : Reads .i64 f caps B w br g P t rv rc rn) (hz : rc ≠ 0 → rv = 0 ∧ rn = 0) :
    Calls Tryz.prog 175 #[.pointer (some ⟨br, 0, none⟩), .func (.func 176) #[] caps] w fun e w' => e = .returned (.tuple #[.int .i64 rv, .int .i64 rc]) ∧ Rd B w' br g P (t + rn) ∧ Fr (At br none) w w' := by
  subst hf
  obtain ⟨v, hb, ho, hv⟩ := h.obj
  have c0 := cell0 hb
  have c1 := cell1 hb
  obtain ⟨ao, cap, hvs⟩ : ∃ ao cap, v = .slice ao P.length cap := by
    rcases ho.2 with ⟨rfl, h0⟩ | ⟨g, cap, cur, rfl, _⟩
    · exact ⟨none, 0, by rw [h0]⟩
    · exact ⟨_, _, rfl⟩
  subst hvs
  have hlt := h.lt
  have H : Hid (Rd B w br g P t ∧ Reads .i64 176 caps B w br g P t rv rc rn ∧ (rc ≠ 0 → rv = 0 ∧ rn = 0)) := ⟨h, hr, hz⟩
  have HO : Hid (w.ownsRow 0 5 1 (.slice ao P.length cap) P.length (vrow P) ∧ (Value.slice ao P.length cap).ownBlock = g) := ⟨ho, hv⟩
  clear h hr hz hb ho hv
  go_enter Tryz.func175, Tryz.ntmps175
  go_wp2_with fail
  have HA : Hid (Fr (At br none) w (w.alloc (.cells #[.slice ao P.length cap, .int .i64 (t : Int)] 233))) := (Fr.refl _ _).alloc _
  have HN : Hid ((w.alloc (.cells #[.slice ao P.length cap, .int .i64 (t : Int)] 233)).heap[w.heap.size]? = some (.cells #[.slice ao P.length cap, .int .i64 (t : Int)] 233 (0, 0))) := heap_alloc_new w _
  refine (H.out.2.1 _ (H.out.1.quiet ((Fr.refl _ _).alloc _)) HA.out).mono ?_
  rintro e w2 ⟨rfl, hE⟩
  obtain ⟨t', hR', hf', ht'⟩ := hE
  have hs2 : (w.alloc (.cells #[.slice ao P.length cap, .int .i64 (t : Int)] 233)).heap.size ≤ w2.heap.size := hf'.size
  have hnew : w2.heap[w.heap.size]? = some (.cells #[.slice ao P.length cap, .int .i64 (t : Int)] 233 (0, 0)) := (hf'.block w.heap.size (by simp) (by rintro (e | e); omega; cases e)).trans HN.out
  have d0 := cell0 hnew
  have d1 := cell1 hnew
  have HF : Hid (Fr (At br none) w w2 ∧ Rd B w2 br g P t' ∧ (rc = 0 → t' = t + rn)) := ⟨HA.out.trans hf', hR', ht'⟩
  obtain ⟨v2, hb2, _, _⟩ := hR'.obj
  have HB2 : Hid (w2.heap[br]? = some (.cells #[v2, .int .i64 (t' : Int)] 233 (0, 0))) := hb2
  have e0 := cell0 hb2
  have e1 := cell1 hb2
  have f0 : w2.frozen? ⟨br, 0, none⟩ = false := froz hb2
  have f1 : w2.frozen? ⟨br, 1, none⟩ = false := froz hb2
  have hne : br ≠ w.heap.size := by omega
  clear hR' hf' ht' hb2 hnew HA HN c0 c1
  by_cases hrc : rc = 0
  · have HT : Hid (Rd B w2 br g P (t + rn) ∧ Fr (At br none) w w2) := ⟨by rw [← HF.out.2.2 hrc]; exact HF.out.2.1, HF.out.1⟩
    clear HF H
    subst hrc
    go_wp2
    go_ret2
    exact ⟨rfl, HT.out⟩
  · have tr : (rc != 0) = true := by rw [bne_iff_ne]; exact hrc
    obtain ⟨hz1, hz2⟩ := H.out.2.2 hrc
    subst hz1
    subst hz2
    have HT : Hid (Rd B ((w2.setCell ⟨br, 0, none⟩ (.slice ao P.length cap)).setCell ⟨br, 1, none⟩ (.int .i64 (t : Int))) br g P (t + 0) ∧ Fr (At br none) w ((w2.setCell ⟨br, 0, none⟩ (.slice ao P.length cap)).setCell ⟨br, 1, none⟩ (.int .i64 (t : Int)))) := by
      have R := H.out.1
      have hgne : g ≠ some br := R.ne
      have ho2 : w2.ownsRow 0 5 1 (.slice ao P.length cap) P.length (vrow P) := HF.out.1.row HO.out.1 (fun k hk => by
        rintro (e | e)
        · subst e; exact hgne (HO.out.2.symm.trans hk)
        · cases e)
      have hk1 : (Value.slice ao P.length cap).ownBlock ≠ some br := by rw [HO.out.2]; exact hgne
      refine ⟨⟨R.low, R.glow, R.ne, R.byt, R.len, R.le, ⟨.slice ao P.length cap, ?_, row_setCell (row_setCell ho2 _ _ hk1) _ _ hk1, HO.out.2⟩⟩, (HF.out.1.setCell (.inl (.inl rfl)) _).setCell (.inl (.inl rfl)) _⟩
      refine (setCell_heap _ br 1 _ _ _ (setCell_heap w2 br 0 _ _ _ HB2.out)).trans ?_
      simp
    clear HF H HB2 HO
    go_wp2
    go_ret2
    exact ⟨rfl, HT.out⟩

end Go.Proofs.YtbencjopjdjepaaGreatDoor


