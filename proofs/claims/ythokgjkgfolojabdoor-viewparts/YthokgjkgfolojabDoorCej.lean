/-
  Sorting IDs that are unlike: the one list of them by rising numbers.
-/
import Derived.Test.YthokgjkgfolojabDoorSok
namespace Go.Proofs.YthokgjkgfolojabDoor
open Go.RowKit Go.Sort
set_option linter.unusedVariables false
set_option maxRecDepth 100000

theorem inc_eq : ∀ {A B : List Nat}, A.Pairwise (· < ·) → B.Pairwise (· < ·) → (∀ x, x ∈ A ↔ x ∈ B) → A = B := by
  intro A
  induction A with
  | nil =>
    intro B _ _ h
    cases B with
    | nil => rfl
    | cons b B => exact absurd ((h b).2 (List.mem_cons_self ..)) (by simp)
  | cons a A ih =>
    intro B hA hB h
    obtain ⟨a1, a2⟩ := List.pairwise_cons.1 hA
    cases B with
    | nil => exact absurd ((h a).1 (List.mem_cons_self ..)) (by simp)
    | cons b B =>
      obtain ⟨b1, b2⟩ := List.pairwise_cons.1 hB
      have e : a = b := by
        rcases List.mem_cons.1 ((h a).1 (List.mem_cons_self ..)) with e | e
        · exact e
        · rcases List.mem_cons.1 ((h b).2 (List.mem_cons_self ..)) with e2 | e2
          · exact e2.symm
          · have := b1 a e; have := a1 b e2; omega
      subst e
      congr 1
      refine ih a2 b2 (fun x => ?_)
      constructor
      · intro hx
        rcases List.mem_cons.1 ((h x).1 (List.mem_cons_of_mem _ hx)) with e | e
        · have := a1 x hx; omega
        · exact e
      · intro hx
        rcases List.mem_cons.1 ((h x).2 (List.mem_cons_of_mem _ hx)) with e | e
        · have := b1 x hx; omega
        · exact e
def toD (R : List Nat) : Array Int := (R.map (fun x : Nat => (x : Int))).toArray
theorem srow_toD (R : List Nat) : srow (toD R) = irow .u32 R := by simp [srow, toD, irow]
theorem sorted_list {R T : List Nat} {d' : Array Int} (hp : PermIn 0 R.length (toD R) d') (hs : SortedIn ltInt 0 R.length d') (hR : R.Nodup) (hT : T.Pairwise (· < ·)) (hm : ∀ x, x ∈ R ↔ x ∈ T) : d' = toD T := by
  obtain ⟨h1, _, h3⟩ := hp
  have hsz : (toD R).size = R.length := by simp [toD]
  have hp2 : d'.toList.Perm (R.map (fun x : Nat => (x : Int))) := by
    have e1 : (d'.extract 0 R.length).toList = d'.toList := by
      rw [← hsz, ← h1]; simp
    have e2 : ((toD R).extract 0 R.length).toList = R.map (fun x : Nat => (x : Int)) := by
      simp only [toD, List.extract_toArray, List.extract_eq_take_drop, List.drop_zero, Nat.sub_zero]
      exact List.take_of_length_le (by simp)
    rw [e1, e2] at h3
    exact h3
  have hall : ∀ z ∈ d'.toList, ((z.toNat : Nat) : Int) = z := by
    intro z hz
    obtain ⟨x, _, rfl⟩ := List.mem_map.1 (hp2.mem_iff.1 hz)
    simp
  obtain ⟨S, hS⟩ : ∃ S : List Nat, S = d'.toList.map Int.toNat := ⟨_, rfl⟩
  have hd : d'.toList = S.map (fun x : Nat => (x : Int)) := by
    rw [hS, List.map_map]
    conv => lhs; rw [← List.map_id d'.toList]
    apply List.map_congr_left
    intro z hz
    exact (hall z hz).symm
  have hSR : S.Perm R := by
    have := hp2.map Int.toNat
    rw [← hS, List.map_map] at this
    have e : R.map (Int.toNat ∘ fun x : Nat => (x : Int)) = R := by
      conv => rhs; rw [← List.map_id R]
      apply List.map_congr_left
      intro x _
      simp
    rw [e] at this
    exact this
  have hSn : S.Nodup := hSR.nodup_iff.2 hR
  have hsize : d'.size = S.length := by rw [← Array.length_toList, hd, List.length_map]
  have hSs : S.Pairwise (· < ·) := by
    rw [List.pairwise_iff_getElem]
    intro i j hi hj hij
    have hn : S.length = R.length := hSR.length_eq
    have a := hs i j (Nat.zero_le _) hij (by omega)
    have gi : d'[i]! = (S[i] : Int) := by
      rw [getElem!_pos d' i (by omega), ← Array.getElem_toList]
      simp [hd]
    have gj : d'[j]! = (S[j] : Int) := by
      rw [getElem!_pos d' j (by omega), ← Array.getElem_toList]
      simp [hd]
    rw [gi, gj] at a
    simp [ltInt] at a
    have hne : S[i] ≠ S[j] := by
      exact (List.pairwise_iff_getElem.1 hSn) i j hi hj hij
    omega
  have hST : S = T := inc_eq hSs hT (fun x => by rw [hSR.mem_iff]; exact hm x)
  apply Array.ext'
  rw [hd, hST]
  simp [toD]
set_option maxHeartbeats 2000000 in
theorem ins_nil (w : World) : Calls Tryd.prog 38 #[.slice none 0 0, .int .i64 0, .int .i64 0] w fun e w' => e = .returned (.tuple #[]) ∧ w' = w := by
  go_enter Tryd.func38, Tryd.ntmps38
  go_wp2
  go_loopw [6] (fun v wr => v = .int .i64 1 ∧ wr = w) (fun _ _ => 0)
  case atStart => exact ⟨rfl, rfl⟩
  case round =>
    obtain ⟨rfl, rfl⟩ := hrel
    go_wp2
    go_end0
    exact ⟨rfl, rfl⟩
set_option maxHeartbeats 2000000 in
theorem pdq_nil (w : World) (lim : Nat) : Calls Tryd.prog 35 #[.slice none 0 0, .int .i64 0, .int .i64 0, .int .i64 (lim : Int)] w fun e w' => e = .returned (.tuple #[]) ∧ w' = w := by
  have H : Hid (Calls _ _ _ _ _) := ins_nil w
  go_enter Tryd.func35, Tryd.ntmps35
  go_wp2
  go_loopw [1, 2, 3, 8, 9] (fun v1 v2 v3 v8 v9 wr => v1 = .int .i64 0 ∧ v2 = .int .i64 0 ∧ wr = w) (fun _ _ _ _ _ _ => 0)
  case atStart => exact ⟨rfl, rfl, rfl⟩
  case round =>
    obtain ⟨rfl, rfl, rfl⟩ := hrel
    go_wp2_with fail
    refine H.out.mono ?_
    rintro e w1 ⟨rfl, rfl⟩
    go_wp2
    refine bodyPost_ret (results_none rfl _ _ _) rfl ?_
    exact ⟨rfl, rfl⟩
set_option maxHeartbeats 2000000 in
theorem sort_nil (w : World) : Calls Tryd.prog 30 #[.slice none 0 0] w fun e w' => e = .returned (.tuple #[]) ∧ w' = w := by
  have HB : Hid (Calls _ _ _ _ _) := blen_ok w 0 (by decide)
  go_enter Tryd.func30, Tryd.ntmps30
  go_wp2_with fail
  refine HB.out.mono ?_
  rintro e w1 ⟨v, rfl, rfl, _, _⟩
  have HP : Hid (Calls _ _ _ _ _) := pdq_nil w1 v
  clear HB
  go_wp2_with fail
  refine HP.out.mono ?_
  rintro e w2 ⟨rfl, rfl⟩
  go_wp2
  go_end0
  exact ⟨rfl, rfl⟩
/-- Sort of IDs that are unlike -/
theorem sort_ids (w0 w : World) (l : List Thing) (R T : List Nat) (ao : Option Addr) (cap : Nat) (h : Own w0 w (Row 29 1 (.slice ao R.length cap) R.length (irow .u32 R) :: l)) (hR : R.Nodup) (hT : T.Pairwise (· < ·)) (hm : ∀ x, x ∈ R ↔ x ∈ T) (hn : R.length < 256) :
    Calls Tryd.prog 30 #[.slice ao R.length cap] w fun e w' => e = .returned (.tuple #[]) ∧ Own w0 w' (Row 29 1 (.slice ao T.length cap) T.length (irow .u32 T) :: l) ∧ R.length = T.length := by
  have hlen : R.length = T.length := ((List.perm_ext_iff_of_nodup hR (hT.imp (fun h => Nat.ne_of_lt h))).2 hm).length_eq
  rcases h.row.2 with ⟨hv, h0⟩ | ⟨g, cap', cur, hv, _⟩
  · have hR0 : R = [] := List.eq_nil_of_length_eq_zero h0
    have hT0 : T = [] := List.eq_nil_of_length_eq_zero (by rw [← hlen]; exact h0)
    subst hR0 hT0
    obtain ⟨rfl, _, rfl⟩ := Value.slice.inj hv
    refine (sort_nil w).mono ?_
    rintro e w' ⟨rfl, rfl⟩
    exact ⟨rfl, h, rfl⟩
  · obtain ⟨rfl, _, rfl⟩ := Value.slice.inj hv
    have hS : Own w0 w (SR g R.length cap (toD R) :: l) := by unfold SR; rw [srow_toD]; exact h
    refine (sort_ok w0 w l g R.length cap (toD R) hS hn).mono ?_
    rintro e w' ⟨rfl, d', h1, h2, h3⟩
    refine ⟨rfl, ?_, hlen⟩
    have e := sorted_list h1 h2 hR hT hm
    rw [e, hlen] at h3
    unfold SR at h3
    rw [srow_toD] at h3
    exact h3
end Go.Proofs.YthokgjkgfolojabDoor
