/-
  Package net: datagrams in a row, each with its frame; slices.Delete of one of them.
-/
import Derived.Test.YtiphkndahoageaaRf
import Derived.Test.YtiphkndahoageaaYx
namespace Go.Proofs.Ytiphkndahoageaa
open Go.RowKit
set_option linter.unusedVariables false

/-- a datagram as it lies: where its frame is, to whom it goes, its bytes -/
structure Gr where
  ao : Option Addr
  cap : Nat
  to : Int
  P : List Nat
def Gr.v (x : Gr) : Value := .slice x.ao x.P.length x.cap
def gel (x : Gr) : List Value := [.int .i64 x.to, .slice x.ao x.P.length x.cap]
theorem gel_len (x : Gr) : (gel x).length = 2 := rfl
theorem gel_one (x : Gr) : ∀ u ∈ gel x, u.oneCell' = true := by
  intro u hu
  simp [gel] at hu
  rcases hu with rfl | rfl <;> rfl
def gfr (x : Gr) : Thing := Row 5 1 (.slice x.ao x.P.length x.cap) x.P.length (vrow x.P)
def gfs (E : List Gr) : List Thing := E.map gfr
/-- a bag: its block, its row, its frames -/
def BagT (t : TypeId) (b N : Nat) (E : List Gr) : Thing := Ex (fun lv : Value => Cells b #[.int .i64 (N : Int), lv] t :: Row 33 2 lv E.length (cat gel E) :: gfs E)
theorem gfs_app (E F : List Gr) : gfs (E ++ F) = gfs E ++ gfs F := by simp [gfs]
theorem split_at {α : Type} (E : List α) (k : Nat) (e : α) (h : E[k]? = some e) : E = E.take k ++ e :: E.drop (k + 1) := by
  have hk := List.getElem?_eq_some_iff.1 h
  rw [← hk.2, ← List.drop_eq_getElem_cons hk.1, List.take_append_drop]
theorem erase_at {α : Type} (E : List α) (k : Nat) : E.eraseIdx k = E.take k ++ E.drop (k + 1) := List.eraseIdx_eq_take_drop_succ E k
theorem gfs_split (E : List Gr) (k : Nat) (x : Gr) (h : E[k]? = some x) : gfs E = gfs (E.take k) ++ gfr x :: gfs (E.drop (k + 1)) := by
  conv => lhs; rw [split_at E k x h]
  simp [gfs]
theorem gfs_erase (E : List Gr) (k : Nat) : gfs (E.eraseIdx k) = gfs (E.take k) ++ gfs (E.drop (k + 1)) := by rw [erase_at, gfs_app]
/-- one frame to the front -/
theorem Own.gpick {w0 w : World} {E : List Gr} {l : List Thing} {k : Nat} {x : Gr} (hk : E[k]? = some x) (h : Own w0 w (gfs E ++ l)) : Own w0 w (gfr x :: (gfs (E.eraseIdx k) ++ l)) := by
  rw [gfs_split E k x hk, List.append_assoc, List.cons_append] at h
  rw [gfs_erase, List.append_assoc]
  exact h.lift
theorem Own.gsrc {w0 w : World} {A : List Thing} {E : List Gr} {l : List Thing} {k : Nat} {x : Gr} (hk : E[k]? = some x) (h : Own w0 w (A ++ (gfs E ++ l))) : Src w (.slice x.ao x.P.length x.cap) x.P.length (vrow x.P) := by
  rw [gfs_split E k x hk, List.append_assoc, List.cons_append, ← List.append_assoc] at h
  exact Src.of_row (Own.row h.lift)
theorem Try.infoO : (Try.prog.info? 33).map (fun i => (i.zero, i.size, i.bytes)) = some (some (.agg #[.int .i64 0, .slice none 0 0]), 2, 32) := by kernel_rfl
theorem zeroO (w : World) : (zeroValue 33).run Try.prog w = .ok (.agg #[.int .i64 0, .slice none 0 0]) w := by kernel_rfl

/-- 'append(s[:i], s[j:]...)' of an owned row -/
theorem Own.movedAt {P : Program} {w0 w : World} {l : List Thing} {e : TypeId} {s len cap g : Nat} {xs : List Value} (h : Own w0 w (Row e s (.slice (some ⟨g, 0, none⟩) len cap) len xs :: l)) (t ty : TypeId) (i : TypeInfo) (ht : P.underlying t = some (.slice e)) (hi : P.info? e = some i) (hsize : i.size = s)
    (h1 : ∀ u ∈ xs, u.oneCell' = true) (m n : Nat) (hmn : m ≤ n) (hn : n ≤ len) (A : Addr) (hA : A = if cap = n then ⟨g, 0, none⟩ else ⟨g, n * s, none⟩) :
    ∃ w', (Builtin.append_ #[t, t] ty #[.slice (some ⟨g, 0, none⟩) m cap, .slice (some A) (len - n) (cap - n)]).run P w = .ok (.slice (some ⟨g, 0, none⟩) (m + (len - n)) cap) w' ∧
      Own w0 w' (Row e s (.slice (some ⟨g, 0, none⟩) (m + (len - n)) cap) (m + (len - n)) (xs.take (m * s) ++ xs.drop (n * s)) :: l) := by
  have hr := h.row
  have hcap := row_cap hr
  have h0 := row_cut hr (m := m) (Nat.le_trans hmn hn)
  have hl : (xs.drop (n * s)).length = (len - n) * s := by rw [List.length_drop, hr.1, Nat.sub_mul]
  obtain ⟨w', r1, r2, r3⟩ := run_append_fits (P := P) w 0 t ty e i s ht hi hsize g m cap _ h0 A (len - n) (cap - n) (xs.drop (n * s)) hl (by
    intro j u hu
    rw [List.getElem?_drop] at hu
    have hj := (List.getElem?_eq_some_iff.1 hu).1
    have hne : cap ≠ n := by
      intro q
      have : len = n := by omega
      rw [hr.1, this] at hj; omega
    rw [hA, if_neg hne, addr_add, hr.cellAt _ (by rw [← hr.1]; exact hj)]
    exact hu) (fun u hu => h1 u (List.mem_of_mem_drop hu)) (by omega)
  refine ⟨w', r1, h.grow r2 r3 ?_⟩
  intro k hk
  left; exact hk
theorem cat_take (c : Gr → List Value) (s : Nat) (hs : ∀ x, (c x).length = s) (L : List Gr) (n : Nat) : (cat c L).take (n * s) = cat c (L.take n) := by
  induction n generalizing L with
  | zero => simp [cat]
  | succ n ih =>
    cases L with
    | nil => simp [cat]
    | cons x L =>
      have := ih L
      rw [cat] at this
      rw [List.take_succ_cons, cat, List.flatMap_cons, cat, List.flatMap_cons, Nat.succ_mul, Nat.add_comm, List.take_append, hs, List.take_of_length_le (by rw [hs]; omega), Nat.add_sub_cancel_left, this, cat]

set_option maxHeartbeats 2000000 in
set_option maxRecDepth 100000 in
theorem delO (w0 w : World) (l : List Thing) (g len cap : Nat) (E : List Gr) (hlen : E.length = len) (m n : Nat) (hmn : n = m + 1) (hn : n ≤ len) (h : Own w0 w (Row 33 2 (.slice (some ⟨g, 0, none⟩) len cap) len (cat gel E) :: l)) (hL : len ≤ 100000) :
    Calls Try.prog 31 #[.slice (some ⟨g, 0, none⟩) len cap, .int .i64 (m : Int), .int .i64 (n : Int)] w fun e w' => e = .returned (.slice (some ⟨g, 0, none⟩) (len - 1) cap) ∧ Own w0 w' (Row 33 2 (.slice (some ⟨g, 0, none⟩) (len - 1) cap) (len - 1) (cat gel (E.eraseIdx m)) :: l) := by
  obtain ⟨hlc, hcm⟩ := (row_cap h.row).2
  unfold maxLen at hcm
  obtain ⟨i0, hi, hz0, hz1, hz2⟩ := info_parts Try.infoO
  obtain ⟨A, hA⟩ : ∃ A : Addr, A = if cap = n then ⟨g, 0, none⟩ else ⟨g, n * 2, none⟩ := ⟨_, rfl⟩
  obtain ⟨w1, hrun, hO1⟩ := h.drew.movedAt (P := Try.prog) 46 46 i0 Try.underlying46 hi hz1 (one_cat _ gel_one E) m n (by omega) hn A hA
  obtain ⟨w2, hcl, hO2⟩ := hO1.cleared (P := Try.prog) 46 (.agg #[.int .i64 0, .slice none 0 0]) Try.underlying46 zeroO rfl (by intro u hu; simp [Value.cells] at hu; rcases hu with rfl | rfl <;> rfl) (by decide) 1 (cap - (m + (len - n))) (by omega) (by omega)
  rw [cat_drop gel 2 gel_len, cat_take gel 2 gel_len, ← cat_append, hmn, ← erase_at, ← hmn] at hO2
  have e1 : m + (len - n) = len - 1 := by omega
  rw [e1] at hrun hcl hO2
  have HR : Hid _ := hrun
  have H2 : Hid (Own w0 w2 _) := hO2
  have hA' : (if cap = n then some (⟨g, 0, none⟩ : Addr) else some ⟨g, n * 2, none⟩) = some A := by rw [hA]; split <;> rfl
  have hnz : ((m : Int) == (n : Int)) = false := by simp; omega
  have hn0 : ¬ (m : Int) = (n : Int) := by omega
  have HMN : Hid (n = m + 1) := hmn
  have HL : Hid (E.length = len) := hlen
  have hmn1 : m < n := by omega
  clear hrun hO1 hO2 hA h hmn e1 hlen
  have hsub : len - (len - 1) = 1 := by omega
  have hnc : n ≤ cap := by omega
  have hm1 : m ≤ cap := by omega
  have hc0 : ¬ cap = 0 := by omega
  have hmc : ¬ cap = len - 1 := by omega
  go_enter Try.func31, Try.ntmps31
  go_wp2_with fail
  go_region_law (refine step_run rfl (.tmp 22) (.tmp 25) 46 46 46 rfl rfl (.slice (some ⟨g, 0, none⟩) m cap) (.slice (some A) (len - n) (cap - n)) (.slice (some ⟨g, 0, none⟩) (len - 1) cap) w1 (by simp [Act.eval, Act.put]) (by simp [Act.eval, Act.put]) HR.out ?_)
  go_wp2
  go_ret
  exact ⟨rfl, H2.out⟩
end Go.Proofs.Ytiphkndahoageaa
