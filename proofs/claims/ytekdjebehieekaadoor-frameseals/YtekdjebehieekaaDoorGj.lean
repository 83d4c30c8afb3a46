/-
  spare and kept of the laws on frames; Same of unlike bytes.
-/
import Derived.Test.YtekdjebehieekaaDoorGi
import Derived.Test.YtekdjebehieekaaDoorGg
namespace Go.Proofs.YtekdjebehieekaaDoor
open Go.RowKit
set_option linter.unusedVariables false

theorem push_list (l : List Int) (b : ByteArray) : (l.foldl (fun r n => r.push (UInt8.ofNat n.toNat)) b).data.toList = b.data.toList ++ l.map (fun n => UInt8.ofNat n.toNat) := by
  induction l generalizing b with
  | nil => simp
  | cons x l ih => rw [List.foldl_cons, ih]; simp [ByteArray.push]
theorem bstr_inj (P Q : List Nat) (hP : ∀ x ∈ P, x < 256) (hQ : ∀ x ∈ Q, x < 256) (h : (bstr P).toList = (bstr Q).toList) : P = Q := by
  rw [ByteArray.toList_eq, ByteArray.toList_eq] at h
  unfold bstr at h
  rw [push_list, push_list, List.map_map, List.map_map] at h
  have h2 : P.map ((fun n : Int => UInt8.ofNat n.toNat) ∘ fun (n : Nat) => (n : Int)) = Q.map ((fun n : Int => UInt8.ofNat n.toNat) ∘ fun (n : Nat) => (n : Int)) := by simpa using h
  have h3 := congrArg (List.map UInt8.toNat) h2
  rw [List.map_map, List.map_map] at h3
  have e : ∀ L : List Nat, (∀ x ∈ L, x < 256) → L.map (UInt8.toNat ∘ ((fun n : Int => UInt8.ofNat n.toNat) ∘ fun (n : Nat) => (n : Int))) = L := by
    intro L hL
    conv => rhs; rw [← List.map_id L]
    refine List.map_congr_left fun x hx => ?_
    have := hL x hx
    simp [UInt8.toNat_ofNat']
    omega
  rw [e P hP, e Q hQ] at h3
  exact h3
theorem same_no (w : World) (a b : Value) (P Q : List Nat) (ha : Src w a P.length (vrow P)) (hb : Src w b Q.length (vrow Q)) (hP : ∀ x ∈ P, x < 256) (hQ : ∀ x ∈ Q, x < 256) (hne : P ≠ Q) :
    Calls Tryd.prog 16 #[a, b] w fun e w' => e = .returned (.bool false) ∧ w' = w := by
  obtain ⟨aa, an, ac, rfl⟩ : ∃ aa an ac, a = .slice aa an ac := by
    rcases ha with ⟨rfl, _⟩ | ⟨_, _, rfl, _⟩ <;> exact ⟨_, _, _, rfl⟩
  obtain ⟨ba, bn, bc, rfl⟩ : ∃ aa an ac, b = .slice aa an ac := by
    rcases hb with ⟨rfl, _⟩ | ⟨_, _, rfl, _⟩ <;> exact ⟨_, _, _, rfl⟩
  have ca := conv_src w aa an ac P ha
  have cb := conv_src w ba bn bc Q hb
  have hs : ((bstr P).toList == (bstr Q).toList) = false := by
    simp only [beq_eq_false_iff_ne]
    exact fun c => hne (bstr_inj P Q hP hQ c)
  clear ha hb
  generalize bstr P = s at *
  generalize bstr Q = t at *
  go_enter Tryd.func16, Tryd.ntmps16
  go_wp2
  go_ret
  exact ⟨rfl, rfl⟩

set_option maxHeartbeats 1000000 in
theorem spare_any (w : World) (ao : Option Addr) (cap len : Nat) (P : List Nat) (h : In w ao len cap P) (hL : len ≤ 10000) :
    Calls Tryd.prog 10 #[.slice ao len cap] w fun e w' => ∃ g cp, e = .returned (.slice (some ⟨g, 0, none⟩) len cp) ∧ w'.ownsRow w.heap.size 5 1 (.slice (some ⟨g, 0, none⟩) (len + 1) cp) (len + 1) (vrow (P ++ [165])) ∧ Fr Nobody w w' := by
  obtain ⟨i0, hi, hz0, hz1, hz2⟩ := info_parts Tryd.infoB
  have HI : Hid (In w ao len cap P) := h
  clear h
  go_enter Tryd.func10, Tryd.ntmps10
  go_wp2_with (at_builtin; refine copy_bytes rfl _ _ rfl ao len cap P HI.out.src HI.out.eqn (by omega) rfl rfl ?_)
  intro v2 w2 ho2 hf2
  have H2 : Hid (w2.ownsRow w.heap.size 5 1 v2 len (vrow P) ∧ Fr Nobody w w2) := ⟨ho2, hf2⟩
  have hs2 := H2.out.2.size
  clear ho2 hf2
  go_wp2_with (at_builtin; refine wpList_append_own _ rfl _ _ 22 rfl w.heap.size 5 i0 (.int .u8 0) 1 1 Tryd.underlying22 hi hz0 hz1 hz2 rfl (by decide) _ _ _ rfl (H2.out.1.alloc _) ⟨w2.heap.size, 0, none⟩ 1 1 [.int .u8 165] rfl rfl (cell_one_new _ _ _) (one_int _ _) (by unfold maxLen; omega) (by omega) (by simp; omega) ?_)
  intro v3 w3 ho3 hg3 _
  obtain ⟨g, cp, hv3, hg⟩ := row_shape ho3 (by omega)
  subst hv3
  have hcm : len + 1 ≤ cp := row_cap ho3
  have H3 : Hid (w3.ownsRow w.heap.size 5 1 (.slice (some ⟨g, 0, none⟩) (len + 1) cp) (len + 1) (vrow (P ++ [165])) ∧ Fr Nobody w w3) := by
    refine ⟨?_, (H2.out.2.alloc _).grown hg3 (fun q hq => .inr (H2.out.1.lt q hq).1)⟩
    rw [vrow_append]; exact ho3
  clear ho3 hg3
  go_wp2
  go_ret
  exact ⟨g, cp, rfl, H3.out⟩

/-- bytes of their own with a marked place behind them -/
structure Sp (w : World) (B g n cp : Nat) (P : List Nat) : Prop where
  row : w.ownsRow B 5 1 (.slice (some ⟨g, 0, none⟩) (n + 1) cp) (n + 1) (vrow (P ++ [165]))
  eqn : P.length = n
  byt : ∀ x ∈ P, x < 256
theorem Sp.quiet {w w' : World} {B g n cp : Nat} {P : List Nat} (h : Sp w B g n cp P) (hf : Fr Nobody w w') : Sp w' B g n cp P :=
  ⟨hf.row h.row (fun _ _ => id), h.eqn, h.byt⟩
theorem Sp.in' {w : World} {B g n cp : Nat} {P : List Nat} (h : Sp w B g n cp P) : In w (some ⟨g, 0, none⟩) n cp P := by
  have h1 : In w (some ⟨g, 0, none⟩) (n + 1) cp (P ++ [165]) := In.of_row h.row (by rw [List.length_append, h.eqn]; rfl) (fun x hx => by
    rcases List.mem_append.1 hx with hx | hx
    · exact h.byt x hx
    · simp at hx; omega)
  have h2 := h1.cut n (by omega)
  rw [List.take_left' h.eqn] at h2
  exact h2
theorem Sp.last {w : World} {B g n cp : Nat} {P : List Nat} (h : Sp w B g n cp P) : w.cell? ⟨g, n, none⟩ = some (.int .u8 165) ∧ n + 1 ≤ cp := by
  refine ⟨?_, row_cap h.row⟩
  rw [h.row.cellAt n (by omega), getElem?_vrow, List.getElem?_append_right (by rw [h.eqn]; exact Nat.le_refl _), h.eqn, Nat.sub_self]; rfl

set_option maxHeartbeats 1000000 in
theorem kept_any (w : World) (B g n cp : Nat) (ao : Option Addr) (cap : Nat) (P : List Nat) (h : Sp w B g n cp P) (h2 : In w ao n cap P) (hL : n ≤ 10000) :
    Calls Tryd.prog 13 #[.slice (some ⟨g, 0, none⟩) n cp, .slice ao n cap] w fun e w' => e = .returned (.bool true) ∧ w' = w := by
  obtain ⟨c1, c2⟩ := h.last
  have HS : Hid _ := And.intro h.in'.src h2.src
  clear h h2
  go_enter Tryd.func13, Tryd.ntmps13
  go_wp2_with fail
  refine (same_any w _ _ P HS.out.1 HS.out.2).mono ?_
  rintro e w1 ⟨rfl, rfl⟩
  go_wp2
  go_ret
  exact ⟨rfl, rfl⟩
end Go.Proofs.YtekdjebehieekaaDoor
