/-
  Same of the document's side: two slices of the same bytes are alike.
-/
import Derived.Test.YtlncgkbgelejmaaGreatDoorWf
import Derived.Laws.BytesString
namespace Go.Proofs.YtlncgkbgelejmaaGreatDoor
open Go.RowKit
set_option linter.unusedVariables false

def bstr (P : List Nat) : ByteArray := (P.map (fun (n : Nat) => (n : Int))).foldl (fun r n => r.push (UInt8.ofNat n.toNat)) ByteArray.empty

theorem conv_src (w : World) (ao : Option Addr) (n c : Nat) (P : List Nat) (h : Src w (.slice ao n c) P.length (vrow P)) : (convert 29 9 (.slice ao n c)).run Tryz.prog w = .ok (.string (bstr P)) w := by
  rw [run_convert_bytes_string w 29 9 5 ao n c Tryz.underlying29 Tryz.underlying5 Tryz.underlying9]
  rcases h with ⟨h0, h1, h2⟩ | ⟨a, cap, h0, h1, h2⟩
  · cases h0
    have : P = [] := List.eq_nil_of_length_eq_zero h1
    subst this
    simp [Conv.bytesToString, bstr]
  · cases h0
    refine run_bytesToString w a P.length c (P.map (fun (n : Nat) => (n : Int))) ?_
    have e : (P.map (fun (n : Nat) => (n : Int))).map (Value.int .u8) = vrow P := by simp [vrow]
    rw [e, ← length_vrow P]
    exact run_loadCells_list w a (vrow P) h2

set_option maxHeartbeats 400000 in
theorem same_any (w : World) (a b : Value) (P : List Nat) (ha : Src w a P.length (vrow P)) (hb : Src w b P.length (vrow P)) :
    Calls Tryz.prog 13 #[a, b] w fun e w' => e = .returned (.bool true) ∧ w' = w := by
  obtain ⟨aa, an, ac, rfl⟩ : ∃ aa an ac, a = .slice aa an ac := by
    rcases ha with ⟨rfl, _⟩ | ⟨_, _, rfl, _⟩ <;> exact ⟨_, _, _, rfl⟩
  obtain ⟨ba, bn, bc, rfl⟩ : ∃ aa an ac, b = .slice aa an ac := by
    rcases hb with ⟨rfl, _⟩ | ⟨_, _, rfl, _⟩ <;> exact ⟨_, _, _, rfl⟩
  have ca := conv_src w aa an ac P ha
  have cb := conv_src w ba bn bc P hb
  clear ha hb
  generalize bstr P = s at *
  have hs : (s.toList == s.toList) = true := by simp
  go_enter Tryz.func13, Tryz.ntmps13
  go_wp2
  go_ret
  exact ⟨rfl, rfl⟩

theorem Wr.lowAt {B : Nat} {w : World} {b : Nat} {g : Option Nat} {L : List Bool} (h : Wr B w b g L) : ∀ k, At b g k → B ≤ k := by
  rintro k (rfl | e)
  · exact h.low
  · exact h.glow k e.symm
theorem Rd.lowAt {B : Nat} {w : World} {b : Nat} {g : Option Nat} {P : List Nat} {t : Nat} (h : Rd B w b g P t) : ∀ k, At b g k → B ≤ k := by
  rintro k (rfl | e)
  · exact h.low
  · exact h.glow k e.symm

/-- A writer that was made behind w0, and nothing that lay in w0 has turned. -/
def Ow (w0 w : World) (b : Nat) (L : List Bool) : Prop := ∃ g, Wr w0.heap.size w b g L ∧ Fr Nobody w0 w
def Or (w0 w : World) (b : Nat) (P : List Nat) (t : Nat) : Prop := ∃ g, Rd w0.heap.size w b g P t ∧ Fr Nobody w0 w

theorem Ow.quiet {w0 w w' : World} {b : Nat} {L : List Bool} (h : Ow w0 w b L) (hf : Fr Nobody w w') : Ow w0 w' b L := by
  obtain ⟨g, hW, hF⟩ := h
  exact ⟨g, hW.quiet hf, hF.trans hf⟩
theorem Or.quiet {w0 w w' : World} {b : Nat} {P : List Nat} {t : Nat} (h : Or w0 w b P t) (hf : Fr Nobody w w') : Or w0 w' b P t := by
  obtain ⟨g, hW, hF⟩ := h
  exact ⟨g, hW.quiet hf, hF.trans hf⟩
theorem Ow.fr {w0 w : World} {b : Nat} {L : List Bool} (h : Ow w0 w b L) : Fr Nobody w0 w := by
  obtain ⟨g, hW, hF⟩ := h
  exact hF
theorem Or.fr {w0 w : World} {b : Nat} {P : List Nat} {t : Nat} (h : Or w0 w b P t) : Fr Nobody w0 w := by
  obtain ⟨g, hW, hF⟩ := h
  exact hF

theorem new_ow (w0 w : World) (hf : Fr Nobody w0 w) : Calls Tryz.prog 40 #[] w fun e w' => ∃ b, e = .returned (.pointer (some ⟨b, 0, none⟩)) ∧ w.heap.size ≤ b ∧ Ow w0 w' b [] := by
  refine (new_any w0.heap.size w hf.size).mono ?_
  rintro e w' ⟨b, rfl, hb, hW, hF⟩
  exact ⟨b, rfl, hb, none, hW, hf.trans hF⟩
theorem len_ow (w0 w : World) (b : Nat) (L : List Bool) (h : Ow w0 w b L) : Calls Tryz.prog 118 #[.pointer (some ⟨b, 0, none⟩)] w fun e w' => e = .returned (.int .i64 (L.length : Int)) ∧ Ow w0 w' b L := by
  have hh := h
  obtain ⟨g, hW, hF⟩ := h
  refine (len_any _ w b g L hW).mono ?_
  rintro e w' ⟨rfl, rfl⟩
  exact ⟨rfl, hh⟩
theorem same_fr (w : World) (a b : Value) (P : List Nat) (ha : Src w a P.length (vrow P)) (hb : Src w b P.length (vrow P)) :
    Calls Tryz.prog 13 #[a, b] w fun e w' => e = .returned (.bool true) ∧ Fr Nobody w w' := by
  refine (same_any w a b P ha hb).mono ?_
  rintro e w' ⟨rfl, rfl⟩
  exact ⟨rfl, Fr.refl _ _⟩
theorem put_ow (w0 w : World) (b : Nat) (L : List Bool) (v n : Nat) (h : Ow w0 w b L) (hn : n ≤ 64) (hv : v < 2 ^ n) (hv2 : v < 18446744073709551616) (hl : L.length + n ≤ 1048576) :
    Calls Tryz.prog 92 #[.pointer (some ⟨b, 0, none⟩), .int .u64 v, .int .i64 n] w fun e w' => e = .returned (.int .i64 0) ∧ Ow w0 w' b (L ++ bitsN n v) := by
  obtain ⟨g, hW, hF⟩ := h
  refine (put_ok _ w b g L v n hW hn hv hv2 hl).mono ?_
  rintro e w' ⟨rfl, g', hW', hS⟩
  exact ⟨rfl, g', hW', hF.fresh hS.fr hW.lowAt⟩
theorem put_ow_long (w0 w : World) (b : Nat) (L : List Bool) (v n : Nat) (h : Ow w0 w b L) (hn : n ≤ 64) (hv : v < 2 ^ n) (hv2 : v < 18446744073709551616) (hl : L.length ≤ 1048576) (hl2 : 1048576 < L.length + n) :
    Calls Tryz.prog 92 #[.pointer (some ⟨b, 0, none⟩), .int .u64 v, .int .i64 n] w fun e w' => e = .returned (.int .i64 3) ∧ Ow w0 w' b L := by
  have hh := h
  obtain ⟨g, hW, hF⟩ := h
  refine (put_long _ w b g L v n hW hn hv hv2 hl hl2).mono ?_
  rintro e w' ⟨rfl, rfl⟩
  exact ⟨rfl, hh⟩
theorem bytes_ow (w0 w : World) (b : Nat) (L : List Bool) (h : Ow w0 w b L) (hl : L.length ≤ 1048576) :
    Calls Tryz.prog 44 #[.pointer (some ⟨b, 0, none⟩)] w fun e w' => ∃ v', e = .returned v' ∧ w'.ownsRow 0 5 1 v' (nb L.length) (vrow (pack L)) ∧ Fr Nobody w w' ∧ (∀ k, v'.ownBlock = some k → w.heap.size ≤ k) ∧ Ow w0 w' b L := by
  obtain ⟨g, hW, hF⟩ := h
  refine (bytes_any _ w b g L hW hl).mono ?_
  rintro e w' ⟨v', rfl, ho, hf, hk⟩
  exact ⟨v', rfl, ho, hf, hk, g, hW.quiet hf, hF.trans hf⟩
theorem read_or (w0 w : World) (v : Value) (P : List Nat) (hf : Fr Nobody w0 w) (h : Src w v P.length (vrow P)) (hb : ∀ x ∈ P, x < 256) (hn : P.length ≤ 1048576) :
    Calls Tryz.prog 59 #[v] w fun e w' => ∃ b, e = .returned (.pointer (some ⟨b, 0, none⟩)) ∧ w.heap.size ≤ b ∧ Or w0 w' b P 0 ∧ Fr Nobody w w' := by
  refine (read_any w0.heap.size w v P h hb hn hf.size).mono ?_
  rintro e w' ⟨b, g, rfl, hb0, hk, hR, hF⟩
  exact ⟨b, rfl, hb0, ⟨g, hR, hf.trans hF⟩, hF⟩
theorem left_or (w0 w : World) (b : Nat) (P : List Nat) (t : Nat) (h : Or w0 w b P t) :
    Calls Tryz.prog 87 #[.pointer (some ⟨b, 0, none⟩)] w fun e w' => e = .returned (.int .i64 ((8 * P.length - t : Nat) : Int)) ∧ Or w0 w' b P t := by
  have hh := h
  obtain ⟨g, hR, hF⟩ := h
  refine (left_any _ w b g P t hR).mono ?_
  rintro e w' ⟨rfl, hf⟩
  exact ⟨rfl, hh.quiet hf⟩
theorem get_or (w0 w : World) (b : Nat) (P : List Nat) (t n : Nat) (h : Or w0 w b P t) (hn : n ≤ 64) (hl : t + n ≤ 8 * P.length) :
    Calls Tryz.prog 82 #[.pointer (some ⟨b, 0, none⟩), .int .i64 n] w fun e w' => e = .returned (.tuple #[.int .u64 (numAt P t n : Nat), .int .i64 0]) ∧ Or w0 w' b P (t + n) := by
  obtain ⟨g, hR, hF⟩ := h
  refine (get_ok _ w b g P t n hR hn hl).mono ?_
  rintro e w' ⟨rfl, hR', hf⟩
  exact ⟨rfl, g, hR', hF.fresh hf hR.lowAt⟩
theorem get_or_short (w0 w : World) (b : Nat) (P : List Nat) (t n : Nat) (h : Or w0 w b P t) (hn : n ≤ 64) (hl : 8 * P.length < t + n) :
    Calls Tryz.prog 82 #[.pointer (some ⟨b, 0, none⟩), .int .i64 n] w fun e w' => e = .returned (.tuple #[.int .u64 0, .int .i64 2]) ∧ Or w0 w' b P t := by
  have hh := h
  obtain ⟨g, hR, hF⟩ := h
  refine (get_short _ w b g P t n hR hn hl).mono ?_
  rintro e w' ⟨rfl, hf⟩
  exact ⟨rfl, hh.quiet hf⟩
/-- what End answers -/
def endOf (P : List Nat) (t : Nat) : Int := if 8 ≤ 8 * P.length - t then 4 else if numAt P t (8 * P.length - t) = 0 then 0 else 4
theorem end_or (w0 w : World) (b : Nat) (P : List Nat) (t : Nat) (h : Or w0 w b P t) :
    Calls Tryz.prog 68 #[.pointer (some ⟨b, 0, none⟩)] w fun e w' => e = .returned (.int .i64 (endOf P t)) ∧ Or w0 w' b P t := by
  have hh := h
  obtain ⟨g, hR, hF⟩ := h
  unfold endOf
  by_cases h8 : 8 ≤ 8 * P.length - t
  · rw [if_pos h8]
    refine (end_much _ w b g P t hR h8).mono ?_
    rintro e w' ⟨rfl, hf⟩
    exact ⟨rfl, hh.quiet hf⟩
  · rw [if_neg h8]
    by_cases hz : numAt P t (8 * P.length - t) = 0
    · rw [if_pos hz]
      refine (end_zero _ w b g P t hR (by omega) hz).mono ?_
      rintro e w' ⟨rfl, hf⟩
      exact ⟨rfl, hh.quiet hf⟩
    · rw [if_neg hz]
      refine (end_bad _ w b g P t hR (by omega) hz).mono ?_
      rintro e w' ⟨rfl, hf⟩
      exact ⟨rfl, hh.quiet hf⟩

end Go.Proofs.YtlncgkbgelejmaaGreatDoor

