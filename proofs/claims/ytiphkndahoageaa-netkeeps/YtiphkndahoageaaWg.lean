/-
  Same of the document's side: two slices of the same bytes are alike.
-/
import Derived.Test.YtiphkndahoageaaWf
import Derived.Laws.BytesString
namespace Go.Proofs.Ytiphkndahoageaa
open Go.RowKit
set_option linter.unusedVariables false

def bstr (P : List Nat) : ByteArray := (P.map (fun (n : Nat) => (n : Int))).foldl (fun r n => r.push (UInt8.ofNat n.toNat)) ByteArray.empty

theorem conv_src (w : World) (ao : Option Addr) (n c : Nat) (P : List Nat) (h : Src w (.slice ao n c) P.length (vrow P)) : (convert 31 9 (.slice ao n c)).run Try.prog w = .ok (.string (bstr P)) w := by
  rw [run_convert_bytes_string w 31 9 5 ao n c Try.underlying31 Try.underlying5 Try.underlying9]
  rcases h with ⟨h0, h1, h2⟩ | ⟨a, cap, h0, h1, h2⟩
  · cases h0
    have : P = [] := List.eq_nil_of_length_eq_zero h1
    subst this
    simp [Conv.bytesToString, bstr]
  · cases h0
    refine run_bytesToString w a P.length c (P.map (fun (n : Nat) => (n : Int))) ?_
    have e : (P.map (fun (n : Nat) => (n : Int))).map (Value.int .u8) = vrow P := by simp [vrow]
    rw [e, ← length_vrow P]
    exact run_loadCells_list w a (vrow P) h2

set_option maxHeartbeats 400000 in
theorem same_any (w : World) (a b : Value) (P : List Nat) (ha : Src w a P.length (vrow P)) (hb : Src w b P.length (vrow P)) :
    Calls Try.prog 12 #[a, b] w fun e w' => e = .returned (.bool true) ∧ w' = w := by
  obtain ⟨aa, an, ac, rfl⟩ : ∃ aa an ac, a = .slice aa an ac := by
    rcases ha with ⟨rfl, _⟩ | ⟨_, _, rfl, _⟩ <;> exact ⟨_, _, _, rfl⟩
  obtain ⟨ba, bn, bc, rfl⟩ : ∃ aa an ac, b = .slice aa an ac := by
    rcases hb with ⟨rfl, _⟩ | ⟨_, _, rfl, _⟩ <;> exact ⟨_, _, _, rfl⟩
  have ca := conv_src w aa an ac P ha
  have cb := conv_src w ba bn bc P hb
  clear ha hb
  generalize bstr P = s at *
  have hs : (s.toList == s.toList) = true := by simp
  go_enter Try.func12, Try.ntmps12
  go_wp2
  go_ret
  exact ⟨rfl, rfl⟩

theorem same_fr (w : World) (a b : Value) (P : List Nat) (ha : Src w a P.length (vrow P)) (hb : Src w b P.length (vrow P)) :
    Calls Try.prog 12 #[a, b] w fun e w' => e = .returned (.bool true) ∧ Fr Nobody w w' := by
  refine (same_any w a b P ha hb).mono ?_
  rintro e w' ⟨rfl, rfl⟩
  exact ⟨rfl, Fr.refl _ _⟩
/-- what End answers -/
def endOf (P : List Nat) (t : Nat) : Int := if 8 ≤ 8 * P.length - t then 4 else if numAt P t (8 * P.length - t) = 0 then 0 else 4
end Go.Proofs.Ytiphkndahoageaa

