/-
  Bytes as keys, how often each is there, and all of them together.
-/
import Derived.Test.YtiphkndahoageaaMpa
import Derived.Test.YtiphkndahoageaaNtm
import Derived.StringKeys
import Derived.Sort.MapsRangeIn
namespace Go.Proofs.Ytiphkndahoageaa
open Go.RowKit Go.Maps
set_option linter.unusedVariables false
set_option maxRecDepth 100000

theorem bstr_data (P : List Nat) : (bstr P).data.toList = P.map (fun n => UInt8.ofNat n) := by
  have key : ∀ (l : List Int) (r : ByteArray), (l.foldl (fun r n => r.push (UInt8.ofNat n.toNat)) r).data.toList = r.data.toList ++ l.map (fun n => UInt8.ofNat n.toNat) := by
    intro l
    induction l with
    | nil => intro r; simp
    | cons x l ih => intro r; rw [List.foldl_cons, ih]; simp [ByteArray.push]
  rw [bstr, key]
  simp [List.map_map, Function.comp_def]
theorem bstr_inj {P Q : List Nat} (hP : ∀ x ∈ P, x < 256) (hQ : ∀ x ∈ Q, x < 256) (h : P.map (fun n => UInt8.ofNat n) = Q.map (fun n => UInt8.ofNat n)) : P = Q := by
  have h2 := congrArg (List.map UInt8.toNat) h
  rw [List.map_map, List.map_map] at h2
  have e : ∀ L : List Nat, (∀ x ∈ L, x < 256) → L.map (UInt8.toNat ∘ fun n => UInt8.ofNat n) = L := by
    intro L hL
    conv => rhs; rw [← List.map_id L]
    apply List.map_congr_left
    intro x hx
    simp [Function.comp, UInt8.toNat_ofNat', Nat.mod_eq_of_lt (hL x hx)]
  rw [e P hP, e Q hQ] at h2
  exact h2
theorem bstr_of (s : ByteArray) : ∃ P : List Nat, (∀ x ∈ P, x < 256) ∧ bstr P = s ∧ P.length = s.size := by
  refine ⟨s.data.toList.map UInt8.toNat, ?_, ?_, ?_⟩
  · intro x hx
    rw [List.mem_map] at hx
    obtain ⟨y, _, rfl⟩ := hx
    exact y.toNat_lt
  · apply ByteArray.ext
    apply Array.toList_inj.1
    rw [bstr_data, List.map_map]
    conv => rhs; rw [← List.map_id s.data.toList]
    apply List.map_congr_left
    intro x _
    simp
  · simp
/-- bytes as keys -/
def byK : Keys Try.prog 9 (List Nat) where
  law := string_keyed Try.underlying9
  val := fun P => .string (bstr P)
  lit := fun P => .string (P.map (fun n => UInt8.ofNat n))
  ok := fun P => (∀ x ∈ P, x < 256) ∧ P.length ≤ maxLen
  of := by
    intro P h
    rw [Go.WideMaps.keyOf_string_mk Try.underlying9 (by
      have : (bstr P).size = P.length := by
        have := congrArg List.length (bstr_data P)
        simpa using this
      rw [this]; exact h.2), bstr_data]
  inv := by
    intro v l h
    obtain ⟨s, rfl, rfl, hs⟩ := Go.WideMaps.string_of_keyOf Try.underlying9 h
    obtain ⟨P, hP, rfl, hl⟩ := bstr_of s
    exact ⟨P, ⟨hP, by rw [hl]; exact hs⟩, rfl, by rw [bstr_data]⟩
  inj := by
    intro x y hx hy h
    exact bstr_inj hx.1 hy.1 (Lit.string.inj h)
  key := fun _ => trivial
/-- how often each is there, of those that ever were -/
def cmD (D L : List (List Nat)) (y : List Nat) : Option Value := if y ∈ D then some (.int .i64 ((L.count y : Nat) : Int)) else none
theorem cmD_get (D L : List (List Nat)) (h : ∀ x ∈ L, x ∈ D) (y : List Nat) : (cmD D L y).getD (.int .i64 0) = .int .i64 ((L.count y : Nat) : Int) := by
  unfold cmD
  split
  · rfl
  · rename_i hy
    rw [List.count_eq_zero.2 (fun q => hy (h y q))]; rfl
theorem cmD_put (D L M : List (List Nat)) (x : List Nat) (hM : ∀ y, y ≠ x → M.count y = L.count y) : (fun y => if y = x then some (Value.int .i64 ((M.count x : Nat) : Int)) else cmD D L y) = cmD (D ++ [x]) M := by
  funext y
  unfold cmD
  by_cases h : y = x
  · subst h
    simp
  · simp only [h, if_false, List.mem_append, List.mem_singleton, or_false, hM y h]
theorem cmD_nil : cmD [] [] = fun _ => none := by funext y; simp [cmD]
/-- all together -/
theorem sum_count (V L : List (List Nat)) (hV : V.Nodup) (hL : ∀ x ∈ L, x ∈ V) : (V.map fun y => L.count y).sum = L.length := by
  induction L with
  | nil =>
    clear hV hL
    induction V with
    | nil => rfl
    | cons b V ih => rw [List.map_cons, List.sum_cons, ih]; simp
  | cons a L ih =>
    have h1 := ih (fun x hx => hL x (by simp [hx]))
    have ha := hL a (by simp)
    have h2 : ∀ W : List (List Nat), W.Nodup → (W.map fun y => (a :: L).count y).sum = (W.map fun y => L.count y).sum + (if a ∈ W then 1 else 0) := by
      intro W hW
      induction W with
      | nil => simp
      | cons b W ihW =>
        obtain ⟨hb, hW'⟩ := List.nodup_cons.1 hW
        rw [List.map_cons, List.map_cons, List.sum_cons, List.sum_cons, ihW hW', List.count_cons]
        by_cases e : a = b
        · subst e
          simp [hb]; omega
        · have e2 : (a == b) = false := by simpa using e
          simp [e, e2]; omega
    rw [h2 V hV, if_pos ha, h1, List.length_cons]
end Go.Proofs.Ytiphkndahoageaa
