/-
  IDs that were seen, kept in a map; that no ID comes twice, as plain lists; slices of integers that come in.
-/
import Derived.Test.YtficpeghmkbdpaaXi
import Derived.Maps.OwnSet
namespace Go.Proofs.Ytficpeghmkbdpaa
open Go.RowKit Go.Maps
set_option linter.unusedVariables false

/-- WHAT A WALK IS TOLD OF A SLICE OF INTEGERS THAT CAME IN (as the guide's shell has it). -/
def IsRow (k : IntKind) (w : World) (a : Option Addr) (len cap : Nat) (zs : List Int) : Prop :=
  (a = none ∧ len = 0 ∧ cap = 0 ∧ zs = []) ∨
  ∃ x, a = some x ∧ len ≤ cap ∧ cap ≤ maxLen ∧ zs.length = cap ∧ (∀ i, i < zs.length → w.cell? (x.add i) = some (.int k (zs.getD i 0))) ∧ ∀ n ∈ zs, (Lit.int k n).wf = true
/-- The numbers P of a slice of integers of kind k: nothing is asked of its address where there are none. -/
def Ints (k : IntKind) (w : World) (ao : Option Addr) (P : List Int) : Prop :=
  P = [] ∨ ∃ g o, ao = some ⟨g, o, none⟩ ∧ ∀ j x, P[j]? = some x → w.cell? ⟨g, o + j, none⟩ = some (.int k x)
theorem Ints.quiet {k : IntKind} {w w' : World} {ao : Option Addr} {P : List Int} (h : Ints k w ao P) (hf : Fr Nobody w w') : Ints k w' ao P := by
  rcases h with h | ⟨g, o, ha, hc⟩
  · exact .inl h
  · refine .inr ⟨g, o, ha, fun j x hx => ?_⟩
    have h1 := hc j x hx
    exact (hf.cell (p := ⟨g, o + j, none⟩) (World.block_lt_of_cell? w _ h1) id).trans h1
theorem IsRow.ints {k : IntKind} {w : World} {a : Option Addr} {len cap : Nat} {zs : List Int} (h : IsRow k w a len cap zs) : (zs.take len).length = len ∧ len ≤ maxLen ∧ Ints k w a (zs.take len) ∧ ∀ n ∈ zs.take len, (Lit.int k n).wf = true := by
  rcases h with ⟨rfl, rfl, rfl, rfl⟩ | ⟨x, rfl, hl, hm, hz, hc, hw⟩
  · exact ⟨rfl, Nat.zero_le _, .inl rfl, fun n hn => by simp at hn⟩
  · refine ⟨by rw [List.length_take]; omega, by omega, ?_, fun n hn => hw n (List.mem_of_mem_take hn)⟩
    by_cases h0 : len = 0
    · subst h0; left; simp
    · right
      obtain ⟨g, o, spot⟩ := x
      have h1 := hc 0 (by omega)
      have hs : spot = none := by simpa [Addr.add] using World.cell?_spot h1
      subst hs
      refine ⟨g, o, rfl, fun j y hy => ?_⟩
      rw [List.getElem?_take] at hy
      split at hy
      · rename_i hj
        have h2 := hc j (by omega)
        rw [addr_add] at h2
        rw [h2]
        rw [List.getD_eq_getElem?_getD, hy]; rfl
      · cases hy

theorem keyID : Keyed Try.prog 23 := int_keyed Try.underlying23
theorem zeroBool (w : World) : (zeroValue 4).run Try.prog w = .ok (.bool false) w := by kernel_rfl
theorem plainElem_bool_inv {P : Program} {e : TypeId} (he : P.underlying e = some .bool) {v : Value} {z : DataW Unit × List MemPlace} (h : plainElem P e v = some z) : ∃ x, v = .bool x ∧ z = (.lit (.bool x), []) := by
  unfold plainElem at h
  rw [he] at h
  cases v <;> simp at h
  exact ⟨_, rfl, h.symm⟩
theorem wf_u32 {n : Nat} (h : n < 4294967296) : (Lit.int .u32 (n : Int)).wf = true := by
  simp [Lit.wf, IntKind.min, IntKind.max, IntKind.signed, IntKind.bits]; omega

/-- a map in which just the IDs of L stand -/
def Seen (b n : Nat) (L : List Nat) : Thing where
  is := fun w A => (∃ D : DataW Unit, w.ownsMap Try.prog 23 (plainElem Try.prog 4) b n D ∧ ∀ k : Nat, k < 4294967296 → D.atKey (.int .u32 (k : Int)) (.lit (.bool false)) = .lit (.bool (decide (k ∈ L)))) ∧ ∀ k, A k ↔ k = b
  lt := by
    rintro w A k ⟨⟨D, h, _⟩, hA⟩ a
    rw [(hA k).1 a]; exact h.lt
  keep := by
    rintro w w' A B ⟨⟨D, h, hk⟩, hA⟩ hf hn
    refine ⟨⟨D, ?_, hk⟩, hA⟩
    have hlt := h.lt
    obtain ⟨es, clock, hb, F, hs, hD⟩ := h
    exact ⟨es, clock, (hf.block b hlt (hn b ((hA b).2 rfl))).trans hb, F, hs, hD⟩
theorem Own.seen {w0 w : World} {l : List Thing} {b n : Nat} {L : List Nat} (h : Own w0 w (Seen b n L :: l)) (id : Nat) (hid : id < 4294967296) (hn : id ∉ L) :
    (Instr.lookup 54 (.map (some b)) (.int .u32 (id : Int)) false).run Try.prog w = .ok (.bool false) w := by
  obtain ⟨A, ⟨B, C, ⟨⟨D, hm, hk⟩, _⟩, _⟩, _⟩ := h
  obtain ⟨v, ps, hrun, hv⟩ := hm.lookup keyID Try.underlying54 (zeroBool w) (plainElem_bool Try.underlying4 false) (keyOf_int_mk Try.underlying23 (wf_u32 hid))
  rw [hk id hid] at hv
  obtain ⟨x, rfl, hx⟩ := plainElem_bool_inv Try.underlying4 hv
  have hx' : x = false := by
    have := (Prod.mk.inj hx).1
    simp [hn] at this
    exact this
  rw [hx'] at hrun
  exact hrun
theorem Own.see {w0 w : World} {l : List Thing} {b n : Nat} {L : List Nat} (h : Own w0 w (Seen b n L :: l)) (id : Nat) (hid : id < 4294967296) (hn : n < maxLen) :
    ∃ w', (Instr.mapUpdate 54 (.map (some b)) (.int .u32 (id : Int)) (.bool true)).run Try.prog w = .ok () w' ∧ Own w0 w' (Seen b (n + 1) (id :: L) :: l) := by
  obtain ⟨A, ⟨⟨D, hm, hk⟩, hA⟩, hlo, act⟩ := h.act
  obtain ⟨w', hrun, hm', hg⟩ := hm.update keyID Try.underlying54 hn (keyOf_int_mk Try.underlying23 (wf_u32 hid)) (plainElem_bool Try.underlying4 true)
  refine ⟨w', hrun, act w' (Seen b (n + 1) (id :: L)) A ⟨⟨_, hm', ?_⟩, hA⟩ ((Fr.refl _ _).grown hg (fun k hk => .inl ((hA k).2 (by cases hk; rfl)))) (fun _ a => .inl a)⟩
  intro k hk2
  by_cases e : k = id
  · subst e
    rw [atKey_put_same hm.isMap (k := .int .u32 (k : Int)) trivial]; simp
  · rw [atKey_put_other (by intro q; apply e; have := (Lit.int.inj q).2; omega), hk k hk2]; simp [e]
theorem Own.seenNew {w0 w : World} {l : List Thing} (h : Own w0 w l) : Own w0 (w.alloc (.map #[] 0)) (Seen w.heap.size 0 [] :: l) :=
  h.new (Seen w.heap.size 0 []) (fun k => k = w.heap.size) ⟨⟨.map [], World.ownsMap_made _ _ _ _, fun k _ => by simp [DataW.atKey]⟩, fun _ => Iff.rfl⟩ ((Fr.refl _ _).alloc _) (fun k hk => by omega)

/-- what was taken ahead of the slots' last IDs, or is one of them -/
def Past (S : St) (L : List Nat) : Prop := ∀ x ∈ L, ∃ y, S.last[x % 1024]? = some y ∧ x ≤ y
theorem Past.take {S : St} {L : List Nat} (hS : S.Ok) (h : Past S L) : (S.take = (0, 8, S) ∧ S.room = 0) ∨ ∃ id S', S.take = (id, 0, S') ∧ S'.Ok ∧ id < 4294967296 ∧ id ∉ L ∧ S'.isLive id = true ∧ Past S' (id :: L) ∧ S'.n = S.n := by
  have hok := St.take_ok hS
  have hlt := St.take_lt hS
  have hn2 := hS.n2
  cases hf : S.freed.getLast? with
  | none =>
    have hf' : S.freed = [] := List.getLast?_eq_none_iff.1 hf
    by_cases hl : S.last.length < S.n
    · right
      have ht := S.take_new hf' hl
      rw [ht] at hok hlt
      have hm : (S.first * 1024 + S.last.length) % 1024 = S.last.length := by omega
      have hx : S.more.last[S.last.length]? = some (S.first * 1024 + S.last.length) := by
        simp only [St.more]; rw [List.getElem?_append_right (Nat.le_refl _)]; simp
      refine ⟨_, _, ht, hok, hlt, ?_, ?_, ?_, rfl⟩
      · intro hc
        obtain ⟨y, hy, _⟩ := h _ hc
        rw [hm, List.getElem?_eq_none (Nat.le_refl _)] at hy; cases hy
      · rw [St.isLive_iff hok, hm]
        refine ⟨?_, hx⟩
        simp only [St.more]; rw [← hS.ul, List.getElem?_append_right (Nat.le_refl _)]; simp
      · intro x hx2
        rcases List.mem_cons.1 hx2 with rfl | hx2
        · exact ⟨_, by rw [hm]; exact hx, Nat.le_refl _⟩
        · obtain ⟨y, hy, hle⟩ := h x hx2
          exact ⟨y, by simp only [St.more]; rw [List.getElem?_append_left (List.getElem?_eq_some_iff.1 hy).1]; exact hy, hle⟩
    · left
      have := hS.le
      exact ⟨S.take_full hf' hl, by unfold St.room; rw [hf']; simp; omega⟩
  | some f =>
    right
    have e := dropLast_of _ _ hf
    have hm : f ∈ S.freed := by rw [e]; simp
    obtain ⟨hu, x, hx, hg⟩ := hS.fr f hm
    have hid := hS.id f x hx
    have hlt2 := hS.lt hm
    have ht := S.take_again hf hx
    rw [ht] at hok hlt
    have hmd : (x + 1024) % 1024 = f := by omega
    have hx1 : (S.again f).last[f]? = some (x + 1024) := by
      simp only [St.again]; rw [List.getElem?_set_self hlt2, List.getD_eq_getElem?_getD, hx]; rfl
    refine ⟨_, _, ht, hok, hlt, ?_, ?_, ?_, rfl⟩
    · intro hc
      obtain ⟨y, hy, hle⟩ := h _ hc
      rw [hmd, hx] at hy
      cases hy
      omega
    · rw [St.isLive_iff hok, hmd]
      exact ⟨by simp only [St.again]; rw [List.getElem?_set_self (by rw [hS.ul]; exact hlt2)], hx1⟩
    · intro z hz
      rcases List.mem_cons.1 hz with rfl | hz
      · exact ⟨_, by rw [hmd]; exact hx1, Nat.le_refl _⟩
      · obtain ⟨y, hy, hle⟩ := h z hz
        by_cases c : z % 1024 = f
        · rw [c, hx] at hy
          cases hy
          exact ⟨_, by rw [c]; exact hx1, by omega⟩
        · exact ⟨y, by simp only [St.again]; rw [List.getElem?_set_ne (fun q => c q.symm)]; exact hy, hle⟩
theorem Past.free {S : St} {L : List Nat} (h : Past S L) (id : Nat) : Past (S.less id) L := h
theorem pick_mem (l : List Nat) (m : List Bool) (y : Nat) (h : y ∈ pick l m) : ∃ i : Nat, l[i]? = some y ∧ m[i]? = some true := by
  induction l generalizing m with
  | nil => cases m <;> simp [pick] at h
  | cons x l ih => cases m with
    | nil => simp [pick] at h
    | cons u m =>
      cases u
      · obtain ⟨i, a, b⟩ := ih m (by simpa [pick] using h)
        exact ⟨i + 1, by simpa using a, by simpa using b⟩
      · rw [pick, if_pos rfl] at h
        rcases List.mem_cons.1 h with rfl | h
        · exact ⟨0, rfl, rfl⟩
        · obtain ⟨i, a, b⟩ := ih m h
          exact ⟨i + 1, by simpa using a, by simpa using b⟩
theorem St.list_live {S : St} (hS : S.Ok) {y : Nat} (h : y ∈ S.list) : S.isLive y = true ∧ y < 4294967296 := by
  obtain ⟨i, a, b⟩ := pick_mem _ _ _ h
  have := hS.id i y a
  rw [St.isLive_iff hS, this.1]
  exact ⟨⟨b, a⟩, this.2.2⟩
end Go.Proofs.Ytficpeghmkbdpaa
