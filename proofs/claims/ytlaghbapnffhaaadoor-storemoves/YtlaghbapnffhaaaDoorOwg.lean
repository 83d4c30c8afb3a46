/-
  The document's List of any components, however many.
-/
import Derived.Test.YtlaghbapnffhaaaDoorSl
import Derived.Test.YtlaghbapnffhaaaDoorSm
namespace Go.Proofs.YtlaghbapnffhaaaDoor
open Go.RowKit
set_option linter.unusedVariables false
set_option maxRecDepth 100000

set_option maxHeartbeats 2000000 in
theorem rlist_big (w : World) (ao : Option Addr) (len cap : Nat) (L : List Cp) (hl : L.length = len) (hs : Cs w ao L) (hk : ∀ q ∈ L, q.k < 256) (hm : len ≤ 9223372036854775807) :
    Calls Tryd.prog 8 #[.slice ao len cap] w fun e w' => e = .returned (.int .i64 ((lst (-1) L : Nat) : Int)) ∧ Fr Nobody w w' := by
  have HL : Hid (L.length = len ∧ Cs w ao L ∧ ∀ q ∈ L, q.k < 256) := ⟨hl, hs, hk⟩
  clear hl hs hk
  go_enter Tryd.func8, Tryd.ntmps8
  go_wp2
  go_loopw [3, 9] (fun p c wr => ∃ j : Nat, j ≤ len ∧ c = .int .i64 j ∧ lst (prv L j) (L.drop j) = lst (-1) L ∧ Fr Nobody w wr ∧ p = .int .i64 (prv L j) ∧ -1 ≤ prv L j ∧ prv L j ≤ 255) (fun _ c _ => len - (intOf c).toNat)
  case atStart => exact ⟨0, Nat.zero_le _, rfl, rfl, Fr.refl _ _, rfl, by simp [prv], by simp [prv]⟩
  case round =>
    obtain ⟨j, hj, rfl, hI, hf, rfl, hp1, hp2⟩ := hrel
    have HI : Hid (lst (prv L j) (L.drop j) = lst (-1) L) := hI
    have HF : Hid (Fr Nobody w wr) := hf
    clear hI hf
    by_cases hlt : j < len
    · obtain ⟨q, hq⟩ : ∃ q, L[j]? = some q := ⟨_, List.getElem?_eq_getElem (by rw [HL.out.1]; exact hlt)⟩
      obtain ⟨g, o, hao, hall, hat⟩ := (HL.out.2.1.quiet HF.out).at j q hq
      subst hao
      have hk2 := HL.out.2.2 q (List.mem_of_getElem? hq)
      obtain ⟨c0, c1, c2, c3⟩ := hat
      have hlt' : (j : Int) < (len : Int) := by omega
      have HQ : Hid (L[j]? = some q) := hq
      obtain ⟨x, hx⟩ : ∃ x, q.chk = x := ⟨_, rfl⟩
      have HX : Hid (q.chk = x) := hx
      have HC : Hid (∀ w, Calls Tryd.prog 9 #[.agg #[.int .u8 (q.k : Int), .int .i32 q.a, .int .i32 q.b, .int .i32 q.c]] w fun e w' => e = .returned (.int .i64 (x : Int)) ∧ Fr Nobody w w') := fun w => by rw [← hx]; exact rcheck3 w q.k hk2 q.a q.b q.c
      have hx5 : x ≤ 5 := by rw [← hx]; exact chk_lt q
      have HB : Hid (Box (wr.alloc (.cells #[.int .u8 (q.k : Int), .int .i32 q.a, .int .i32 q.b, .int .i32 q.c] 25)) wr.heap.size q.k (f3 q.a q.b q.c)) := Box.new wr q.k (f3 q.a q.b q.c)
      have HP : Hid (prv L (j + 1) = (q.k : Int)) := by show _ = _; simp [prv, hq]
      clear hq hall hx
      obtain ⟨qk, qa, qb, qc⟩ := q
      simp only at c0 c1 c2 c3 hk2 HC HB HP
      generalize hpp : prv L j = pj at *
      have HPP : Hid (prv L j = pj) := hpp
      clear hpp
      go_wp2_with fail
      refine (HC.out _).mono ?_
      rintro e w2 ⟨rfl, hf2⟩
      have HF2 : Hid (Fr Nobody w w2) := (HF.out.alloc _).trans hf2
      have cb := (HB.out.quiet hf2).kind
      clear hf2 c0 c1 c2 c3 HC
      by_cases hx0 : x = 0
      · subst hx0
        by_cases hle : (qk : Int) ≤ pj
        · have HN : Hid (lst (-1) L = 4) := lst_low HQ.out (by rw [HPP.out]; exact HI.out) HX.out (by rw [HPP.out]; exact hle)
          go_wp2
          go_ret
          exact ⟨by rw [HN.out]; rfl, HF2.out⟩
        · have HN : Hid (lst (prv L (j + 1)) (L.drop (j + 1)) = lst (-1) L) := lst_on HQ.out (by rw [HPP.out]; exact HI.out) HX.out (by rw [HPP.out]; exact hle)
          go_wp2
          go_roundw
          case rel => exact ⟨j + 1, by omega, by go_num, HN.out, HF2.out, by rw [HP.out], by rw [HP.out]; omega, by rw [HP.out]; omega⟩
          case measure => simp [intOf]; omega
      · have HN : Hid (lst (-1) L = x) := by rw [← HX.out]; exact lst_bad HQ.out (by rw [HPP.out]; exact HI.out) (by rw [HX.out]; exact hx0)
        have hx1 : ((x : Int) != 0) = true := by simpa using hx0
        go_wp2
        go_ret
        exact ⟨by rw [HN.out]; rfl, HF2.out⟩
    · have HN : Hid (lst (-1) L = 0) := lst_end HI.out (by rw [HL.out.1]; omega)
      have hlt' : ¬ (j : Int) < (len : Int) := by omega
      generalize prv L j = pj at *
      go_wp2
      go_ret
      exact ⟨by rw [HN.out]; rfl, HF.out⟩

end Go.Proofs.YtlaghbapnffhaaaDoor

/-
  Two entities that are alike.
-/
namespace Go.Proofs.YtlaghbapnffhaaaDoor
open Go.RowKit
set_option linter.unusedVariables false
set_option maxRecDepth 100000

set_option maxHeartbeats 1000000 in
theorem sameEnt_any (w : World) (id : Nat) (a1 a2 : Option Addr) (n c1 c2 : Nat) (C : List Cp) (h1 : Cs w a1 C) (h2 : Cs w a2 C) (hn : C.length = n) (hm : n ≤ 1000000) :
    Calls Tryd.prog 17 #[.agg #[.int .u32 (id : Int), .slice a1 n c1], .agg #[.int .u32 (id : Int), .slice a2 n c2]] w fun e w' => e = .returned (.bool true) ∧ Fr Nobody w w' := by
  have HF : Hid (Fr Nobody w ((w.alloc (.cells #[.int .u32 (id : Int), .slice a1 n c1] 43)).alloc (.cells #[.int .u32 (id : Int), .slice a2 n c2] 43))) := ((Fr.refl _ _).alloc _).alloc _
  have HS : Hid (Calls _ _ _ _ _) := same_cs _ a1 a2 n c1 c2 C (h1.quiet HF.out) (h2.quiet HF.out) hn hm
  have hii : ((id : Int) == (id : Int)) = true := by simp
  clear h1 h2 hn
  go_enter Tryd.func17, Tryd.ntmps17
  go_wp2_with fail
  refine HS.out.mono ?_
  rintro e w1 ⟨rfl, hf⟩
  have H1 : Hid (Fr Nobody w w1) := HF.out.trans hf
  clear hf HS
  go_wp2
  go_ret
  exact ⟨rfl, H1.out⟩

end Go.Proofs.YtlaghbapnffhaaaDoor
