/-
  Two worlds that are told the same are the same; how the orders come into them, at once or one by one, is all one: WorldTwins returns true, whatever its argument, where the table of the components lies as the program's text lays it, and changes nothing that was there.
-/
import Derived.Test.YtkkhobaiihgolaaGreatDoorWpgg
import Derived.Test.YtkkhobaiihgolaaGreatDoorIcg
import Derived.OpenShut
import Derived.SevenTiedAt
import Derived.Deep.DeepCutAuto
import Derived.Deep.CutBlock
namespace Go.Proofs.YtkkhobaiihgolaaGreatDoor
open Go.ChangeShapes Go.WideShapes Go.ChangeAt Go.RowKit
set_option linter.unusedVariables false
set_option maxRecDepth 100000

/-- an order, wherever it lies -/
def OrdE.bare (o : OrdE) : OrdE := { o with ao := none, cap := 0 }
theorem runs_bare (E : List OrdE) : ∀ s, runs stq s E = runs stq s (E.map OrdE.bare) := by
  induction E with
  | nil => intro s; rfl
  | cons o E ih =>
    intro s
    rw [List.map_cons, runs, runs, show stq s o.bare = stq s o from rfl, ih]
theorem runs_len2 (E : List OrdE) : ∀ s, (runs stq s E).1.length = E.length := by
  induction E with
  | nil => intro s; rfl
  | cons o E ih => intro s; rw [runs]; simp [ih]
def push1 (S : List OrdE) (o : OrdE) : List OrdE := if o.ck = 0 ∧ S.length < 256 then S ++ [o.bare] else S
def pushes (L : List OrdE) : List OrdE := L.foldl push1 []
theorem pushes_snoc (L : List OrdE) (o : OrdE) : pushes (L ++ [o]) = push1 (pushes L) o := by rw [pushes, List.foldl_append]; rfl
theorem PushTo.bare {E E' : List OrdE} {o : OrdE} (h : PushTo E o E') : E'.map OrdE.bare = push1 (E.map OrdE.bare) o := by
  unfold PushTo at h
  unfold push1
  rw [List.length_map]
  by_cases c : o.ck = 0 ∧ E.length < 256
  · rw [if_pos c] at h ⊢
    obtain ⟨a, cc, rfl⟩ := h
    rw [List.map_append]; rfl
  · rw [if_neg c] at h ⊢
    rw [h]
theorem PushTo.more {E E' : List OrdE} {o : OrdE} (h : PushTo E o E') (hi : o.In) (hE : ∀ x ∈ E, x.In) : (∀ x ∈ E', x.In) ∧ E'.length ≤ E.length + 1 := by
  unfold PushTo at h
  by_cases c : o.ck = 0 ∧ E.length < 256
  · rw [if_pos c] at h
    obtain ⟨a, cc, rfl⟩ := h
    refine ⟨fun x hx => ?_, by simp⟩
    rcases List.mem_append.1 hx with hx | hx
    · exact hE x hx
    · simp at hx; subst hx; exact ⟨hi.d, hi.id, hi.k, hi.C, hi.len⟩
  · rw [if_neg c] at h
    rw [h]; exact ⟨hE, by omega⟩
theorem trn_at {W w : World} {ao : Option Addr} {Q : List TrnE} (h : RowsAt (TrnIs W) 2 w ao Q) (k : Nat) (hk : k < Q.length) : ∃ (g o : Nat) (q : TrnE), ao = some ⟨g, o, none⟩ ∧ IsOrds W q.ao q.len q.cap q.Q ∧ w.cell? ⟨g, o + k * 2, none⟩ = some (.slice q.ao q.len q.cap) ∧ w.cell? ⟨g, o + k * 2 + 1, none⟩ = some (.int .u32 (q.look : Int)) := by
  obtain ⟨q, hq⟩ : ∃ q, Q[k]? = some q := ⟨_, List.getElem?_eq_getElem hk⟩
  rcases h with h | ⟨g, o, ha, hc⟩
  · subst h; simp at hq
  · obtain ⟨cs, ⟨rfl, h4, h5⟩, _, h3⟩ := hc k q hq
    exact ⟨g, o, q, ha, h5, h3 0 (by decide), h3 1 (by decide)⟩
theorem ord_cells {w0 w : World} {l : List Thing} {g n cap : Nat} {L : List OrdE} (h : Own w0 w (Row 41 4 (.slice (some ⟨g, 0, none⟩) n cap) n (cat OrdE.cs L) :: l)) (hn : L.length = n) (j : Nat) (o : OrdE) (ho : L[j]? = some o) :
    w.cell? ⟨g, j * 4, none⟩ = some (.int .u8 (o.d : Int)) ∧ w.cell? ⟨g, j * 4 + 1, none⟩ = some (.int .u32 (o.id : Int)) ∧ w.cell? ⟨g, j * 4 + 2, none⟩ = some (.int .u8 (o.k : Int)) ∧ w.cell? ⟨g, j * 4 + 3, none⟩ = some (.slice o.ao o.C.length o.cap) := by
  subst hn
  have hj := (List.getElem?_eq_some_iff.1 ho).1
  have hl : ∀ x : OrdE, (OrdE.cs x).length = 4 := fun _ => rfl
  refine ⟨?_, ?_, ?_, ?_⟩
  · rw [h.row.cellAt _ (by omega)]; exact (cat_at OrdE.cs 4 hl L j 0 o ho (by decide)).trans rfl
  · rw [h.row.cellAt _ (by omega)]; exact (cat_at OrdE.cs 4 hl L j 1 o ho (by decide)).trans rfl
  · rw [h.row.cellAt _ (by omega)]; exact (cat_at OrdE.cs 4 hl L j 2 o ho (by decide)).trans rfl
  · rw [h.row.cellAt _ (by omega)]; exact (cat_at OrdE.cs 4 hl L j 3 o ho (by decide)).trans rfl

set_option maxHeartbeats 32000000 in
theorem worldTwins_fr (w : World) (ht : Tab w) (ao : Option Addr) (len cap : Nat) (Q : List TrnE) (hQ : IsTurns w ao len cap Q) :
    Calls Tryz.prog 5 #[.slice ao len cap] w fun e w' => e = .returned (.bool true) ∧ Fr Nobody w w' := by
  obtain ⟨hQl, hlc, hcm, hQa⟩ := hQ
  unfold maxLen at hcm
  have HT : Hid (Tab w) := ht
  have HQ : Hid (Q.length = len ∧ RowsAt (TrnIs w) 2 w ao Q) := ⟨hQl, hQa⟩
  have HAW : Hid (Calls _ _ _ _ _) := awake15 w ht
  clear hQl hQa ht
  go_enter Tryz.func5, Tryz.ntmps5
  go_wp2_with fail
  refine HAW.out.mono ?_
  rintro e w1 ⟨rfl, hf⟩
  have HC : Hid (Calls _ _ _ _ _) := wnew w w1 [] 10 1 0 (Own.of_fr hf) (by decide) (by decide) (by decide) (by decide)
  clear hf HAW
  go_wp2_with fail
  refine HC.out.mono ?_
  rintro e w2 ⟨ba, rfl, hO⟩
  clear HC
  have HC : Hid (Calls _ _ _ _ _) := wnew w w2 _ 10 1 0 hO (by decide) (by decide) (by decide) (by decide)
  clear hO
  go_wp2_with fail
  refine HC.out.mono ?_
  rintro e w3 ⟨bb, rfl, hO⟩
  clear HC
  have H3 : Hid (Own w w3 _) := hO.two
  clear hO
  go_wp2
  refine wp_loop (fun a' wr => ∃ (k : Nat) (σ : Sto) (Sa Sb : Nat → Nat → Option SgE) (Pa Pb : List PlE) (Ka na Kb nb : Nat), a' = { tmps := #[a'.tmps.getD 0 undef, a'.tmps.getD 1 undef, a'.tmps.getD 2 undef, .pointer (some ⟨ba, 0, none⟩), a'.tmps.getD 4 undef, .pointer (some ⟨bb, 0, none⟩), a'.tmps.getD 6 undef, a'.tmps.getD 7 undef, a'.tmps.getD 8 undef, a'.tmps.getD 9 undef, a'.tmps.getD 10 undef, a'.tmps.getD 11 undef, a'.tmps.getD 12 undef, a'.tmps.getD 13 undef, a'.tmps.getD 14 undef, a'.tmps.getD 15 undef, a'.tmps.getD 16 undef, a'.tmps.getD 17 undef, a'.tmps.getD 18 undef, a'.tmps.getD 19 undef, a'.tmps.getD 20 undef, a'.tmps.getD 21 undef, a'.tmps.getD 22 undef, a'.tmps.getD 23 undef, a'.tmps.getD 24 undef, a'.tmps.getD 25 undef, a'.tmps.getD 26 undef, a'.tmps.getD 27 undef, a'.tmps.getD 28 undef, a'.tmps.getD 29 undef, a'.tmps.getD 30 undef, a'.tmps.getD 31 undef, a'.tmps.getD 32 undef, a'.tmps.getD 33 undef, .slice ao len cap, .int .i64 (len : Int), .int .i64 (k : Int), a'.tmps.getD 37 undef, a'.tmps.getD 38 undef, a'.tmps.getD 39 undef, a'.tmps.getD 40 undef, a'.tmps.getD 41 undef, a'.tmps.getD 42 undef, a'.tmps.getD 43 undef, a'.tmps.getD 44 undef, a'.tmps.getD 45 undef, a'.tmps.getD 46 undef, a'.tmps.getD 47 undef, a'.tmps.getD 48 undef, a'.tmps.getD 49 undef, a'.tmps.getD 50 undef, a'.tmps.getD 51 undef, a'.tmps.getD 52 undef, a'.tmps.getD 53 undef, a'.tmps.getD 54 undef, a'.tmps.getD 55 undef, a'.tmps.getD 56 undef, a'.tmps.getD 57 undef, a'.tmps.getD 58 undef, a'.tmps.getD 59 undef, a'.tmps.getD 60 undef, a'.tmps.getD 61 undef, a'.tmps.getD 62 undef, a'.tmps.getD 63 undef, a'.tmps.getD 64 undef, a'.tmps.getD 65 undef, a'.tmps.getD 66 undef, a'.tmps.getD 67 undef, a'.tmps.getD 68 undef, a'.tmps.getD 69 undef, a'.tmps.getD 70 undef, a'.tmps.getD 71 undef, a'.tmps.getD 72 undef, a'.tmps.getD 73 undef, a'.tmps.getD 74 undef, a'.tmps.getD 75 undef, a'.tmps.getD 76 undef, a'.tmps.getD 77 undef, a'.tmps.getD 78 undef, a'.tmps.getD 79 undef, a'.tmps.getD 80 undef, a'.tmps.getD 81 undef, a'.tmps.getD 82 undef, a'.tmps.getD 83 undef, a'.tmps.getD 84 undef, a'.tmps.getD 85 undef, a'.tmps.getD 86 undef, a'.tmps.getD 87 undef, a'.tmps.getD 88 undef, a'.tmps.getD 89 undef, a'.tmps.getD 90 undef, a'.tmps.getD 91 undef, a'.tmps.getD 92 undef], defers := [] } ∧ k ≤ len ∧ k ≤ 12 ∧ σ.Ok ∧ Ka ≤ 3000 * k ∧ Kb ≤ 3000 * k ∧ na ≤ 6144 ∧ nb ≤ 6144 ∧ Own w wr [WdT ba ⟨k, σ, [], Sa, Pa⟩ Ka na, WdT bb ⟨k, σ, [], Sb, Pb⟩ Kb nb]) (fun a' _ => len - (intOf (a'.tmps.getD 36 undef)).toNat) ?_ ?_
  · exact ⟨0, Sto.new 10 1, fun _ _ => none, fun _ _ => none, [], [], 0, 0, 0, 0, rfl, Nat.zero_le _, Nat.zero_le _, Sto.new_ok 10 1 (by decide) (by decide) (by decide) (by decide), Nat.le_refl _, Nat.le_refl _, Nat.zero_le _, Nat.zero_le _, H3.out⟩
  · intro a' wr hI
    obtain ⟨k, σ, Sa, Sb, Pa, Pb, Ka, na, Kb, nb, hact, hk, hk12, hσ, hKa, hKb, hna, hnb, hO⟩ := hI
    obtain ⟨u, hu⟩ : ∃ u : Nat → Value, ∀ k, a'.tmps.getD k undef = u k := ⟨_, fun _ => rfl⟩
    simp only [hu] at hact
    clear hu
    subst hact
    have Hσ : Hid σ.Ok := hσ
    clear H3 hσ
    by_cases hlt : k < len
    · have hlt' : (k : Int) < (len : Int) := by omega
      obtain ⟨g, o, q, hao, hIO, p0, p1⟩ := trn_at (HQ.out.2.quiet hO.fr) k (by rw [HQ.out.1]; exact hlt)
      subst hao
      obtain ⟨qa, ql, qc, qQ, qk⟩ := q
      simp only at hIO p0 p1
      by_cases h12 : k < 12
      · have h12' : ¬ (12 : Int) ≤ (k : Int) := by omega
        obtain ⟨hql, hqc, hqm, _⟩ := id hIO
        obtain ⟨hOr, hw⟩ := hIO.ords
        unfold maxLen at hqm
        obtain ⟨L, hL⟩ : ∃ L, few1 qQ = L := ⟨_, rfl⟩
        obtain ⟨n, hn⟩ : ∃ n, L.length = n := ⟨_, rfl⟩
        have hn10 : n ≤ 10 := by rw [← hn, ← hL]; exact few1_len qQ
        have HLI : Hid (∀ x ∈ L, Cs w x.ao x.C ∧ x.In) := by
          intro x hx
          rw [← hL] at hx
          obtain ⟨o, ho, rfl⟩ := List.mem_map.1 hx
          have ho := List.mem_of_mem_take ho
          obtain ⟨h1, h2, h3, h4⟩ := hw o ho
          have hl : (o.C.take 20).length ≤ 20 := by rw [List.length_take]; exact Nat.min_le_left _ _
          exact ⟨(hOr.2 o ho).take 20, ⟨h1, h2, h3, fun q hq => h4.cs.2 q (List.mem_of_mem_take hq), Nat.le_trans hl (by decide)⟩⟩
        have hA := hO.allocC #[.slice qa ql qc, .int .u32 (qk : Int)] 34
        have HFW : Hid (Calls _ _ _ _ _) := few1_ok w _ _ hA qa ql qc qQ hql (by omega) (fun w'' h'' => hOr.quiet h''.fr) (fun o ho => ⟨(hw o ho).2.2.2.2.1, (hw o ho).2.2.2.2.2.1⟩)
        rw [hL, hn] at HFW
        have HN : Hid (L.length = n) := hn
        clear hO hA hOr hw hIO hL hn hql
        go_wp2_with fail
        refine HFW.out.mono ?_
        rintro e w4 ⟨ra, lc, rfl, hO⟩
        have H4 : Hid (Own w w4 _) := hO.two.tail
        clear hO HFW p0 p1
        go_upto_block 2 with (fail)
        refine wp_cut (fun a' wc => ∃ (Ea : List OrdE), a' = { tmps := #[a'.tmps.getD 0 undef, a'.tmps.getD 1 undef, a'.tmps.getD 2 undef, .pointer (some ⟨ba, 0, none⟩), a'.tmps.getD 4 undef, .pointer (some ⟨bb, 0, none⟩), a'.tmps.getD 6 undef, a'.tmps.getD 7 undef, a'.tmps.getD 8 undef, .slice ra n lc, a'.tmps.getD 10 undef, a'.tmps.getD 11 undef, a'.tmps.getD 12 undef, a'.tmps.getD 13 undef, a'.tmps.getD 14 undef, a'.tmps.getD 15 undef, a'.tmps.getD 16 undef, a'.tmps.getD 17 undef, a'.tmps.getD 18 undef, a'.tmps.getD 19 undef, a'.tmps.getD 20 undef, a'.tmps.getD 21 undef, a'.tmps.getD 22 undef, a'.tmps.getD 23 undef, a'.tmps.getD 24 undef, a'.tmps.getD 25 undef, a'.tmps.getD 26 undef, a'.tmps.getD 27 undef, a'.tmps.getD 28 undef, a'.tmps.getD 29 undef, a'.tmps.getD 30 undef, a'.tmps.getD 31 undef, a'.tmps.getD 32 undef, a'.tmps.getD 33 undef, .slice (some ⟨g, o, none⟩) len cap, .int .i64 (len : Int), .int .i64 (k : Int), a'.tmps.getD 37 undef, a'.tmps.getD 38 undef, a'.tmps.getD 39 undef, a'.tmps.getD 40 undef, a'.tmps.getD 41 undef, a'.tmps.getD 42 undef, a'.tmps.getD 43 undef, a'.tmps.getD 44 undef, a'.tmps.getD 45 undef, a'.tmps.getD 46 undef, a'.tmps.getD 47 undef, a'.tmps.getD 48 undef, a'.tmps.getD 49 undef, a'.tmps.getD 50 undef, a'.tmps.getD 51 undef, a'.tmps.getD 52 undef, a'.tmps.getD 53 undef, a'.tmps.getD 54 undef, a'.tmps.getD 55 undef, a'.tmps.getD 56 undef, a'.tmps.getD 57 undef, a'.tmps.getD 58 undef, a'.tmps.getD 59 undef, a'.tmps.getD 60 undef, a'.tmps.getD 61 undef, a'.tmps.getD 62 undef, a'.tmps.getD 63 undef, a'.tmps.getD 64 undef, a'.tmps.getD 65 undef, a'.tmps.getD 66 undef, a'.tmps.getD 67 undef, a'.tmps.getD 68 undef, a'.tmps.getD 69 undef, a'.tmps.getD 70 undef, a'.tmps.getD 71 undef, a'.tmps.getD 72 undef, a'.tmps.getD 73 undef, a'.tmps.getD 74 undef, a'.tmps.getD 75 undef, a'.tmps.getD 76 undef, a'.tmps.getD 77 undef, a'.tmps.getD 78 undef, a'.tmps.getD 79 undef, a'.tmps.getD 80 undef, a'.tmps.getD 81 undef, a'.tmps.getD 82 undef, a'.tmps.getD 83 undef, a'.tmps.getD 84 undef, a'.tmps.getD 85 undef, a'.tmps.getD 86 undef, a'.tmps.getD 87 undef, a'.tmps.getD 88 undef, a'.tmps.getD 89 undef, a'.tmps.getD 90 undef, a'.tmps.getD 91 undef, a'.tmps.getD 92 undef], defers := [] } ∧ Ea.map OrdE.bare = pushes L ∧ (∀ x ∈ Ea, x.In) ∧ Ea.length ≤ 10 ∧ Own w wc [Row 41 4 (.slice ra n lc) n (cat OrdE.cs L), WdT ba ⟨k, σ, Ea, Sa, Pa⟩ Ka na, WdT bb ⟨k, σ, [], Sb, Pb⟩ Kb nb]) ?rest ?first
        case first =>
          intro J K' hJ hK'
          have HJ : Hid _ := hJ
          clear hJ
          go_wp2
          refine wp_loop (fun a' wr => ∃ (j : Nat) (Ea : List OrdE), a' = { tmps := #[a'.tmps.getD 0 undef, a'.tmps.getD 1 undef, a'.tmps.getD 2 undef, .pointer (some ⟨ba, 0, none⟩), a'.tmps.getD 4 undef, .pointer (some ⟨bb, 0, none⟩), a'.tmps.getD 6 undef, a'.tmps.getD 7 undef, a'.tmps.getD 8 undef, .slice ra n lc, a'.tmps.getD 10 undef, a'.tmps.getD 11 undef, a'.tmps.getD 12 undef, a'.tmps.getD 13 undef, a'.tmps.getD 14 undef, a'.tmps.getD 15 undef, a'.tmps.getD 16 undef, a'.tmps.getD 17 undef, a'.tmps.getD 18 undef, a'.tmps.getD 19 undef, a'.tmps.getD 20 undef, a'.tmps.getD 21 undef, a'.tmps.getD 22 undef, a'.tmps.getD 23 undef, a'.tmps.getD 24 undef, a'.tmps.getD 25 undef, a'.tmps.getD 26 undef, a'.tmps.getD 27 undef, a'.tmps.getD 28 undef, a'.tmps.getD 29 undef, a'.tmps.getD 30 undef, a'.tmps.getD 31 undef, a'.tmps.getD 32 undef, a'.tmps.getD 33 undef, .slice (some ⟨g, o, none⟩) len cap, .int .i64 (len : Int), .int .i64 (k : Int), a'.tmps.getD 37 undef, a'.tmps.getD 38 undef, a'.tmps.getD 39 undef, a'.tmps.getD 40 undef, a'.tmps.getD 41 undef, a'.tmps.getD 42 undef, a'.tmps.getD 43 undef, a'.tmps.getD 44 undef, a'.tmps.getD 45 undef, .slice ra n lc, .int .i64 (n : Int), .int .i64 (j : Int), a'.tmps.getD 49 undef, a'.tmps.getD 50 undef, a'.tmps.getD 51 undef, a'.tmps.getD 52 undef, a'.tmps.getD 53 undef, a'.tmps.getD 54 undef, a'.tmps.getD 55 undef, a'.tmps.getD 56 undef, a'.tmps.getD 57 undef, a'.tmps.getD 58 undef, a'.tmps.getD 59 undef, a'.tmps.getD 60 undef, a'.tmps.getD 61 undef, a'.tmps.getD 62 undef, a'.tmps.getD 63 undef, a'.tmps.getD 64 undef, a'.tmps.getD 65 undef, a'.tmps.getD 66 undef, a'.tmps.getD 67 undef, a'.tmps.getD 68 undef, a'.tmps.getD 69 undef, a'.tmps.getD 70 undef, a'.tmps.getD 71 undef, a'.tmps.getD 72 undef, a'.tmps.getD 73 undef, a'.tmps.getD 74 undef, a'.tmps.getD 75 undef, a'.tmps.getD 76 undef, a'.tmps.getD 77 undef, a'.tmps.getD 78 undef, a'.tmps.getD 79 undef, a'.tmps.getD 80 undef, a'.tmps.getD 81 undef, a'.tmps.getD 82 undef, a'.tmps.getD 83 undef, a'.tmps.getD 84 undef, a'.tmps.getD 85 undef, a'.tmps.getD 86 undef, a'.tmps.getD 87 undef, a'.tmps.getD 88 undef, a'.tmps.getD 89 undef, a'.tmps.getD 90 undef, a'.tmps.getD 91 undef, a'.tmps.getD 92 undef], defers := [] } ∧ j ≤ n ∧ Ea.map OrdE.bare = pushes (L.take j) ∧ (∀ x ∈ Ea, x.In) ∧ Ea.length ≤ j ∧ Own w wr [Row 41 4 (.slice ra n lc) n (cat OrdE.cs L), WdT ba ⟨k, σ, Ea, Sa, Pa⟩ Ka na, WdT bb ⟨k, σ, [], Sb, Pb⟩ Kb nb]) (fun a' _ => n - (intOf (a'.tmps.getD 48 undef)).toNat) ?_ ?_
          · exact ⟨0, [], rfl, Nat.zero_le _, rfl, by simp, Nat.le_refl _, H4.out⟩
          · intro a' wr hI
            obtain ⟨j, Ea, hact, hj, hEa, hIn, hEl, hO⟩ := hI
            obtain ⟨u2, hu⟩ : ∃ u2 : Nat → Value, ∀ k, a'.tmps.getD k undef = u2 k := ⟨_, fun _ => rfl⟩
            simp only [hu] at hact
            clear hu
            subst hact
            clear H4
            by_cases hjn : j < n
            · have hjn' : (j : Int) < (n : Int) := by omega
              obtain ⟨oo, hoo⟩ : ∃ oo, L[j]? = some oo := ⟨_, List.getElem?_eq_getElem (by rw [HN.out]; exact hjn)⟩
              obtain ⟨gl, lc', hv, _⟩ := row_shape hO.row (by omega)
              obtain ⟨rfl, _, rfl⟩ := Value.slice.inj hv
              obtain ⟨c0, c1, c2, c3⟩ := ord_cells hO HN.out j oo hoo
              have hgl : gl < wr.heap.size := (hO.row.lt gl rfl).2
              have n1 : wr.heap.size ≠ gl := by omega
              obtain ⟨hcs, hin⟩ := HLI.out oo (List.mem_of_getElem? hoo)
              have hA := hO.alloc (.cells #[.int .u8 (oo.d : Int), .int .u32 (oo.id : Int), .int .u8 (oo.k : Int), .slice oo.ao oo.C.length oo.cap] 41)
              have HP : Hid (Calls _ _ _ _ _) := wpush w _ _ ba Ka na _ HT.out hA.two oo hin (fun w' hw' => hcs.quiet hw'.fr)
              have HST : Hid (∀ E', PushTo Ea oo E' → E'.map OrdE.bare = pushes (L.take (j + 1)) ∧ (∀ x ∈ E', x.In) ∧ E'.length ≤ j + 1) := by
                intro E' hE'
                refine ⟨?_, (hE'.more hin hIn).1, Nat.le_trans (hE'.more hin hIn).2 (by omega)⟩
                rw [hE'.bare, hEa, List.take_add_one, hoo]
                exact (pushes_snoc _ _).symm
              unfold OrdE.ag at HP
              simp only at HP
              clear hO hA hEa hIn hcs hin hoo hv hEl
              obtain ⟨od, oi, ok, oC, oa, oc⟩ := oo
              simp only at HP c0 c1 c2 c3 HST
              generalize oC.length = ol at *
              go_wp2_with fail
              refine HP.out.mono ?_
              rintro e w5 ⟨E', rfl, hE', hO⟩
              have H5 : Hid (Own w w5 _) := hO.two
              obtain ⟨e1, e2, e3⟩ := HST.out E' hE'
              have HE : Hid (E'.map OrdE.bare = pushes (L.take (j + 1)) ∧ (∀ x ∈ E', x.In) ∧ E'.length ≤ j + 1) := ⟨e1, e2, e3⟩
              clear hO HP hE' e1 e2 e3 HST c0 c1 c2 c3
              go_wp2
              exact ⟨⟨j + 1, E', rfl, by omega, HE.out.1, HE.out.2.1, HE.out.2.2, H5.out⟩, by simp [intOf]; omega⟩
            · have hjn' : ¬ (j : Int) < (n : Int) := by omega
              have HE : Hid (Ea.map OrdE.bare = pushes L ∧ (∀ x ∈ Ea, x.In)) := ⟨by rw [hEa, List.take_of_length_le (by rw [HN.out]; omega)], hIn⟩
              have H5 : Hid (Own w wr _) := hO
              have hEl2 : Ea.length ≤ 10 := by omega
              clear hO hEa hIn hEl
              go_wp2
              exact Met.intro (HJ.out _ _ ⟨Ea, rfl, HE.out.1, HE.out.2, hEl2, H5.out⟩)
        case rest =>
          intro a' wc hcut
          obtain ⟨Ea, hact, hEa, hIna, hEla, hO⟩ := hcut
          obtain ⟨u3, hu⟩ : ∃ u3 : Nat → Value, ∀ k, a'.tmps.getD k undef = u3 k := ⟨_, fun _ => rfl⟩
          simp only [hu] at hact
          clear hu
          subst hact
          have HEa : Hid (Ea.map OrdE.bare = pushes L ∧ (∀ x ∈ Ea, x.In)) := ⟨hEa, hIna⟩
          have H5 : Hid (Own w wc _) := hO
          clear hEa hIna hO H4
          go_upto_block 4 with (fail)
          refine wp_cut (fun a' wc => ∃ (Eb : List OrdE), a' = { tmps := #[a'.tmps.getD 0 undef, a'.tmps.getD 1 undef, a'.tmps.getD 2 undef, .pointer (some ⟨ba, 0, none⟩), a'.tmps.getD 4 undef, .pointer (some ⟨bb, 0, none⟩), a'.tmps.getD 6 undef, a'.tmps.getD 7 undef, a'.tmps.getD 8 undef, a'.tmps.getD 9 undef, a'.tmps.getD 10 undef, a'.tmps.getD 11 undef, a'.tmps.getD 12 undef, a'.tmps.getD 13 undef, a'.tmps.getD 14 undef, a'.tmps.getD 15 undef, a'.tmps.getD 16 undef, a'.tmps.getD 17 undef, a'.tmps.getD 18 undef, a'.tmps.getD 19 undef, a'.tmps.getD 20 undef, a'.tmps.getD 21 undef, a'.tmps.getD 22 undef, a'.tmps.getD 23 undef, a'.tmps.getD 24 undef, a'.tmps.getD 25 undef, a'.tmps.getD 26 undef, a'.tmps.getD 27 undef, a'.tmps.getD 28 undef, a'.tmps.getD 29 undef, a'.tmps.getD 30 undef, a'.tmps.getD 31 undef, a'.tmps.getD 32 undef, a'.tmps.getD 33 undef, .slice (some ⟨g, o, none⟩) len cap, .int .i64 (len : Int), .int .i64 (k : Int), a'.tmps.getD 37 undef, a'.tmps.getD 38 undef, a'.tmps.getD 39 undef, a'.tmps.getD 40 undef, a'.tmps.getD 41 undef, a'.tmps.getD 42 undef, a'.tmps.getD 43 undef, a'.tmps.getD 44 undef, a'.tmps.getD 45 undef, a'.tmps.getD 46 undef, a'.tmps.getD 47 undef, a'.tmps.getD 48 undef, a'.tmps.getD 49 undef, a'.tmps.getD 50 undef, a'.tmps.getD 51 undef, a'.tmps.getD 52 undef, a'.tmps.getD 53 undef, a'.tmps.getD 54 undef, a'.tmps.getD 55 undef, a'.tmps.getD 56 undef, a'.tmps.getD 57 undef, a'.tmps.getD 58 undef, a'.tmps.getD 59 undef, a'.tmps.getD 60 undef, a'.tmps.getD 61 undef, a'.tmps.getD 62 undef, a'.tmps.getD 63 undef, a'.tmps.getD 64 undef, a'.tmps.getD 65 undef, a'.tmps.getD 66 undef, a'.tmps.getD 67 undef, a'.tmps.getD 68 undef, a'.tmps.getD 69 undef, a'.tmps.getD 70 undef, a'.tmps.getD 71 undef, a'.tmps.getD 72 undef, a'.tmps.getD 73 undef, a'.tmps.getD 74 undef, a'.tmps.getD 75 undef, a'.tmps.getD 76 undef, a'.tmps.getD 77 undef, a'.tmps.getD 78 undef, a'.tmps.getD 79 undef, a'.tmps.getD 80 undef, a'.tmps.getD 81 undef, a'.tmps.getD 82 undef, a'.tmps.getD 83 undef, a'.tmps.getD 84 undef, a'.tmps.getD 85 undef, a'.tmps.getD 86 undef, a'.tmps.getD 87 undef, a'.tmps.getD 88 undef, a'.tmps.getD 89 undef, a'.tmps.getD 90 undef, a'.tmps.getD 91 undef, a'.tmps.getD 92 undef], defers := [] } ∧ Eb.map OrdE.bare = pushes L ∧ (∀ x ∈ Eb, x.In) ∧ Eb.length ≤ 10 ∧ Own w wc [WdT ba ⟨k, σ, Ea, Sa, Pa⟩ Ka na, WdT bb ⟨k, σ, Eb, Sb, Pb⟩ Kb nb]) ?rest ?first
          case first =>
            intro J K' hJ hK'
            have HJ : Hid _ := hJ
            clear hJ
            go_wp2
            refine wp_loop (fun a' wr => ∃ (j : Nat) (Eb : List OrdE), a' = { tmps := #[a'.tmps.getD 0 undef, a'.tmps.getD 1 undef, a'.tmps.getD 2 undef, .pointer (some ⟨ba, 0, none⟩), a'.tmps.getD 4 undef, .pointer (some ⟨bb, 0, none⟩), a'.tmps.getD 6 undef, a'.tmps.getD 7 undef, a'.tmps.getD 8 undef, .slice ra n lc, a'.tmps.getD 10 undef, a'.tmps.getD 11 undef, a'.tmps.getD 12 undef, a'.tmps.getD 13 undef, a'.tmps.getD 14 undef, a'.tmps.getD 15 undef, a'.tmps.getD 16 undef, a'.tmps.getD 17 undef, a'.tmps.getD 18 undef, a'.tmps.getD 19 undef, a'.tmps.getD 20 undef, a'.tmps.getD 21 undef, a'.tmps.getD 22 undef, a'.tmps.getD 23 undef, a'.tmps.getD 24 undef, a'.tmps.getD 25 undef, a'.tmps.getD 26 undef, a'.tmps.getD 27 undef, a'.tmps.getD 28 undef, a'.tmps.getD 29 undef, a'.tmps.getD 30 undef, a'.tmps.getD 31 undef, a'.tmps.getD 32 undef, a'.tmps.getD 33 undef, .slice (some ⟨g, o, none⟩) len cap, .int .i64 (len : Int), .int .i64 (k : Int), a'.tmps.getD 37 undef, a'.tmps.getD 38 undef, a'.tmps.getD 39 undef, a'.tmps.getD 40 undef, a'.tmps.getD 41 undef, a'.tmps.getD 42 undef, a'.tmps.getD 43 undef, a'.tmps.getD 44 undef, a'.tmps.getD 45 undef, a'.tmps.getD 46 undef, a'.tmps.getD 47 undef, a'.tmps.getD 48 undef, a'.tmps.getD 49 undef, a'.tmps.getD 50 undef, a'.tmps.getD 51 undef, a'.tmps.getD 52 undef, a'.tmps.getD 53 undef, a'.tmps.getD 54 undef, a'.tmps.getD 55 undef, .slice ra n lc, .int .i64 (n : Int), .int .i64 (j : Int), a'.tmps.getD 59 undef, a'.tmps.getD 60 undef, a'.tmps.getD 61 undef, a'.tmps.getD 62 undef, a'.tmps.getD 63 undef, a'.tmps.getD 64 undef, a'.tmps.getD 65 undef, a'.tmps.getD 66 undef, a'.tmps.getD 67 undef, a'.tmps.getD 68 undef, a'.tmps.getD 69 undef, a'.tmps.getD 70 undef, a'.tmps.getD 71 undef, a'.tmps.getD 72 undef, a'.tmps.getD 73 undef, a'.tmps.getD 74 undef, a'.tmps.getD 75 undef, a'.tmps.getD 76 undef, a'.tmps.getD 77 undef, a'.tmps.getD 78 undef, a'.tmps.getD 79 undef, a'.tmps.getD 80 undef, a'.tmps.getD 81 undef, a'.tmps.getD 82 undef, a'.tmps.getD 83 undef, a'.tmps.getD 84 undef, a'.tmps.getD 85 undef, a'.tmps.getD 86 undef, a'.tmps.getD 87 undef, a'.tmps.getD 88 undef, a'.tmps.getD 89 undef, a'.tmps.getD 90 undef, a'.tmps.getD 91 undef, a'.tmps.getD 92 undef], defers := [] } ∧ j ≤ n ∧ Eb.map OrdE.bare = pushes (L.take j) ∧ (∀ x ∈ Eb, x.In) ∧ Eb.length ≤ j ∧ Own w wr [Row 41 4 (.slice ra n lc) n (cat OrdE.cs L), WdT ba ⟨k, σ, Ea, Sa, Pa⟩ Ka na, WdT bb ⟨k, σ, Eb, Sb, Pb⟩ Kb nb]) (fun a' _ => n - (intOf (a'.tmps.getD 58 undef)).toNat) ?_ ?_
            · exact ⟨0, [], rfl, Nat.zero_le _, rfl, by simp, Nat.le_refl _, H5.out⟩
            · intro a' wr hI
              obtain ⟨j, Eb, hact, hj, hEb, hIn, hEl, hO⟩ := hI
              obtain ⟨u4, hu⟩ : ∃ u4 : Nat → Value, ∀ k, a'.tmps.getD k undef = u4 k := ⟨_, fun _ => rfl⟩
              simp only [hu] at hact
              clear hu
              subst hact
              clear H5
              by_cases hjn : j < n
              · have hjn' : (j : Int) < (n : Int) := by omega
                obtain ⟨oo, hoo⟩ : ∃ oo, L[j]? = some oo := ⟨_, List.getElem?_eq_getElem (by rw [HN.out]; exact hjn)⟩
                obtain ⟨gl, lc', hv, _⟩ := row_shape hO.row (by omega)
                obtain ⟨rfl, _, rfl⟩ := Value.slice.inj hv
                obtain ⟨c0, c1, c2, c3⟩ := ord_cells hO HN.out j oo hoo
                have hgl : gl < wr.heap.size := (hO.row.lt gl rfl).2
                have n1 : wr.heap.size ≠ gl := by omega
                obtain ⟨hcs, hin⟩ := HLI.out oo (List.mem_of_getElem? hoo)
                have hA := hO.alloc (.cells #[.int .u8 (oo.d : Int), .int .u32 (oo.id : Int), .int .u8 (oo.k : Int), .slice oo.ao oo.C.length oo.cap] 41)
                have HP : Hid (Calls _ _ _ _ _) := wpush w _ _ bb Kb nb _ HT.out hA.three oo hin (fun w' hw' => hcs.quiet hw'.fr)
                have HST : Hid (∀ E', PushTo Eb oo E' → E'.map OrdE.bare = pushes (L.take (j + 1)) ∧ (∀ x ∈ E', x.In) ∧ E'.length ≤ j + 1) := by
                  intro E' hE'
                  refine ⟨?_, (hE'.more hin hIn).1, Nat.le_trans (hE'.more hin hIn).2 (by omega)⟩
                  rw [hE'.bare, hEb, List.take_add_one, hoo]
                  exact (pushes_snoc _ _).symm
                unfold OrdE.ag at HP
                simp only at HP
                clear hO hA hEb hIn hcs hin hoo hv hEl
                obtain ⟨od, oi, ok, oC, oa, oc⟩ := oo
                simp only at HP c0 c1 c2 c3 HST
                generalize oC.length = ol at *
                go_wp2_with fail
                refine HP.out.mono ?_
                rintro e w5 ⟨E', rfl, hE', hO⟩
                obtain ⟨e1, e2, e3⟩ := HST.out E' hE'
                have HE : Hid (E'.map OrdE.bare = pushes (L.take (j + 1)) ∧ (∀ x ∈ E', x.In) ∧ E'.length ≤ j + 1) := ⟨e1, e2, e3⟩
                clear HP hE' e1 e2 e3 HST c0 c1 c2 c3
                have HLT : Hid (Calls _ _ _ _ _) := wlistT w w5 _ bb Kb nb _ Hσ.out (by omega) hO
                clear hO
                go_wp2_with fail
                refine HLT.out.mono ?_
                rintro e w6 ⟨ea, ec, M, rfl, hM, hO⟩
                have HSN : Hid (Calls _ _ _ _ _) := wsince w w6 _ bb Kb nb _ Hσ.out 0 hO.two
                clear hO hM HLT
                generalize M.length = ml at *
                go_wp2_with fail
                refine HSN.out.mono ?_
                rintro e w7 ⟨⟨sa, sm, sc, rfl⟩, hO⟩
                have H7 : Hid (Own w w7 _) := hO.two.tail.back3
                clear hO HSN
                go_wp2
                exact ⟨⟨j + 1, E', rfl, by omega, HE.out.1, HE.out.2.1, HE.out.2.2, H7.out⟩, by simp [intOf]; omega⟩
              · have hjn' : ¬ (j : Int) < (n : Int) := by omega
                have HE : Hid (Eb.map OrdE.bare = pushes L ∧ (∀ x ∈ Eb, x.In)) := ⟨by rw [hEb, List.take_of_length_le (by rw [HN.out]; omega)], hIn⟩
                have H6 : Hid (Own w wr _) := hO.tail
                have hEl2 : Eb.length ≤ 10 := by omega
                clear hO hEb hIn hEl
                go_wp2
                exact Met.intro (HJ.out _ _ ⟨Eb, rfl, HE.out.1, HE.out.2, hEl2, H6.out⟩)
          case rest =>
            intro a' wc2 hcut
            obtain ⟨Eb, hact, hEb, hInb, hElb, hO⟩ := hcut
            obtain ⟨u5, hu⟩ : ∃ u5 : Nat → Value, ∀ k, a'.tmps.getD k undef = u5 k := ⟨_, fun _ => rfl⟩
            simp only [hu] at hact
            clear hu
            subst hact
            clear H5
            have hEE : Ea.map OrdE.bare = Eb.map OrdE.bare := by rw [HEa.out.1, hEb]
            have hel : Eb.length = Ea.length := by have := congrArg List.length hEE; simpa using this.symm
            have hR1 : (runs stq (σ, Kb) Eb).1 = (runs stq (σ, Ka) Ea).1 := by rw [runs_bare Eb, runs_bare Ea, hEE]; exact (runs_K _ _ _ _).1
            have hR2 : (runs stq (σ, Kb) Eb).2.1 = (runs stq (σ, Ka) Ea).2.1 := by rw [runs_bare Eb, runs_bare Ea, hEE]; exact (runs_K _ _ _ _).2
            have hRl : (runs stq (σ, Ka) Ea).1.length = Ea.length := runs_len2 _ _
            have HC : Hid (Calls _ _ _ _ _) := wstep w wc2 _ ba Ka na ⟨k, σ, Ea, Sa, Pa⟩ HT.out Hσ.out (by omega) (by omega) (by show k < _; omega) (by show Ea.length ≤ _; omega) HEa.out.2 hO
            have HC2 : Hid (∀ W' l', Own w W' (WdT bb ⟨k, σ, Eb, Sb, Pb⟩ Kb nb :: l') → Calls _ _ _ W' _) := fun W' l' h' => wstep w W' l' bb Kb nb ⟨k, σ, Eb, Sb, Pb⟩ HT.out Hσ.out (by omega) (by omega) (by show k < _; omega) (by show Eb.length ≤ _; omega) hInb h'
            simp only [Wd.next] at HC HC2
            rw [hR1, hR2, hel] at HC2
            obtain ⟨el, he⟩ : ∃ el, el = Ea.length := ⟨_, rfl⟩
            rw [← he] at HC HC2 hRl hEla
            have HRL : Hid ((runs stq (σ, Ka) Ea).1.length = el) := hRl
            clear hO hEE hR1 hR2 hRl hEb hInb hel he hElb
            generalize (runs stq (σ, Ka) Ea).1 = RR at *
            generalize (runs stq (σ, Ka) Ea).2.1 = σ1 at *
            go_wp2_with fail
            refine HC.out.mono ?_
            rintro e w5 ⟨ra1, rc1, Ka', na', Pa', rfl, hKa', hna', hok, _, hO⟩
            clear HC
            have HC : Hid (Calls _ _ _ _ _) := HC2.out _ _ hO.three
            have Hok : Hid σ1.sys.Ok := hok
            clear hO HC2 hok
            go_wp2_with fail
            refine HC.out.mono ?_
            rintro e w6 ⟨rb1, rd1, Kb', nb', Pb', rfl, hKb', hnb', _, _, hO⟩
            clear HC
            have HSR : Hid (Calls _ _ _ _ _) := same_res w6 ra1 rb1 el rc1 rd1 RR (Own.rs hO.three HRL.out) (Own.rs hO HRL.out) HRL.out (by omega)
            have H6 : Hid (Own w w6 _) := hO
            clear hO
            go_wp2_with fail
            refine HSR.out.mono ?_
            rintro e w7 ⟨rfl, hf⟩
            have hO := ((H6.out.quiet hf).tail.two.tail).two
            have HLA : Hid (Calls _ _ _ _ _) := wlistT w w7 _ ba Ka' na' _ Hok.out (by omega) hO
            clear hO hf HSR H6
            go_wp2_with fail
            refine HLA.out.mono ?_
            rintro e w8 ⟨ea, ec, M, rfl, hM, hO⟩
            have HLB : Hid (Calls _ _ _ _ _) := wlistT w w8 _ bb Kb' nb' _ Hok.out (by omega) hO.three
            have HM : Hid (M.map (fun x => (x.id, x.C)) = σ1.sys.S.list.map (fun id => (id, σ1.sys.cps id))) := hM
            clear hO HLA hM
            go_wp2_with fail
            refine HLB.out.mono ?_
            rintro e w9 ⟨eb, ed, M2, rfl, hM2, hO⟩
            have hM2' : M2.map (fun x => (x.id, x.C)) = σ1.sys.S.list.map (fun id => (id, σ1.sys.cps id)) := hM2
            obtain ⟨hl1, hx1⟩ := ents_ok Hok.out HM.out
            have HSM : Hid (Calls _ _ _ _ _) := same_ents w w9 _ ea eb ec ed M M2 (by rw [HM.out, hM2']) (by omega) (fun y hy => Nat.le_trans (hx1 y hy).2.1 (by decide)) (hO.three)
            clear hO HLB hM2 hM2' hl1 hx1 HM
            generalize M.length = ml at *
            generalize M2.length = ml2 at *
            go_wp2_with fail
            refine HSM.out.mono ?_
            rintro e w10 ⟨rfl, hO⟩
            have H10 : Hid (Own w w10 _) := hO.tail.tail.two
            clear hO HSM
            go_wp2
            exact ⟨⟨k + 1, σ1.sys, _, _, Pa', Pb', Ka', na', Kb', nb', rfl, by omega, by omega, Hok.out, by omega, by omega, hna', hnb', H10.out⟩, by simp [intOf]; omega⟩
      · have h12' : (12 : Int) ≤ (k : Int) := by omega
        have HF : Hid (Fr Nobody w _) := hO.fr.alloc (.cells #[.slice qa ql qc, .int .u32 (qk : Int)] 34)
        clear hO hIO
        go_wp2
        go_ret
        exact ⟨rfl, HF.out⟩
    · have hlt' : ¬ (k : Int) < (len : Int) := by omega
      have HF : Hid (Fr Nobody w wr) := hO.fr
      clear hO
      go_wp2
      go_ret
      exact ⟨rfl, HF.out⟩
theorem worldTwins_walk (w : World) (ht : Tab w) (a0 : Option Addr) (len0 cap0 : Nat) (z0 : List TrnE) (w0 : IsTurns w a0 len0 cap0 z0) :
    Calls Tryz.prog 5 #[.slice a0 len0 cap0] w fun e w' => e = .returned (.bool true) ∧ Below w.heap.size w w' := by
  refine (worldTwins_fr w ht a0 len0 cap0 z0 w0).mono ?_
  rintro e w' ⟨rfl, hf⟩
  exact ⟨rfl, hf.below (Nat.le_refl _) (fun _ _ => id)⟩

theorem laidOut : laidOutB Tryz.prog = true := by kernel_rfl

set_option maxRecDepth 100000 in
theorem worldTwins_lifted (os : Os) (started : os.Started) (H : Type) (enc : TypeId × Value → H) :
    ReturnsInHanded {} Tryz.checked os 5 .any (fun w args => (Rows.worldTwinsSpec.pre enc Tryz.prog Tryz.f5 [] false w args ∧ laidMetH Tryz.prog laid1 w) ∧ sizedMet enc Tryz.prog Tryz.f5 (OpenSpec.ofChange Rows.worldTwinsSpec) false w args) (Rows.worldTwinsSpec.post enc Tryz.prog Tryz.f5 false true false false) := by
  refine returnsInHanded_of_change_and (C := Tryz.checked) (X := fun w _ => laidMetH Tryz.prog laid1 w) (fun _ _ _ hh h => h.of_heap hh) own started (by kernel_rfl) Tryz.func5
    (ChangeSpec.witness_shaped (enc := enc) (C := Tryz.checked) (os := os) (X := fun w _ => laidMetH Tryz.prog laid1 w) false (World.doorLaid Tryz.prog 400 os) #[.slice none 0 0] 8 rfl (World.shaped_of_RefB (by kernel_rfl) (by kernel_rfl)) (by kernel_rfl) (by kernel_rfl) (by kernel_rfl) (door_met os _)) ?_
  intro W base args ds gs before hval0 hW _ _ hL _
  have hval : ∀ (j : Nat) t v, Tryz.f5.params[j]? = some t → args[j]? = some v → Value.okWide Tryz.prog W .any base t v := hval0
  have hW' := hW
  obtain ⟨p, q, hA0, hV, rfl, hfz, hnd⟩ := hW
  have hA : DataW.TrodAll enc Tryz.prog W 0 (fun _ => true) true Tryz.f5.params.toList args.toList ds p := hA0
  rw [Tryz.params5] at hA hval
  obtain ⟨v0, vs0, d0, ds0, p0, q0, hargs, rfl, rfl, h0, r0⟩ := trodAll_cons hA
  obtain ⟨rfl, rfl, rfl⟩ := trodAll_nil r0
  obtain rfl : args = #[v0] := by cases args; simp_all
  obtain ⟨rfl, rfl⟩ := trodVars_none hV
  obtain ⟨a0, len0, cap0, rfl⟩ := okWide_slice Tryz.underlying23 (hval 0 23 v0 rfl rfl)
  have k0 := h0
  have lt0 : ∀ x ∈ p0, x.block < W.heap.size := by obtain ⟨m, hm⟩ := k0; exact DataW.trod_lt m _ _ _ hm
  obtain ⟨z0, w0⟩ := open_turns (hval 0 23 _ rfl rfl) h0
  clear hA0 hval0
  refine (worldTwins_walk W (of_laid hL) a0 len0 cap0 z0 w0).mono fun e W' ⟨he, bel⟩ => ?_
  subst he
  exact ⟨_, rfl, _, _, _, [], _, [], hW', trodAll_mk1 (shut_bool Tryz.underlying4 _), (trodAll_cons_mk (Below.trod laidOut (by kernel_rfl) (of_decide_eq_true (by kernel_rfl)) k0 bel lt0) trodAll_mk0), rfl, bel.frame _, fun h => by cases h⟩

theorem worldTwins_row : Rows.WorldTwinsSaid :=
  OpenClaim.holds_of_wide 5 Tryz.f5 rfl rfl rfl rfl rfl rfl rfl ⟨rfl, rfl, rfl, rfl, rfl⟩ rfl rfl rfl rfl rfl (by kernel_rfl) Tryz.func5 (by kernel_rfl)
    (of_decide_eq_true (by kernel_rfl)) (by unfold Func.isWrapper; first | (rw [if_pos (by decide +kernel)]; kernel_rfl) | (rw [if_neg (by decide +kernel)]; exact ⟨rfl, rfl⟩))
    (fun os started H enc _ => worldTwins_lifted os started H enc)

theorem worldTwins_holds : Rows.WorldTwinsCardSaid :=
  Claim7.holds_tied_plain_at .later [] [.data] true (true, "f15f259db8e5cefecab0445e3c92f59260b765fbad70eb00bc7f80e5ef95df64") false
    worldTwins_row (fun _ h => by cases h) (by kernel_rfl) (fun _ h => by cases h) worldTwins_row_tie rfl ⟨rfl, rfl⟩ (by kernel_rfl) rfl
    (fun f fn hf hfn => by
      obtain rfl : f = 5 := Option.some.inj ((show Tryz.prog.funcNamed "pinnace/pinnacelaw15.WorldTwins" = some 5 by kernel_rfl).symm.trans hf) |>.symm
      obtain rfl : fn = Tryz.f5 := (Option.some.inj (Tryz.func5.symm.trans hfn)).symm
      exact ⟨by kernel_rfl, fun j t ht => by
        rw [Tryz.params5] at ht
        have hm : t ∈ [23] := by simpa using Array.mem_of_getElem? ht
        have hall : ([23].all fun u => !Tryz.prog.wantsStandIn u) = true := by kernel_rfl
        exact (show Tryz.prog.wantsStandIn t = false by simpa using List.all_eq_true.1 hall t hm)⟩)
    (by kernel_rfl)

end Go.Proofs.YtkkhobaiihgolaaGreatDoor
