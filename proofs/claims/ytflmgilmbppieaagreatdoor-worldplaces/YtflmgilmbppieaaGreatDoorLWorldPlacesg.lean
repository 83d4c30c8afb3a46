/-
  Who follows the places that are told, step by step, knows where everything is: WorldPlaces returns true, whatever its argument, where the table of the components lies as the program's text lays it, and changes nothing that was there.
-/
import Derived.Test.YtflmgilmbppieaaGreatDoorWqcg
import Derived.Test.YtflmgilmbppieaaGreatDoorUh
import Derived.OpenShut
import Derived.SevenTiedAt
import Derived.Deep.DeepCutAuto
import Derived.Deep.CutBlock
namespace Go.Proofs.YtflmgilmbppieaaGreatDoor
open Go.ChangeShapes Go.WideShapes Go.ChangeAt Go.RowKit Go.Maps
set_option linter.unusedVariables false
set_option maxRecDepth 100000

theorem filt_len {M : List EnE} {ids : List Nat} {f : Nat → List Cp} (h : M.map (fun x => (x.id, x.C)) = ids.map (fun id => (id, f id))) (p : List Cp → Bool) : (M.filter (fun x => p x.C)).length = (ids.filter (fun id => p (f id))).length := by
  have e1 : (M.filter (fun x => p x.C)).length = ((M.map (fun x => (x.id, x.C))).filter (fun y => p y.2)).length := by
    rw [List.filter_map, List.length_map]; rfl
  have e2 : (ids.filter (fun id => p (f id))).length = ((ids.map (fun id => (id, f id))).filter (fun y => p y.2)).length := by
    rw [List.filter_map, List.length_map]; rfl
  rw [e1, e2, h]
theorem filt_take {M : List EnE} {j : Nat} {x : EnE} (hx : M[j]? = some x) (p : EnE → Bool) : ((M.take (j + 1)).filter p).length = ((M.take j).filter p).length + (if p x then 1 else 0) := by
  rw [List.take_add_one, hx, List.filter_append, List.length_append]
  congr 1
  cases h : p x <;> simp [h]
theorem ents_in {M : List EnE} {σ : Sto} (h : M.map (fun x => (x.id, x.C)) = σ.S.list.map (fun id => (id, σ.cps id))) {x : EnE} (hx : x ∈ M) : x.id ∈ σ.S.list ∧ x.C = σ.cps x.id := by
  have hm : (x.id, x.C) ∈ σ.S.list.map (fun id => (id, σ.cps id)) := by rw [← h]; exact List.mem_map.2 ⟨x, hx, rfl⟩
  obtain ⟨id, hid, e⟩ := List.mem_map.1 hm
  simp only [Prod.mk.injEq] at e
  rw [← e.1, ← e.2]
  exact ⟨hid, rfl⟩
theorem getE_self (x : EnE) (k : Nat) : getE [x] x.id k = fst x.C k := by
  unfold getE
  rw [List.findSome?_cons, if_pos rfl]
  cases fst x.C k <;> rfl
theorem fst_hasK {C : List Cp} {k : Nat} {c : Cp} (h : fst C k = some c) : c ∈ C ∧ c.k = k ∧ hasK C k = true := by
  unfold fst at h
  have h1 := List.mem_of_find?_eq_some h
  have h2 : c.k = k := by simpa using List.find?_some h
  refine ⟨h1, h2, ?_⟩
  rw [← h2]; exact hasK_true h1
theorem fst_hasNo {C : List Cp} {k : Nat} (h : fst C k = none) : hasK C k = false := by
  refine hasK_false (fun q hq e => ?_)
  unfold fst at h
  rw [List.find?_eq_none] at h
  exact h q hq (by simpa using e)
set_option maxHeartbeats 32000000 in
theorem worldPlaces_fr (w : World) (ht : Tab w) (ao : Option Addr) (len cap : Nat) (Q : List TrnE) (hQ : IsTurns w ao len cap Q) :
    Calls Tryz.prog 4 #[.slice ao len cap] w fun e w' => e = .returned (.bool true) ∧ Fr Nobody w w' := by
  obtain ⟨hQl, hlc, hcm, hQa⟩ := hQ
  unfold maxLen at hcm
  have HT : Hid (Tab w) := ht
  have HQ : Hid (Q.length = len ∧ RowsAt (TrnIs w) 2 w ao Q) := ⟨hQl, hQa⟩
  have HAW : Hid (Calls _ _ _ _ _) := awake15 w ht
  have hmm := fun w => @run_makeMap Tryz.prog 59 w
  clear hQl hQa ht
  go_enter Tryz.func4, Tryz.ntmps4
  go_wp2_with fail
  refine HAW.out.mono ?_
  rintro e w1 ⟨rfl, hf⟩
  have HC : Hid (Calls _ _ _ _ _) := wnew w w1 [] 10 1 0 (Own.of_fr hf) (by decide) (by decide) (by decide) (by decide)
  clear hf HAW
  go_wp2_with fail
  refine HC.out.mono ?_
  rintro e w2 ⟨ba, rfl, hO⟩
  have hM := (Own.gmNew wdK hO).two
  have H3 : Hid (Own w _ _) := hM
  clear HC hO hM
  go_wp2
  generalize hbm : w2.heap.size = bm at *
  generalize hW3 : w2.alloc (.map #[] 0) = W3 at *
  clear hbm hW3 hmm
  refine wp_loop (fun a' wr => ∃ (k : Nat) (σ : Sto) (S : Nat → Nat → Option SgE) (P : List PlE) (K n sz N : Nat), a' = { tmps := #[a'.tmps.getD 0 undef, a'.tmps.getD 1 undef, a'.tmps.getD 2 undef, .pointer (some ⟨ba, 0, none⟩), a'.tmps.getD 4 undef, .map (some bm), a'.tmps.getD 6 undef, a'.tmps.getD 7 undef, a'.tmps.getD 8 undef, a'.tmps.getD 9 undef, a'.tmps.getD 10 undef, a'.tmps.getD 11 undef, a'.tmps.getD 12 undef, a'.tmps.getD 13 undef, a'.tmps.getD 14 undef, a'.tmps.getD 15 undef, a'.tmps.getD 16 undef, a'.tmps.getD 17 undef, a'.tmps.getD 18 undef, a'.tmps.getD 19 undef, a'.tmps.getD 20 undef, a'.tmps.getD 21 undef, a'.tmps.getD 22 undef, a'.tmps.getD 23 undef, a'.tmps.getD 24 undef, a'.tmps.getD 25 undef, .slice ao len cap, .int .i64 (len : Int), .int .i64 (k : Int), a'.tmps.getD 29 undef, a'.tmps.getD 30 undef, a'.tmps.getD 31 undef, a'.tmps.getD 32 undef, a'.tmps.getD 33 undef, a'.tmps.getD 34 undef, a'.tmps.getD 35 undef, a'.tmps.getD 36 undef, a'.tmps.getD 37 undef, a'.tmps.getD 38 undef, a'.tmps.getD 39 undef, a'.tmps.getD 40 undef, a'.tmps.getD 41 undef, a'.tmps.getD 42 undef, a'.tmps.getD 43 undef, a'.tmps.getD 44 undef, a'.tmps.getD 45 undef, a'.tmps.getD 46 undef, a'.tmps.getD 47 undef, a'.tmps.getD 48 undef, a'.tmps.getD 49 undef, a'.tmps.getD 50 undef, a'.tmps.getD 51 undef, a'.tmps.getD 52 undef, a'.tmps.getD 53 undef, a'.tmps.getD 54 undef, a'.tmps.getD 55 undef, a'.tmps.getD 56 undef, a'.tmps.getD 57 undef, a'.tmps.getD 58 undef, a'.tmps.getD 59 undef, a'.tmps.getD 60 undef, a'.tmps.getD 61 undef, a'.tmps.getD 62 undef, a'.tmps.getD 63 undef, a'.tmps.getD 64 undef, a'.tmps.getD 65 undef, a'.tmps.getD 66 undef, a'.tmps.getD 67 undef, a'.tmps.getD 68 undef, a'.tmps.getD 69 undef, a'.tmps.getD 70 undef, a'.tmps.getD 71 undef, a'.tmps.getD 72 undef, a'.tmps.getD 73 undef, a'.tmps.getD 74 undef, a'.tmps.getD 75 undef, a'.tmps.getD 76 undef, a'.tmps.getD 77 undef, a'.tmps.getD 78 undef, a'.tmps.getD 79 undef, a'.tmps.getD 80 undef, a'.tmps.getD 81 undef, a'.tmps.getD 82 undef, a'.tmps.getD 83 undef, a'.tmps.getD 84 undef, a'.tmps.getD 85 undef, a'.tmps.getD 86 undef, a'.tmps.getD 87 undef, a'.tmps.getD 88 undef, a'.tmps.getD 89 undef, a'.tmps.getD 90 undef, a'.tmps.getD 91 undef, a'.tmps.getD 92 undef, a'.tmps.getD 93 undef, a'.tmps.getD 94 undef, a'.tmps.getD 95 undef, a'.tmps.getD 96 undef, a'.tmps.getD 97 undef, a'.tmps.getD 98 undef, a'.tmps.getD 99 undef, a'.tmps.getD 100 undef, a'.tmps.getD 101 undef, a'.tmps.getD 102 undef, a'.tmps.getD 103 undef], defers := [] } ∧ k ≤ len ∧ k ≤ 12 ∧ σ.Ok ∧ K ≤ 3000 * k ∧ n ≤ 6144 ∧ sz ≤ 1024 ∧ N ≤ 2048 * k ∧ KeyN (posS S) sz ∧ Own w wr [WdT ba ⟨k, σ, [], S, P⟩ K n, GMap wdK bm N sz (fun y => (posS S y).map plv)]) (fun a' _ => len - (intOf (a'.tmps.getD 28 undef)).toNat) ?_ ?_
  · exact ⟨0, Sto.new 10 1, fun _ _ => none, [], 0, 0, 0, 0, rfl, Nat.zero_le _, Nat.zero_le _, Sto.new_ok 10 1 (by decide) (by decide) (by decide) (by decide), Nat.le_refl _, Nat.zero_le _, Nat.zero_le _, Nat.le_refl _, KeyN.nil, H3.out⟩
  · intro a' wr hI
    obtain ⟨k, σ, S, P, K, n0, sz, N, hact, hk, hk12, hσ, hK, hn0, hsz, hN, hkn, hO⟩ := hI
    obtain ⟨u, hu⟩ : ∃ u : Nat → Value, ∀ k, a'.tmps.getD k undef = u k := ⟨_, fun _ => rfl⟩
    simp only [hu] at hact
    clear hu
    subst hact
    have Hσ : Hid σ.Ok := hσ
    have HKN : Hid (KeyN (posS S) sz) := hkn
    clear H3 hσ hkn
    by_cases hlt : k < len
    · have hlt' : (k : Int) < (len : Int) := by omega
      obtain ⟨g, o, q, hao, hIO, p0, p1⟩ := trn_at (HQ.out.2.quiet hO.fr) k (by rw [HQ.out.1]; exact hlt)
      subst hao
      obtain ⟨qa, ql, qc, qQ, qk⟩ := q
      simp only at hIO p0 p1
      by_cases h12 : k < 12
      · have h12' : ¬ (12 : Int) ≤ (k : Int) := by omega
        obtain ⟨hql, hqc, hqm, _⟩ := id hIO
        obtain ⟨hOr, hw⟩ := hIO.ords
        unfold maxLen at hqm
        obtain ⟨L, hL⟩ : ∃ L, few1 qQ = L := ⟨_, rfl⟩
        obtain ⟨n, hn⟩ : ∃ n, L.length = n := ⟨_, rfl⟩
        have hn10 : n ≤ 10 := by rw [← hn, ← hL]; exact few1_len qQ
        have HLI : Hid (∀ x ∈ L, Cs w x.ao x.C ∧ x.In) := by
          intro x hx
          rw [← hL] at hx
          obtain ⟨o, ho, rfl⟩ := List.mem_map.1 hx
          have ho := List.mem_of_mem_take ho
          obtain ⟨h1, h2, h3, h4⟩ := hw o ho
          have hl : (o.C.take 20).length ≤ 20 := by rw [List.length_take]; exact Nat.min_le_left _ _
          exact ⟨(hOr.2 o ho).take 20, ⟨h1, h2, h3, fun q hq => h4.cs.2 q (List.mem_of_mem_take hq), Nat.le_trans hl (by decide)⟩⟩
        have hA := hO.allocC #[.slice qa ql qc, .int .u32 (qk : Int)] 34
        have HFW : Hid (Calls _ _ _ _ _) := few1_ok w _ _ hA qa ql qc qQ hql (by omega) (fun w'' h'' => hOr.quiet h''.fr) (fun o ho => ⟨(hw o ho).2.2.2.2.1, (hw o ho).2.2.2.2.2.1⟩)
        rw [hL, hn] at HFW
        have HN : Hid (L.length = n) := hn
        clear hO hA hOr hw hIO hL hn hql
        go_wp2_with fail
        refine HFW.out.mono ?_
        rintro e w4 ⟨ra, lc, rfl, hO⟩
        have H4 : Hid (Own w w4 _) := hO.two.tail
        clear hO HFW p0 p1
        go_upto_block 2 with (fail)
        refine wp_cut (fun a' wc => ∃ (E : List OrdE), a' = { tmps := #[a'.tmps.getD 0 undef, a'.tmps.getD 1 undef, a'.tmps.getD 2 undef, .pointer (some ⟨ba, 0, none⟩), a'.tmps.getD 4 undef, .map (some bm), a'.tmps.getD 6 undef, a'.tmps.getD 7 undef, a'.tmps.getD 8 undef, a'.tmps.getD 9 undef, a'.tmps.getD 10 undef, a'.tmps.getD 11 undef, a'.tmps.getD 12 undef, a'.tmps.getD 13 undef, a'.tmps.getD 14 undef, a'.tmps.getD 15 undef, a'.tmps.getD 16 undef, a'.tmps.getD 17 undef, a'.tmps.getD 18 undef, a'.tmps.getD 19 undef, a'.tmps.getD 20 undef, a'.tmps.getD 21 undef, a'.tmps.getD 22 undef, a'.tmps.getD 23 undef, a'.tmps.getD 24 undef, a'.tmps.getD 25 undef, .slice (some ⟨g, o, none⟩) len cap, .int .i64 (len : Int), .int .i64 (k : Int), a'.tmps.getD 29 undef, a'.tmps.getD 30 undef, a'.tmps.getD 31 undef, a'.tmps.getD 32 undef, a'.tmps.getD 33 undef, a'.tmps.getD 34 undef, a'.tmps.getD 35 undef, a'.tmps.getD 36 undef, a'.tmps.getD 37 undef, a'.tmps.getD 38 undef, a'.tmps.getD 39 undef, a'.tmps.getD 40 undef, a'.tmps.getD 41 undef, a'.tmps.getD 42 undef, a'.tmps.getD 43 undef, a'.tmps.getD 44 undef, a'.tmps.getD 45 undef, a'.tmps.getD 46 undef, a'.tmps.getD 47 undef, a'.tmps.getD 48 undef, a'.tmps.getD 49 undef, a'.tmps.getD 50 undef, a'.tmps.getD 51 undef, a'.tmps.getD 52 undef, a'.tmps.getD 53 undef, a'.tmps.getD 54 undef, a'.tmps.getD 55 undef, a'.tmps.getD 56 undef, a'.tmps.getD 57 undef, a'.tmps.getD 58 undef, a'.tmps.getD 59 undef, a'.tmps.getD 60 undef, a'.tmps.getD 61 undef, a'.tmps.getD 62 undef, a'.tmps.getD 63 undef, a'.tmps.getD 64 undef, a'.tmps.getD 65 undef, a'.tmps.getD 66 undef, a'.tmps.getD 67 undef, a'.tmps.getD 68 undef, a'.tmps.getD 69 undef, a'.tmps.getD 70 undef, a'.tmps.getD 71 undef, a'.tmps.getD 72 undef, a'.tmps.getD 73 undef, a'.tmps.getD 74 undef, a'.tmps.getD 75 undef, a'.tmps.getD 76 undef, a'.tmps.getD 77 undef, a'.tmps.getD 78 undef, a'.tmps.getD 79 undef, a'.tmps.getD 80 undef, a'.tmps.getD 81 undef, a'.tmps.getD 82 undef, a'.tmps.getD 83 undef, a'.tmps.getD 84 undef, a'.tmps.getD 85 undef, a'.tmps.getD 86 undef, a'.tmps.getD 87 undef, a'.tmps.getD 88 undef, a'.tmps.getD 89 undef, a'.tmps.getD 90 undef, a'.tmps.getD 91 undef, a'.tmps.getD 92 undef, a'.tmps.getD 93 undef, a'.tmps.getD 94 undef, a'.tmps.getD 95 undef, a'.tmps.getD 96 undef, a'.tmps.getD 97 undef, a'.tmps.getD 98 undef, a'.tmps.getD 99 undef, a'.tmps.getD 100 undef, a'.tmps.getD 101 undef, a'.tmps.getD 102 undef, a'.tmps.getD 103 undef], defers := [] } ∧ (∀ x ∈ E, x.In) ∧ E.length ≤ 10 ∧ Own w wc [WdT ba ⟨k, σ, E, S, P⟩ K n0, GMap wdK bm N sz (fun y => (posS S y).map plv)]) ?rest ?first
        case first =>
          intro J K' hJ hK'
          have HJ : Hid _ := hJ
          clear hJ
          go_wp2
          refine wp_loop (fun a' wr => ∃ (j : Nat) (E : List OrdE), a' = { tmps := #[a'.tmps.getD 0 undef, a'.tmps.getD 1 undef, a'.tmps.getD 2 undef, .pointer (some ⟨ba, 0, none⟩), a'.tmps.getD 4 undef, .map (some bm), a'.tmps.getD 6 undef, a'.tmps.getD 7 undef, a'.tmps.getD 8 undef, a'.tmps.getD 9 undef, a'.tmps.getD 10 undef, a'.tmps.getD 11 undef, a'.tmps.getD 12 undef, a'.tmps.getD 13 undef, a'.tmps.getD 14 undef, a'.tmps.getD 15 undef, a'.tmps.getD 16 undef, a'.tmps.getD 17 undef, a'.tmps.getD 18 undef, a'.tmps.getD 19 undef, a'.tmps.getD 20 undef, a'.tmps.getD 21 undef, a'.tmps.getD 22 undef, a'.tmps.getD 23 undef, a'.tmps.getD 24 undef, a'.tmps.getD 25 undef, .slice (some ⟨g, o, none⟩) len cap, .int .i64 (len : Int), .int .i64 (k : Int), a'.tmps.getD 29 undef, a'.tmps.getD 30 undef, a'.tmps.getD 31 undef, a'.tmps.getD 32 undef, a'.tmps.getD 33 undef, a'.tmps.getD 34 undef, a'.tmps.getD 35 undef, a'.tmps.getD 36 undef, .slice ra n lc, .int .i64 (n : Int), .int .i64 (j : Int), a'.tmps.getD 40 undef, a'.tmps.getD 41 undef, a'.tmps.getD 42 undef, a'.tmps.getD 43 undef, a'.tmps.getD 44 undef, a'.tmps.getD 45 undef, a'.tmps.getD 46 undef, a'.tmps.getD 47 undef, a'.tmps.getD 48 undef, a'.tmps.getD 49 undef, a'.tmps.getD 50 undef, a'.tmps.getD 51 undef, a'.tmps.getD 52 undef, a'.tmps.getD 53 undef, a'.tmps.getD 54 undef, a'.tmps.getD 55 undef, a'.tmps.getD 56 undef, a'.tmps.getD 57 undef, a'.tmps.getD 58 undef, a'.tmps.getD 59 undef, a'.tmps.getD 60 undef, a'.tmps.getD 61 undef, a'.tmps.getD 62 undef, a'.tmps.getD 63 undef, a'.tmps.getD 64 undef, a'.tmps.getD 65 undef, a'.tmps.getD 66 undef, a'.tmps.getD 67 undef, a'.tmps.getD 68 undef, a'.tmps.getD 69 undef, a'.tmps.getD 70 undef, a'.tmps.getD 71 undef, a'.tmps.getD 72 undef, a'.tmps.getD 73 undef, a'.tmps.getD 74 undef, a'.tmps.getD 75 undef, a'.tmps.getD 76 undef, a'.tmps.getD 77 undef, a'.tmps.getD 78 undef, a'.tmps.getD 79 undef, a'.tmps.getD 80 undef, a'.tmps.getD 81 undef, a'.tmps.getD 82 undef, a'.tmps.getD 83 undef, a'.tmps.getD 84 undef, a'.tmps.getD 85 undef, a'.tmps.getD 86 undef, a'.tmps.getD 87 undef, a'.tmps.getD 88 undef, a'.tmps.getD 89 undef, a'.tmps.getD 90 undef, a'.tmps.getD 91 undef, a'.tmps.getD 92 undef, a'.tmps.getD 93 undef, a'.tmps.getD 94 undef, a'.tmps.getD 95 undef, a'.tmps.getD 96 undef, a'.tmps.getD 97 undef, a'.tmps.getD 98 undef, a'.tmps.getD 99 undef, a'.tmps.getD 100 undef, a'.tmps.getD 101 undef, a'.tmps.getD 102 undef, a'.tmps.getD 103 undef], defers := [] } ∧ j ≤ n ∧ (∀ x ∈ E, x.In) ∧ E.length ≤ j ∧ Own w wr [Row 41 4 (.slice ra n lc) n (cat OrdE.cs L), WdT ba ⟨k, σ, E, S, P⟩ K n0, GMap wdK bm N sz (fun y => (posS S y).map plv)]) (fun a' _ => n - (intOf (a'.tmps.getD 39 undef)).toNat) ?_ ?_
          · exact ⟨0, [], rfl, Nat.zero_le _, by simp, Nat.le_refl _, H4.out⟩
          · intro a' wr hI
            obtain ⟨j, E, hact, hj, hIn, hEl, hO⟩ := hI
            obtain ⟨u2, hu⟩ : ∃ u2 : Nat → Value, ∀ k, a'.tmps.getD k undef = u2 k := ⟨_, fun _ => rfl⟩
            simp only [hu] at hact
            clear hu
            subst hact
            clear H4
            by_cases hjn : j < n
            · have hjn' : (j : Int) < (n : Int) := by omega
              obtain ⟨oo, hoo⟩ : ∃ oo, L[j]? = some oo := ⟨_, List.getElem?_eq_getElem (by rw [HN.out]; exact hjn)⟩
              obtain ⟨gl, lc', hv, _⟩ := row_shape hO.row (by omega)
              obtain ⟨rfl, _, rfl⟩ := Value.slice.inj hv
              obtain ⟨c0, c1, c2, c3⟩ := ord_cells hO HN.out j oo hoo
              have hgl : gl < wr.heap.size := (hO.row.lt gl rfl).2
              have n1 : wr.heap.size ≠ gl := by omega
              obtain ⟨hcs, hin⟩ := HLI.out oo (List.mem_of_getElem? hoo)
              have hA := hO.alloc (.cells #[.int .u8 (oo.d : Int), .int .u32 (oo.id : Int), .int .u8 (oo.k : Int), .slice oo.ao oo.C.length oo.cap] 41)
              have HP : Hid (Calls _ _ _ _ _) := wpush w _ _ ba K n0 _ HT.out hA.two oo hin (fun w' hw' => hcs.quiet hw'.fr)
              have HST : Hid (∀ E', PushTo E oo E' → (∀ x ∈ E', x.In) ∧ E'.length ≤ j + 1) := by
                intro E' hE'
                exact ⟨(hE'.more hin hIn).1, Nat.le_trans (hE'.more hin hIn).2 (by omega)⟩
              unfold OrdE.ag at HP
              simp only at HP
              clear hO hA hIn hcs hin hoo hv hEl
              obtain ⟨od, oi, ok, oC, oa, oc⟩ := oo
              simp only at HP c0 c1 c2 c3 HST
              generalize oC.length = ol at *
              go_wp2_with fail
              refine HP.out.mono ?_
              rintro e w5 ⟨E', rfl, hE', hO⟩
              have H5 : Hid (Own w w5 _) := hO.two
              obtain ⟨e2, e3⟩ := HST.out E' hE'
              have HE : Hid ((∀ x ∈ E', x.In) ∧ E'.length ≤ j + 1) := ⟨e2, e3⟩
              clear hO HP hE' e2 e3 HST c0 c1 c2 c3
              go_wp2
              exact ⟨⟨j + 1, E', rfl, by omega, HE.out.1, HE.out.2, H5.out⟩, by simp [intOf]; omega⟩
            · have hjn' : ¬ (j : Int) < (n : Int) := by omega
              have HE : Hid (∀ x ∈ E, x.In) := hIn
              have H5 : Hid (Own w wr _) := hO.tail
              have hEl2 : E.length ≤ 10 := by omega
              clear hO hIn hEl
              go_wp2
              exact Met.intro (HJ.out _ _ ⟨E, rfl, HE.out, hEl2, H5.out⟩)
        case rest =>
          intro a' wc hcut
          obtain ⟨E, hact, hIna, hEla, hO⟩ := hcut
          obtain ⟨u3, hu⟩ : ∃ u3 : Nat → Value, ∀ k, a'.tmps.getD k undef = u3 k := ⟨_, fun _ => rfl⟩
          simp only [hu] at hact
          clear hu
          subst hact
          have HEa : Hid (∀ x ∈ E, x.In) := hIna
          have H5 : Hid (Own w wc _) := hO
          clear hIna hO H4 HLI HN
          have HC : Hid (Calls _ _ _ _ _) := wstep w wc _ ba K n0 ⟨k, σ, E, S, P⟩ HT.out Hσ.out (by omega) (by omega) (by show k < _; omega) (by show E.length ≤ _; omega) HEa.out H5.out
          simp only [Wd.next] at HC
          clear H5
          generalize (runs stq (σ, K) E).1 = RR at *
          generalize (runs stq (σ, K) E).2.1 = σ1 at *
          generalize E.length = el at *
          go_wp2_with fail
          refine HC.out.mono ?_
          rintro e w5 ⟨ra1, rc1, K1, n1, P1, rfl, hK1, hn1, hok, hPl, hO⟩
          have hkey := keyN_pos hok S (k + 1)
          have hple := pos_le hok
          have hpl := plOf_len hPl HKN.out hkey
          have HC2 : Hid (Calls _ _ _ _ _) := wplaces w w5 _ ba K1 n1 _ (by show P1.length ≤ _; omega) hO.tail
          have HPI : Hid (∀ p ∈ P1, p.id < 4294967296) := plOf_ids hPl
          have HFA : Hid (∀ i, i < 4294967296 → flws (posS S) P1 i = posS (mapOf S (k + 1) (allS σ1.sys)) i) := fun i hi => follow_all hPl (fun i s hs ht => look_old hok hs ht) hi
          have Hok : Hid σ1.sys.Ok := hok
          have HKY : Hid (KeyN (posS (mapOf S (k + 1) (allS σ1.sys))) (σ1.sys.S.list.filter (fun id => hasK (σ1.sys.cps id) 0)).length) := hkey
          obtain ⟨pl, hpn⟩ : ∃ pl, P1.length = pl := ⟨_, rfl⟩
          have hpl2 : pl ≤ 2048 := by rw [← hpn]; omega
          simp only at HC2
          rw [hpn] at HC2
          have HPN : Hid (P1.length = pl) := hpn
          clear HC hO hkey hPl hok hpn hpl
          generalize (σ1.sys.S.list.filter (fun id => hasK (σ1.sys.cps id) 0)).length = sz1 at *
          go_wp2_with fail
          refine HC2.out.mono ?_
          rintro e w6 ⟨pa, pc, rfl, hO⟩
          have H6 : Hid (Own w w6 _) := hO
          clear HC2 hO
          go_upto_block 4 with (fail)
          refine wp_cut (fun a' wc => ∃ (σ1 : Sto) (S1 : Nat → Nat → Option SgE) (P1 : List PlE) (K1 n1 sz1 N1 : Nat), a' = { tmps := #[a'.tmps.getD 0 undef, a'.tmps.getD 1 undef, a'.tmps.getD 2 undef, .pointer (some ⟨ba, 0, none⟩), a'.tmps.getD 4 undef, .map (some bm), a'.tmps.getD 6 undef, a'.tmps.getD 7 undef, a'.tmps.getD 8 undef, a'.tmps.getD 9 undef, a'.tmps.getD 10 undef, a'.tmps.getD 11 undef, a'.tmps.getD 12 undef, a'.tmps.getD 13 undef, a'.tmps.getD 14 undef, a'.tmps.getD 15 undef, a'.tmps.getD 16 undef, a'.tmps.getD 17 undef, a'.tmps.getD 18 undef, a'.tmps.getD 19 undef, a'.tmps.getD 20 undef, a'.tmps.getD 21 undef, a'.tmps.getD 22 undef, a'.tmps.getD 23 undef, a'.tmps.getD 24 undef, a'.tmps.getD 25 undef, .slice (some ⟨g, o, none⟩) len cap, .int .i64 (len : Int), .int .i64 (k : Int), a'.tmps.getD 29 undef, a'.tmps.getD 30 undef, a'.tmps.getD 31 undef, a'.tmps.getD 32 undef, a'.tmps.getD 33 undef, a'.tmps.getD 34 undef, a'.tmps.getD 35 undef, a'.tmps.getD 36 undef, a'.tmps.getD 37 undef, a'.tmps.getD 38 undef, a'.tmps.getD 39 undef, a'.tmps.getD 40 undef, a'.tmps.getD 41 undef, a'.tmps.getD 42 undef, a'.tmps.getD 43 undef, a'.tmps.getD 44 undef, a'.tmps.getD 45 undef, a'.tmps.getD 46 undef, a'.tmps.getD 47 undef, a'.tmps.getD 48 undef, a'.tmps.getD 49 undef, a'.tmps.getD 50 undef, a'.tmps.getD 51 undef, a'.tmps.getD 52 undef, a'.tmps.getD 53 undef, a'.tmps.getD 54 undef, a'.tmps.getD 55 undef, a'.tmps.getD 56 undef, a'.tmps.getD 57 undef, a'.tmps.getD 58 undef, a'.tmps.getD 59 undef, a'.tmps.getD 60 undef, a'.tmps.getD 61 undef, a'.tmps.getD 62 undef, a'.tmps.getD 63 undef, a'.tmps.getD 64 undef, a'.tmps.getD 65 undef, a'.tmps.getD 66 undef, a'.tmps.getD 67 undef, a'.tmps.getD 68 undef, a'.tmps.getD 69 undef, a'.tmps.getD 70 undef, a'.tmps.getD 71 undef, a'.tmps.getD 72 undef, a'.tmps.getD 73 undef, a'.tmps.getD 74 undef, a'.tmps.getD 75 undef, a'.tmps.getD 76 undef, a'.tmps.getD 77 undef, a'.tmps.getD 78 undef, a'.tmps.getD 79 undef, a'.tmps.getD 80 undef, a'.tmps.getD 81 undef, a'.tmps.getD 82 undef, a'.tmps.getD 83 undef, a'.tmps.getD 84 undef, a'.tmps.getD 85 undef, a'.tmps.getD 86 undef, a'.tmps.getD 87 undef, a'.tmps.getD 88 undef, a'.tmps.getD 89 undef, a'.tmps.getD 90 undef, a'.tmps.getD 91 undef, a'.tmps.getD 92 undef, a'.tmps.getD 93 undef, a'.tmps.getD 94 undef, a'.tmps.getD 95 undef, a'.tmps.getD 96 undef, a'.tmps.getD 97 undef, a'.tmps.getD 98 undef, a'.tmps.getD 99 undef, a'.tmps.getD 100 undef, a'.tmps.getD 101 undef, a'.tmps.getD 102 undef, a'.tmps.getD 103 undef], defers := [] } ∧ σ1.Ok ∧ K1 ≤ 3000 * (k + 1) ∧ n1 ≤ 6144 ∧ sz1 ≤ 1024 ∧ N1 ≤ 2048 * (k + 1) ∧ KeyN (posS S1) sz1 ∧ S1 = mapOf S (k + 1) (allS σ1) ∧ Own w wc [WdT ba ⟨k + 1, σ1, [], S1, P1⟩ K1 n1, GMap wdK bm N1 sz1 (fun y => (posS S1 y).map plv)]) ?rest2 ?first2
          case first2 =>
            intro J K' hJ hK'
            have HJ : Hid _ := hJ
            clear hJ
            go_wp2
            refine wp_loop (fun a' wr => ∃ (j sz2 N2 : Nat), a' = { tmps := #[a'.tmps.getD 0 undef, a'.tmps.getD 1 undef, a'.tmps.getD 2 undef, .pointer (some ⟨ba, 0, none⟩), a'.tmps.getD 4 undef, .map (some bm), a'.tmps.getD 6 undef, a'.tmps.getD 7 undef, a'.tmps.getD 8 undef, a'.tmps.getD 9 undef, a'.tmps.getD 10 undef, a'.tmps.getD 11 undef, a'.tmps.getD 12 undef, a'.tmps.getD 13 undef, a'.tmps.getD 14 undef, a'.tmps.getD 15 undef, a'.tmps.getD 16 undef, a'.tmps.getD 17 undef, a'.tmps.getD 18 undef, a'.tmps.getD 19 undef, a'.tmps.getD 20 undef, a'.tmps.getD 21 undef, a'.tmps.getD 22 undef, a'.tmps.getD 23 undef, a'.tmps.getD 24 undef, a'.tmps.getD 25 undef, .slice (some ⟨g, o, none⟩) len cap, .int .i64 (len : Int), .int .i64 (k : Int), a'.tmps.getD 29 undef, a'.tmps.getD 30 undef, a'.tmps.getD 31 undef, a'.tmps.getD 32 undef, a'.tmps.getD 33 undef, a'.tmps.getD 34 undef, a'.tmps.getD 35 undef, a'.tmps.getD 36 undef, a'.tmps.getD 37 undef, a'.tmps.getD 38 undef, a'.tmps.getD 39 undef, a'.tmps.getD 40 undef, a'.tmps.getD 41 undef, a'.tmps.getD 42 undef, a'.tmps.getD 43 undef, a'.tmps.getD 44 undef, a'.tmps.getD 45 undef, a'.tmps.getD 46 undef, a'.tmps.getD 47 undef, a'.tmps.getD 48 undef, a'.tmps.getD 49 undef, .slice pa pl pc, .int .i64 (pl : Int), .int .i64 (j : Int), a'.tmps.getD 53 undef, a'.tmps.getD 54 undef, a'.tmps.getD 55 undef, a'.tmps.getD 56 undef, a'.tmps.getD 57 undef, a'.tmps.getD 58 undef, a'.tmps.getD 59 undef, a'.tmps.getD 60 undef, a'.tmps.getD 61 undef, a'.tmps.getD 62 undef, a'.tmps.getD 63 undef, a'.tmps.getD 64 undef, a'.tmps.getD 65 undef, a'.tmps.getD 66 undef, a'.tmps.getD 67 undef, a'.tmps.getD 68 undef, a'.tmps.getD 69 undef, a'.tmps.getD 70 undef, a'.tmps.getD 71 undef, a'.tmps.getD 72 undef, a'.tmps.getD 73 undef, a'.tmps.getD 74 undef, a'.tmps.getD 75 undef, a'.tmps.getD 76 undef, a'.tmps.getD 77 undef, a'.tmps.getD 78 undef, a'.tmps.getD 79 undef, a'.tmps.getD 80 undef, a'.tmps.getD 81 undef, a'.tmps.getD 82 undef, a'.tmps.getD 83 undef, a'.tmps.getD 84 undef, a'.tmps.getD 85 undef, a'.tmps.getD 86 undef, a'.tmps.getD 87 undef, a'.tmps.getD 88 undef, a'.tmps.getD 89 undef, a'.tmps.getD 90 undef, a'.tmps.getD 91 undef, a'.tmps.getD 92 undef, a'.tmps.getD 93 undef, a'.tmps.getD 94 undef, a'.tmps.getD 95 undef, a'.tmps.getD 96 undef, a'.tmps.getD 97 undef, a'.tmps.getD 98 undef, a'.tmps.getD 99 undef, a'.tmps.getD 100 undef, a'.tmps.getD 101 undef, a'.tmps.getD 102 undef, a'.tmps.getD 103 undef], defers := [] } ∧ j ≤ pl ∧ N2 ≤ 2048 * k + j ∧ KeyN (flws (posS S) (P1.take j)) sz2 ∧ Own w wr [Row 63 4 (.slice pa pl pc) pl (cat PlE.cs P1), WdT ba ⟨k + 1, σ1.sys, [], mapOf S (k + 1) (allS σ1.sys), P1⟩ K1 n1, GMap wdK bm N2 sz2 (fun y => (flws (posS S) (P1.take j) y).map plv)]) (fun a' _ => pl - (intOf (a'.tmps.getD 52 undef)).toNat) ?_ ?_
            · exact ⟨0, sz, N, rfl, Nat.zero_le _, by omega, HKN.out, H6.out⟩
            · intro a' wr hI
              obtain ⟨j, sz2, N2, hact, hj, hN2, hk2, hO⟩ := hI
              obtain ⟨u4, hu⟩ : ∃ u4 : Nat → Value, ∀ k, a'.tmps.getD k undef = u4 k := ⟨_, fun _ => rfl⟩
              simp only [hu] at hact
              clear hu
              subst hact
              clear H6
              by_cases hjn : j < pl
              · have hjn' : (j : Int) < (pl : Int) := by omega
                obtain ⟨p, hp⟩ : ∃ p, P1[j]? = some p := ⟨_, List.getElem?_eq_getElem (by rw [HPN.out]; exact hjn)⟩
                obtain ⟨gp, pc', hv, _⟩ := row_shape hO.row (by omega)
                obtain ⟨rfl, _, rfl⟩ := Value.slice.inj hv
                obtain ⟨c0, c1, c2, c3⟩ := pl_cells hO HPN.out j p hp
                have hgp : gp < wr.heap.size := (hO.row.lt gp rfl).2
                have n1 : wr.heap.size ≠ gp := by omega
                have hpi := HPI.out p (List.mem_of_getElem? hp)
                have hkf := hk2.flw p hpi
                have hst : flws (posS S) (P1.take (j + 1)) = flw (flws (posS S) (P1.take j)) p := by rw [List.take_add_one, hp]; exact flws_snoc _ _ _
                rw [← hst] at hkf
                have hA7 := (hO.allocC #[.int .u32 (p.id : Int), .bool p.on, .int .i32 p.x, .int .i32 p.y] 63).four
                obtain ⟨w7, hd, h7⟩ := hA7.gmDrop Tryz.underlying59 p.id hpi 0
                have HD : Hid (∀ ty, (Builtin.delete_ #[59, 38] ty #[.map (some bm), .int .u32 (p.id : Int)]).run Tryz.prog (wr.alloc (.cells #[.int .u32 (p.id : Int), .bool p.on, .int .i32 p.x, .int .i32 p.y] 63)) = .ok (.tuple #[]) w7) := fun ty => hd
                have z0 := h7.two.cell 0
                have z1 := h7.two.cell 1
                have z2 := h7.two.cell 2
                have z3 := h7.two.cell 3
                simp at z0 z1 z2 z3
                cases hon : p.on with
                | false =>
                  have hfd := flw_drop (A := flws (posS S) (P1.take j)) hon
                  rw [if_neg (by rw [hon]; decide)] at hkf
                  rw [Option.isSome_map, hfd, ← hst] at h7
                  have HKF : Hid (KeyN _ _) := hkf
                  have H8 : Hid (Own w w7 _) := h7.two.tail.back3
                  rw [hon] at c1 z1 HD
                  clear hO hA7 hd h7 hkf hk2 hp hv hst hfd
                  obtain ⟨pi, po, px, py⟩ := p
                  simp only at c0 c1 c2 c3 z0 z1 z2 z3 HD HKF H8 hpi hon
                  go_wp2_with (at_delete; refine delete_run rfl _ _ _ _ rfl _ _ rfl rfl (HD.out _) ?_)
                  go_wp2
                  exact ⟨⟨j + 1, rfl, by omega, _, N2, by omega, HKF.out, H8.out⟩, by simp [intOf]; omega⟩
                | true =>
                  rw [if_pos hon] at hkf
                  obtain ⟨w8, hu, h8⟩ := h7.gmPut Tryz.underlying59 p.id (plv p) hpi (by unfold maxLen; omega)
                  have hfp := flw_put (A := flws (posS S) (P1.take j)) hon
                  rw [if_pos rfl, Option.isSome_none, if_neg (by decide), Option.isSome_map, hfp, ← hst] at h8
                  have HKF : Hid (KeyN _ _) := hkf
                  have H8 : Hid (Own w w8 _) := h8.two.tail.back3
                  have hu' : (Instr.mapUpdate 59 (.map (some bm)) (.int .u32 (p.id : Int)) (.agg #[.int .u32 (p.id : Int), .bool p.on, .int .i32 p.x, .int .i32 p.y])).run Tryz.prog w7 = .ok () w8 := hu
                  rw [hon] at c1 z1 HD hu'
                  clear hO hA7 hd h7 h8 hkf hk2 hp hv hst hfp hu
                  obtain ⟨pi, po, px, py⟩ := p
                  simp only at c0 c1 c2 c3 z0 z1 z2 z3 HD HKF H8 hpi hon hu'
                  go_wp2_with (at_delete; refine delete_run rfl _ _ _ _ rfl _ _ rfl rfl (HD.out _) ?_)
                  go_wp2
                  exact ⟨⟨j + 1, rfl, by omega, _, N2 + 1, by omega, HKF.out, H8.out⟩, by simp [intOf]; omega⟩
              · have hjn' : ¬ (j : Int) < (pl : Int) := by omega
                have hjl : j = pl := by omega
                rw [hjl, ← HPN.out, List.take_length] at hk2 hO
                have hO2 := hO.tail.two.gmIs (q := fun y => (posS (mapOf S (k + 1) (allS σ1.sys)) y).map plv) (Nat.le_refl _) (fun y hy => by rw [HFA.out y hy])
                have hk3 := hk2.is HFA.out
                have hs2 : sz2 = sz1 := by
                  obtain ⟨KL, kn, kl, km, rfl⟩ := hk3
                  exact HKY.out.len kn kl km
                have HK3 : Hid (KeyN (posS (mapOf S (k + 1) (allS σ1.sys))) sz2) := hk3
                have H8 : Hid (Own w wr _) := hO2.two
                clear hO hk2 hO2 hk3 hjl
                go_wp2
                exact Met.intro (HJ.out _ _ ⟨σ1.sys, _, P1, K1, n1, sz2, N2, rfl, Hok.out, by omega, hn1, by omega, by omega, HK3.out, rfl, H8.out⟩)
          case rest2 =>
            intro a' wc2 hcut
            obtain ⟨σ1, S1, P1, K1, n1, sz1, N1, hact, hok, hK1, hn1, hsz1, hN1, hky, hS1, hO⟩ := hcut
            obtain ⟨u5, hu⟩ : ∃ u5 : Nat → Value, ∀ k, a'.tmps.getD k undef = u5 k := ⟨_, fun _ => rfl⟩
            simp only [hu] at hact
            clear hu
            subst hact
            have HLA : Hid (Calls _ _ _ _ _) := wlistT w wc2 _ ba K1 n1 _ hok (by omega) hO
            have Hok : Hid σ1.Ok := hok
            have HKY : Hid (KeyN (posS S1) sz1) := hky
            have HS1 : Hid (S1 = mapOf S (k + 1) (allS σ1)) := hS1
            clear hO hok hky hS1
            go_wp2_with fail
            refine HLA.out.mono ?_
            rintro e w8 ⟨la, lc2, M, rfl, hM, hO⟩
            obtain ⟨hl1, hx1⟩ := ents_ok Hok.out hM
            have HX1 : Hid (∀ x ∈ M, x.id < 4294967296 ∧ x.C.length ≤ 6 ∧ ∀ c ∈ x.C, c.k < 256) := hx1
            have HM : Hid (M.map (fun x => (x.id, x.C)) = σ1.S.list.map (fun id => (id, σ1.cps id))) := hM
            have H8 : Hid (Own w w8 _) := hO
            obtain ⟨ml, hml⟩ : ∃ ml, M.length = ml := ⟨_, rfl⟩
            have HML : Hid (M.length = ml) := hml
            rw [hml] at hl1 ⊢
            clear hO HLA hM hx1 hml
            go_wp2
            refine wp_loop (fun a' wr => ∃ (j c : Nat), a' = { tmps := #[a'.tmps.getD 0 undef, a'.tmps.getD 1 undef, a'.tmps.getD 2 undef, .pointer (some ⟨ba, 0, none⟩), a'.tmps.getD 4 undef, .map (some bm), a'.tmps.getD 6 undef, a'.tmps.getD 7 undef, a'.tmps.getD 8 undef, a'.tmps.getD 9 undef, a'.tmps.getD 10 undef, a'.tmps.getD 11 undef, .int .i64 (c : Int), a'.tmps.getD 13 undef, a'.tmps.getD 14 undef, a'.tmps.getD 15 undef, a'.tmps.getD 16 undef, a'.tmps.getD 17 undef, a'.tmps.getD 18 undef, a'.tmps.getD 19 undef, a'.tmps.getD 20 undef, a'.tmps.getD 21 undef, a'.tmps.getD 22 undef, a'.tmps.getD 23 undef, a'.tmps.getD 24 undef, a'.tmps.getD 25 undef, .slice (some ⟨g, o, none⟩) len cap, .int .i64 (len : Int), .int .i64 (k : Int), a'.tmps.getD 29 undef, a'.tmps.getD 30 undef, a'.tmps.getD 31 undef, a'.tmps.getD 32 undef, a'.tmps.getD 33 undef, a'.tmps.getD 34 undef, a'.tmps.getD 35 undef, a'.tmps.getD 36 undef, a'.tmps.getD 37 undef, a'.tmps.getD 38 undef, a'.tmps.getD 39 undef, a'.tmps.getD 40 undef, a'.tmps.getD 41 undef, a'.tmps.getD 42 undef, a'.tmps.getD 43 undef, a'.tmps.getD 44 undef, a'.tmps.getD 45 undef, a'.tmps.getD 46 undef, a'.tmps.getD 47 undef, a'.tmps.getD 48 undef, a'.tmps.getD 49 undef, a'.tmps.getD 50 undef, a'.tmps.getD 51 undef, a'.tmps.getD 52 undef, a'.tmps.getD 53 undef, a'.tmps.getD 54 undef, a'.tmps.getD 55 undef, a'.tmps.getD 56 undef, a'.tmps.getD 57 undef, a'.tmps.getD 58 undef, a'.tmps.getD 59 undef, a'.tmps.getD 60 undef, a'.tmps.getD 61 undef, a'.tmps.getD 62 undef, a'.tmps.getD 63 undef, a'.tmps.getD 64 undef, a'.tmps.getD 65 undef, a'.tmps.getD 66 undef, .slice la ml lc2, .int .i64 (ml : Int), .int .i64 (j : Int), a'.tmps.getD 70 undef, a'.tmps.getD 71 undef, a'.tmps.getD 72 undef, a'.tmps.getD 73 undef, a'.tmps.getD 74 undef, a'.tmps.getD 75 undef, a'.tmps.getD 76 undef, a'.tmps.getD 77 undef, a'.tmps.getD 78 undef, a'.tmps.getD 79 undef, a'.tmps.getD 80 undef, a'.tmps.getD 81 undef, a'.tmps.getD 82 undef, a'.tmps.getD 83 undef, a'.tmps.getD 84 undef, a'.tmps.getD 85 undef, a'.tmps.getD 86 undef, a'.tmps.getD 87 undef, a'.tmps.getD 88 undef, a'.tmps.getD 89 undef, a'.tmps.getD 90 undef, a'.tmps.getD 91 undef, a'.tmps.getD 92 undef, a'.tmps.getD 93 undef, a'.tmps.getD 94 undef, a'.tmps.getD 95 undef, a'.tmps.getD 96 undef, a'.tmps.getD 97 undef, a'.tmps.getD 98 undef, a'.tmps.getD 99 undef, a'.tmps.getD 100 undef, a'.tmps.getD 101 undef, a'.tmps.getD 102 undef, a'.tmps.getD 103 undef], defers := [] } ∧ j ≤ ml ∧ c ≤ j ∧ c = ((M.take j).filter (fun x => hasK x.C 0)).length ∧ Own w wr [EntsT la lc2 M, WdT ba ⟨k + 1, σ1, [], S1, P1⟩ K1 n1, GMap wdK bm N1 sz1 (fun y => (posS S1 y).map plv)]) (fun a' _ => ml - (intOf (a'.tmps.getD 69 undef)).toNat) ?_ ?_
            · exact ⟨0, 0, rfl, Nat.zero_le _, Nat.le_refl _, rfl, H8.out⟩
            · intro a' wr hI
              obtain ⟨j, c, hact, hj, hcj, hc, hO⟩ := hI
              obtain ⟨u6, hu⟩ : ∃ u6 : Nat → Value, ∀ k, a'.tmps.getD k undef = u6 k := ⟨_, fun _ => rfl⟩
              simp only [hu] at hact
              clear hu
              subst hact
              have HCJ : Hid (c = ((M.take j).filter (fun x => hasK x.C 0)).length) := hc
              clear H8 hc
              by_cases hjn : j < ml
              · have hjn' : (j : Int) < (ml : Int) := by omega
                obtain ⟨x, hx⟩ : ∃ x, M[j]? = some x := ⟨_, List.getElem?_eq_getElem (by rw [HML.out]; exact hjn)⟩
                obtain ⟨⟨ge, hge, c0, c1⟩, hcs⟩ := hO.entAt hx
                subst hge
                have hmx := List.mem_of_getElem? hx
                obtain ⟨hx32, hx6, hxk⟩ := HX1.out x hmx
                obtain ⟨hin, hxC⟩ := ents_in HM.out hmx
                have hgd := cps_good Hok.out hin
                have hft := filt_take hx (fun x => hasK x.C 0)
                have hB := (hO.allocC #[.int .u32 (x.id : Int), .slice x.ao x.C.length x.cap] 67)
                have hB2 := hB.allocC #[.int .u32 (x.id : Int), .slice x.ao x.C.length x.cap] 67
                simp only [World.size_alloc] at hB2
                have hEA : EntsAt _ _ [x] := ⟨.inr ⟨_, 0, rfl, fun i y hy => by
                  have : i = 0 ∧ y = x := by
                    cases i with
                    | zero => simp at hy; exact ⟨rfl, hy.symm⟩
                    | succ i => simp at hy
                  obtain ⟨rfl, rfl⟩ := this
                  exact ⟨(hB2.cell 0).trans rfl, (hB2.cell 1).trans rfl⟩⟩, fun y hy => by
                  have : y = x := by simpa using hy
                  subst this
                  exact hcs.quiet (((Fr.refl _ _).alloc _).alloc _)⟩
                have HG : Hid (Calls _ _ _ _ _) := rget15 _ _ 1 1 [x] rfl hEA (fun y hy => by
                  have : y = x := by simpa using hy
                  subst this
                  exact ⟨hx32, hxk⟩) (fun y hy => by
                  have : y = x := by simpa using hy
                  subst this
                  rw [hxC]; exact hgd.1) (by decide) (fun y hy => by
                  have : y = x := by simpa using hy
                  subst this
                  omega) x.id 0 (by decide)
                rw [getE_self] at HG
                have HB : Hid (Own w _ _) := hB2
                cases hfs : fst x.C 0 with
                | none =>
                  rw [hfs] at HG
                  rw [fst_hasNo hfs] at hft
                  have HF2 : Hid (c = ((M.take (j + 1)).filter (fun x => hasK x.C 0)).length) := by show _ = _; rw [hft, HCJ.out]; rfl
                  unfold gag at HG
                  simp only [Option.getD_none, Option.isSome_none, Cp.ag] at HG
                  clear hO hB hB2 hEA hcs hft hfs hx hmx hin hgd hxC hxk
                  obtain ⟨xi, xa, xc, C⟩ := x
                  simp only at c0 c1 HG HB hx32
                  generalize C.length = cl at *
                  go_wp2_with fail
                  refine HG.out.mono ?_
                  rintro e w9 ⟨rfl, hf9⟩
                  have h9 := HB.out.quiet hf9
                  have H9 : Hid (Own w w9 _) := h9.tail.tail
                  clear HG HB hf9 h9
                  go_wp2
                  exact ⟨⟨j + 1, c, rfl, by omega, by omega, HF2.out, H9.out.alloc _⟩, by simp [intOf]; omega⟩
                | some q =>
                  rw [hfs] at HG
                  obtain ⟨hqm, hq0, hqh⟩ := fst_hasK hfs
                  rw [hqh] at hft
                  have HF2 : Hid (c + 1 = ((M.take (j + 1)).filter (fun x => hasK x.C 0)).length) := by show _ = _; rw [hft, HCJ.out]; rfl
                  rw [hxC] at hqm
                  have hps := pos_has (S := S) (T := k + 1) Hok.out hin hqm hq0
                  rw [← HS1.out] at hps
                  unfold gag at HG
                  simp only [Option.getD_some, Option.isSome_some, Cp.ag] at HG
                  clear hO hB hB2 hEA hcs hft hfs hx hmx hin hgd hxC hxk hqm hq0 hqh
                  obtain ⟨xi, xa, xc, C⟩ := x
                  obtain ⟨qk, qa, qb, qc⟩ := q
                  simp only at c0 c1 HG HB hx32 hps
                  generalize C.length = cl at *
                  go_wp2_with fail
                  refine HG.out.mono ?_
                  rintro e w9 ⟨rfl, hf9⟩
                  have h9 := HB.out.quiet hf9
                  have h10 := h9.tail.allocC #[.int .u8 (qk : Int), .int .i32 qa, .int .i32 qb, .int .i32 qc] 46
                  have f0 := h10.two.cell 0
                  have d1 := h10.cell 1
                  have d2 := h10.cell 2
                  simp at f0 d1 d2
                  have hlk := h10.five.gmAt Tryz.underlying59 (zeroPlc _) xi hx32
                  rw [hps] at hlk
                  have hlk' : (Instr.lookup 59 (.map (some bm)) (.int .u32 (xi : Int)) false).run Tryz.prog (w9.alloc (.cells #[.int .u8 (qk : Int), .int .i32 qa, .int .i32 qb, .int .i32 qc] 46)) = .ok (.agg #[.int .u32 (xi : Int), .bool true, .int .i32 qa, .int .i32 qb]) (w9.alloc (.cells #[.int .u8 (qk : Int), .int .i32 qa, .int .i32 qb, .int .i32 qc] 46)) := hlk
                  have H9 : Hid (Own w _ _) := h10.tail.tail
                  clear HG HB hf9 h9 h10 hlk hps
                  go_wp2
                  exact ⟨⟨j + 1, c + 1, rfl, by omega, by omega, HF2.out, H9.out⟩, by simp [intOf]; omega⟩
              · have hjn' : ¬ (j : Int) < (ml : Int) := by omega
                have hcz : c = sz1 := by
                  rw [HCJ.out, List.take_of_length_le (by rw [HML.out]; omega), filt_len HM.out (fun C => hasK C 0)]
                  refine HKY.out.len ((St.list_nodup Hok.out.s).filter _) (fun i hi => (St.list_w Hok.out.s (List.mem_filter.1 hi).1).2) (fun i _ => ?_)
                  rw [HS1.out]
                  exact (pos_iff Hok.out).symm
                have hln : ∀ ty, (Builtin.len_ #[59] ty #[.map (some bm)]).run Tryz.prog wr = .ok (.int .i64 (sz1 : Int)) wr := fun ty => hO.three.gmLen Tryz.underlying59 ty
                have H9 : Hid (Own w wr _) := hO.tail
                subst hcz
                clear hO HCJ
                go_wp2
                exact ⟨⟨k + 1, rfl, by omega, by omega, σ1, Hok.out, S1, P1, K1, hK1, n1, hn1, _, hsz1, N1, hN1, HKY.out, H9.out⟩, by simp [intOf]; omega⟩
      · have h12' : (12 : Int) ≤ (k : Int) := by omega
        have HF : Hid (Fr Nobody w _) := hO.fr.alloc (.cells #[.slice qa ql qc, .int .u32 (qk : Int)] 34)
        clear hO hIO
        go_wp2
        go_ret
        exact ⟨rfl, HF.out⟩
    · have hlt' : ¬ (k : Int) < (len : Int) := by omega
      have HF : Hid (Fr Nobody w wr) := hO.fr
      clear hO
      go_wp2
      go_ret
      exact ⟨rfl, HF.out⟩
theorem worldPlaces_walk (w : World) (ht : Tab w) (a0 : Option Addr) (len0 cap0 : Nat) (z0 : List TrnE) (w0 : IsTurns w a0 len0 cap0 z0) :
    Calls Tryz.prog 4 #[.slice a0 len0 cap0] w fun e w' => e = .returned (.bool true) ∧ Below w.heap.size w w' := by
  refine (worldPlaces_fr w ht a0 len0 cap0 z0 w0).mono ?_
  rintro e w' ⟨rfl, hf⟩
  exact ⟨rfl, hf.below (Nat.le_refl _) (fun _ _ => id)⟩
theorem laidOut : laidOutB Tryz.prog = true := by kernel_rfl

set_option maxRecDepth 100000 in
theorem worldPlaces_lifted (os : Os) (started : os.Started) (H : Type) (enc : TypeId × Value → H) :
    ReturnsInHanded {} Tryz.checked os 4 .any (fun w args => (Rows.worldPlacesSpec.pre enc Tryz.prog Tryz.f4 [] false w args ∧ laidMetH Tryz.prog laid1 w) ∧ sizedMet enc Tryz.prog Tryz.f4 (OpenSpec.ofChange Rows.worldPlacesSpec) false w args) (Rows.worldPlacesSpec.post enc Tryz.prog Tryz.f4 false true false false) := by
  refine returnsInHanded_of_change_and (C := Tryz.checked) (X := fun w _ => laidMetH Tryz.prog laid1 w) (fun _ _ _ hh h => h.of_heap hh) own started (by kernel_rfl) Tryz.func4
    (ChangeSpec.witness_shaped (enc := enc) (C := Tryz.checked) (os := os) (X := fun w _ => laidMetH Tryz.prog laid1 w) false (World.doorLaid Tryz.prog 400 os) #[.slice none 0 0] 8 rfl (World.shaped_of_RefB (by kernel_rfl) (by kernel_rfl)) (by kernel_rfl) (by kernel_rfl) (by kernel_rfl) (door_met os _)) ?_
  intro W base args ds gs before hval0 hW _ _ hL _
  have hval : ∀ (j : Nat) t v, Tryz.f4.params[j]? = some t → args[j]? = some v → Value.okWide Tryz.prog W .any base t v := hval0
  have hW' := hW
  obtain ⟨p, q, hA0, hV, rfl, hfz, hnd⟩ := hW
  have hA : DataW.TrodAll enc Tryz.prog W 0 (fun _ => true) true Tryz.f4.params.toList args.toList ds p := hA0
  rw [Tryz.params4] at hA hval
  obtain ⟨v0, vs0, d0, ds0, p0, q0, hargs, rfl, rfl, h0, r0⟩ := trodAll_cons hA
  obtain ⟨rfl, rfl, rfl⟩ := trodAll_nil r0
  obtain rfl : args = #[v0] := by cases args; simp_all
  obtain ⟨rfl, rfl⟩ := trodVars_none hV
  obtain ⟨a0, len0, cap0, rfl⟩ := okWide_slice Tryz.underlying23 (hval 0 23 v0 rfl rfl)
  have k0 := h0
  have lt0 : ∀ x ∈ p0, x.block < W.heap.size := by obtain ⟨m, hm⟩ := k0; exact DataW.trod_lt m _ _ _ hm
  obtain ⟨z0, w0⟩ := open_turns (hval 0 23 _ rfl rfl) h0
  clear hA0 hval0
  refine (worldPlaces_walk W (of_laid hL) a0 len0 cap0 z0 w0).mono fun e W' ⟨he, bel⟩ => ?_
  subst he
  exact ⟨_, rfl, _, _, _, [], _, [], hW', trodAll_mk1 (shut_bool Tryz.underlying4 _), (trodAll_cons_mk (Below.trod laidOut (by kernel_rfl) (of_decide_eq_true (by kernel_rfl)) k0 bel lt0) trodAll_mk0), rfl, bel.frame _, fun h => by cases h⟩

theorem worldPlaces_row : Rows.WorldPlacesSaid :=
  OpenClaim.holds_of_wide 4 Tryz.f4 rfl rfl rfl rfl rfl rfl rfl ⟨rfl, rfl, rfl, rfl, rfl⟩ rfl rfl rfl rfl rfl (by kernel_rfl) Tryz.func4 (by kernel_rfl)
    (of_decide_eq_true (by kernel_rfl)) (by unfold Func.isWrapper; first | (rw [if_pos (by decide +kernel)]; kernel_rfl) | (rw [if_neg (by decide +kernel)]; exact ⟨rfl, rfl⟩))
    (fun os started H enc _ => worldPlaces_lifted os started H enc)

theorem worldPlaces_holds : Rows.WorldPlacesCardSaid :=
  Claim7.holds_tied_plain_at .later [] [.data] true (true, "a45a48472d794549e4b14cca92a05f8dfece0fb79fef83cb0bedfed76c5d7748") false
    worldPlaces_row (fun _ h => by cases h) (by kernel_rfl) (fun _ h => by cases h) worldPlaces_row_tie rfl ⟨rfl, rfl⟩ (by kernel_rfl) rfl
    (fun f fn hf hfn => by
      obtain rfl : f = 4 := Option.some.inj ((show Tryz.prog.funcNamed "pinnace/pinnacelaw15.WorldPlaces" = some 4 by kernel_rfl).symm.trans hf) |>.symm
      obtain rfl : fn = Tryz.f4 := (Option.some.inj (Tryz.func4.symm.trans hfn)).symm
      exact ⟨by kernel_rfl, fun j t ht => by
        rw [Tryz.params4] at ht
        have hm : t ∈ [23] := by simpa using Array.mem_of_getElem? ht
        have hall : ([23].all fun u => !Tryz.prog.wantsStandIn u) = true := by kernel_rfl
        exact (show Tryz.prog.wantsStandIn t = false by simpa using List.all_eq_true.1 hall t hm)⟩)
    (by kernel_rfl)

end Go.Proofs.YtflmgilmbppieaaGreatDoor
