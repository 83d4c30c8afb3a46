/-
  So many entities and no more; behind one that goes there is room for one, and its number is a new one: StoreFull returns true, whatever its arguments, where the table of the components lies as the program's text lays it, and changes nothing that was there.
-/
import Derived.Test.YtlaghbapnffhaaaDoorOr
import Derived.Test.YtlaghbapnffhaaaDoorOs
import Derived.OpenShut
import Derived.SevenTiedAt
namespace Go.Proofs.YtlaghbapnffhaaaDoor
open Go.ChangeShapes Go.WideShapes Go.ChangeAt Go.RowKit
set_option linter.unusedVariables false
set_option maxRecDepth 100000

set_option maxHeartbeats 400000 in
theorem rslot11 (id : Nat) (w : World) (h : id < 4294967296) : Calls Tryd.prog 23 #[.int .u32 (id : Int)] w fun e w' => e = .returned (.int .i64 ((id % 1024 : Nat) : Int)) ∧ w' = w := by
  go_enter Tryd.func23, Tryd.ntmps23
  go_wp2
  go_ret
  exact ⟨ret_int (by omega), rfl⟩
def fids (j : Nat) : List Nat := (List.range j).map (fun i => 1024 + i)
theorem fids_len (j : Nat) : (fids j).length = j := by simp [fids]
theorem fids_succ (j : Nat) : fids (j + 1) = fids j ++ [1024 + j] := by simp [fids, List.range_succ]
theorem fids_at (j i : Nat) (h : i < j) : (fids j)[i]? = some (1024 + i) := by simp [fids, h]
def sfull (k j : Nat) : St := ⟨k, 1, fids j, List.replicate j true, [], j⟩
theorem sfull_take (k j : Nat) (h : j < k) : (sfull k j).take = (1024 + j, 0, sfull k (j + 1)) := by
  have hl : (sfull k j).last.length = j := fids_len j
  have hf : (sfull k j).freed.getLast? = none := rfl
  unfold St.take
  rw [hf]
  simp only []
  rw [hl]
  rw [if_pos (show j < (sfull k j).n from h)]
  unfold St.more
  rw [hl]
  simp only [sfull, fids_succ, List.replicate_succ']
theorem sfull_end (k : Nat) : (sfull k k).take = (0, 8, sfull k k) := by
  have hl : (sfull k k).last.length = k := fids_len k
  have hf : (sfull k k).freed.getLast? = none := rfl
  unfold St.take
  rw [hf]
  simp only []
  rw [hl]
  rw [if_neg (show ¬ k < (sfull k k).n from Nat.lt_irrefl k)]
def sfill (k : Nat) (C : List Cp) : Nat → Sto
  | 0 => Sto.new k 1
  | j + 1 => ((sfill k C j).spawn C).2.2
theorem sfill_is (k : Nat) (C : List Cp) (hC : lst (-1) C = 0) (h1 : 1 ≤ k) (h2 : k ≤ 1024) (j : Nat) (hj : j ≤ k) : (sfill k C j).S = sfull k j ∧ (sfill k C j).Ok := by
  induction j with
  | zero => exact ⟨rfl, Sto.new_ok k 1 h1 h2 (by decide) (by decide)⟩
  | succ j ih =>
    obtain ⟨a, b⟩ := ih (by omega)
    refine ⟨?_, Sto.spawn_ok b C⟩
    show ((sfill k C j).spawn C).2.2.S = _
    unfold Sto.spawn
    rw [if_neg (by simp [hC]), a, sfull_take k j (by omega)]
    rfl
theorem sfill_spawn (k : Nat) (C : List Cp) (hC : lst (-1) C = 0) (h1 : 1 ≤ k) (h2 : k ≤ 1024) (j : Nat) (hj : j < k) : ((sfill k C j).spawn C).1 = 1024 + j ∧ ((sfill k C j).spawn C).2.1 = 0 ∧ ((sfill k C j).spawn C).2.2 = sfill k C (j + 1) := by
  obtain ⟨a, b⟩ := sfill_is k C hC h1 h2 j (by omega)
  refine ⟨?_, ?_, rfl⟩
  · unfold Sto.spawn
    rw [if_neg (by simp [hC]), a, sfull_take k j hj]; rfl
  · unfold Sto.spawn
    rw [if_neg (by simp [hC]), a, sfull_take k j hj]; rfl
theorem sfill_full (k : Nat) (C : List Cp) (hC : lst (-1) C = 0) (h1 : 1 ≤ k) (h2 : k ≤ 1024) : (sfill k C k).spawn C = (0, 8, sfill k C k) := by
  obtain ⟨a, b⟩ := sfill_is k C hC h1 h2 k (Nat.le_refl _)
  unfold Sto.spawn
  rw [if_neg (by simp [hC]), a, sfull_end k]; rfl
theorem sfull_live (k i : Nat) (hi : i < k) (hk : k ≤ 1024) : (sfull k k).isLive (1024 + i) = true := by
  have e : (1024 + i) % 1024 = i := by omega
  unfold St.isLive
  rw [e]
  simp [sfull, List.getD_eq_getElem?_getD, fids, hi]
/-- one goes, one comes -/
theorem sfull_again (k i : Nat) (hi : i < k) (hk : k ≤ 1024) : ((sfull k k).less (1024 + i)).take.1 = 2048 + i ∧ ((sfull k k).less (1024 + i)).take.2.1 = 0 := by
  have e : (1024 + i) % 1024 = i := by omega
  have e2 : (1024 + i) / 1024 = 1 := by omega
  have hf : ((sfull k k).less (1024 + i)).freed = [i] := by simp [St.less, sfull, e, e2]
  have hl : ((sfull k k).less (1024 + i)).last.getD i 0 = 1024 + i := by simp [St.less, sfull, List.getD_eq_getElem?_getD, fids, hi]
  have hf2 : ((sfull k k).less (1024 + i)).freed.getLast? = some i := by rw [hf]; rfl
  unfold St.take
  rw [hf2]
  show (_ + 1024 = 2048 + i) ∧ (0 : Int) = 0
  rw [hl]
  exact ⟨by omega, rfl⟩
theorem sfin (k : Nat) (C : List Cp) (hC : lst (-1) C = 0) (h1 : 1 ≤ k) (h2 : k ≤ 1024) (i : Nat) (hi : i < k) : ∃ D E : Sto, (sfill k C k).despawn (1024 + i) = (0, D) ∧ D.Ok ∧ D.spawn C = (2048 + i, 0, E) ∧ E.Ok ∧ E.S.isLive (1024 + i) = false ∧ E.S.isLive (2048 + i) = true := by
  obtain ⟨hS, hOk⟩ := sfill_is k C hC h1 h2 k (Nat.le_refl _)
  have hl : (sfill k C k).S.isLive (1024 + i) = true := by rw [hS]; exact sfull_live k i hi h2
  have hd : (sfill k C k).despawn (1024 + i) = (0, { (sfill k C k).out ((sfill k C k).hom (1024 + i)) ((plc ((sfill k C k).T ((sfill k C k).hom (1024 + i))) (1024 + i)).getD 0) with S := (sfill k C k).S.less (1024 + i) }) := by
    unfold Sto.despawn; rw [if_pos hl]
  obtain ⟨D, hD⟩ : ∃ D, D = (((sfill k C k).despawn (1024 + i)).2) := ⟨_, rfl⟩
  have hDok : D.Ok := by rw [hD]; exact Sto.despawn_ok hOk _
  have hDS : D.S = (sfull k k).less (1024 + i) := by rw [hD, hd, ← hS]
  obtain ⟨t1, t2⟩ := sfull_again k i hi h2
  rw [← hDS] at t1 t2
  have hsp : D.spawn C = (2048 + i, 0, Sto.put { D with S := D.S.take.2.2 } D.S.take.1 C) := by
    unfold Sto.spawn; rw [if_neg (by simp [hC]), if_neg (by simp [t2]), t1]
  refine ⟨D, (D.spawn C).2.2, by rw [hD, hd], hDok, ?_, Sto.spawn_ok hDok C, ?_, ?_⟩
  · rw [hsp]
  · rw [hsp]
    show D.S.take.2.2.isLive (1024 + i) = false
    rw [(St.take_live hDok.s t2).2, t1, hDS, (St.free_live (by rw [← hS]; exact hOk.s) (by rw [← hS]; exact hl)).2]
    simp
  · rw [hsp]
    show D.S.take.2.2.isLive (2048 + i) = true
    rw [(St.take_live hDok.s t2).2, t1]
    simp

set_option maxHeartbeats 4000000 in
theorem storeFull_fr (w : World) (ht : Tab w) (m : Nat) (hm : m < 256) (ao : Option Addr) (len cap : Nat) (C : List Cp) (hCl : C.length = len) (hlc : len ≤ cap) (hcm : cap ≤ maxLen) (hc : Cs w ao C) (hCk : ∀ q ∈ C, q.k < 256) :
    Calls Tryd.prog 4 #[.int .u8 (m : Int), .slice ao len cap] w fun e w' => e = .returned (.bool true) ∧ Fr Nobody w w' := by
  unfold maxLen at hcm
  obtain ⟨i0, hi0, hz0, hz1, hz2⟩ := info_parts Tryd.infoID2
  have HT : Hid (Tab w) := ht
  obtain ⟨r, hr⟩ : ∃ r, r = m % 30 := ⟨_, rfl⟩
  have hr30 : r < 30 := by omega
  have hmr : (m : Int) % 30 = (r : Int) := by omega
  obtain ⟨k, hk⟩ : ∃ k, k = 1 + r := ⟨_, rfl⟩
  have hkI : 1 + (r : Int) = (k : Int) := by omega
  have hk1 : 1 ≤ k := by omega
  have hk2 : k ≤ 30 := by omega
  clear hk
  have HLS : Hid (∀ w', Fr Nobody w w' → Calls Tryd.prog 8 #[.slice ao len cap] w' fun e w'' => e = .returned (.int .i64 ((lst (-1) C : Nat) : Int)) ∧ Fr Nobody w' w'') := fun w' hf => rlist_big w' ao len cap C hCl (hc.quiet hf) hCk (by omega)
  have HNW : Hid (∀ w', Own w w' [] → Calls Tryd.prog 7 #[.int .i64 (k : Int), .int .i64 1] w' fun e w'' => ∃ b, e = .returned (.tuple #[.pointer (some ⟨b, 0, none⟩), .int .i64 0]) ∧ Own w w'' [Store b (Sto.new k 1) 0]) := fun w' h' => snew w w' [] k 1 h' hk1 (by omega) (by decide) (by decide)
  by_cases hC : lst (-1) C = 0
  · have hlen := lst_len hC
    rw [hCl] at hlen
    have HTW : Hid (∀ w' l', Own w w' l' → Calls Tryd.prog 11 #[.slice ao len cap] w' fun e w'' => ∃ a c, e = .returned (.slice a len c) ∧ Own w w'' (Row 25 4 (.slice a len c) len (ccat C) :: l')) := fun w' l' h' => twin_any w w' l' h' ao len cap C hCl (hc.quiet h'.fr) (by omega)
    have HSP : Hid (∀ w' b a c σ K l', Own w w' (Row 25 4 (.slice a len c) len (ccat C) :: Store b σ K :: l') → σ.Ok → K < 1000000 → Calls Tryd.prog 10 #[.pointer (some ⟨b, 0, none⟩), .slice a len c] w' fun e w'' => e = .returned (.tuple #[.int .u32 ((σ.spawn C).1 : Int), .int .i64 (σ.spawn C).2.1]) ∧ Own w w'' (Store b (σ.spawn C).2.2 (K + 1) :: l')) := by
      intro w' b a c σ K l' h' h1 h2
      refine (spawnC w w' _ b σ K HT.out h'.two h1 a len c C hCl (fun w'' h'' => Own.rcs h'' hCl) hCk (by omega) h2).mono ?_
      rintro e w'' ⟨rfl, h3⟩
      exact ⟨rfl, h3.two.tail⟩
    have HSF : Hid (∀ j, j ≤ k → (sfill k C j).S = sfull k j ∧ (sfill k C j).Ok) := fun j hj => sfill_is k C hC hk1 (by omega) j hj
    have HSS : Hid (∀ j, j < k → ((sfill k C j).spawn C).1 = 1024 + j ∧ ((sfill k C j).spawn C).2.1 = 0 ∧ ((sfill k C j).spawn C).2.2 = sfill k C (j + 1)) := fun j hj => sfill_spawn k C hC hk1 (by omega) j hj
    have HFI : Hid (∀ i, i < k → ∃ D E : Sto, (sfill k C k).despawn (1024 + i) = (0, D) ∧ D.Ok ∧ D.spawn C = (2048 + i, 0, E) ∧ E.Ok ∧ E.S.isLive (1024 + i) = false ∧ E.S.isLive (2048 + i) = true) := fun i hi => sfin k C hC hk1 (by omega) i hi
    have HFU : Hid ((sfill k C k).spawn C = (0, 8, sfill k C k)) := sfill_full k C hC hk1 (by omega)
    rw [hC] at HLS
    clear ht hr hc hCk hCl hC
    go_enter Tryd.func4, Tryd.ntmps4
    go_wp2_with fail
    refine (awake11 w w [] HT.out (Own.start _)).mono ?_
    rintro e w1 ⟨rfl, hO1⟩
    have H1 : Hid (Own w w1 []) := hO1
    clear hO1
    go_wp2_with fail
    refine (HNW.out _ H1.out).mono ?_
    rintro e w2 ⟨b, rfl, hO2⟩
    have H2 : Hid (Own w w2 [Store b (Sto.new k 1) 0]) := hO2
    clear hO2 H1
    go_wp2_with fail
    refine (HLS.out _ H2.out.fr).mono ?_
    rintro e w3 ⟨rfl, hf⟩
    have H3 : Hid (Own w w3 [Store b (Sto.new k 1) 0]) := H2.out.quiet hf
    clear hf H2
    go_wp2
    go_loopw [8, 36] (fun iv cc wr => ∃ (j : Nat) (ra : Option Addr) (rc : Nat), j ≤ k ∧ cc = .int .i64 j ∧ iv = .slice ra j rc ∧ Own w wr [Row 35 1 (.slice ra j rc) j (irow .u32 (fids j)), Store b (sfill k C j) j]) (fun _ cc _ => k - (intOf cc).toNat)
    case atStart => exact ⟨0, none, 0, Nat.zero_le _, rfl, rfl, H3.out.nilRow 35 1⟩
    case round =>
      obtain ⟨j, ra, rc, hj, rfl, rfl, hO⟩ := hrel
      have HO : Hid (Own w wr _) := hO
      clear hO H3
      by_cases hlt : j < k
      · have hlt' : (j : Int) < (k : Int) := by omega
        obtain ⟨s1, s2, s3⟩ := HSS.out j hlt
        go_wp2_with fail
        refine (HTW.out _ _ HO.out).mono ?_
        rintro e w4 ⟨a4, c4, rfl, hO4⟩
        have HS : Hid (Calls _ _ _ _ _) := HSP.out w4 b a4 c4 _ _ _ hO4.in23 (HSF.out j (by omega)).2 (by omega)
        rw [s1, s2, s3] at HS
        clear hO4 HO s1 s2 s3
        go_wp2_with fail
        refine HS.out.mono ?_
        rintro e w5 ⟨rfl, hO5⟩
        have H5 : Hid (Own w w5 [Row 35 1 (.slice ra j rc) j (irow .u32 (fids j)), Store b (sfill k C (j + 1)) (j + 1)]) := hO5.two
        clear hO5 HS
        go_wp2_with (at_builtin; refine append1_own rfl _ _ 33 rfl 35 i0 (.int .u32 0) 1 4 Tryd.underlying33 hi0 hz0 hz1 hz2 rfl (by decide) _ _ _ rfl H5.out _ #[.int .u32 ((1024 + j : Nat) : Int)] (by simp) rfl rfl (one_int _ _) (by unfold maxLen; omega) (by omega) ?_)
        intro g6 c6 w6 hO6 hsz6
        have H6 : Hid (Own w w6 [Row 35 1 (.slice (some ⟨g6, 0, none⟩) (j + 1) c6) (j + 1) (irow .u32 (fids (j + 1))), Store b (sfill k C (j + 1)) (j + 1)]) := by
          show Own _ _ _
          rw [fids_succ, irow_append]; exact hO6
        clear hO6 hsz6 H5
        go_wp2
        go_roundw
        case rel => exact ⟨j + 1, _, _, by omega, by go_num, rfl, H6.out⟩
        case measure => simp [intOf]; omega
      · have hlt' : ¬ (j : Int) < (k : Int) := by omega
        have hjk : j = k := by omega
        subst hjk
        obtain ⟨i, hi⟩ : ∃ i, i = j / 2 := ⟨_, rfl⟩
        have hij : i < j := by omega
        have q1 : (j : Int).tdiv 2 = (i : Int) := by rw [Int.tdiv_eq_ediv_of_nonneg (by omega)]; omega
        have q2 : (j : Int) / 2 = (i : Int) := by omega
        have hijI : (i : Int) < (j : Int) := by omega
        have hi0I : (0 : Int) ≤ (i : Int) := by omega
        have f3 : IntKind.i64.wrap (i : Int) = (i : Int) := by rw [IntKind.wrap_i64]; omega
        have f4 : (i : Int).toNat = i := by omega
        clear hi
        obtain ⟨D, E, d1, d2, d3, d4, d5, d6⟩ := HFI.out i hij
        obtain ⟨g, rc', hv, _⟩ := row_shape HO.out.row (by omega)
        have hra := (Value.slice.inj hv).1
        subst hra
        have HCE : Hid (∀ w' l', Own w w' (Row 35 1 (.slice (some ⟨g, 0, none⟩) j rc) j (irow .u32 (fids j)) :: l') → w'.cell? ⟨g, i, none⟩ = some (.int .u32 ((1024 + i : Nat) : Int))) := by
          intro w' l' h'
          rw [h'.row.cellAt _ (by omega), getElem?_irow, fids_at j i hij]; rfl
        have HD1 : Hid (∀ w' l', Own w w' (Store b (sfill j C j) (j + 1) :: l') → Calls Tryd.prog 22 #[.pointer (some ⟨b, 0, none⟩), .int .u32 ((1024 + i : Nat) : Int)] w' fun e w'' => e = .returned (.int .i64 0) ∧ Own w w'' (Store b D (j + 2) :: l')) := by
          intro w' l' h'
          have k := despawnC w w' l' b _ _ h' (HSF.out j (Nat.le_refl _)).2 (1024 + i) (by omega) (by omega)
          rw [d1] at k
          exact k
        have HLV : Hid (∀ w' l' (x : Nat) (y : Bool), Own w w' (Store b E (j + 3) :: l') → x < 4294967296 → E.S.isLive x = y → Calls Tryd.prog 24 #[.pointer (some ⟨b, 0, none⟩), .int .u32 (x : Int)] w' fun e w'' => e = .returned (.bool y) ∧ Own w w'' (Store b E (j + 3) :: l')) := by
          intro w' l' x y h' hx hy
          have k := slive w w' l' b E _ h' d4.s x hx
          rw [hy] at k
          exact k
        have HLR : Hid ((sfill j C j).S.live = j ∧ (sfill j C j).S.room = 0) := by
          rw [(HSF.out j (Nat.le_refl _)).1]
          exact ⟨rfl, by simp [St.room, sfull, fids_len]⟩
        have HD2 : Hid D.Ok := d2
        have HD3 : Hid (D.spawn C = (2048 + i, 0, E)) := d3
        have HD5 : Hid (E.S.isLive (1024 + i) = false ∧ E.S.isLive (2048 + i) = true) := ⟨d5, d6⟩
        have hs1 : (1024 + i) % 1024 = i := by omega
        have hs2 : (2048 + i) % 1024 = i := by omega
        have HSL : Hid (∀ w', Calls Tryd.prog 23 #[.int .u32 ((1024 + i : Nat) : Int)] w' fun e w'' => e = .returned (.int .i64 (i : Int)) ∧ w'' = w') := fun w' => by have k := rslot11 (1024 + i) w' (by omega); rw [hs1] at k; exact k
        have HSL2 : Hid (∀ w', Calls Tryd.prog 23 #[.int .u32 ((2048 + i : Nat) : Int)] w' fun e w'' => e = .returned (.int .i64 (i : Int)) ∧ w'' = w') := fun w' => by have k := rslot11 (2048 + i) w' (by omega); rw [hs2] at k; exact k
        clear d1 d2 d3 d4 d5 d6 hv hs1 hs2 HFI
        generalize hx1 : 1024 + i = x1 at *
        generalize hx2 : 2048 + i = x2 at *
        have hne : ((x2 : Int) == (x1 : Int)) = false := by simp; omega
        have hne2 : ((x2 : Int) != (x1 : Int)) = true := by simp; omega
        have hne3 : ¬ (x2 : Int) = (x1 : Int) := by omega
        have hlt1 : x1 < 4294967296 := by omega
        have hlt2 : x2 < 4294967296 := by omega
        clear hx1 hx2
        go_wp2_with fail
        refine (HTW.out _ _ HO.out).mono ?_
        rintro e w4 ⟨a4, c4, rfl, hO4⟩
        have HS : Hid (Calls _ _ _ _ _) := HSP.out w4 b a4 c4 _ _ _ hO4.in23 (HSF.out j (Nat.le_refl _)).2 (by omega)
        rw [HFU.out] at HS
        simp only at HS
        clear hO4 HO
        go_wp2_with fail
        refine HS.out.mono ?_
        rintro e w5 ⟨rfl, hO5⟩
        have HL5 : Hid (Calls _ _ _ _ _) := slen w w5 _ b _ _ hO5
        rw [HLR.out.1] at HL5
        clear hO5 HS
        go_wp2_with fail
        refine HL5.out.mono ?_
        rintro e w6 ⟨rfl, hO6⟩
        have HR6 : Hid (Calls _ _ _ _ _) := sroom w w6 _ b _ _ hO6 (HSF.out j (Nat.le_refl _)).2.s
        rw [HLR.out.2] at HR6
        have hjj : ((j : Int) == (j : Int)) = true := by simp
        clear hO6 HL5
        go_wp2_with fail
        refine HR6.out.mono ?_
        rintro e w7 ⟨rfl, hO7⟩
        have ce7 := HCE.out _ _ hO7.two
        have HD7 : Hid (Calls _ _ _ _ _) := HD1.out _ _ hO7
        clear hO7 HR6
        go_wp2_with fail
        refine HD7.out.mono ?_
        rintro e w8 ⟨rfl, hO8⟩
        have H8 : Hid (Own w w8 _) := hO8
        clear hO8 HD7 ce7
        go_wp2_with fail
        refine (HTW.out _ _ H8.out.two).mono ?_
        rintro e w9 ⟨a9, c9, rfl, hO9⟩
        have HS9 : Hid (Calls _ _ _ _ _) := HSP.out w9 b a9 c9 D _ _ hO9.in23 HD2.out (by omega)
        rw [HD3.out] at HS9
        simp only at HS9
        clear hO9 H8
        go_wp2_with fail
        refine HS9.out.mono ?_
        rintro e w10 ⟨rfl, hO10⟩
        have ce := HCE.out _ _ hO10.two
        have H10 : Hid (Own w w10 _) := hO10
        clear hO10 HS9
        have hii : ((i : Int) == (i : Int)) = true := by simp
        have HLA : Hid (Calls _ _ _ _ _) := HLV.out _ _ _ _ H10.out.drew hlt1 HD5.out.1
        go_wp2_with fail
        go_region_held3 (fun w' => w'.cell? ⟨g, i, none⟩ = some (.int .u32 (x1 : Int))) (go_keep)
          (first
            | (go_at_call 23; refine (HSL2.out _).mono ?_; rintro e w11 ⟨rfl, rfl⟩)
            | (go_at_call 23; refine (HSL.out _).mono ?_; rintro e w12 ⟨rfl, rfl⟩)
            | (go_at_call 24; refine HLA.out.mono ?_; rintro e w13 ⟨rfl, hO13⟩
               have ce13 := HCE.out _ _ hO13.two
               have HLB : Hid (Calls _ _ _ _ _) := HLV.out _ _ _ _ hO13 hlt2 HD5.out.2
               clear hO13)
            | (go_at_call 24; refine HLB.out.mono ?_; rintro e w14 ⟨rfl, hO14⟩
               have ce14 := HCE.out _ _ hO14.two
               have H14 : Hid (Own w w14 _) := hO14
               clear hO14))
        all_goals
          go_wp2
          go_ret
          exact ⟨rfl, H14.out.fr⟩
  · have hx : ¬ ((lst (-1) C : Nat) : Int) = 0 := by omega
    generalize lst (-1) C = x at *
    clear ht hr hc hCk hCl hC
    go_enter Tryd.func4, Tryd.ntmps4
    go_wp2_with fail
    refine (awake11 w w [] HT.out (Own.start _)).mono ?_
    rintro e w1 ⟨rfl, hO1⟩
    have H1 : Hid (Own w w1 []) := hO1
    clear hO1
    go_wp2_with fail
    refine (HNW.out _ H1.out).mono ?_
    rintro e w2 ⟨b, rfl, hO2⟩
    have H2 : Hid (Own w w2 [Store b (Sto.new k 1) 0]) := hO2
    clear hO2 H1
    go_wp2_with fail
    refine (HLS.out _ H2.out.fr).mono ?_
    rintro e w3 ⟨rfl, hf⟩
    have H3 : Hid (Fr Nobody w w3) := (H2.out.quiet hf).fr
    clear hf H2
    go_wp2
    go_ret
    exact ⟨rfl, H3.out⟩
theorem storeFull_walk (w : World) (ht : Tab w) (a0 : Int) (w0 : (Lit.int .u8 a0).wf = true) (a1 : Option Addr) (len1 cap1 : Nat) (z1 : List Cp) (w1 : IsComps w a1 len1 cap1 z1) :
    Calls Tryd.prog 4 #[.int .u8 a0, .slice a1 len1 cap1] w fun e w' => e = .returned (.bool true) ∧ Below w.heap.size w w' := by
  obtain ⟨m, rfl, hm⟩ := ok8_nat w0
  refine (storeFull_fr w ht m hm a1 len1 cap1 z1 w1.1 w1.2.1 w1.2.2.1 w1.cs.1 w1.cs.2).mono ?_
  rintro e w' ⟨rfl, hf⟩
  exact ⟨rfl, hf.below (Nat.le_refl _) (fun _ _ h => h)⟩
theorem laidOut : laidOutB Tryd.prog = true := by kernel_rfl

set_option maxRecDepth 100000 in
theorem storeFull_lifted (os : Os) (started : os.Started) (H : Type) (enc : TypeId × Value → H) :
    ReturnsInHanded {} Tryd.checked os 4 .any (fun w args => (Rows.storeFullSpec.pre enc Tryd.prog Tryd.f4 [] false w args ∧ laidMetH Tryd.prog laid1 w) ∧ sizedMet enc Tryd.prog Tryd.f4 (OpenSpec.ofChange Rows.storeFullSpec) false w args) (Rows.storeFullSpec.post enc Tryd.prog Tryd.f4 false true false false) := by
  refine returnsInHanded_of_change_and (C := Tryd.checked) (X := fun w _ => laidMetH Tryd.prog laid1 w) (fun _ _ _ hh h => h.of_heap hh) own started (by kernel_rfl) Tryd.func4
    (ChangeSpec.witness_shaped (enc := enc) (C := Tryd.checked) (os := os) (X := fun w _ => laidMetH Tryd.prog laid1 w) false (World.doorLaid Tryd.prog 400 os) #[.int .u8 0, .slice none 0 0] 8 rfl (World.shaped_of_RefB (by kernel_rfl) (by kernel_rfl)) (by kernel_rfl) (by kernel_rfl) (by kernel_rfl) (door_met os _)) ?_
  intro W base args ds gs before hval0 hW _ _ hL _
  have hval : ∀ (j : Nat) t v, Tryd.f4.params[j]? = some t → args[j]? = some v → Value.okWide Tryd.prog W .any base t v := hval0
  have hW' := hW
  obtain ⟨p, q, hA0, hV, rfl, hfz, hnd⟩ := hW
  have hA : DataW.TrodAll enc Tryd.prog W 0 (fun _ => true) true Tryd.f4.params.toList args.toList ds p := hA0
  rw [Tryd.params4] at hA hval
  obtain ⟨v0, vs0, d0, ds0, p0, q0, hargs, rfl, rfl, h0, r0⟩ := trodAll_cons hA
  obtain ⟨v1, vs1, d1, ds1, p1, q1, rfl, rfl, rfl, h1, r1⟩ := trodAll_cons r0
  obtain ⟨rfl, rfl, rfl⟩ := trodAll_nil r1
  obtain rfl : args = #[v0, v1] := by cases args; simp_all
  obtain ⟨rfl, rfl⟩ := trodVars_none hV
  obtain ⟨a0, rfl, rfl, rfl, w0⟩ := open_int Tryd.underlying5 (hval 0 5 v0 rfl rfl) h0
  obtain ⟨a1, len1, cap1, rfl⟩ := okWide_slice Tryd.underlying22 (hval 1 22 v1 rfl rfl)
  have k1 := h1
  have lt1 : ∀ x ∈ p1, x.block < W.heap.size := by obtain ⟨m, hm⟩ := k1; exact DataW.trod_lt m _ _ _ hm
  obtain ⟨z1, w1⟩ := open_comps (hval 1 22 _ rfl rfl) h1
  clear hA0 hval0
  refine (storeFull_walk W (of_laid hL) a0 w0 a1 len1 cap1 z1 w1).mono fun e W' ⟨he, bel⟩ => ?_
  subst he
  exact ⟨_, rfl, _, _, _, [], _, [], hW', trodAll_mk1 (shut_bool Tryd.underlying4 _), (trodAll_cons_mk (shut_int Tryd.underlying5 w0) (trodAll_cons_mk (Below.trod laidOut (by kernel_rfl) (of_decide_eq_true (by kernel_rfl)) k1 bel lt1) trodAll_mk0)), rfl, bel.frame _, fun h => by cases h⟩

theorem storeFull_row : Rows.StoreFullSaid :=
  OpenClaim.holds_of_wide 4 Tryd.f4 rfl rfl rfl rfl rfl rfl rfl ⟨rfl, rfl, rfl, rfl, rfl⟩ rfl rfl rfl rfl rfl (by kernel_rfl) Tryd.func4 (by kernel_rfl)
    (of_decide_eq_true (by kernel_rfl)) (by unfold Func.isWrapper; first | (rw [if_pos (by decide +kernel)]; kernel_rfl) | (rw [if_neg (by decide +kernel)]; exact ⟨rfl, rfl⟩))
    (fun os started H enc _ => storeFull_lifted os started H enc)

theorem storeFull_holds : Rows.StoreFullCardSaid :=
  Claim7.holds_tied_plain_at .later [] [.data] true (true, "9609a11bcd8af26e68e19aabc90910876199ae42134e492302ad5ec6d4758ae5") false
    storeFull_row (fun _ h => by cases h) (by kernel_rfl) (fun _ h => by cases h) storeFull_row_tie rfl ⟨rfl, rfl⟩ (by kernel_rfl) rfl
    (fun f fn hf hfn => by
      obtain rfl : f = 4 := Option.some.inj ((show Tryd.prog.funcNamed "pinnace/pinnacelaw11.StoreFull" = some 4 by kernel_rfl).symm.trans hf) |>.symm
      obtain rfl : fn = Tryd.f4 := (Option.some.inj (Tryd.func4.symm.trans hfn)).symm
      exact ⟨by kernel_rfl, fun j t ht => by
        rw [Tryd.params4] at ht
        have hm : t ∈ [5, 22] := by simpa using Array.mem_of_getElem? ht
        have hall : ([5, 22].all fun u => !Tryd.prog.wantsStandIn u) = true := by kernel_rfl
        exact (show Tryd.prog.wantsStandIn t = false by simpa using List.all_eq_true.1 hall t hm)⟩)
    (by kernel_rfl)

end Go.Proofs.YtlaghbapnffhaaaDoor
