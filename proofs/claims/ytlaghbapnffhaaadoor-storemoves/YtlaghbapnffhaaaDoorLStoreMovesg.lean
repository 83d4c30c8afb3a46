/-
  A component that is added and taken away again leaves an entity as it was, with its number; only its place among those of its make is the last one then: StoreMoves returns true, whatever its arguments, where the table of the components lies as the program's text lays it, and changes nothing that was there.
-/
import Derived.Test.YtlaghbapnffhaaaDoorOvg
import Derived.Test.YtlaghbapnffhaaaDoorOwg
import Derived.OpenShut
import Derived.SevenTiedAt
namespace Go.Proofs.YtlaghbapnffhaaaDoor
open Go.ChangeShapes Go.WideShapes Go.ChangeAt Go.RowKit
set_option linter.unusedVariables false
set_option maxRecDepth 100000

theorem pick_all (j : Nat) : ∀ L : List Nat, L.length = j → pick L (List.replicate j true) = L := by
  induction j with
  | zero => intro L h; rw [List.eq_nil_of_length_eq_zero h]; rfl
  | succ j ih =>
    intro L h
    cases L with
    | nil => simp at h
    | cons a L => rw [List.replicate_succ]; simp [pick, ih L (by simpa using h)]
theorem sfull_list (k j : Nat) : (sfull k j).list = fids j := pick_all j _ (fids_len j)
theorem fends (C : List Cp) (m : Nat) (hm : 1 ≤ m) : (ids (outr (fents C m) 0 ++ [(1024, C)])).length = m ∧ (ids (outr (fents C m) 0 ++ [(1024, C)]))[m - 1]? = some 1024 ∧ (outr (fents C m) 0 ++ [(1024, C)])[m - 1]? = some (1024, C) := by
  have hl : (fents C m).length = m := by simp [fents]
  have ho : (outr (fents C m) 0).length = m - 1 := by rw [length_outr _ _ (by omega), hl]
  have e : (outr (fents C m) 0 ++ [(1024, C)])[m - 1]? = some (1024, C) := by rw [List.getElem?_append_right (by omega), ho]; simp
  refine ⟨by rw [length_ids, List.length_append, ho]; simp; omega, ?_, e⟩
  unfold ids
  rw [List.getElem?_map, e]; rfl
theorem map_one {G : List GrE} {x : Nat × List Nat} (h : G.map GrE.is = [x]) : ∃ a, G = [a] ∧ a.is = x := by
  match G, h with
  | [a], h => simp at h; exact ⟨a, rfl, h⟩

set_option maxHeartbeats 8000000 in
theorem storeMoves_fr (w : World) (ht : Tab w) (ao : Option Addr) (len cap : Nat) (C : List Cp) (hCl : C.length = len) (hlc : len ≤ cap) (hcm : cap ≤ maxLen) (hc : Cs w ao C) (hCk : ∀ q ∈ C, q.k < 256) (ck : Nat) (hck : ck < 256) (ca cb cc : Int) (o : Nat) (ho : o < 256) :
    Calls Tryd.prog 3 #[.slice ao len cap, .agg #[.int .u8 (ck : Int), .int .i32 ca, .int .i32 cb, .int .i32 cc], .int .u8 (o : Int)] w fun e w' => e = .returned (.bool true) ∧ Fr Nobody w w' := by
  unfold maxLen at hcm
  obtain ⟨i0, hi0, hz0, hz1, hz2⟩ := info_parts Tryd.infoID2
  have HT : Hid (Tab w) := ht
  obtain ⟨r, hr⟩ : ∃ r, r = o % 10 := ⟨_, rfl⟩
  have hr10 : r < 10 := by omega
  have hor : (o : Int) % 10 = (r : Int) := by omega
  obtain ⟨m, hm⟩ : ∃ m, m = 1 + r := ⟨_, rfl⟩
  have hmI : 1 + (r : Int) = (m : Int) := by omega
  have hm1 : 1 ≤ m := by omega
  have hm2 : m ≤ 10 := by omega
  clear hm hr
  have HLS : Hid (∀ w', Fr Nobody w w' → Calls Tryd.prog 8 #[.slice ao len cap] w' fun e w'' => e = .returned (.int .i64 ((lst (-1) C : Nat) : Int)) ∧ Fr Nobody w' w'') := fun w' hf => rlist_big w' ao len cap C hCl (hc.quiet hf) hCk (by omega)
  have HCK : Hid (∀ w', Calls Tryd.prog 9 #[.agg #[.int .u8 (ck : Int), .int .i32 ca, .int .i32 cb, .int .i32 cc]] w' fun e w'' => e = .returned (.int .i64 ((Cp.chk ⟨ck, ca, cb, cc⟩ : Nat) : Int)) ∧ Fr Nobody w' w'') := fun w' => rcheck3 w' ck hck ca cb cc
  have HAW : Hid (Calls _ _ _ _ _) := awake11 w _ [Cells w.heap.size #[.int .u8 (ck : Int), .int .i32 ca, .int .i32 cb, .int .i32 cc] 25] ht ((Own.start w).allocC _ _)
  have HNW : Hid (∀ w', Own w w' [Cells w.heap.size #[.int .u8 (ck : Int), .int .i32 ca, .int .i32 cb, .int .i32 cc] 25] → Calls Tryd.prog 7 #[.int .i64 20, .int .i64 1] w' fun e w'' => ∃ b, e = .returned (.tuple #[.pointer (some ⟨b, 0, none⟩), .int .i64 0]) ∧ Own w w'' [Store b (Sto.new 20 1) 0, Cells w.heap.size #[.int .u8 (ck : Int), .int .i32 ca, .int .i32 cb, .int .i32 cc] 25]) := fun w' h' => snew w w' _ 20 1 h' (by decide) (by decide) (by decide) (by decide)
  by_cases hC : lst (-1) C = 0
  · rw [hC] at HLS
    by_cases hcc : Cp.chk ⟨ck, ca, cb, cc⟩ = 0
    · rw [hcc] at HCK
      have hlen := lst_len hC
      rw [hCl] at hlen
      have HFD : Hid (∀ w', Fr Nobody w w' → Calls Tryd.prog 12 #[.slice ao len cap, .int .u8 (ck : Int)] w' fun e w'' => ∃ r : Int, e = .returned (.int .i64 r) ∧ Fr Nobody w' w'' ∧ ((r = -1 ∧ hasK C ck = false) ∨ ∃ i : Nat, r = i ∧ ∃ q : Cp, C[i]? = some q ∧ q.k = ck ∧ hasK C ck = true)) := fun w' hf => find_any w' ao len cap C hCl (hc.quiet hf) hCk (by omega) ck hck
      have HTW : Hid (∀ w' l', Own w w' l' → Calls Tryd.prog 11 #[.slice ao len cap] w' fun e w'' => ∃ a c, e = .returned (.slice a len c) ∧ Own w w'' (Row 25 4 (.slice a len c) len (ccat C) :: l')) := fun w' l' h' => twin_any w w' l' h' ao len cap C hCl (hc.quiet h'.fr) (by omega)
      have HSP : Hid (∀ w' b a c σ K l', Own w w' (Row 25 4 (.slice a len c) len (ccat C) :: Store b σ K :: l') → σ.Ok → K < 1000000 → Calls Tryd.prog 10 #[.pointer (some ⟨b, 0, none⟩), .slice a len c] w' fun e w'' => e = .returned (.tuple #[.int .u32 ((σ.spawn C).1 : Int), .int .i64 (σ.spawn C).2.1]) ∧ Own w w'' (Store b (σ.spawn C).2.2 (K + 1) :: l')) := by
        intro w' b a c σ K l' h' h1 h2
        refine (spawnC w w' _ b σ K HT.out h'.two h1 a len c C hCl (fun w'' h'' => Own.rcs h'' hCl) hCk (by omega) h2).mono ?_
        rintro e w'' ⟨rfl, h3⟩
        exact ⟨rfl, h3.two.tail⟩
      have HSF : Hid (∀ j, j ≤ m → (sfill 20 C j).S = sfull 20 j ∧ (sfill 20 C j).Ok) := fun j hj => sfill_is 20 C hC (by decide) (by decide) j (by omega)
      have HSS : Hid (∀ j, j < m → ((sfill 20 C j).spawn C).1 = 1024 + j ∧ ((sfill 20 C j).spawn C).2.1 = 0 ∧ ((sfill 20 C j).spawn C).2.2 = sfill 20 C (j + 1)) := fun j hj => sfill_spawn 20 C hC (by decide) (by decide) j (by omega)
      have HMV : Hid (hasK C ck = false → ∃ A B : Sto, (sfill 20 C m).add 1024 ⟨ck, ca, cb, cc⟩ = (0, A) ∧ A.Ok ∧ A.remove 1024 ck = (0, B) ∧ B.Ok ∧ B.S = sfull 20 m ∧ B.T = lone1 (msk C) (outr (fents C m) 0 ++ [(1024, C)])) := fun hk => moves C ⟨ck, ca, cb, cc⟩ hC hcc hk m hm1 hm2
      have HTW9 : Hid (hasK C ck = true → (sfill 20 C m).add 1024 ⟨ck, ca, cb, cc⟩ = (9, sfill 20 C m)) := by
        intro hk
        obtain ⟨hS, hOk⟩ := sfill_is 20 C hC (by decide) (by decide) m (by omega)
        have hT := sfill_T 20 C hC (by decide) (by decide) m (by omega)
        have h6 := msk64 C
        have hTm : (sfill 20 C m).T (msk C) = fents C m := by rw [hT]; unfold lone1; rw [upd_same]
        have h0 : (fents C m)[0]? = some (1024, C) := by unfold fents; rw [List.getElem?_map, List.getElem?_range (by omega)]; rfl
        have hmem : (1024, C) ∈ (sfill 20 C m).T (msk C) := by rw [hTm]; exact List.mem_of_getElem? h0
        have hl : (sfill 20 C m).S.isLive 1024 = true := (hOk.lv _ h6 _ hmem).1
        have hh : (sfill 20 C m).hom 1024 = msk C := hom_of hOk h6 hmem
        have hp : plc ((sfill 20 C m).T ((sfill 20 C m).hom 1024)) 1024 = some 0 := by
          rw [hh]
          exact (plc_some (hOk.t _ h6).ap 1024 0).2 ⟨_, by rw [hTm]; exact h0, rfl⟩
        have hcps : (sfill 20 C m).cps 1024 = C := Sto.cps_of hp (by rw [hh, hTm]; exact h0)
        unfold Sto.add
        rw [if_neg (by simp [hcc]), if_neg (by simp [hl]), hcps, if_pos hk]
      have HAD : Hid (∀ w' b σ K l', Own w w' (Store b σ K :: l') → σ.Ok → K + 1 < 1000000 → Calls Tryd.prog 13 #[.pointer (some ⟨b, 0, none⟩), .int .u32 1024, .agg #[.int .u8 (ck : Int), .int .i32 ca, .int .i32 cb, .int .i32 cc]] w' fun e w'' => e = .returned (.int .i64 (σ.add 1024 ⟨ck, ca, cb, cc⟩).1) ∧ Own w w'' (Store b (σ.add 1024 ⟨ck, ca, cb, cc⟩).2 (K + 2) :: l')) := fun w' b σ K l' h' h1 h2 => addC w w' l' b σ K HT.out h' h1 1024 (by decide) ⟨ck, ca, cb, cc⟩ hck h2
      have HRM : Hid (∀ w' b σ K l', Own w w' (Store b σ K :: l') → σ.Ok → K + 1 < 1000000 → Calls Tryd.prog 14 #[.pointer (some ⟨b, 0, none⟩), .int .u32 1024, .int .u8 (ck : Int)] w' fun e w'' => e = .returned (.int .i64 (σ.remove 1024 ck).1) ∧ Own w w'' (Store b (σ.remove 1024 ck).2 (K + 2) :: l')) := fun w' b σ K l' h' h1 h2 => removeC w w' l' b σ K HT.out h' h1 1024 (by decide) ck hck h2
      have HCs : Hid (Cs w ao C ∧ C.length = len) := ⟨hc, hCl⟩
      clear ht hc hCk hCl hC hcc
      go_enter Tryd.func3, Tryd.ntmps3
      go_wp2_with fail
      refine HAW.out.mono ?_
      rintro e w1 ⟨rfl, hO1⟩
      have H1 : Hid (Own w w1 _) := hO1
      clear hO1 HAW
      go_wp2_with fail
      refine (HNW.out _ H1.out).mono ?_
      rintro e w2 ⟨b, rfl, hO2⟩
      have H2 : Hid (Own w w2 _) := hO2
      clear hO2 H1
      go_wp2_with fail
      refine (HLS.out _ H2.out.fr).mono ?_
      rintro e w3 ⟨rfl, hf⟩
      have hO3 := H2.out.quiet hf
      have k0 := hO3.two.cell 0
      have k1 := hO3.two.cell 1
      have k2 := hO3.two.cell 2
      have k3 := hO3.two.cell 3
      simp at k0 k1 k2 k3
      have H3 : Hid (Own w w3 _) := hO3
      clear hf H2 hO3
      go_wp2_with fail
      refine (HCK.out _).mono ?_
      rintro e w4 ⟨rfl, hf⟩
      have H4 : Hid (Own w w4 _) := H3.out.quiet hf
      clear hf H3 k0 k1 k2 k3
      go_wp2
      clear hor hmI
      go_loopw [9, 39] (fun iv jv wr => ∃ (j : Nat) (ra : Option Addr) (rc : Nat), j ≤ m ∧ jv = .int .i64 j ∧ iv = .slice ra j rc ∧ Own w wr [Row 35 1 (.slice ra j rc) j (irow .u32 (fids j)), Store b (sfill 20 C j) j, Cells w.heap.size #[.int .u8 (ck : Int), .int .i32 ca, .int .i32 cb, .int .i32 cc] 25]) (fun _ jv _ => m - (intOf jv).toNat)
      case atStart => exact ⟨0, none, 0, Nat.zero_le _, rfl, rfl, H4.out.nilRow 35 1⟩
      case round =>
        obtain ⟨j, ra, rc, hj, rfl, rfl, hO⟩ := hrel
        have HO : Hid (Own w wr _) := hO
        clear hO H4
        by_cases hlt : j < m
        · have hlt' : (j : Int) < (m : Int) := by omega
          obtain ⟨s1, s2, s3⟩ := HSS.out j hlt
          go_wp2_with fail
          refine (HTW.out _ _ HO.out).mono ?_
          rintro e w4 ⟨a4, c4, rfl, hO4⟩
          have HS : Hid (Calls _ _ _ _ _) := HSP.out w4 b a4 c4 _ _ _ hO4.in23 (HSF.out j (by omega)).2 (by omega)
          rw [s1, s2, s3] at HS
          clear hO4 HO s1 s2 s3
          go_wp2_with fail
          refine HS.out.mono ?_
          rintro e w5 ⟨rfl, hO5⟩
          have H5 : Hid (Own w w5 _) := hO5.two
          clear hO5 HS
          go_wp2_with (at_builtin; refine append1_own rfl _ _ 33 rfl 35 i0 (.int .u32 0) 1 4 Tryd.underlying33 hi0 hz0 hz1 hz2 rfl (by decide) _ _ _ rfl H5.out _ #[.int .u32 ((1024 + j : Nat) : Int)] (by simp) rfl rfl (one_int _ _) (by unfold maxLen; omega) (by omega) ?_)
          intro g6 c6 w6 hO6 hsz6
          have H6 : Hid (Own w w6 [Row 35 1 (.slice (some ⟨g6, 0, none⟩) (j + 1) c6) (j + 1) (irow .u32 (fids (j + 1))), Store b (sfill 20 C (j + 1)) (j + 1), Cells w.heap.size #[.int .u8 (ck : Int), .int .i32 ca, .int .i32 cb, .int .i32 cc] 25]) := by
            show Own _ _ _
            rw [fids_succ, irow_append]; exact hO6
          clear hO6 hsz6 H5
          go_wp2
          go_roundw
          case rel => exact ⟨j + 1, _, _, by omega, by go_num, rfl, H6.out⟩
          case measure => simp [intOf]; omega
        · have hlt' : ¬ (j : Int) < (m : Int) := by omega
          have hjm : j = m := by omega
          subst hjm
          obtain ⟨g, rc', hv, _⟩ := row_shape HO.out.row (by omega)
          have hra := (Value.slice.inj hv).1
          subst hra
          have HCE : Hid (∀ w' l', Own w w' (Row 35 1 (.slice (some ⟨g, 0, none⟩) j rc) j (irow .u32 (fids j)) :: l') → w'.cell? ⟨g, 0, none⟩ = some (.int .u32 1024)) := by
            intro w' l' h'
            rw [h'.row.cellAt _ (by omega), getElem?_irow, fids_at j 0 (by omega)]; rfl
          have k0 := HO.out.three.cell 0
          simp at k0
          have hj0 : (0 : Int) < (j : Int) := by omega
          have hj0n : 0 < j := by omega
          have hj0z : ¬ j = 0 := by omega
          have hj1 : (1 : Int) ≤ (j : Int) := by omega
          clear hv
          go_wp2_with fail
          refine (HFD.out _ HO.out.fr).mono ?_
          rintro e w5 ⟨r5, rfl, hf, hcase⟩
          have hO5 := HO.out.quiet hf
          have H5 : Hid (Own w w5 _) := hO5
          have c0 := HCE.out _ _ hO5
          have b0 := hO5.three.cell 0
          have b1 := hO5.three.cell 1
          have b2 := hO5.three.cell 2
          have b3 := hO5.three.cell 3
          simp at b0 b1 b2 b3
          clear hf hO5 HO k0
          rcases hcase with ⟨rfl, hk⟩ | ⟨i, rfl, q, hq, hqk, hk⟩
          · obtain ⟨A, B, d1, d2, d3, d4, d5, d6⟩ := HMV.out hk
            have hf3 := fends C j (by omega)
            have h6 := msk64 C
            have hBm : B.T (msk C) = outr (fents C j) 0 ++ [(1024, C)] := by rw [d6]; unfold lone1; rw [upd_same]
            have hmem : (1024, C) ∈ B.T (msk C) := by rw [hBm]; simp
            have hBh : B.hom 1024 = msk C := hom_of d4 h6 hmem
            have hBl : B.S.isLive 1024 = true := (d4.lv _ h6 _ hmem).1
            have hBe : (B.T (B.hom 1024))[j - 1]? = some (1024, C) := by rw [hBh, hBm]; exact hf3.2.2
            have hBg : B.grs 64 = [(msk C, ids (outr (fents C j) 0 ++ [(1024, C)]))] := by rw [grs_one d6 (by simp) 64, if_pos h6]
            have hBs : B.S.list = fids j := by rw [d5, sfull_list]
            obtain ⟨I, hI⟩ : ∃ I, I = ids (outr (fents C j) 0 ++ [(1024, C)]) := ⟨_, rfl⟩
            rw [← hI] at hBg hf3
            have hIl := hf3.1
            have hIe := hf3.2.1
            have HBO : Hid B.Ok := d4
            have HSL : Hid (∀ w' l', Own w w' (Store b B (j + 4) :: l') → Calls Tryd.prog 19 #[.pointer (some ⟨b, 0, none⟩)] w' fun e w'' => ∃ v, e = .returned v ∧ Own w w'' (Row 35 1 v (fids j).length (irow .u32 (fids j)) :: Store b B (j + 4) :: l')) := fun w' l' h' => by
              have k := slist w w' l' b B _ h' d4.s
              rw [hBs] at k
              exact k
            have HEN : Hid (∀ w' l', Own w w' (Store b B (j + 4) :: l') → Calls Tryd.prog 15 #[.pointer (some ⟨b, 0, none⟩), .int .u32 1024] w' fun e w'' => ∃ a c, e = .returned (.tuple #[.agg #[.int .u32 1024, .slice a len c], .int .i64 0]) ∧ Own w w'' (Row 25 4 (.slice a len c) len (ccat C) :: Store b B (j + 4) :: l')) := fun w' l' h' => by
              have k := sent w w' l' b B _ h' d4 1024 (by decide) hBl (j - 1) C hBe (by omega)
              rw [HCs.out.2] at k
              exact k
            have HGR : Hid (∀ w' bs v p l', Own w w' (StoX b B (j + 4) (bs, v, p) :: l') → Calls Tryd.prog 16 #[.pointer (some ⟨b, 0, none⟩)] w' fun e w'' => ∃ ra rc a9 c9, e = .returned (.slice ra 1 rc) ∧ Own w w'' (Row 50 2 (.slice ra 1 rc) 1 [.int .u8 ((msk C : Nat) : Int), .slice a9 j c9] :: Row 35 1 (.slice a9 j c9) j (irow .u32 I) :: StoX b B (j + 4) (bs, v, p) :: l')) := by
              intro w' bs v p l' h'
              refine (sgroupsX w w' l' b bs v p B _ h' (by omega)).mono ?_
              rintro e w'' ⟨G, ra, rc, rfl, hG, hO⟩
              rw [hBg] at hG
              obtain ⟨⟨m1, I1, a1, c1⟩, rfl, hx⟩ := map_one hG
              simp only [GrE.is, Prod.mk.injEq] at hx
              obtain ⟨rfl, rfl⟩ := hx
              refine ⟨ra, rc, a1, c1, rfl, ?_⟩
              have k := hO
              simp only [List.length_cons, List.length_nil, Nat.zero_add, List.map_cons, List.map_nil, List.cons_append, List.nil_append, cat, List.flatMap_cons, List.flatMap_nil, List.append_nil, GrE.cs, GrE.row, hIl] at k
              exact k
            have HA5 : Hid (Calls _ _ _ _ _) := HAD.out _ _ _ _ _ H5.out.two.drew (HSF.out j (Nat.le_refl _)).2 (by omega)
            rw [d1] at HA5
            simp only at HA5
            have HR5 : Hid (∀ w' l', Own w w' (Store b A (j + 2) :: l') → Calls Tryd.prog 14 #[.pointer (some ⟨b, 0, none⟩), .int .u32 1024, .int .u8 (ck : Int)] w' fun e w'' => e = .returned (.int .i64 0) ∧ Own w w'' (Store b B (j + 4) :: l')) := fun w' l' h' => by
              have k := HRM.out w' b A (j + 2) l' h' d2 (by omega)
              rw [d3] at k
              exact k
            clear d1 d2 d3 d4 d5 d6 hk hf3 hBm hmem hBh hBl hBe hBg hBs hI HMV HTW9 HAD HRM HSS HSP HTW HSF
            go_wp2_with fail
            go_region_held3 (fun w' => w'.cell? ⟨g, 0, none⟩ = some (.int .u32 1024) ∧ w'.cell? ⟨w.heap.size, 0, none⟩ = some (.int .u8 (ck : Int)) ∧ w'.cell? ⟨w.heap.size, 1, none⟩ = some (.int .i32 ca) ∧ w'.cell? ⟨w.heap.size, 2, none⟩ = some (.int .i32 cb) ∧ w'.cell? ⟨w.heap.size, 3, none⟩ = some (.int .i32 cc)) (go_keep)
              (first
                | (go_at_call 13; refine HA5.out.mono ?_; rintro e w6 ⟨rfl, hO6⟩
                   have t0 := HCE.out _ _ hO6.two
                   have e0 := hO6.three.cell 0
                   have e1 := hO6.three.cell 1
                   have e2 := hO6.three.cell 2
                   have e3 := hO6.three.cell 3
                   simp at e0 e1 e2 e3
                   have HR6 : Hid (Calls _ _ _ _ _) := HR5.out _ _ hO6
                   clear hO6)
                | (go_at_call 14; refine HR6.out.mono ?_; rintro e w7 ⟨rfl, hO7⟩
                   have u0 := HCE.out _ _ hO7.two
                   have f0 := hO7.three.cell 0
                   have f1 := hO7.three.cell 1
                   have f2 := hO7.three.cell 2
                   have f3 := hO7.three.cell 3
                   simp at f0 f1 f2 f3
                   have H7 : Hid (Own w w7 _) := hO7
                   clear hO7))
            all_goals
              clear HA5 HR6 H5 t0 e0 e1 e2 e3 f0 f1 f2 f3 c0 b0 b1 b2 b3
              go_wp2_with fail
              refine (HEN.out _ _ H7.out).mono ?_
              rintro e w8 ⟨ax, cx, rfl, hO8⟩
              have hX := (hO8.allocC #[.int .u32 1024, .slice ax len cx] 43).three
              obtain ⟨bs, v, p, hX2⟩ := hX.stoX
              have HG8 : Hid (Calls _ _ _ _ _) := HGR.out _ bs v p _ hX2
              obtain ⟨X, hXe⟩ : ∃ X, X = w8.heap.size := ⟨_, rfl⟩
              rw [← hXe] at HG8
              have hXI : w8.heap.size = X := hXe.symm
              clear hO8 hX hX2 H7 u0 hXe
              go_wp2_with fail
              refine HG8.out.mono ?_
              rintro e w9 ⟨rg, cg, a9, c9, rfl, hO9⟩
              have hL9 : Own w w9 [Store b B (j + 4), Row 50 2 (.slice rg 1 cg) 1 [.int .u8 ((msk C : Nat) : Int), .slice a9 j c9], Row 35 1 (.slice a9 j c9) j (irow .u32 I), Cells X #[.int .u32 1024, .slice ax len cx] 43, Row 25 4 (.slice ax len cx) len (ccat C), Row 35 1 (.slice (some ⟨g, 0, none⟩) j rc) j (irow .u32 (fids j)), Cells w.heap.size #[.int .u8 (ck : Int), .int .i32 ca, .int .i32 cb, .int .i32 cc] 25] := hO9.three.xSto
              obtain ⟨gg, cg', hv, _⟩ := row_shape hL9.two.row (by decide)
              have hrg := (Value.slice.inj hv).1
              subst hrg
              obtain ⟨g9, c9', hv9, _⟩ := row_shape hL9.three.row (by omega)
              have hr9 := (Value.slice.inj hv9).1
              subst hr9
              obtain ⟨jp, hjp⟩ : ∃ jp, j = jp + 1 := ⟨j - 1, by omega⟩
              have HF5 : Hid (∀ w', Own w w' [Store b B (j + 4), Row 50 2 (.slice (some ⟨gg, 0, none⟩) 1 cg) 1 [.int .u8 ((msk C : Nat) : Int), .slice (some ⟨g9, 0, none⟩) j c9], Row 35 1 (.slice (some ⟨g9, 0, none⟩) j c9) j (irow .u32 I), Cells X #[.int .u32 1024, .slice ax len cx] 43, Row 25 4 (.slice ax len cx) len (ccat C), Row 35 1 (.slice (some ⟨g, 0, none⟩) j rc) j (irow .u32 (fids j)), Cells w.heap.size #[.int .u8 (ck : Int), .int .i32 ca, .int .i32 cb, .int .i32 cc] 25] → w'.cell? ⟨X, 0, none⟩ = some (.int .u32 1024) ∧ w'.cell? ⟨X, 1, none⟩ = some (.slice ax len cx) ∧ w'.cell? ⟨g, 0, none⟩ = some (.int .u32 1024) ∧ w'.cell? ⟨gg, 1, none⟩ = some (.slice (some ⟨g9, 0, none⟩) j c9) ∧ w'.cell? ⟨g9, jp, none⟩ = some (.int .u32 1024) ∧ Cs w' ax C) := by
                intro w' h'
                have y0 := h'.four.cell 0
                have y1 := h'.four.cell 1
                simp at y0 y1
                refine ⟨y0, y1, HCE.out _ _ h'.tail.tail.tail.tail.tail, by rw [h'.two.row.cellAt _ (by decide)]; rfl, ?_, Own.rcs h'.tail.tail.tail.tail HCs.out.2⟩
                rw [h'.three.row.cellAt _ (by omega), getElem?_irow, show jp = j - 1 by omega, hIe]; rfl
              obtain ⟨y0, y1, y2, y3, y4, y5⟩ := HF5.out _ hL9
              have HSE : Hid (Calls _ _ _ _ _) := sameEnt_any w9.drew 1024 ax ao len cx cap C (HF5.out _ hL9.drew).2.2.2.2.2 (HCs.out.1.quiet hL9.fr.drew) HCs.out.2 (by omega)
              have H9 : Hid (Own w w9 _) := hL9
              have hjI : (j : Int) - 1 = (jp : Int) := by omega
              have hjpj : (jp : Int) < (j : Int) := by omega
              have hjpn : jp < j := by omega
              have hjpw : IntKind.i64.wrap (jp : Int) = (jp : Int) := by rw [IntKind.wrap_i64]; omega
              have hjpt : (jp : Int).toNat = jp := by omega
              have hjp0 : (0 : Int) ≤ (jp : Int) := by omega
              have hjj : ((j : Int) == (j : Int)) = true := by simp
              clear hO9 hL9 hv hv9 HG8 y5 hjp
              go_wp2_with fail
              go_region_held3 (fun w' => w'.cell? ⟨X, 0, none⟩ = some (.int .u32 1024) ∧ w'.cell? ⟨X, 1, none⟩ = some (.slice ax len cx) ∧ w'.cell? ⟨g, 0, none⟩ = some (.int .u32 1024) ∧ w'.cell? ⟨gg, 1, none⟩ = some (.slice (some ⟨g9, 0, none⟩) j c9) ∧ w'.cell? ⟨g9, jp, none⟩ = some (.int .u32 1024)) (go_keep)
                (first
                  | (go_at_call 17; refine HSE.out.mono ?_; rintro e w10 ⟨rfl, hf⟩
                     have hL10 := H9.out.drew.quiet hf
                     obtain ⟨p0, p1, p2, p3, p4, _⟩ := HF5.out _ hL10
                     have HLI : Hid (Calls _ _ _ _ _) := HSL.out _ _ hL10
                     clear hL10 hf)
                  | (go_at_call 19; refine HLI.out.mono ?_; rintro e w11 ⟨vl, rfl, hO11⟩
                     obtain ⟨q0, q1, q2, q3, q4, _⟩ := HF5.out _ hO11.tail
                     have hn1 := hO11.nums
                     have hn2 : Nums .u32 w11 (.slice (some ⟨g, 0, none⟩) j rc) (fids j) := by
                       refine Own.nums (e := 35) (l := [Cells w.heap.size #[.int .u8 (ck : Int), .int .i32 ca, .int .i32 cb, .int .i32 cc] 25]) (w0 := w) ?_
                       rw [fids_len]
                       exact hO11.tail.tail.tail.tail.tail.tail
                     have HSA : Hid (Calls _ _ _ _ _) := same_ok w11 vl (.slice (some ⟨g, 0, none⟩) j rc) (fids j) hn1 hn2 (by rw [fids_len]; omega)
                     have H11 : Hid (Own w w11 _) := hO11.tail
                     clear hO11 hn1 hn2)
                  | (go_at_call 18; refine HSA.out.mono ?_; rintro e w12 ⟨rfl, hf⟩
                     have hL12 := H11.out.quiet hf
                     obtain ⟨s0, s1, s2, s3, s4, _⟩ := HF5.out _ hL12
                     have H12 : Hid (Own w w12 _) := hL12
                     clear hL12 hf))
              all_goals
                go_wp2
                go_ret
                exact ⟨rfl, H12.out.fr⟩
          · have hi0 : (0 : Int) ≤ (i : Int) := by omega
            have HA5 : Hid (Calls _ _ _ _ _) := HAD.out _ _ _ _ _ H5.out.two.drew (HSF.out j (Nat.le_refl _)).2 (by omega)
            rw [HTW9.out hk] at HA5
            simp only at HA5
            clear hq hqk hk
            go_wp2_with fail
            go_region_with (
              go_at_call 13
              refine HA5.out.mono ?_
              rintro e w6 ⟨rfl, hO6⟩
              have H6 : Hid (Own w w6 _) := hO6
              clear hO6)
            all_goals
              go_wp2
              go_ret
              exact ⟨rfl, H6.out.fr⟩
    · have hx : ¬ ((Cp.chk ⟨ck, ca, cb, cc⟩ : Nat) : Int) = 0 := by omega
      generalize Cp.chk ⟨ck, ca, cb, cc⟩ = x at *
      clear ht hc hCk hCl hC hcc
      go_enter Tryd.func3, Tryd.ntmps3
      go_wp2_with fail
      refine HAW.out.mono ?_
      rintro e w1 ⟨rfl, hO1⟩
      have H1 : Hid (Own w w1 _) := hO1
      clear hO1 HAW
      go_wp2_with fail
      refine (HNW.out _ H1.out).mono ?_
      rintro e w2 ⟨b, rfl, hO2⟩
      have H2 : Hid (Own w w2 _) := hO2
      clear hO2 H1
      go_wp2_with fail
      refine (HLS.out _ H2.out.fr).mono ?_
      rintro e w3 ⟨rfl, hf⟩
      have hO3 := H2.out.quiet hf
      have k0 := hO3.two.cell 0
      have k1 := hO3.two.cell 1
      have k2 := hO3.two.cell 2
      have k3 := hO3.two.cell 3
      simp at k0 k1 k2 k3
      have H3 : Hid (Own w w3 _) := hO3
      clear hf H2 hO3
      go_wp2_with fail
      refine (HCK.out _).mono ?_
      rintro e w4 ⟨rfl, hf⟩
      have H4 : Hid (Fr Nobody w w4) := (H3.out.quiet hf).fr
      clear hf H3 k0 k1 k2 k3
      go_wp2
      go_ret
      exact ⟨rfl, H4.out⟩
  · have hx : ¬ ((lst (-1) C : Nat) : Int) = 0 := by omega
    generalize lst (-1) C = x at *
    clear ht hc hCk hCl hC
    go_enter Tryd.func3, Tryd.ntmps3
    go_wp2_with fail
    refine HAW.out.mono ?_
    rintro e w1 ⟨rfl, hO1⟩
    have H1 : Hid (Own w w1 _) := hO1
    clear hO1 HAW
    go_wp2_with fail
    refine (HNW.out _ H1.out).mono ?_
    rintro e w2 ⟨b, rfl, hO2⟩
    have H2 : Hid (Own w w2 _) := hO2
    clear hO2 H1
    go_wp2_with fail
    refine (HLS.out _ H2.out.fr).mono ?_
    rintro e w3 ⟨rfl, hf⟩
    have H3 : Hid (Fr Nobody w w3) := (H2.out.quiet hf).fr
    clear hf H2
    go_wp2
    go_ret
    exact ⟨rfl, H3.out⟩
theorem storeMoves_walk (w : World) (ht : Tab w) (a0 : Option Addr) (len0 cap0 : Nat) (z0 : List Cp) (w0 : IsComps w a0 len0 cap0 z0) (k1 : Int) (wk1 : (Lit.int .u8 k1).wf = true) (x1 : Int) (wx1 : (Lit.int .i32 x1).wf = true) (y1 : Int) (wy1 : (Lit.int .i32 y1).wf = true) (z1 : Int) (wz1 : (Lit.int .i32 z1).wf = true) (a2 : Int) (w2 : (Lit.int .u8 a2).wf = true) :
    Calls Tryd.prog 3 #[.slice a0 len0 cap0, .agg #[.int .u8 k1, .int .i32 x1, .int .i32 y1, .int .i32 z1], .int .u8 a2] w fun e w' => e = .returned (.bool true) ∧ Below w.heap.size w w' := by
  obtain ⟨m, rfl, hm⟩ := ok8_nat w2
  obtain ⟨k, rfl, hk⟩ := ok8_nat wk1
  refine (storeMoves_fr w ht a0 len0 cap0 z0 w0.1 w0.2.1 w0.2.2.1 w0.cs.1 w0.cs.2 k hk x1 y1 z1 m hm).mono ?_
  rintro e w' ⟨rfl, hf⟩
  exact ⟨rfl, hf.below (Nat.le_refl _) (fun _ _ h => h)⟩
theorem laidOut : laidOutB Tryd.prog = true := by kernel_rfl

set_option maxRecDepth 100000 in
theorem storeMoves_lifted (os : Os) (started : os.Started) (H : Type) (enc : TypeId × Value → H) :
    ReturnsInHanded {} Tryd.checked os 3 .any (fun w args => (Rows.storeMovesSpec.pre enc Tryd.prog Tryd.f3 [] false w args ∧ laidMetH Tryd.prog laid1 w) ∧ sizedMet enc Tryd.prog Tryd.f3 (OpenSpec.ofChange Rows.storeMovesSpec) false w args) (Rows.storeMovesSpec.post enc Tryd.prog Tryd.f3 false true false false) := by
  refine returnsInHanded_of_change_and (C := Tryd.checked) (X := fun w _ => laidMetH Tryd.prog laid1 w) (fun _ _ _ hh h => h.of_heap hh) own started (by kernel_rfl) Tryd.func3
    (ChangeSpec.witness_shaped (enc := enc) (C := Tryd.checked) (os := os) (X := fun w _ => laidMetH Tryd.prog laid1 w) false (World.doorLaid Tryd.prog 400 os) #[.slice none 0 0, .agg #[.int .u8 0, .int .i32 0, .int .i32 0, .int .i32 0], .int .u8 0] 8 rfl (World.shaped_of_RefB (by kernel_rfl) (by kernel_rfl)) (by kernel_rfl) (by kernel_rfl) (by kernel_rfl) (door_met os _)) ?_
  intro W base args ds gs before hval0 hW _ _ hL _
  have hval : ∀ (j : Nat) t v, Tryd.f3.params[j]? = some t → args[j]? = some v → Value.okWide Tryd.prog W .any base t v := hval0
  have hW' := hW
  obtain ⟨p, q, hA0, hV, rfl, hfz, hnd⟩ := hW
  have hA : DataW.TrodAll enc Tryd.prog W 0 (fun _ => true) true Tryd.f3.params.toList args.toList ds p := hA0
  rw [Tryd.params3] at hA hval
  obtain ⟨v0, vs0, d0, ds0, p0, q0, hargs, rfl, rfl, h0, r0⟩ := trodAll_cons hA
  obtain ⟨v1, vs1, d1, ds1, p1, q1, rfl, rfl, rfl, h1, r1⟩ := trodAll_cons r0
  obtain ⟨v2, vs2, d2, ds2, p2, q2, rfl, rfl, rfl, h2, r2⟩ := trodAll_cons r1
  obtain ⟨rfl, rfl, rfl⟩ := trodAll_nil r2
  obtain rfl : args = #[v0, v1, v2] := by cases args; simp_all
  obtain ⟨rfl, rfl⟩ := trodVars_none hV
  obtain ⟨a0, len0, cap0, rfl⟩ := okWide_slice Tryd.underlying22 (hval 0 22 v0 rfl rfl)
  have k0 := h0
  have lt0 : ∀ x ∈ p0, x.block < W.heap.size := by obtain ⟨m, hm⟩ := k0; exact DataW.trod_lt m _ _ _ hm
  obtain ⟨z0, w0⟩ := open_comps (hval 0 22 _ rfl rfl) h0
  obtain ⟨k1, x1, y1, z1, rfl, rfl, rfl, wk1, wx1, wy1, wz1⟩ := open_comp (hval 1 25 v1 rfl rfl) h1
  obtain ⟨a2, rfl, rfl, rfl, w2⟩ := open_int Tryd.underlying5 (hval 2 5 v2 rfl rfl) h2
  clear hA0 hval0
  refine (storeMoves_walk W (of_laid hL) a0 len0 cap0 z0 w0 k1 wk1 x1 wx1 y1 wy1 z1 wz1 a2 w2).mono fun e W' ⟨he, bel⟩ => ?_
  subst he
  exact ⟨_, rfl, _, _, _, [], _, [], hW', trodAll_mk1 (shut_bool Tryd.underlying4 _), (trodAll_cons_mk (Below.trod laidOut (by kernel_rfl) (of_decide_eq_true (by kernel_rfl)) k0 bel lt0) (trodAll_cons_mk (shut_comp wk1 wx1 wy1 wz1) (trodAll_cons_mk (shut_int Tryd.underlying5 w2) trodAll_mk0))), rfl, bel.frame _, fun h => by cases h⟩

theorem storeMoves_row : Rows.StoreMovesSaid :=
  OpenClaim.holds_of_wide 3 Tryd.f3 rfl rfl rfl rfl rfl rfl rfl ⟨rfl, rfl, rfl, rfl, rfl⟩ rfl rfl rfl rfl rfl (by kernel_rfl) Tryd.func3 (by kernel_rfl)
    (of_decide_eq_true (by kernel_rfl)) (by unfold Func.isWrapper; first | (rw [if_pos (by decide +kernel)]; kernel_rfl) | (rw [if_neg (by decide +kernel)]; exact ⟨rfl, rfl⟩))
    (fun os started H enc _ => storeMoves_lifted os started H enc)

theorem storeMoves_holds : Rows.StoreMovesCardSaid :=
  Claim7.holds_tied_plain_at .later [] [.data] true (true, "9609a11bcd8af26e68e19aabc90910876199ae42134e492302ad5ec6d4758ae5") false
    storeMoves_row (fun _ h => by cases h) (by kernel_rfl) (fun _ h => by cases h) storeMoves_row_tie rfl ⟨rfl, rfl⟩ (by kernel_rfl) rfl
    (fun f fn hf hfn => by
      obtain rfl : f = 3 := Option.some.inj ((show Tryd.prog.funcNamed "pinnace/pinnacelaw11.StoreMoves" = some 3 by kernel_rfl).symm.trans hf) |>.symm
      obtain rfl : fn = Tryd.f3 := (Option.some.inj (Tryd.func3.symm.trans hfn)).symm
      exact ⟨by kernel_rfl, fun j t ht => by
        rw [Tryd.params3] at ht
        have hm : t ∈ [22, 25, 5] := by simpa using Array.mem_of_getElem? ht
        have hall : ([22, 25, 5].all fun u => !Tryd.prog.wantsStandIn u) = true := by kernel_rfl
        exact (show Tryd.prog.wantsStandIn t = false by simpa using List.all_eq_true.1 hall t hm)⟩)
    (by kernel_rfl)

end Go.Proofs.YtlaghbapnffhaaaDoor
