/-
  The packet's reader: lists of IDs.
-/
import Derived.Test.YtbencjopjdjepaaGreatDoorM39
import Derived.Test.YtbencjopjdjepaaGreatDoorM22
import Derived.Test.YtbencjopjdjepaaGreatDoorM25
import Derived.Test.YtbencjopjdjepaaGreatDoorM28
namespace Go.Proofs.YtbencjopjdjepaaGreatDoor
open Go.RowKit
set_option linter.unusedVariables false
set_option maxRecDepth 100000

theorem idsB_app (a : Nat) (X Y : List Nat) : idsB a (X ++ Y) = idsB a X ++ idsB (lastI a X) Y := by
  induction X generalizing a with
  | nil => rfl
  | cons x t ih => simp [idsB, lastI, ih x]
theorem idsB_at {G : List Nat} {j i : Nat} (h : G[j]? = some i) : idsB 0 G = idsB 0 (G.take j) ++ (idB (lastI 0 (G.take j)) i ++ idsB i (G.drop (j + 1))) := by
  have hj := (List.getElem?_eq_some_iff.1 h)
  have e : G = G.take j ++ (i :: G.drop (j + 1)) := by
    have h1 := List.drop_eq_getElem_cons hj.1
    rw [hj.2] at h1
    rw [← h1, List.take_append_drop]
  have e2 : idsB 0 G = idsB 0 (G.take j ++ (i :: G.drop (j + 1))) := by rw [← e]
  rw [e2, idsB_app]
  rfl
set_option maxHeartbeats 4000000 in
theorem rdids (w0 w : World) (l : List Thing) (b : Nat) (P : List Nat) (t : Nat) (G : List Nat) (R : List Bool) (h : Own w0 w (RdT b P t :: l)) (hup : G.Pairwise (· < ·)) (h1 : ∀ i ∈ G, 0 < i ∧ i < 4294967296) (hn : G.length ≤ 10000) (hb : (bitsB P).drop t = var G.length ++ (idsB 0 G ++ R)) :
    Calls Tryz.prog 152 #[.agg #[.pointer (some ⟨b, 0, none⟩)]] w fun e w' => ∃ ao cap, e = .returned (.slice ao G.length cap) ∧ Own w0 w' (grow1 G ao cap :: RdT b P (t + (var G.length).length + (idsB 0 G).length) :: l) := by
  obtain ⟨i0, hi, hz0, hz1, hz2⟩ := info3w Tryz.infoIDk
  have h2 := h.allocC #[.pointer (some ⟨b, 0, none⟩)] 123
  have q0 := h2.cell 0
  simp at q0
  have hv := rdgetVar w0 _ _ b P t G.length _ h2.two (by omega) hb
  rw [← length_var] at hv
  have H1 : Hid (Calls _ _ _ _ _) := hv
  have hbn := drop_next hb rfl
  have HN : Hid (G.Pairwise (· < ·) ∧ (∀ i ∈ G, 0 < i ∧ i < 4294967296) ∧ (bitsB P).drop (t + (var G.length).length) = idsB 0 G ++ R) := ⟨hup, h1, hbn⟩
  clear h h2 hv hb hbn hup h1
  generalize t + (var G.length).length = tn at *
  unfold grow1
  go_enter Tryz.func152, Tryz.ntmps152
  go_wp2_with fail
  refine H1.out.mono ?_
  rintro e w1 ⟨rfl, h3⟩
  generalize w.heap.size = bx at *
  have H2 : Hid (Own w0 w1 (RdT b P tn :: Row 62 1 (.slice none 0 0) 0 [] :: (Cells bx #[.pointer (some ⟨b, 0, none⟩)] 123 :: l))) := (h3.nilRow _ _).two
  clear h3 H1 q0
  go_wp2
  go_loopw [3, 4, 7] (fun x3 v4 v7 wr => ∃ (j : Nat) (ao : Option Addr) (cap : Nat), j ≤ G.length ∧ v7 = .int .u64 (j : Int) ∧ v4 = .int .u32 ((lastI 0 (G.take j) : Nat) : Int) ∧ x3 = .slice ao j cap ∧ Own w0 wr (RdT b P (tn + (idsB 0 (G.take j)).length) :: Row 62 1 (.slice ao j cap) j (irow .u32 (G.take j)) :: (Cells bx #[.pointer (some ⟨b, 0, none⟩)] 123 :: l))) (fun _ _ v7 _ => G.length - (intOf v7).toNat)
  case atStart => exact ⟨0, none, 0, Nat.zero_le _, rfl, rfl, rfl, H2.out⟩
  case round =>
    obtain ⟨j, ao, cap, hj, rfl, rfl, rfl, hO⟩ := hrel
    clear H2
    by_cases hlt : j < G.length
    · obtain ⟨i, hi2⟩ : ∃ i, G[j]? = some i := ⟨_, List.getElem?_eq_getElem hlt⟩
      have hlt' : (j : Int) < (G.length : Int) := by omega
      have htk : G.take (j + 1) = G.take j ++ [i] := by rw [List.take_add_one, hi2]; rfl
      have hil := (HN.out.2.1 i (List.mem_of_getElem? hi2)).2
      have hla : lastI 0 (G.take j) < i := lastI_lt (by rw [← htk]; exact HN.out.1.sublist (List.take_sublist _ _)) (fun x hx => (HN.out.2.1 x (by rw [← htk] at hx; exact List.mem_of_mem_take hx)).1)
      have hd0 := drop_next (show (bitsB P).drop tn = idsB 0 (G.take j) ++ (idB (lastI 0 (G.take j)) i ++ (idsB i (G.drop (j + 1)) ++ R)) by rw [HN.out.2.2, idsB_at hi2]; simp only [List.append_assoc]) rfl
      have hbx := hO.three.cell 0
      simp at hbx
      have HP : Hid (Calls _ _ _ _ _) := rdid w0 wr _ b P _ (lastI 0 (G.take j)) i _ hO hla hil hd0
      have HTK : Hid (tn + (idsB 0 (G.take (j + 1))).length = tn + (idsB 0 (G.take j)).length + (idB (lastI 0 (G.take j)) i).length ∧ lastI 0 (G.take (j + 1)) = i ∧ irow .u32 (G.take (j + 1)) = irow .u32 (G.take j) ++ [.int .u32 (i : Int)]) := by
        rw [htk, idsB_app, List.length_append]
        refine ⟨by simp [idsB]; omega, lastI_snoc _ _ _, by simp [irow]⟩
      obtain ⟨la, hlaE⟩ : ∃ la, la = lastI 0 (G.take j) := ⟨_, rfl⟩
      rw [← hlaE] at HP HTK
      rw [← hlaE]
      clear hO hla hlaE htk hd0 hi2
      generalize tn + (idsB 0 (G.take j)).length = tj at *
      generalize irow .u32 (G.take j) = rw0 at *
      go_wp2_with fail
      refine HP.out.mono ?_
      rintro e w2 ⟨rfl, h4⟩
      have H4 : Hid (Own w0 w2 _) := h4.two
      clear h4 HP hbx
      go_wp2_with (at_builtin; refine append1_own rfl _ _ 99 rfl 62 i0 _ 1 4 Tryz.underlying99 hi hz0 hz1 hz2 rfl (by decide) _ _ _ rfl H4.out _ #[.int .u32 (i : Int)] (by simp) rfl rfl (by intro u hu; simp at hu; subst hu; rfl) (by unfold maxLen; omega) (by omega) ?_; intro g6 c6 w6 h6 _; have H6 : Hid (Own w0 w6 _) := h6.two; clear h6)
      go_roundw
      case rel => exact ⟨j + 1, _, _, by omega, by go_num, by rw [HTK.out.2.1], rfl, by rw [HTK.out.1, HTK.out.2.2]; exact H6.out⟩
      case measure => simp [intOf]; omega
    · have hj2 : j = G.length := by omega
      subst hj2
      have hlt' : ¬ (G.length : Int) < (G.length : Int) := by omega
      have H6 : Hid (Own w0 wr (Row 62 1 (.slice ao G.length cap) G.length (irow .u32 G) :: RdT b P (tn + (idsB 0 G).length) :: l)) := by
        have := hO
        rw [List.take_of_length_le (Nat.le_refl _)] at this
        exact this.three.tail.two
      clear hO
      go_wp2
      go_ret
      exact ⟨ao, cap, rfl, H6.out⟩
end Go.Proofs.YtbencjopjdjepaaGreatDoor

/-
  Lists of entities that are alike; where they lie.
-/
namespace Go.Proofs.YtbencjopjdjepaaGreatDoor
open Go.RowKit
set_option linter.unusedVariables false
set_option maxRecDepth 100000

theorem evs_get {L M : List EnE} (h : evs L = evs M) {j : Nat} {x : EnE} (hx : L[j]? = some x) : ∃ y, M[j]? = some y ∧ y.id = x.id ∧ y.C = x.C := by
  have h1 : (evs M)[j]? = some (x.id, x.C) := by rw [← h]; exact evs_at hx
  unfold evs at h1
  rw [List.getElem?_map] at h1
  obtain ⟨y, hy, e⟩ := Option.map_eq_some_iff.1 h1
  simp only [Prod.mk.injEq] at e
  exact ⟨y, hy, e.1, e.2⟩
theorem evs_mem {L M : List EnE} (h : evs L = evs M) {x : EnE} (hx : x ∈ L) : ∃ y ∈ M, y.id = x.id ∧ y.C = x.C := by
  obtain ⟨j, hj⟩ := List.getElem?_of_mem hx
  obtain ⟨y, hy, e⟩ := evs_get h hj
  exact ⟨y, List.mem_of_getElem? hy, e⟩
theorem EIn.of_evs {L M : List EnE} (h : evs L = evs M) (hM : EIn M) : EIn L := fun x hx => by
  obtain ⟨y, hy, e1, e2⟩ := evs_mem h hx
  rw [← e1, ← e2]
  exact hM y hy
theorem csz_evs {L M : List EnE} (h : evs L = evs M) : csz L = csz M := by
  induction L generalizing M with
  | nil => cases M with
    | nil => rfl
    | cons y s => simp [evs] at h
  | cons x t ih =>
    cases M with
    | nil => simp [evs] at h
    | cons y s =>
      simp only [evs, List.map_cons, List.cons.injEq, Prod.mk.injEq] at h
      simp only [csz]
      rw [ih h.2, h.1.2]
theorem esz_evs {L M : List EnE} (h : evs L = evs M) : esz L = esz M := by
  have h1 := congrArg List.length h
  rw [evs_len, evs_len] at h1
  unfold esz
  rw [h1, csz_evs h]
theorem Own.entsCap {w0 w : World} {l : List Thing} {ao : Option Addr} {cap : Nat} {L : List EnE} (h : Own w0 w (EntsT ao cap L :: l)) : L.length ≤ cap ∧ cap ≤ 9223372036854775807 := by
  obtain ⟨_, h1⟩ := Own.ex_iff.1 h
  rcases h1.row.2 with ⟨hv, h0⟩ | ⟨g, cp, cur, hv, _, _, h3, h4, _⟩
  · simp only [Value.slice.injEq] at hv
    omega
  · simp only [Value.slice.injEq] at hv
    unfold maxLen at h4
    omega
end Go.Proofs.YtbencjopjdjepaaGreatDoor

/-
  The packet's reader: a Full's snapshot.
-/
namespace Go.Proofs.YtbencjopjdjepaaGreatDoor
open Go.RowKit
set_option linter.unusedVariables false
set_option maxRecDepth 100000

theorem eIn_of {M : List EnE} {N : List En} (h : evs M = N) (hid : ∀ x ∈ N, x.1 < 4294967296) (hok : ∀ x ∈ N, 1024 ≤ x.1 ∧ lst (-1) x.2 = 0 ∧ un x.2 = false) : EIn M := fun x hx => by
  have hm : (x.id, x.C) ∈ N := by rw [← h]; exact List.mem_map.2 ⟨x, hx, rfl⟩
  refine ⟨hid _ hm, fun q hq => ?_⟩
  have := (good_of (hok _ hm).2.1).2 q hq
  omega
theorem esz_of {M : List EnE} {N : List En} (h : evs M = N) : esz M = N.length + cszV N := by
  unfold esz
  rw [← h, evs_len, cszV_evs]
set_option maxHeartbeats 1000000 in
theorem rdsnap (w0 w : World) (ht : Tab w0) (l : List Thing) (b : Nat) (P : List Nat) (t : Nat) (N : List En) (R : List Bool) (h : Own w0 w (RdT b P t :: l)) (hf : fm 0 N = 0) (hid : ∀ x ∈ N, x.1 < 4294967296) (hz : N.length + cszV N ≤ 10000) (hb : (bitsB P).drop t = var N.length ++ (entsB 0 N ++ R)) :
    Calls Tryz.prog 117 #[.agg #[.pointer (some ⟨b, 0, none⟩)]] w fun e w' => ∃ ao cap, e = .returned (.slice ao N.length cap) ∧ ∃ M : List EnE, M.length = N.length ∧ evs M = N ∧ Own w0 w' (EntsT ao cap M :: RdT b P (t + (var N.length).length + (entsB 0 N).length) :: l) := by
  have hB := h.allocC #[.pointer (some ⟨b, 0, none⟩)] 123
  have q0 := hB.cell 0
  simp at q0
  have H1 : Hid (Calls _ _ _ _ _) := rdents w0 _ ht _ b P t N R hB.two (Snap.of hf).up (fm_each hf) hid (by omega) hb
  have HN : Hid (fm 0 N = 0 ∧ (∀ x ∈ N, x.1 < 4294967296) ∧ N.length + cszV N ≤ 10000 ∧ Tab w0) := ⟨hf, hid, hz, ht⟩
  clear h hB hb hf hid hz ht
  generalize t + (var N.length).length + (entsB 0 N).length = te at *
  go_enter Tryz.func117, Tryz.ntmps117
  go_wp2_with fail
  refine H1.out.mono ?_
  rintro e w1 ⟨ao, cap, rfl, M, hMl, hM, h1⟩
  have hfo := form_any w1 (HN.out.2.2.2.quiet h1.fr) ao N.length cap M h1.entsAt hMl (eIn_of hM HN.out.2.1 (fm_each HN.out.1)) (by rw [esz_of hM]; have := HN.out.2.2.1; omega)
  rw [hM, HN.out.1] at hfo
  have HF1 : Hid (Calls Tryz.prog 81 #[.slice ao N.length cap] w1 fun e w' => e = .returned (.int .i64 0) ∧ Fr Nobody w1 w') := hfo
  have HMM : Hid (M.length = N.length ∧ evs M = N) := ⟨hMl, hM⟩
  have H2 : Hid (Own w0 w1 (EntsT ao cap M :: RdT b P te :: l)) := h1.three.tail
  clear h1 H1 q0 hfo hMl hM
  go_wp2_with fail
  refine HF1.out.mono ?_
  rintro e w2 ⟨rfl, hf2⟩
  have HM : Hid (Calls _ _ _ _ _) := must_ok w2
  have H3 : Hid (Own w0 w2 _) := H2.out.quiet hf2
  clear hf2 HF1 H2
  go_wp2_with fail
  refine HM.out.mono ?_
  rintro e w3 ⟨rfl, rfl⟩
  clear HM
  go_wp2
  go_ret
  exact ⟨ao, cap, rfl, M, HMM.out.1, HMM.out.2, H3.out⟩
end Go.Proofs.YtbencjopjdjepaaGreatDoor

/-
  The packet's reader: components behind what they were.
-/
namespace Go.Proofs.YtbencjopjdjepaaGreatDoor
open Go.RowKit
set_option linter.unusedVariables false
set_option maxRecDepth 100000

theorem stpsB_at {A C : List Cp} {j : Nat} {q : Cp} (h : C[j]? = some q) : stpsB A C = stpsB A (C.take j) ++ (stpB A q ++ stpsB A (C.drop (j + 1))) := by
  have hj := (List.getElem?_eq_some_iff.1 h)
  have e : C = C.take j ++ (q :: C.drop (j + 1)) := by
    have h1 := List.drop_eq_getElem_cons hj.1
    rw [hj.2] at h1
    rw [← h1, List.take_append_drop]
  have e2 : stpsB A C = stpsB A (C.take j ++ (q :: C.drop (j + 1))) := by rw [← e]
  rw [e2, stpsB_app]
  rfl
set_option maxHeartbeats 4000000 in
theorem rdsteps (w0 w : World) (ht : Tab w0) (l : List Thing) (b : Nat) (P : List Nat) (t : Nat) (aa : Option Addr) (na ca : Nat) (A C : List Cp) (R : List Bool) (h : Own w0 w (RdT b P t :: l)) (hA : ∀ w', Own w0 w' l → Cs w' aa A) (hna : A.length = na) (hma : na ≤ 1000000) (hg : Good C) (hu : un C = false) (h0 : ∀ q ∈ C, ∃ y, fst A q.k = some y ∧ chk q.k (f3 y.a y.b y.c) = 0 ∧ chk q.k (f3 q.a q.b q.c) = 0) (hb : (bitsB P).drop t = stpsB A C ++ R) :
    Calls Tryz.prog 181 #[.agg #[.pointer (some ⟨b, 0, none⟩)], .slice aa na ca, .int .u8 ((msk C : Nat) : Int)] w fun e w' => ∃ ao cap, e = .returned (.slice ao C.length cap) ∧ Own w0 w' (Row 68 4 (.slice ao C.length cap) C.length (ccat C) :: RdT b P (t + (stpsB A C).length) :: l) := by
  obtain ⟨ic, hic, hz0, hz1, hz2⟩ := info_parts Tryz.infoComp
  have hkk := kl_kinds hg (un_has5 hu)
  have h1 := h.allocC #[.pointer (some ⟨b, 0, none⟩)] 123
  have hk0 := kinds_ok w0 _ _ h1 (msk C) (msk_lt32 hu)
  rw [hkk, List.length_map] at hk0
  have HK : Hid (Calls _ _ _ _ _) := hk0
  have hn : C.length ≤ 5 := by
    have := kl_len (msk C) 5
    rw [hkk, List.length_map] at this
    exact this
  have HCC : Hid ((∀ q ∈ C, ∃ y, fst A q.k = some y ∧ chk q.k (f3 y.a y.b y.c) = 0 ∧ chk q.k (f3 q.a q.b q.c) = 0) ∧ (bitsB P).drop t = stpsB A C ++ R) := ⟨h0, hb⟩
  have HAA : Hid ((∀ w', Own w0 w' l → Cs w' aa A) ∧ A.length = na ∧ na ≤ 1000000) := ⟨hA, hna, hma⟩
  have HTB : Hid (Tab w0) := ht
  have hm32 := msk_lt32 hu
  generalize msk C = mm at *
  clear h h1 hk0 hkk hg hu hb ht hA hna hma h0
  go_enter Tryz.func181, Tryz.ntmps181
  go_wp2_with fail
  refine HK.out.mono ?_
  rintro e w1 ⟨vk, rfl, h2⟩
  generalize w.heap.size = bx at *
  obtain ⟨ak, ck, hvk⟩ := row_any h2.row
  subst hvk
  have H2 : Hid (Own w0 w1 (Row 68 4 (.slice none 0 0) 0 [] :: RdT b P t :: Row 5 1 (.slice ak C.length ck) C.length (vrow (C.map (·.k))) :: Cells bx #[.pointer (some ⟨b, 0, none⟩)] 123 :: l)) := (h2.three.nilRow _ _)
  clear h2 HK
  go_wp2
  go_loopw [7, 15] (fun x5 vi wr => ∃ (j : Nat) (ao : Option Addr) (cap : Nat), j ≤ C.length ∧ vi = .int .i64 (j : Int) ∧ x5 = .slice ao j cap ∧ Own w0 wr (Row 68 4 (.slice ao j cap) j (ccat (C.take j)) :: RdT b P (t + (stpsB A (C.take j)).length) :: Row 5 1 (.slice ak C.length ck) C.length (vrow (C.map (·.k))) :: Cells bx #[.pointer (some ⟨b, 0, none⟩)] 123 :: l)) (fun _ vi _ => C.length - (intOf vi).toNat)
  case atStart => exact ⟨0, none, 0, Nat.zero_le _, rfl, rfl, H2.out⟩
  case round =>
    obtain ⟨j, ao, cap, hj, rfl, rfl, hO⟩ := hrel
    clear H2
    by_cases hlt : j < C.length
    · obtain ⟨q, hq⟩ : ∃ q, C[j]? = some q := ⟨_, List.getElem?_eq_getElem hlt⟩
      have hlt' : (j : Int) < (C.length : Int) := by omega
      have hrk := hO.three.row
      obtain ⟨gk, ck', hvk, -⟩ := row_shape hrk (by omega)
      cases hvk
      have hkc : wr.cell? ⟨gk, j, none⟩ = some (.int .u8 (q.k : Int)) := by
        rw [hrk.cellAt j (by omega), getElem?_vrow, List.getElem?_map, hq]; rfl
      have hbx := hO.four.cell 0
      simp at hbx
      have hd := drop_next (show (bitsB P).drop t = stpsB A (C.take j) ++ (stpB A q ++ (stpsB A (C.drop (j + 1)) ++ R)) by rw [HCC.out.2, stpsB_at hq]; simp only [List.append_assoc]) rfl
      obtain ⟨y, hy, hy0, hq0⟩ := HCC.out.1 q (List.mem_of_getElem? hq)
      have hyk : y.k = q.k := (fst_some hy).2
      have e1 : stpB A q = sbs q.k (f3 y.a y.b y.c) (f3 q.a q.b q.c) (cnt q.k) := by unfold stpB; rw [hy]
      obtain ⟨LL, hLL⟩ : ∃ LL, LL = (Row 68 4 (.slice ao j cap) j (ccat (C.take j)) :: Row 5 1 (.slice (some ⟨gk, 0, none⟩) C.length ck) C.length (vrow (C.map (·.k))) :: Cells bx #[.pointer (some ⟨b, 0, none⟩)] 123 :: l : List Thing) := ⟨_, rfl⟩
      have hO2 : Own w0 wr (RdT b P (t + (stpsB A (C.take j)).length) :: LL) := by rw [hLL]; exact hO.two
      have HLL : Hid (LL = (Row 68 4 (.slice ao j cap) j (ccat (C.take j)) :: Row 5 1 (.slice (some ⟨gk, 0, none⟩) C.length ck) C.length (vrow (C.map (·.k))) :: Cells bx #[.pointer (some ⟨b, 0, none⟩)] 123 :: l : List Thing)) := hLL
      have HBX : Hid (∀ Z X, Own w0 Z (X ++ LL) → Z.cell? ⟨bx, 0, none⟩ = some (.pointer (some ⟨b, 0, none⟩))) := fun Z X hZ => by
        rw [hLL] at hZ
        have := hZ.dropA.three.cell 0
        simpa using this
      have HOF : Hid (∀ Z, Own w0 Z (RdT b P (t + (stpsB A (C.take j)).length) :: LL) → Calls Tryz.prog 195 #[.slice aa na ca, .int .u8 (q.k : Int)] Z fun e w' => e = .returned (.agg #[.int .u8 (y.k : Int), .int .i32 y.a, .int .i32 y.b, .int .i32 y.c]) ∧ Own w0 w' (RdT b P (t + (stpsB A (C.take j)).length) :: LL)) := fun Z hZ => by
        have hl : Own w0 Z l := by have := hZ; rw [hLL] at this; exact this.tail.tail.tail.tail
        refine (ofKind_ok Z aa na ca A HAA.out.2.1 (HAA.out.1 Z hl) q.k y hy HAA.out.2.2).mono ?_
        rintro e w' ⟨rfl, hf⟩
        exact ⟨rfl, hZ.quiet hf⟩
      have HOF4 : Hid (∀ Z X, Own w0 Z (X :: RdT b P (t + (stpsB A (C.take j)).length) :: LL) → Calls Tryz.prog 195 #[.slice aa na ca, .int .u8 (q.k : Int)] Z fun e w' => e = .returned (.agg #[.int .u8 (y.k : Int), .int .i32 y.a, .int .i32 y.b, .int .i32 y.c]) ∧ Own w0 w' (X :: RdT b P (t + (stpsB A (C.take j)).length) :: LL)) := fun Z X hZ => by
        have hl : Own w0 Z l := by have := hZ; rw [hLL] at this; exact this.tail.tail.tail.tail.tail
        refine (ofKind_ok Z aa na ca A HAA.out.2.1 (HAA.out.1 Z hl) q.k y hy HAA.out.2.2).mono ?_
        rintro e w' ⟨rfl, hf⟩
        exact ⟨rfl, hZ.quiet hf⟩
      have HG4 : Hid (∀ Z X, Own w0 Z (X :: RdT b P (t + (stpsB A (C.take j)).length) :: LL) → Calls Tryz.prog 203 #[.pointer (some ⟨b, 0, none⟩), .agg #[.int .u8 (y.k : Int), .int .i32 y.a, .int .i32 y.b, .int .i32 y.c]] Z fun e w' => e = .returned (.tuple #[.agg #[.int .u8 (q.k : Int), .int .i32 q.a, .int .i32 q.b, .int .i32 q.c], .int .i64 0]) ∧ Own w0 w' (X :: RdT b P (t + (stpsB A (C.take j)).length + (stpB A q).length) :: LL)) := fun Z X hZ => by
        have hd2 := hd
        rw [e1] at hd2 ⊢
        refine (stepC_own w0 Z HTB.out (X :: LL) b P _ y q _ hZ.two hyk hd2 hy0 hq0).mono ?_
        rintro e w' ⟨rfl, hw⟩
        exact ⟨rfl, hw.two⟩
      have HG : Hid (∀ Z, Own w0 Z (RdT b P (t + (stpsB A (C.take j)).length) :: LL) → Calls Tryz.prog 203 #[.pointer (some ⟨b, 0, none⟩), .agg #[.int .u8 (y.k : Int), .int .i32 y.a, .int .i32 y.b, .int .i32 y.c]] Z fun e w' => e = .returned (.tuple #[.agg #[.int .u8 (q.k : Int), .int .i32 q.a, .int .i32 q.b, .int .i32 q.c], .int .i64 0]) ∧ Own w0 w' (RdT b P (t + (stpsB A (C.take j)).length + (stpB A q).length) :: LL)) := fun Z hZ => by
        have hd2 := hd
        rw [e1] at hd2 ⊢
        exact stepC_own w0 Z HTB.out LL b P _ y q _ hZ hyk hd2 hy0 hq0
      have HTK : Hid (t + (stpsB A (C.take (j + 1))).length = t + (stpsB A (C.take j)).length + (stpB A q).length ∧ ccat (C.take (j + 1)) = ccat (C.take j) ++ [.int .u8 (q.k : Int), .int .i32 q.a, .int .i32 q.b, .int .i32 q.c]) := by
        rw [List.take_add_one, hq, stpsB_app, List.length_append]
        refine ⟨by simp [stpsB]; omega, ?_⟩
        unfold ccat cat
        rw [List.flatMap_append]
        simp [Cp.cs]
      have hq8 : q.k < 6 := (chk_ok _ _ hq0).1
      have HO2 : Hid (Own w0 wr (RdT b P (t + (stpsB A (C.take j)).length) :: LL)) := hO2
      clear hO hO2 hrk hd hq0 hq hy hy0 hyk e1 hLL
      obtain ⟨qk, qa, qb, qc⟩ := q
      simp only at hkc HG HG4 HTK hq8 HOF HOF4
      generalize t + (stpsB A (C.take j)).length = tj at *
      generalize (stpB A ⟨qk, qa, qb, qc⟩).length = cl at *
      generalize ccat (C.take j) = cc at *
      have HGK : Hid (∀ Z X, Own w0 Z (X ++ LL) → Z.heap.size ≠ bx) := fun Z X hZ => by
        have := World.block_lt_of_cell? Z _ (HBX.out Z X hZ)
        simp only at this
        omega
      go_wp2
      go_cut [10, 11] (fun s10 s11 wc => ∃ b10 : Nat, s10 = .pointer (some ⟨b10, 0, none⟩) ∧ s11 = .int .i64 0 ∧ Own w0 wc (Cells b10 #[.int .u8 (qk : Int), .int .i32 qa, .int .i32 qb, .int .i32 qc] 68 :: RdT b P (tj + cl) :: LL))
      case first =>
        have p0 := HBX.out wr [_] HO2.out
        have O1 := HO2.out.drew
        have O1b := (HO2.out.allocC #[.int .u8 0, .int .i32 0, .int .i32 0, .int .i32 0] 68).drew
        have z3 : wr.heap.size ≠ bx := HGK.out wr [_] HO2.out
        go_region_held3 (fun w' => w'.cell? ⟨bx, 0, none⟩ = some (.pointer (some ⟨b, 0, none⟩))) (go_keep)
          (first
            | (go_at_call 195; with_reducible refine (HOF.out _ O1).mono ?_; rintro e w5 ⟨rfl, O5⟩
               have u0 := HBX.out _ [_] O5
               have z1 := HGK.out w5 [_] O5)
            | (go_at_call 203; with_reducible refine (HG.out _ O5).mono ?_; rintro e w6 ⟨rfl, O6⟩
               have u0 := HBX.out _ [_] O6
               have z1 := HGK.out w6 [_] O6)
            | (go_at_call 195; with_reducible refine (HOF4.out _ _ O1b).mono ?_; rintro e w7 ⟨rfl, O7⟩
               have x0 := Own.cell O7 0
               have y0 := Own.froz O7 0
               have x1 := Own.cell O7 1
               have y1 := Own.froz O7 1
               have x2 := Own.cell O7 2
               have y2 := Own.froz O7 2
               have x3 := Own.cell O7 3
               have y3 := Own.froz O7 3
               have u0 := HBX.out _ [_, _] O7
               simp at x0 x1 x2 x3)
            | (go_at_call 203; with_reducible refine (HG4.out _ _ (O5.allocC _ _)).mono ?_; rintro e w8 ⟨rfl, O8⟩
               have x0 := Own.cell O8 0
               have y0 := Own.froz O8 0
               have x1 := Own.cell O8 1
               have y1 := Own.froz O8 1
               have x2 := Own.cell O8 2
               have y2 := Own.froz O8 2
               have x3 := Own.cell O8 3
               have y3 := Own.froz O8 3
               have u0 := HBX.out _ [_, _] O8
               simp at x0 x1 x2 x3)
            | (go_at_call 203; with_reducible refine (HG4.out _ _ O7).mono ?_; rintro e w8 ⟨rfl, O8⟩
               have x0 := Own.cell O8 0
               have y0 := Own.froz O8 0
               have x1 := Own.cell O8 1
               have y1 := Own.froz O8 1
               have x2 := Own.cell O8 2
               have y2 := Own.froz O8 2
               have x3 := Own.cell O8 3
               have y3 := Own.froz O8 3
               have u0 := HBX.out _ [_, _] O8
               simp at x0 x1 x2 x3)
            | fail)
        all_goals
          go_wp2
          go_meet
          case rel =>
            first
              | exact ⟨_, rfl, rfl, O6.allocC _ _⟩
              | exact ⟨_, rfl, rfl, by simpa using (((O8.setC 0 _).setC 1 _).setC 2 _).setC 3 _⟩
      case rest =>
        obtain ⟨bq, rfl, rfl, h4a⟩ := hcut
        have h4 := h4a
        rw [HLL.out] at h4
        have HM : Hid (Calls Tryz.prog 115 #[.int .i64 0] wc fun e w' => e = .returned (.tuple #[]) ∧ Own w0 w' (Cells bq #[.int .u8 (qk : Int), .int .i32 qa, .int .i32 qb, .int .i32 qc] 68 :: RdT b P (tj + cl) :: Row 68 4 (.slice ao j cap) j cc :: Row 5 1 (.slice (some ⟨gk, 0, none⟩) C.length ck) C.length (vrow (C.map (·.k))) :: Cells bx #[.pointer (some ⟨b, 0, none⟩)] 123 :: l)) := by
          refine (must_ok _).mono ?_
          rintro e w' ⟨rfl, rfl⟩
          exact ⟨rfl, h4⟩
        clear h4 h4a HG HG4 HOF HOF4 HBX HGK HO2 hbx hkc
        go_wp2_with fail
        refine HM.out.mono ?_
        rintro e w3 ⟨rfl, h5⟩
        have u0 := h5.cell 0
        have u1 := h5.cell 1
        have u2 := h5.cell 2
        have u3 := h5.cell 3
        simp at u0 u1 u2 u3
        have H5 : Hid (Own w0 w3 _) := h5.three
        clear h5 HM
        go_wp2_with (at_builtin; refine append1_own rfl _ _ 63 rfl 68 ic _ 4 16 Tryz.underlying63 hic hz0 hz1 hz2 rfl (by decide) _ _ _ rfl H5.out _ #[.int .u8 (qk : Int), .int .i32 qa, .int .i32 qb, .int .i32 qc] (by simp) rfl rfl (by intro u hu; simp at hu; rcases hu with rfl | rfl | rfl | rfl <;> rfl) (by unfold maxLen; omega) (by omega) ?_; intro g6 c6 w6 h6 _; have H6 : Hid (Own w0 w6 _) := h6; clear h6)
        go_roundw
        case rel => exact ⟨j + 1, _, _, by omega, by go_num, rfl, by rw [HTK.out.1, HTK.out.2]; exact H6.out.two.tail⟩
        case measure => simp [intOf]; omega
    · have hj2 : j = C.length := by omega
      subst hj2
      have hlt' : ¬ (C.length : Int) < (C.length : Int) := by omega
      have H6 : Hid (Own w0 wr (Row 68 4 (.slice ao C.length cap) C.length (ccat C) :: RdT b P (t + (stpsB A C).length) :: l)) := by
        have := hO
        rw [List.take_of_length_le (Nat.le_refl _)] at this
        exact this.three.tail.three.tail
      clear hO
      go_wp2
      go_ret
      exact ⟨ao, cap, rfl, H6.out⟩
end Go.Proofs.YtbencjopjdjepaaGreatDoor

