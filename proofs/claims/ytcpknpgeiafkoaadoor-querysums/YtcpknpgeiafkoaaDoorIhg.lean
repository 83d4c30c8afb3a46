/-
  Entities that are made in a store and in the document's: fill.
-/
import Derived.Test.YtcpknpgeiafkoaaDoorIeg
import Derived.Test.YtcpknpgeiafkoaaDoorDlg
import Derived.Test.YtcpknpgeiafkoaaDoorXpg
namespace Go.Proofs.YtcpknpgeiafkoaaDoor
open Go.RowKit Go.Maps
set_option linter.unusedVariables false
set_option maxRecDepth 100000

/-- an entity that is made; g: it goes again -/
structure MkE where
  C : List Cp
  ao : Option Addr
  cap : Nat
  g : Bool
def M2 (w : World) (g p : Nat) (x : MkE) : Prop := w.cell? ⟨g, p, none⟩ = some (.slice x.ao x.C.length x.cap) ∧ w.cell? ⟨g, p + 1, none⟩ = some (.bool x.g)
def Mks (w : World) (ao : Option Addr) (L : List MkE) : Prop := (L = [] ∨ ∃ g o, ao = some ⟨g, o, none⟩ ∧ ∀ (j : Nat) x, L[j]? = some x → M2 w g (o + j * 2) x) ∧ ∀ x ∈ L, Cs w x.ao x.C
theorem Mks.at {w : World} {ao : Option Addr} {L : List MkE} (h : Mks w ao L) (j : Nat) (x : MkE) (hx : L[j]? = some x) : ∃ g o, ao = some ⟨g, o, none⟩ ∧ M2 w g (o + j * 2) x := by
  rcases h.1 with h | ⟨g, o, ha, hc⟩
  · subst h; simp at hx
  · exact ⟨g, o, ha, hc j x hx⟩
theorem M2.quiet {w w' : World} {g p : Nat} {x : MkE} (h : M2 w g p x) (hf : Fr Nobody w w') : M2 w' g p x := by
  obtain ⟨h0, h1⟩ := h
  have hb := World.block_lt_of_cell? w _ h0
  exact ⟨(hf.cell (p := ⟨g, p, none⟩) hb (fun h => h)).trans h0, (hf.cell (p := ⟨g, p + 1, none⟩) hb (fun h => h)).trans h1⟩
theorem Mks.quiet {w w' : World} {ao : Option Addr} {L : List MkE} (h : Mks w ao L) (hf : Fr Nobody w w') : Mks w' ao L := by
  refine ⟨?_, fun x hx => (h.2 x hx).quiet hf⟩
  rcases h.1 with h | ⟨g, o, ha, hc⟩
  · exact .inl h
  · exact .inr ⟨g, o, ha, fun j x hx => (hc j x hx).quiet hf⟩
theorem Cs.tk {w : World} {ao : Option Addr} {C : List Cp} (h : Cs w ao C) (k : Nat) : Cs w ao (C.take k) := h.take k
def fstep (s : Sto × List Nat) (x : MkE) : Sto × List Nat := ((s.1.spawn (x.C.take 20)).2.2, s.2 ++ if x.g then [(s.1.spawn (x.C.take 20)).1] else [])
def fill1 (Q : List MkE) : Sto × List Nat := (Q.take 60).foldl fstep (Sto.new 60 1, [])
def fill2 (σ : Sto) (ids : List Nat) : Sto := ids.foldl (fun σ id => (σ.despawn id).2) σ
def fillS (Q : List MkE) : Sto := fill2 (fill1 Q).1 (fill1 Q).2
theorem Sto.spawn_lt {σ : Sto} (h : σ.Ok) (C : List Cp) : (σ.spawn C).1 < 4294967296 := by
  unfold Sto.spawn
  split
  · show (0 : Nat) < _; decide
  · split
    · show (0 : Nat) < _; decide
    · rename_i h1
      have hL := h.take (by simpa using h1)
      exact (St.live_lt hL.s hL.li).1
theorem fold_ok (L : List MkE) (s : Sto × List Nat) (h : s.1.Ok ∧ (∀ i ∈ s.2, i < 4294967296)) : ((L.foldl fstep s).1.Ok ∧ ∀ i ∈ (L.foldl fstep s).2, i < 4294967296) ∧ (L.foldl fstep s).2.length ≤ s.2.length + L.length := by
  induction L generalizing s with
  | nil => exact ⟨h, Nat.le_refl _⟩
  | cons x L ih =>
    have h1 : (fstep s x).1.Ok ∧ ∀ i ∈ (fstep s x).2, i < 4294967296 := by
      refine ⟨Sto.spawn_ok h.1 _, ?_⟩
      intro i hi
      rcases List.mem_append.1 hi with hi | hi
      · exact h.2 i hi
      · cases hg : x.g with
        | true => rw [hg] at hi; simp at hi; rw [hi]; exact Sto.spawn_lt h.1 _
        | false => rw [hg] at hi; simp at hi
    obtain ⟨h2, h3⟩ := ih _ h1
    refine ⟨h2, Nat.le_trans h3 ?_⟩
    have : (fstep s x).2.length ≤ s.2.length + 1 := by
      unfold fstep; simp only [List.length_append]
      cases x.g <;> simp
    simp only [List.length_cons]; omega
theorem new60 : (Sto.new 60 1).Ok := Sto.new_ok 60 1 (by decide) (by decide) (by decide) (by decide)
theorem fold_part (Q : List MkE) (j : Nat) (hj : j ≤ 60) : (((Q.take j).foldl fstep (Sto.new 60 1, [])).1.Ok ∧ ∀ i ∈ ((Q.take j).foldl fstep (Sto.new 60 1, [])).2, i < 4294967296) ∧ ((Q.take j).foldl fstep (Sto.new 60 1, [])).2.length ≤ 60 := by
  obtain ⟨h1, h2⟩ := fold_ok (Q.take j) (Sto.new 60 1, []) ⟨new60, by simp⟩
  refine ⟨h1, Nat.le_trans h2 ?_⟩
  simp only [List.length_nil, List.length_take]; omega
theorem fill2_ok (ids : List Nat) (σ : Sto) (h : σ.Ok) : (fill2 σ ids).Ok := by
  induction ids generalizing σ with
  | nil => exact h
  | cons a ids ih => exact ih _ (Sto.despawn_ok h a)
theorem fillS_ok (Q : List MkE) : (fillS Q).Ok := fill2_ok _ _ (fold_part Q 60 (Nat.le_refl _)).1.1
set_option maxHeartbeats 4000000 in
theorem fill_ok (w0 w : World) (l : List Thing) (h : Own w0 w l) (ht : Tab w0) (ao : Option Addr) (n cap : Nat) (Q : List MkE) (hn : Q.length = n) (hn6 : n ≤ 9223372036854775807) (hQ : ∀ w', Own w0 w' l → Mks w' ao Q) (hw : ∀ x ∈ Q, x.C.length ≤ x.cap ∧ x.cap ≤ 9223372036854775807 ∧ ∀ q ∈ x.C, q.k < 256) :
    Calls Tryd.prog 8 #[.slice ao n cap] w fun e w' => ∃ b bx, e = .returned (.tuple #[.pointer (some ⟨b, 0, none⟩), .pointer (some ⟨bx, 0, none⟩)]) ∧ Own w0 w' (Store b (fillS Q) 120 :: RSto bx (fillS Q) 120 :: l) := by
  obtain ⟨i0, hi, hz0, hz1, hz2⟩ := info_parts Tryd.infoID2
  have HN : Hid (Q.length = n) := hn
  have HQ : Hid (∀ w', Own w0 w' l → Mks w' ao Q) := hQ
  have HW : Hid (∀ x ∈ Q, x.C.length ≤ x.cap ∧ x.cap ≤ 9223372036854775807 ∧ ∀ q ∈ x.C, q.k < 256) := hw
  have HT : Hid (Tab w0) := ht
  have HS1 : Hid (Calls _ _ _ _ _) := snew w0 w l 60 1 h (by decide) (by decide) (by decide) (by decide)
  have HS2 : Hid (∀ w' l', Own w0 w' l' → Calls Tryd.prog 22 #[.int .i64 60, .int .i64 1] w' fun e w'' => ∃ b, e = .returned (.tuple #[.pointer (some ⟨b, 0, none⟩), .int .i64 0]) ∧ Own w0 w'' (RSto b (Sto.new 60 1) 0 :: l')) := fun w' l' h' => rnewS w0 w' l' h' 60 1 (by decide) (by decide) (by decide) (by decide)
  have HFP : Hid (∀ j, j ≤ 60 → (((Q.take j).foldl fstep (Sto.new 60 1, [])).1.Ok ∧ ∀ i ∈ ((Q.take j).foldl fstep (Sto.new 60 1, [])).2, i < 4294967296) ∧ ((Q.take j).foldl fstep (Sto.new 60 1, [])).2.length ≤ 60) := fun j hj => fold_part Q j hj
  clear h hn hQ hw ht
  go_enter Tryd.func8, Tryd.ntmps8
  go_wp2_with fail
  refine HS1.out.mono ?_
  rintro e w1 ⟨b, rfl, hO1⟩
  have H1 : Hid (Own w0 w1 _) := hO1
  clear hO1 HS1
  go_wp2_with fail
  refine (HS2.out _ _ H1.out).mono ?_
  rintro e w2 ⟨bx, rfl, hO2⟩
  have H2 : Hid (Own w0 w2 (Store b (Sto.new 60 1) 0 :: RSto bx (Sto.new 60 1) 0 :: l)) := hO2.two
  clear hO2 HS2 H1
  go_wp2
  go_loopw [8, 25] (fun iv jv wr => ∃ j : Nat, j ≤ n ∧ j ≤ 60 ∧ jv = .int .i64 j ∧ ∃ (σ : Sto) (ids : List Nat) (ra : Option Addr) (rc : Nat), (Q.take j).foldl fstep (Sto.new 60 1, []) = (σ, ids) ∧ iv = .slice ra ids.length rc ∧ Own w0 wr (Row 44 1 (.slice ra ids.length rc) ids.length (irow .u32 ids) :: Store b σ j :: RSto bx σ j :: l)) (fun _ jv _ => n - (intOf jv).toNat)
  case atStart => exact ⟨0, Nat.zero_le _, Nat.zero_le _, rfl, Sto.new 60 1, [], none, 0, by simp, rfl, H2.out.nilRow _ _⟩
  case round =>
    obtain ⟨j, hj, hj6, rfl, σ, ids, ra, rc, hfs, rfl, hO⟩ := hrel
    clear H2
    obtain ⟨⟨hok, hids⟩, hidl⟩ := HFP.out j hj6
    rw [hfs] at hok hids hidl
    simp only at hok hids hidl
    have HO : Hid (Own w0 wr _) := hO
    have HFS : Hid ((Q.take j).foldl fstep (Sto.new 60 1, []) = (σ, ids)) := hfs
    clear hfs
    by_cases hlt : j < n
    · have hlt' : (j : Int) < (n : Int) := by omega
      obtain ⟨x, hx⟩ : ∃ x, Q[j]? = some x := ⟨_, List.getElem?_eq_getElem (by rw [HN.out]; exact hlt)⟩
      obtain ⟨g, off, hao, c0, c1⟩ := (HQ.out wr hO.tail.tail.tail).at j x hx
      subst hao
      by_cases h60 : j < 60
      · have h60' : ¬ (60 : Int) ≤ (j : Int) := by omega
        obtain ⟨hw1, hw2, hCk⟩ := HW.out x (List.mem_of_getElem? hx)
        obtain ⟨k, hk⟩ : ∃ k, k = min x.C.length 20 := ⟨_, rfl⟩
        have hmin : min (x.C.length : Int) 20 = (k : Int) := by omega
        have hk1 : k ≤ x.C.length := by omega
        have hk2 : k ≤ x.cap := by omega
        have hk20 : k ≤ 20 := by omega
        have hkC : (x.C.take 20).length = k := by rw [List.length_take, hk, Nat.min_comm]
        have hCk2 : ∀ q ∈ x.C.take 20, q.k < 256 := fun q hq => hCk q (List.mem_of_mem_take hq)
        have hCS : ∀ w', Own w0 w' l → Cs w' x.ao (x.C.take 20) := fun w' h' => ((HQ.out w' h').2 x (List.mem_of_getElem? hx)).tk 20
        have hA := hO.allocC #[.slice x.ao k x.cap, .bool x.g] 60
        have HTW : Hid (Calls _ _ _ _ _) := twin_any w0 _ _ hA x.ao k x.cap (x.C.take 20) hkC (hCS _ hA.tail.tail.tail.tail) (by omega)
        have HSP : Hid (∀ w' a2 c2, Own w0 w' (Row 58 4 (.slice a2 k c2) k (ccat (x.C.take 20)) :: Cells wr.heap.size #[.slice x.ao k x.cap, .bool x.g] 60 :: Row 44 1 (.slice ra ids.length rc) ids.length (irow .u32 ids) :: Store b σ j :: RSto bx σ j :: l) → Calls Tryd.prog 23 #[.pointer (some ⟨b, 0, none⟩), .slice a2 k c2] w' fun e w'' => e = .returned (.tuple #[.int .u32 ((σ.spawn (x.C.take 20)).1 : Int), .int .i64 (σ.spawn (x.C.take 20)).2.1]) ∧ Own w0 w'' (Cells wr.heap.size #[.slice x.ao k x.cap, .bool x.g] 60 :: Row 44 1 (.slice ra ids.length rc) ids.length (irow .u32 ids) :: Store b (σ.spawn (x.C.take 20)).2.2 (j + 1) :: RSto bx σ j :: l)) := by
          intro w' a2 c2 h'
          refine (spawnC w0 w' _ b σ j HT.out h'.four hok a2 k c2 (x.C.take 20) hkC (fun w'' h'' => Own.rcs2 h'' hkC) hCk2 (by omega) (by omega)).mono ?_
          rintro e w'' ⟨rfl, h2⟩
          exact ⟨rfl, h2.two.tail.back3⟩
        have HRS : Hid (∀ w', Own w0 w' (Cells wr.heap.size #[.slice x.ao k x.cap, .bool x.g] 60 :: Row 44 1 (.slice ra ids.length rc) ids.length (irow .u32 ids) :: Store b (σ.spawn (x.C.take 20)).2.2 (j + 1) :: RSto bx σ j :: l) → Calls Tryd.prog 25 #[.pointer (some ⟨bx, 0, none⟩), .slice x.ao k x.cap] w' fun e w'' => e = .returned (.tuple #[.int .u32 ((σ.spawn (x.C.take 20)).1 : Int), .int .i64 (σ.spawn (x.C.take 20)).2.1]) ∧ Own w0 w'' (Cells wr.heap.size #[.slice x.ao k x.cap, .bool x.g] 60 :: Row 44 1 (.slice ra ids.length rc) ids.length (irow .u32 ids) :: Store b (σ.spawn (x.C.take 20)).2.2 (j + 1) :: RSto bx (σ.spawn (x.C.take 20)).2.2 (j + 1) :: l)) := by
          intro w' h'
          refine (rspawnC w0 w' _ bx σ j h'.four hok x.ao k x.cap (x.C.take 20) hkC (fun w'' h'' => hCS _ h''.tail.tail.tail) hCk2 (by omega) (by omega)).mono ?_
          rintro e w'' ⟨rfl, h2⟩
          exact ⟨rfl, h2.back4⟩
        have HFJ : Hid ((Q.take (j + 1)).foldl fstep (Sto.new 60 1, []) = ((σ.spawn (x.C.take 20)).2.2, ids ++ if x.g then [(σ.spawn (x.C.take 20)).1] else [])) := by
          show _ = _
          rw [List.take_add_one, hx]
          simp only [Option.toList_some, List.foldl_append, List.foldl_cons, List.foldl_nil, HFS.out]
          rfl
        clear hO hA hx hCk hCk2 hCS hkC hk hok hids HFS
        generalize σ.spawn (x.C.take 20) = sp at *
        obtain ⟨sid, ser, σ2⟩ := sp
        obtain ⟨xC, xa, xc, xg⟩ := x
        simp only at c0 c1 hmin hk1 hk2 hw1 hw2 HTW HSP HRS HFJ
        generalize xC.length = xl at *
        go_wp2_with fail
        refine HTW.out.mono ?_
        rintro e w3 ⟨a2, c2, rfl, hO3⟩
        have HSP3 : Hid (Calls _ _ _ _ _) := HSP.out _ _ _ hO3
        clear hO3 HTW HSP c0 c1 HO
        go_wp2_with fail
        refine HSP3.out.mono ?_
        rintro e w4 ⟨rfl, hO4⟩
        have q0 := hO4.cell 0
        simp at q0
        have HRS4 : Hid (Calls _ _ _ _ _) := HRS.out _ hO4
        clear hO4 HSP3 HRS
        go_wp2_with fail
        refine HRS4.out.mono ?_
        rintro e w5 ⟨rfl, hO5⟩
        have q1 := hO5.cell 1
        simp at q1
        have H5 : Hid (Own w0 w5 (Row 44 1 (.slice ra ids.length rc) ids.length (irow .u32 ids) :: Store b σ2 (j + 1) :: RSto bx σ2 (j + 1) :: l)) := hO5.tail
        clear hO5 HRS4 q0
        cases xg with
        | false =>
          simp only [Bool.false_eq_true, if_false, List.append_nil] at HFJ
          go_wp2
          go_roundw
          case rel => exact ⟨j + 1, by omega, by omega, by go_num, σ2, ids, ra, rc, HFJ.out, rfl, H5.out⟩
          case measure => simp [intOf]; omega
        | true =>
          simp only [if_true] at HFJ
          generalize hil : ids.length = il at *
          have HIL : Hid (ids.length = il) := hil
          clear hil
          go_wp2_with (at_builtin; refine append1_own rfl _ _ 28 rfl 44 i0 (.int .u32 0) 1 4 Tryd.underlying28 hi hz0 hz1 hz2 rfl (by decide) _ _ _ rfl H5.out _ _ (by simp) rfl rfl (one_int _ _) (by unfold maxLen; omega) (by omega) ?_)
          intro g6 c6 w6 hO6 hsz6
          have H6 : Hid (Own w0 w6 (Row 44 1 (.slice (some ⟨g6, 0, none⟩) (ids ++ [sid]).length c6) (ids ++ [sid]).length (irow .u32 (ids ++ [sid])) :: Store b σ2 (j + 1) :: RSto bx σ2 (j + 1) :: l)) := by
            show Own _ _ _
            rw [List.length_append, HIL.out]
            simpa [irow] using hO6
          have HIL2 : Hid ((ids ++ [sid]).length = il + 1) := by show _ = _; rw [List.length_append, HIL.out]; rfl
          clear hO6 hsz6 H5
          go_wp2
          go_roundw
          case rel => exact ⟨j + 1, by omega, by omega, by go_num, σ2, ids ++ [sid], _, _, HFJ.out, by rw [HIL2.out], H6.out⟩
          case measure => simp [intOf]; omega
      · have h60' : (60 : Int) ≤ (j : Int) := by omega
        have hj60 : j = 60 := by omega
        have HF1 : Hid (fill1 Q = (σ, ids)) := by have := HFS.out; rw [hj60] at this; exact this
        clear hx hj60
        have HR : Hid (fillS Q = fill2 σ ids) := by show _ = _; unfold fillS; rw [HF1.out]
        have H60 : Hid (Own w0 wr (Row 44 1 (.slice ra ids.length rc) ids.length (irow .u32 ids) :: Store b (fill2 σ (ids.take 0)) (60 + 0) :: RSto bx (fill2 σ (ids.take 0)) (60 + 0) :: l)) := (Own.rstoK (K' := 60) hj6 ((hO.two.stoK (K' := 60) hj6).three)).three.in23
        have HOK : Hid (σ.Ok) := hok
        have HID : Hid (∀ i ∈ ids, i < 4294967296) := hids
        obtain ⟨il, hil⟩ : ∃ il, ids.length = il := ⟨_, rfl⟩
        rw [hil] at H60 hidl
        rw [hil]
        have HIL : Hid (ids.length = il) := hil
        clear hO hok hids hil HO HFS HF1 HFP
        have H60a : Hid (Own w0 _ _) := H60.out.alloc (.cells #[.slice x.ao x.C.length x.cap, .bool x.g] 60)
        obtain ⟨xC, xa, xc, xg⟩ := x
        simp only at c0 c1 H60a
        go_wp2
        go_loopw [61] (fun jv wr2 => ∃ i : Nat, i ≤ il ∧ jv = .int .i64 i ∧ Own w0 wr2 (Row 44 1 (.slice ra il rc) il (irow .u32 ids) :: Store b (fill2 σ (ids.take i)) (60 + i) :: RSto bx (fill2 σ (ids.take i)) (60 + i) :: l)) (fun jv _ => il - (intOf jv).toNat)
        case atStart => exact ⟨0, Nat.zero_le _, rfl, H60a.out⟩
        case round =>
          obtain ⟨i, hii, rfl, hO⟩ := hrel
          clear H60 H60a
          by_cases hilt : i < il
          · have hilt' : (i : Int) < (il : Int) := by omega
            obtain ⟨id, hid⟩ : ∃ id, ids[i]? = some id := ⟨_, List.getElem?_eq_getElem (by rw [HIL.out]; exact hilt)⟩
            have hid32 := HID.out id (List.mem_of_getElem? hid)
            obtain ⟨g2, cp2, hv2, _⟩ := row_shape hO.row (by omega)
            have hra := (Value.slice.inj hv2).1
            subst hra
            have q : (wr).cell? ⟨g2, i, none⟩ = some (.int .u32 (id : Int)) := by
              rw [hO.row.cellAt _ (by omega), getElem?_irow, hid]; rfl
            have hst : fill2 σ (ids.take (i + 1)) = ((fill2 σ (ids.take i)).despawn id).2 := by
              unfold fill2
              rw [List.take_add_one, hid]
              simp only [Option.toList_some, List.foldl_append, List.foldl_cons, List.foldl_nil]
            have HST : Hid (fill2 σ (ids.take (i + 1)) = ((fill2 σ (ids.take i)).despawn id).2) := hst
            have hok2 := fill2_ok (ids.take i) σ HOK.out
            have HD1 : Hid (Calls _ _ _ _ _) := despawnC w0 _ _ b _ (60 + i) hO.two hok2 id hid32 (by omega)
            have HD2 : Hid (∀ w' l', Own w0 w' (RSto bx (fill2 σ (ids.take i)) (60 + i) :: l') → Calls Tryd.prog 27 #[.pointer (some ⟨bx, 0, none⟩), .int .u32 (id : Int)] w' fun e w'' => e = .returned (.int .i64 ((fill2 σ (ids.take i)).despawn id).1) ∧ Own w0 w'' (RSto bx ((fill2 σ (ids.take i)).despawn id).2 (60 + i + 1) :: l')) := fun w' l' h' => rdespawnC w0 w' l' bx _ (60 + i) h' hok2 id hid32 (by omega)
            clear hO hid hv2 hst hok2
            generalize (fill2 σ (ids.take i)).despawn id = dp at *
            go_wp2_with fail
            refine HD1.out.mono ?_
            rintro e w8 ⟨rfl, hO8⟩
            have HD3 : Hid (Calls _ _ _ _ _) := HD2.out _ _ hO8.three
            clear hO8 HD1 HD2
            go_wp2_with fail
            refine HD3.out.mono ?_
            rintro e w9 ⟨rfl, hO9⟩
            have H9 : Hid (Own w0 w9 (Row 44 1 (.slice (some ⟨g2, 0, none⟩) il rc) il (irow .u32 ids) :: Store b dp.2 (60 + i + 1) :: RSto bx dp.2 (60 + i + 1) :: l)) := hO9.three.in23
            clear hO9 HD3
            go_wp2
            go_roundw
            case rel => exact ⟨i + 1, by omega, by go_num, by rw [HST.out]; exact H9.out⟩
            case measure => simp [intOf]; omega
          · have hilt' : ¬ (i : Int) < (il : Int) := by omega
            have hiil : i = il := by omega
            subst hiil
            have H9 : Hid (Own w0 wr (Store b (fillS Q) 120 :: RSto bx (fillS Q) 120 :: l)) := by
              have h9 := hO
              rw [List.take_of_length_le (by rw [HIL.out]; exact Nat.le_refl _), ← HR.out] at h9
              exact (Own.rstoK (K' := 120) (by omega) (h9.tail.stoK (K' := 120) (by omega)).two).two
            clear hO
            go_wp2
            go_ret2
            exact ⟨b, bx, rfl, H9.out⟩
    · have hlt' : ¬ (j : Int) < (n : Int) := by omega
      have hjn : j = n := by omega
      have HF1 : Hid (fill1 Q = (σ, ids)) := by
        have := HFS.out
        rw [List.take_of_length_le (by rw [HN.out]; omega)] at this
        unfold fill1
        show _ = _
        rw [List.take_of_length_le (by rw [HN.out]; omega)]
        exact this
      clear hjn
      have HR : Hid (fillS Q = fill2 σ ids) := by show _ = _; unfold fillS; rw [HF1.out]
      have H60 : Hid (Own w0 wr (Row 44 1 (.slice ra ids.length rc) ids.length (irow .u32 ids) :: Store b (fill2 σ (ids.take 0)) (60 + 0) :: RSto bx (fill2 σ (ids.take 0)) (60 + 0) :: l)) := (Own.rstoK (K' := 60) hj6 ((hO.two.stoK (K' := 60) hj6).three)).three.in23
      have HOK : Hid (σ.Ok) := hok
      have HID : Hid (∀ i ∈ ids, i < 4294967296) := hids
      obtain ⟨il, hil⟩ : ∃ il, ids.length = il := ⟨_, rfl⟩
      rw [hil] at H60 hidl
      rw [hil]
      have HIL : Hid (ids.length = il) := hil
      clear hO hok hids hil HO HFS HF1 HFP
      go_wp2
      go_loopw [61] (fun jv wr2 => ∃ i : Nat, i ≤ il ∧ jv = .int .i64 i ∧ Own w0 wr2 (Row 44 1 (.slice ra il rc) il (irow .u32 ids) :: Store b (fill2 σ (ids.take i)) (60 + i) :: RSto bx (fill2 σ (ids.take i)) (60 + i) :: l)) (fun jv _ => il - (intOf jv).toNat)
      case atStart => exact ⟨0, Nat.zero_le _, rfl, H60.out⟩
      case round =>
        obtain ⟨i, hii, rfl, hO⟩ := hrel
        clear H60
        by_cases hilt : i < il
        · have hilt' : (i : Int) < (il : Int) := by omega
          obtain ⟨id, hid⟩ : ∃ id, ids[i]? = some id := ⟨_, List.getElem?_eq_getElem (by rw [HIL.out]; exact hilt)⟩
          have hid32 := HID.out id (List.mem_of_getElem? hid)
          obtain ⟨g2, cp2, hv2, _⟩ := row_shape hO.row (by omega)
          have hra := (Value.slice.inj hv2).1
          subst hra
          have q : (wr).cell? ⟨g2, i, none⟩ = some (.int .u32 (id : Int)) := by
            rw [hO.row.cellAt _ (by omega), getElem?_irow, hid]; rfl
          have hst : fill2 σ (ids.take (i + 1)) = ((fill2 σ (ids.take i)).despawn id).2 := by
            unfold fill2
            rw [List.take_add_one, hid]
            simp only [Option.toList_some, List.foldl_append, List.foldl_cons, List.foldl_nil]
          have HST : Hid (fill2 σ (ids.take (i + 1)) = ((fill2 σ (ids.take i)).despawn id).2) := hst
          have hok2 := fill2_ok (ids.take i) σ HOK.out
          have HD1 : Hid (Calls _ _ _ _ _) := despawnC w0 _ _ b _ (60 + i) hO.two hok2 id hid32 (by omega)
          have HD2 : Hid (∀ w' l', Own w0 w' (RSto bx (fill2 σ (ids.take i)) (60 + i) :: l') → Calls Tryd.prog 27 #[.pointer (some ⟨bx, 0, none⟩), .int .u32 (id : Int)] w' fun e w'' => e = .returned (.int .i64 ((fill2 σ (ids.take i)).despawn id).1) ∧ Own w0 w'' (RSto bx ((fill2 σ (ids.take i)).despawn id).2 (60 + i + 1) :: l')) := fun w' l' h' => rdespawnC w0 w' l' bx _ (60 + i) h' hok2 id hid32 (by omega)
          clear hO hid hv2 hst hok2
          generalize (fill2 σ (ids.take i)).despawn id = dp at *
          go_wp2_with fail
          refine HD1.out.mono ?_
          rintro e w8 ⟨rfl, hO8⟩
          have HD3 : Hid (Calls _ _ _ _ _) := HD2.out _ _ hO8.three
          clear hO8 HD1 HD2
          go_wp2_with fail
          refine HD3.out.mono ?_
          rintro e w9 ⟨rfl, hO9⟩
          have H9 : Hid (Own w0 w9 (Row 44 1 (.slice (some ⟨g2, 0, none⟩) il rc) il (irow .u32 ids) :: Store b dp.2 (60 + i + 1) :: RSto bx dp.2 (60 + i + 1) :: l)) := hO9.three.in23
          clear hO9 HD3
          go_wp2
          go_roundw
          case rel => exact ⟨i + 1, by omega, by go_num, by rw [HST.out]; exact H9.out⟩
          case measure => simp [intOf]; omega
        · have hilt' : ¬ (i : Int) < (il : Int) := by omega
          have hiil : i = il := by omega
          subst hiil
          have H9 : Hid (Own w0 wr (Store b (fillS Q) 120 :: RSto bx (fillS Q) 120 :: l)) := by
            have h9 := hO
            rw [List.take_of_length_le (by rw [HIL.out]; exact Nat.le_refl _), ← HR.out] at h9
            exact (Own.rstoK (K' := 120) (by omega) (h9.tail.stoK (K' := 120) (by omega)).two).two
          clear hO
          go_wp2
          go_ret2
          exact ⟨b, bx, rfl, H9.out⟩
end Go.Proofs.YtcpknpgeiafkoaaDoor

/-
  The document's With over a list of entities.
-/
namespace Go.Proofs.YtcpknpgeiafkoaaDoor
open Go.RowKit Go.Maps
set_option linter.unusedVariables false
set_option maxRecDepth 100000

/-- of one kind: is it there if it must be, and not there if it must not be? -/
def okk (ta tn h : Bool) : Bool := (!ta || h) && (!tn || !h)
def bitk (a k : Nat) : Bool := decide (a / 2 ^ k % 2 = 1)
/-- as far as kind k -/
def fitk (a n : Nat) (C : List Cp) (k : Nat) : Bool := (List.range k).all (fun i => okk (bitk a i) (bitk n i) (hasK C i))
theorem fitk_succ (a n : Nat) (C : List Cp) (k : Nat) : fitk a n C (k + 1) = (fitk a n C k && okk (bitk a k) (bitk n k) (hasK C k)) := by
  unfold fitk; rw [List.range_succ, List.all_append]; simp
theorem bit_int (a k : Nat) : ((a : Int) / 2 ^ k).tmod 2 = ((a / 2 ^ k % 2 : Nat) : Int) := by
  have e : ((a : Int) / 2 ^ k) = ((a / 2 ^ k : Nat) : Int) := by simp
  rw [e, Int.tmod_eq_emod_of_nonneg (Int.natCast_nonneg _)]
  exact (Int.natCast_emod _ 2).symm
set_option maxHeartbeats 4000000 in
theorem rwith12 (w0 w : World) (l : List Thing) (la : Option Addr) (nl lc : Nat) (D : List REnt) (h : Own w0 w (Row 51 2 (.slice la nl lc) nl (cat rcells D) :: l)) (hD : D.length = nl) (hn : nl ≤ 1024)
    (hCs : ∀ w', Own w0 w' (Row 51 2 (.slice la nl lc) nl (cat rcells D) :: l) → ∀ d ∈ D, Cs w' d.2.2.1 d.2.1) (hCk : ∀ d ∈ D, (∀ q ∈ d.2.1, q.k < 256) ∧ d.2.1.length ≤ 6 ∧ d.1 < 4294967296) (a n : Nat) (ha : a < 256) (hn8 : n < 256) (f : Int) :
    Calls Tryd.prog 11 #[.slice la nl lc, .int .u8 (a : Int), .int .u8 (n : Int), .int .i64 f] w fun e w' => ∃ ra rc, e = .returned (.slice ra ((D.filter (fun d => decide (f ≤ ((d.1 % 1024 : Nat) : Int)) && fitk a n d.2.1 8)).map (·.1)).length rc) ∧ Own w0 w' (Row 44 1 (.slice ra ((D.filter (fun d => decide (f ≤ ((d.1 % 1024 : Nat) : Int)) && fitk a n d.2.1 8)).map (·.1)).length rc) ((D.filter (fun d => decide (f ≤ ((d.1 % 1024 : Nat) : Int)) && fitk a n d.2.1 8)).map (·.1)).length (irow .u32 ((D.filter (fun d => decide (f ≤ ((d.1 % 1024 : Nat) : Int)) && fitk a n d.2.1 8)).map (·.1))) :: Row 51 2 (.slice la nl lc) nl (cat rcells D) :: l) := by
  obtain ⟨i0, hi, hz0, hz1, hz2⟩ := info_parts Tryd.infoID2
  have H : Hid (Own w0 w _) := h
  have HD : Hid (D.length = nl) := hD
  have HCS : Hid _ := hCs
  have HCK : Hid _ := hCk
  obtain ⟨R, hR⟩ : ∃ R : Nat → List Nat, R = fun j => ((D.take j).filter (fun d => decide (f ≤ ((d.1 % 1024 : Nat) : Int)) && fitk a n d.2.1 8)).map (·.1) := ⟨_, rfl⟩
  have HR0 : Hid (R 0 = []) := by show _ = _; rw [hR]; simp
  have HRS : Hid (∀ (j : Nat) (d : REnt), D[j]? = some d → R (j + 1) = R j ++ if (decide (f ≤ ((d.1 % 1024 : Nat) : Int)) && fitk a n d.2.1 8) then [d.1] else []) := by
    intro j d hd
    rw [hR]
    simp only
    rw [List.take_add_one, hd]
    simp only [Option.toList_some, List.filter_append, List.map_append, List.filter_cons, List.filter_nil]
    split <;> simp
  have HRL : Hid (∀ j, (R j).length ≤ j) := by
    intro j
    rw [hR]
    simp only [List.length_map]
    refine Nat.le_trans (List.length_filter_le _ _) ?_
    rw [List.length_take]; exact Nat.min_le_left _ _
  have HRE : Hid (R nl = (D.filter (fun d => decide (f ≤ ((d.1 % 1024 : Nat) : Int)) && fitk a n d.2.1 8)).map (·.1)) := by
    show _ = _
    rw [hR]
    simp only
    rw [List.take_of_length_le (by rw [hD]; exact Nat.le_refl _)]
  rw [← HRE.out]
  clear h hD hCs hCk hR HRE
  go_enter Tryd.func11, Tryd.ntmps11
  go_wp2
  go_loopw [9, 17] (fun v9 v17 wr => ∃ j : Nat, j ≤ nl ∧ v17 = .int .i64 j ∧ ∃ a1 c1, v9 = .slice a1 (R j).length c1 ∧ Own w0 wr (Row 44 1 (.slice a1 (R j).length c1) (R j).length (irow .u32 (R j)) :: Row 51 2 (.slice la nl lc) nl (cat rcells D) :: l)) (fun _ v17 _ => nl - (intOf v17).toNat)
  case atStart => exact ⟨0, Nat.zero_le _, rfl, none, 0, by rw [HR0.out]; rfl, by rw [HR0.out]; exact H.out.nilRow _ _⟩
  case round =>
    obtain ⟨j, hj, rfl, a1, c1, rfl, hO⟩ := hrel
    have HO : Hid (Own w0 wr _) := hO
    clear H HR0
    by_cases hlt : j < nl
    · have hlt' : (j : Int) < (nl : Int) := by omega
      obtain ⟨d, hd⟩ : ∃ d, D[j]? = some d := ⟨_, List.getElem?_eq_getElem (by rw [HD.out]; exact hlt)⟩
      obtain ⟨g, cp, hv, _⟩ := row_shape hO.two.row (by omega)
      have hla := (Value.slice.inj hv).1
      subst hla
      have hO' := hO.two
      rw [← HD.out] at hO'
      obtain ⟨e0, e1⟩ := ecell hO' j d hd
      obtain ⟨hk, hl6, h32⟩ := HCK.out d (List.mem_of_getElem? hd)
      have hRj := HRL.out j
      have HST := HRS.out j d hd
      have HSTH : Hid (R (j + 1) = R j ++ if (decide (f ≤ ((d.1 % 1024 : Nat) : Int)) && fitk a n d.2.1 8) then [d.1] else []) := HST
      have HCD : Hid (∀ w', Own w0 w' (Row 51 2 (.slice (some ⟨g, 0, none⟩) nl lc) nl (cat rcells D) :: l) → Cs w' d.2.2.1 d.2.1) := fun w' h' => HCS.out w' h' d (List.mem_of_getElem? hd)
      have HSL : Hid (∀ w', Calls Tryd.prog 29 #[.int .u32 (d.1 : Int)] w' fun e w'' => e = .returned (.int .i64 ((d.1 % 1024 : Nat) : Int)) ∧ w'' = w') := fun w' => rslot_any d.1 w' h32
      have H5 : Hid (Own w0 _ _) := hO.allocC #[.int .u32 (d.1 : Int), .slice d.2.2.1 d.2.1.length d.2.2.2] 51
      clear hO hO' hd hv HST
      obtain ⟨d1, C, da, dc⟩ := d
      simp only at e0 e1 hk hl6 h32 HSTH HCD HSL H5
      generalize hcl : C.length = cl at *
      generalize hsl : d1 % 1024 = sl at *
      have HCL : Hid (C.length = cl) := hcl
      clear hcl hsl
      go_wp2_with (go_at_call 29; refine (HSL.out _).mono ?_; rintro e w' ⟨rfl, rfl⟩)
      go_wp2
      obtain ⟨X, hX⟩ : ∃ X, X = wr.heap.size := ⟨_, rfl⟩
      have HHX : Hid (X = wr.heap.size) := hX
      clear hX
      go_loopw [12, 26] (fun v12 v26 wr2 => ∃ k : Nat, k ≤ 8 ∧ v26 = .int .u8 k ∧ v12 = .bool (decide (f ≤ (sl : Int)) && fitk a n C k) ∧ Own w0 wr2 (Cells X #[.int .u32 (d1 : Int), .slice da cl dc] 51 :: Row 44 1 (.slice a1 (R j).length c1) (R j).length (irow .u32 (R j)) :: Row 51 2 (.slice (some ⟨g, 0, none⟩) nl lc) nl (cat rcells D) :: l)) (fun _ v26 _ => 8 - (intOf v26).toNat)
      case atStart => exact ⟨0, Nat.zero_le _, rfl, by simp [fitk], by rw [HHX.out]; exact H5.out⟩
      case round =>
        obtain ⟨k, hk8, rfl, rfl, hO⟩ := hrel
        rw [← HHX.out]
        have HO2 : Hid (Own w0 wr _) := hO
        have x0 := hO.cell 0
        have x1 := hO.cell 1
        simp at x0 x1
        clear H5 HHX HO e0 e1
        by_cases hk7 : k < 8
        · have hk7' : (k : Int) < 8 := by omega
          have HFN : Hid (Calls _ _ _ _ _) := find_any wr da cl dc C HCL.out (HCD.out _ hO.three.two.tail.two.tail) hk (by omega) k (by omega)
          have hta := bit_int a k
          have htn := bit_int n k
          clear hO
          go_wp2_with fail
          refine HFN.out.mono ?_
          rintro e w5 ⟨r2, rfl, hf2, hcase⟩
          have H6 : Hid (Own w0 w5 _) := HO2.out.quiet hf2
          have HSU : Hid ((decide (f ≤ (sl : Int)) && fitk a n C (k + 1)) = ((decide (f ≤ (sl : Int)) && fitk a n C k) && okk (bitk a k) (bitk n k) (hasK C k))) := by show _ = _; rw [fitk_succ, Bool.and_assoc]
          have hba : bitk a k = decide (a / 2 ^ k % 2 = 1) := rfl
          have hbn : bitk n k = decide (n / 2 ^ k % 2 = 1) := rfl
          rw [hba, hbn] at HSU
          clear hf2 hba hbn HFN HO2 x0 x1
          generalize a / 2 ^ k = sa at *
          generalize n / 2 ^ k = sn at *
          generalize (decide (f ≤ (sl : Int)) && fitk a n C k) = b0 at *
          have hcase2 : ∃ hv : Bool, hasK C k = hv ∧ ((r2 < 0 ∧ hv = false) ∨ (0 ≤ r2 ∧ hv = true)) := by
            rcases hcase with ⟨rfl, hno⟩ | ⟨i, rfl, _, _, _, hy⟩
            · exact ⟨false, hno, .inl ⟨by decide, rfl⟩⟩
            · exact ⟨true, hy, .inr ⟨by omega, rfl⟩⟩
          clear hcase
          obtain ⟨hv, hhv, hcase⟩ := hcase2
          rw [hhv] at HSU
          clear hhv
          rcases Nat.mod_two_eq_zero_or_one sa with ha2 | ha2 <;> rcases Nat.mod_two_eq_zero_or_one sn with hn2 | hn2 <;> rcases hcase with ⟨hr, rfl⟩ | ⟨hr, rfl⟩ <;> cases b0
          all_goals
            rw [ha2, hn2] at HSU
            rw [ha2] at hta
            rw [hn2] at htn
            clear ha2 hn2
            go_wp2
            go_roundw
            case rel => exact ⟨k + 1, by omega, by go_num, by rw [HSU.out]; first | rfl | (simp [okk]; omega), H6.out⟩
            case measure => simp [intOf]; omega
        · have hk7' : ¬ (k : Int) < 8 := by omega
          have hk88 : k = 8 := by omega
          subst hk88
          cases hb : (decide (f ≤ (sl : Int)) && fitk a n C 8) with
          | false =>
            rw [hb] at HSTH
            simp only [Bool.false_eq_true, if_false, List.append_nil] at HSTH
            clear hO hb
            go_wp2
            go_roundw
            case rel => exact ⟨j + 1, by omega, by go_num, a1, c1, by rw [HSTH.out], by rw [HSTH.out]; exact HO2.out.tail⟩
            case measure => simp [intOf]; omega
          | true =>
            rw [hb] at HSTH
            simp only [if_true] at HSTH
            have HO3 : Hid (Own w0 wr _) := hO.two
            clear hO hb HO2
            generalize hrl : (R j).length = rl at *
            have HRJ : Hid ((R j).length = rl) := hrl
            clear hrl
            go_wp2_with (at_builtin; refine append1_own rfl _ _ 28 rfl 44 i0 (.int .u32 0) 1 4 Tryd.underlying28 hi hz0 hz1 hz2 rfl (by decide) _ _ _ rfl HO3.out _ _ (by simp) rfl rfl (one_int _ _) (by unfold maxLen; omega) (by omega) ?_)
            intro g6 c6 w6 hO6 hsz6
            have H7 : Hid (Own w0 w6 (Row 44 1 (.slice (some ⟨g6, 0, none⟩) (rl + 1) c6) (rl + 1) (irow .u32 (R (j + 1))) :: Row 51 2 (.slice (some ⟨g, 0, none⟩) nl lc) nl (cat rcells D) :: l)) := by
              show Own _ _ _
              rw [HSTH.out]
              simpa [irow] using hO6.two.tail
            have HRL2 : Hid ((R (j + 1)).length = rl + 1) := by show _ = _; rw [HSTH.out, List.length_append, HRJ.out]; rfl
            clear hO6 hsz6 HO3
            go_wp2
            go_roundw
            case rel => exact ⟨j + 1, by omega, by go_num, _, _, by rw [HRL2.out], by rw [HRL2.out]; exact H7.out⟩
            case measure => simp [intOf]; omega
    · have hlt' : ¬ (j : Int) < (nl : Int) := by omega
      have hjn : j = nl := by omega
      subst hjn
      clear hO
      go_wp2
      go_ret
      exact ⟨a1, c1, rfl, HO.out⟩
end Go.Proofs.YtcpknpgeiafkoaaDoor

/-
  What fits, told in two ways; the document's example of query.
-/
namespace Go.Proofs.YtcpknpgeiafkoaaDoor
open Go.RowKit Go.Maps
set_option linter.unusedVariables false
set_option maxRecDepth 100000

theorem bitk_tb (a k : Nat) : bitk a k = a.testBit k := by unfold bitk; rw [Nat.testBit_eq_decide_div_mod_eq]
theorem tb_high {a k : Nat} (ha : a < 256) (hk : 8 ≤ k) : a.testBit k = false := Nat.testBit_lt_two_pow (Nat.lt_of_lt_of_le ha (by have := Nat.pow_le_pow_right (show 0 < 2 by decide) hk; simpa using this))
theorem all_bits {a m : Nat} (ha : a < 256) : (∀ i, i < 8 → a.testBit i = true → m.testBit i = true) ↔ m &&& a = a := by
  constructor
  · intro h
    apply Nat.eq_of_testBit_eq
    intro i
    rw [Nat.testBit_and]
    by_cases hi : i < 8
    · cases hb : a.testBit i with
      | false => simp
      | true => rw [h i hi hb]; rfl
    · rw [tb_high ha (by omega)]; simp
  · intro h i hi hb
    have := congrArg (fun x => x.testBit i) h
    simp only [Nat.testBit_and, hb, Bool.and_true] at this
    exact this
theorem no_bits {a m : Nat} (ha : a < 256) : (∀ i, i < 8 → a.testBit i = true → m.testBit i = false) ↔ m &&& a = 0 := by
  constructor
  · intro h
    apply Nat.eq_of_testBit_eq
    intro i
    rw [Nat.testBit_and, Nat.zero_testBit]
    by_cases hi : i < 8
    · cases hb : a.testBit i with
      | false => simp
      | true => rw [h i hi hb]; rfl
    · rw [tb_high ha (by omega)]; simp
  · intro h i hi hb
    have := congrArg (fun x => x.testBit i) h
    simp only [Nat.testBit_and, hb, Bool.and_true, Nat.zero_testBit] at this
    exact this
theorem hasK_tb {C : List Cp} (hC : ∀ q ∈ C, q.k < 6) (k : Nat) : hasK C k = (msk C).testBit k := by
  rw [← bitk_tb]
  by_cases h6 : k < 6
  · exact (bt_msk C k h6).symm
  · have h1 : hasK C k = false := by
      cases hh : hasK C k with
      | false => rfl
      | true =>
        obtain ⟨q, hq, e⟩ := (hasK_iff _ _).1 hh
        have := hC q hq
        omega
    have h2 : bitk (msk C) k = false := by
      rw [bitk_tb]
      refine Nat.testBit_lt_two_pow (Nat.lt_of_lt_of_le (msk_lt C) ?_)
      have := Nat.pow_le_pow_right (show 0 < 2 by decide) (show 6 ≤ k by omega)
      simpa using this
    rw [h1, h2]
theorem fitk_fitb {C : List Cp} (hC : ∀ q ∈ C, q.k < 6) {a n : Nat} (ha : a < 256) (hn : n < 256) : fitk a n C 8 = fitb a n (msk C) := by
  rw [Bool.eq_iff_iff]
  unfold fitk fitb
  rw [List.all_eq_true, Bool.and_eq_true, decide_eq_true_iff, decide_eq_true_iff, ← all_bits ha, ← no_bits hn]
  constructor
  · intro h
    refine ⟨fun i hi hb => ?_, fun i hi hb => ?_⟩
    · have := h i (by simpa using hi)
      rw [bitk_tb, bitk_tb, hasK_tb hC, hb] at this
      unfold okk at this
      cases hm : (msk C).testBit i with
      | true => rfl
      | false => rw [hm] at this; simp at this
    · have := h i (by simpa using hi)
      rw [bitk_tb, bitk_tb, hasK_tb hC, hb] at this
      unfold okk at this
      cases hm : (msk C).testBit i with
      | false => rfl
      | true => rw [hm] at this; simp at this
  · rintro ⟨h1, h2⟩ i hi
    have hi8 : i < 8 := by simpa using hi
    rw [bitk_tb, bitk_tb, hasK_tb hC]
    unfold okk
    cases hb1 : a.testBit i with
    | true =>
      rw [h1 i hi8 hb1]
      cases hb2 : n.testBit i with
      | true => have := h2 i hi8 hb2; rw [h1 i hi8 hb1] at this; cases this
      | false => rfl
    | false =>
      cases hb2 : n.testBit i with
      | true => rw [h2 i hi8 hb2]; rfl
      | false => simp
/-- the entities of a store, as the document lists them -/
theorem find_eq {σ : Sto} {x : RX} {K : Nat} (hx : RXok σ x K) (hσ : σ.Ok) (hLV : ∀ id ∈ σ.S.list, σ.S.isLive id = true ∧ id < 4294967296) {a n : Nat} (ha : a < 256) (hn : n < 256) (f : Int) :
    ((σ.S.list.map (x.at σ)).filter (fun d => decide (f ≤ ((d.1 % 1024 : Nat) : Int)) && fitk a n d.2.1 8)).map (·.1) = (σ.find a n).filter (fun id => decide (f ≤ ((id % 1024 : Nat) : Int))) := by
  unfold Sto.find
  rw [List.filter_filter]
  have key : ∀ L : List Nat, (∀ id ∈ L, σ.S.isLive id = true) → ((L.map (x.at σ)).filter (fun d => decide (f ≤ ((d.1 % 1024 : Nat) : Int)) && fitk a n d.2.1 8)).map (·.1) = L.filter (fun id => decide (f ≤ ((id % 1024 : Nat) : Int)) && fitb a n (msk (σ.cps id))) := by
    intro L
    induction L with
    | nil => intro _; rfl
    | cons id L ih =>
      intro hL
      have ih := ih (fun i hi => hL i (List.mem_cons_of_mem _ hi))
      have hl := hL id (by simp)
      obtain ⟨_, h1, h2, _⟩ := hx.at hσ hl
      obtain ⟨r, C, hr, he, hlC, _⟩ := hσ.ent hl
      have hc := Sto.cps_of hr he
      have hC : ∀ q ∈ σ.cps id, q.k < 6 := by rw [hc]; exact fun q hq => chk_k ((lst_ok hlC).2 q hq).2
      have e : (decide (f ≤ (((x.at σ id).1 % 1024 : Nat) : Int)) && fitk a n (x.at σ id).2.1 8) = (decide (f ≤ ((id % 1024 : Nat) : Int)) && fitb a n (msk (σ.cps id))) := by rw [h1, h2, fitk_fitb hC ha hn]
      rw [List.map_cons, List.filter_cons, List.filter_cons]
      rw [e]
      by_cases hb : (decide (f ≤ ((id % 1024 : Nat) : Int)) && fitb a n (msk (σ.cps id))) = true
      · rw [if_pos hb, if_pos hb, List.map_cons, ih, h1]
      · rw [if_neg hb, if_neg hb, ih]
  exact key _ (fun id hid => (hLV id hid).1)
theorem find_zero {σ : Sto} (a n : Nat) : (σ.find a n).filter (fun id => decide ((0 : Int) ≤ ((id % 1024 : Nat) : Int))) = σ.find a n := List.filter_eq_self.2 (fun id _ => by simp; omega)
theorem pick_mm : ∀ (l : List Nat) (m : List Bool) (x : Nat), x ∈ pick l m → ∃ i : Nat, l[i]? = some x ∧ m[i]? = some true
  | [], m, x, h => by simp [pick] at h
  | a :: l, [], x, h => by simp [pick] at h
  | a :: l, u :: m, x, h => by
    unfold pick at h
    split at h
    · rename_i hu
      rcases List.mem_cons.1 h with rfl | h
      · exact ⟨0, rfl, by simp [hu]⟩
      · obtain ⟨i, h1, h2⟩ := pick_mm l m x h
        exact ⟨i + 1, by simpa using h1, by simpa using h2⟩
    · obtain ⟨i, h1, h2⟩ := pick_mm l m x h
      exact ⟨i + 1, by simpa using h1, by simpa using h2⟩
theorem St.list_iv {S : St} (hS : S.Ok) {y : Nat} (h : y ∈ S.list) : S.isLive y = true ∧ y < 4294967296 := by
  obtain ⟨i, h1, h2⟩ := pick_mm _ _ _ h
  obtain ⟨a, _, c⟩ := hS.id i y h1
  refine ⟨?_, c⟩
  rw [St.isLive_iff hS, a]
  exact ⟨h2, h1⟩
end Go.Proofs.YtcpknpgeiafkoaaDoor
