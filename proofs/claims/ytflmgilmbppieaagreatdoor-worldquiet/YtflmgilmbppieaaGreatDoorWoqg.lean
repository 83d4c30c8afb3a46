/-
  The world's entities, one by one and all.
-/
import Derived.Test.YtflmgilmbppieaaGreatDoorOh
import Derived.Test.YtflmgilmbppieaaGreatDoorOj
import Derived.Test.YtflmgilmbppieaaGreatDoorOn
import Derived.Laws.ResultCell
import Derived.Test.YtflmgilmbppieaaGreatDoorWogg
import Derived.Test.YtflmgilmbppieaaGreatDoorXm
import Derived.RangeFuncNested
import Derived.RangeFuncBound
import Derived.RangeFuncCalls
import Derived.RangeFuncLeaves
import Derived.Shelf.Abstract
import Derived.Shelf.RegionOpen
import Derived.WalkKit
import Derived.OwnWalkIn
import Derived.TacticsInMore
import Derived.LoopNIn
import Derived.LoopIn
import Derived.Test.YtflmgilmbppieaaGreatDoorSm
namespace Go.Proofs.YtflmgilmbppieaaGreatDoor
open Go.RowKit
set_option linter.unusedVariables false
set_option maxRecDepth 100000

theorem pick_memW (l : List Nat) (m : List Bool) (y : Nat) (h : y ∈ pick l m) : ∃ i : Nat, l[i]? = some y ∧ m[i]? = some true := by
  induction l generalizing m with
  | nil => cases m <;> simp [pick] at h
  | cons x l ih => cases m with
    | nil => simp [pick] at h
    | cons u m =>
      cases u
      · obtain ⟨i, a, b⟩ := ih m (by simpa [pick] using h)
        exact ⟨i + 1, by simpa using a, by simpa using b⟩
      · rw [pick, if_pos rfl] at h
        rcases List.mem_cons.1 h with rfl | h
        · exact ⟨0, rfl, rfl⟩
        · obtain ⟨i, a, b⟩ := ih m h
          exact ⟨i + 1, by simpa using a, by simpa using b⟩
theorem St.list_w {S : St} (hS : S.Ok) {y : Nat} (h : y ∈ S.list) : S.isLive y = true ∧ y < 4294967296 := by
  obtain ⟨i, a, b⟩ := pick_memW _ _ _ h
  have := hS.id i y a
  rw [St.isLive_iff hS, this.1]
  exact ⟨⟨b, a⟩, this.2.2⟩
set_option maxHeartbeats 1000000 in
theorem wstored (w0 w : World) (l : List Thing) (b bs : Nat) (wc : Array Value) (h : Own w0 w (Cells b wc 117 :: l)) (hwc : wc[1]? = some (.pointer (some ⟨bs, 0, none⟩))) :
    Calls Tryz.prog 72 #[.pointer (some ⟨b, 0, none⟩)] w fun e w' => e = .returned (.pointer (some ⟨bs, 0, none⟩)) ∧ w' = w := by
  have q1 := h.cell 1
  rw [hwc] at q1
  clear h hwc
  go_enter Tryz.func72, Tryz.ntmps72
  go_wp2
  go_ret
  exact ⟨rfl, rfl⟩
set_option maxHeartbeats 4000000 in
theorem went (w0 w : World) (l : List Thing) (b bs : Nat) (wc : Array Value) (σ : Sto) (K : Nat) (h : Own w0 w (Store bs σ K :: Cells b wc 117 :: l)) (hwc : wc[1]? = some (.pointer (some ⟨bs, 0, none⟩))) (hσ : σ.Ok) (id : Nat) (hid : id < 4294967296) (hl : σ.S.isLive id = true) (hK : K ≤ 1000000) :
    Calls Tryz.prog 69 #[.pointer (some ⟨b, 0, none⟩), .int .u32 (id : Int)] w fun e w' => ∃ ao cap, e = .returned (.tuple #[.agg #[.int .u32 (id : Int), .slice ao (σ.cps id).length cap], .int .i64 0]) ∧ Own w0 w' (Row 46 4 (.slice ao (σ.cps id).length cap) (σ.cps id).length (ccat (σ.cps id)) :: Store bs σ K :: Cells b wc 117 :: l) := by
  obtain ⟨r, C, hr, he, _⟩ := hσ.ent hl
  rw [Sto.cps_of hr he]
  have hA := h.allocC #[.int .u32 0, .slice none 0 0] 67
  have HS : Hid (Calls _ _ _ _ _) := wstored w0 _ _ b bs wc hA.three hwc
  have HE : Hid (Calls _ _ _ _ _) := sent w0 _ _ bs σ K hA.two hσ id hid hl r C he hK
  clear h hwc hσ hl he hr hid hK
  generalize hcl : C.length = cl at *
  clear hA hcl
  go_enter Tryz.func69, Tryz.ntmps69
  go_wp2_with fail
  refine HS.out.mono ?_
  rintro e w1 ⟨rfl, rfl⟩
  go_wp2_with fail
  refine HE.out.mono ?_
  rintro e w2 ⟨ao, cap, rfl, hO⟩
  have hB := hO.three
  generalize w.heap.size = B at *
  have z0 := hB.cell 0
  have z1 := hB.cell 1
  simp at z0 z1
  have y0 := hB.froz 0
  have y1 := hB.froz 1
  have HF : Hid (Own w0 _ _) := (hB.setC 0 (.int .u32 (id : Int))).setC 1 (.slice ao cl cap)
  clear hO hB HS HE
  go_wp2
  (try simp only [Exit.inBlock, Exit.then])
  refine bodyPost_ret (v := .tuple #[.agg #[.int .u32 (id : Int), .slice ao cl cap], .int .i64 0]) ?_ rfl ⟨ao, cap, rfl, ?_⟩
  · rw [results_cell_tmp rfl]
    have r0 := HF.out.cell 0
    have r1 := HF.out.cell 1
    simp at r0 r1
    go_simp
  · exact HF.out.tail
end Go.Proofs.YtflmgilmbppieaaGreatDoor

/-
  All entities of the world, as a list.
-/
namespace Go.Proofs.YtflmgilmbppieaaGreatDoor
open Go.RowKit
set_option linter.unusedVariables false
set_option maxRecDepth 100000

/-- an entity in a list: its number, its components, and where they lie -/
structure EnE where
  id : Nat
  ao : Option Addr
  cap : Nat
  C : List Cp
def EnE.cs (x : EnE) : List Value := [.int .u32 (x.id : Int), .slice x.ao x.C.length x.cap]
def erow (x : EnE) : Thing := Row 46 4 (.slice x.ao x.C.length x.cap) x.C.length (ccat x.C)
theorem Tryz.infoEnt : (Tryz.prog.info? 67).map (fun i => (i.zero, i.size, i.bytes)) = some (some (.agg #[.int .u32 0, .slice none 0 0]), 2, 32) := by kernel_rfl
theorem info3w {P : Program} {t : TypeId} {z : Option Value} {s b : Nat} (h : (P.info? t).map (fun i => (i.zero, i.size, i.bytes)) = some (z, s, b)) : ∃ i, P.info? t = some i ∧ i.zero = z ∧ i.size = s ∧ i.bytes = b := by
  cases hi : P.info? t with
  | none => rw [hi] at h; simp at h
  | some i => rw [hi] at h; simp at h; exact ⟨i, rfl, h.1, h.2.1, h.2.2⟩
theorem ene_one (x : EnE) : ∀ u ∈ x.cs.toArray.toList, u.oneCell' = true := by
  intro u hu
  simp [EnE.cs] at hu
  rcases hu with rfl | rfl <;> rfl
theorem perm_w {A B C D E : Thing} {M l : List Thing} : (A :: B :: C :: D :: E :: (M ++ l)).Perm (A :: E :: C :: D :: ((M ++ [B]) ++ l)) := by
  refine List.Perm.cons A ?_
  have h1 : (E :: C :: D :: ((M ++ [B]) ++ l)).Perm (B :: E :: C :: D :: (M ++ l)) := by
    have := List.perm_middle (l₁ := E :: C :: D :: M) (a := B) (l₂ := l)
    simpa using this
  have h2 : (C :: D :: E :: (M ++ l)).Perm (E :: C :: D :: (M ++ l)) := List.perm_middle (l₁ := [C, D]) (a := E) (l₂ := M ++ l)
  exact (List.Perm.cons B h2).trans h1.symm
theorem list_lenW {S : St} (hS : S.Ok) : S.list.length ≤ 1024 := by
  rw [St.list_length hS, hS.live]
  have h1 := List.count_le_length (a := true) (l := S.used)
  have h2 := hS.ul
  have h3 := hS.le
  have h4 := hS.n2
  omega
set_option maxHeartbeats 8000000 in
theorem wlist (w0 w : World) (l : List Thing) (b bs : Nat) (wc : Array Value) (σ : Sto) (K : Nat) (h : Own w0 w (Store bs σ K :: Cells b wc 117 :: l)) (hwc : wc[1]? = some (.pointer (some ⟨bs, 0, none⟩))) (hσ : σ.Ok) (hK : K ≤ 1000000) :
    Calls Tryz.prog 26 #[.pointer (some ⟨b, 0, none⟩)] w fun e w' => ∃ (ao : Option Addr) (cap : Nat) (L : List EnE), e = .returned (.slice ao L.length cap) ∧ L.map (fun x => (x.id, x.C)) = σ.S.list.map (fun id => (id, σ.cps id)) ∧ Own w0 w' (Row 67 2 (.slice ao L.length cap) L.length (cat EnE.cs L) :: Store bs σ K :: Cells b wc 117 :: (L.map erow ++ l)) := by
  obtain ⟨i0, hi, hz0, hz1, hz2⟩ := info3w Tryz.infoEnt
  have HS : Hid (Calls _ _ _ _ _) := wstored w0 _ _ b bs wc h.two hwc
  have HL : Hid (Calls _ _ _ _ _) := slist w0 w _ bs σ K h hσ.s
  have HEN : Hid (∀ W l id, id < 4294967296 → σ.S.isLive id = true → Own w0 W (Store bs σ K :: Cells b wc 117 :: l) → Calls Tryz.prog 69 #[.pointer (some ⟨b, 0, none⟩), .int .u32 (id : Int)] W fun e w' => ∃ x : EnE, x.id = id ∧ x.C = σ.cps id ∧ e = .returned (.tuple #[.agg #[.int .u32 (id : Int), .slice x.ao x.C.length x.cap], .int .i64 0]) ∧ Own w0 w' (erow x :: Store bs σ K :: Cells b wc 117 :: l)) := fun W l id hid hl h2 => by
    refine (went w0 W l b bs wc σ K h2 hwc hσ id hid hl hK).mono ?_
    rintro e w' ⟨ao, cap, rfl, h3⟩
    exact ⟨⟨id, ao, cap, σ.cps id⟩, rfl, rfl, rfl, h3⟩
  have HLV : Hid (∀ y ∈ σ.S.list, σ.S.isLive y = true ∧ y < 4294967296) := fun y hy => St.list_w hσ.s hy
  have hlen := list_lenW hσ.s
  obtain ⟨ids, hids⟩ : ∃ ids, ids = σ.S.list := ⟨_, rfl⟩
  rw [← hids] at HL HLV hlen
  rw [← hids]
  obtain ⟨n, hn⟩ : ∃ n, n = ids.length := ⟨_, rfl⟩
  rw [← hn] at HL hlen
  have HN : Hid (n = ids.length) := hn
  clear h hwc hσ hK hn hids
  go_enter Tryz.func26, Tryz.ntmps26
  go_wp2_with fail
  refine HS.out.mono ?_
  rintro e w1 ⟨rfl, rfl⟩
  go_wp2_with fail
  refine HL.out.mono ?_
  rintro e w2 ⟨v, rfl, h2⟩
  obtain ⟨a2, c2, rfl⟩ := row_any h2.row
  have H2 : Hid (Own w0 w2 (Row 38 1 (.slice a2 n c2) n (irow .u32 ids) :: Store bs σ K :: Cells b wc 117 :: l)) := h2
  clear h2 HS HL
  go_wp2
  go_loopw [3, 12] (fun vo vi wr => ∃ (j : Nat) (L : List EnE) (m : Nat) (ao : Option Addr) (cap : Nat), j ≤ n ∧ vi = .int .i64 (j : Int) ∧ vo = .slice ao m cap ∧ m = L.length ∧ m = j ∧ L.map (fun x => (x.id, x.C)) = (ids.take j).map (fun id => (id, σ.cps id)) ∧ Own w0 wr (Row 67 2 (.slice ao m cap) m (cat EnE.cs L) :: Row 38 1 (.slice a2 n c2) n (irow .u32 ids) :: Store bs σ K :: Cells b wc 117 :: (L.map erow ++ l))) (fun _ vi _ => n - (intOf vi).toNat)
  case atStart => exact ⟨0, [], 0, none, 0, Nat.zero_le _, rfl, rfl, rfl, rfl, rfl, H2.out.nilRow _ _⟩
  case round =>
    obtain ⟨j, L, m, ao, cap, hj, rfl, rfl, hm, hmj, hL, hO⟩ := hrel
    have HM : Hid (m = L.length) := hm
    have HLL : Hid (L.map (fun x => (x.id, x.C)) = (ids.take j).map (fun id => (id, σ.cps id))) := hL
    have hm1 : m ≤ 1024 := by omega
    clear H2 hm hL
    by_cases hlt : j < n
    · have hlt' : (j : Int) < (n : Int) := by omega
      obtain ⟨id, hid⟩ : ∃ id, ids[j]? = some id := ⟨_, List.getElem?_eq_getElem (by rw [← HN.out]; exact hlt)⟩
      obtain ⟨hlv, hid32⟩ := HLV.out id (List.mem_of_getElem? hid)
      have c0 : ∃ g, a2 = some ⟨g, 0, none⟩ ∧ wr.cell? ⟨g, j, none⟩ = some (.int .u32 (id : Int)) := by
        obtain ⟨g, cp, hv, _⟩ := row_shape hO.two.row (by omega)
        have hva := (Value.slice.inj hv).1
        subst hva
        refine ⟨g, rfl, ?_⟩
        rw [hO.two.row.cellAt _ (by omega), getElem?_irow, hid]
        rfl
      obtain ⟨g, hg, c0⟩ := c0
      have HE : Hid (Calls _ _ _ _ _) := HEN.out wr _ id hid32 hlv hO.four.four
      have HLN : Hid (∀ x : EnE, x.id = id → x.C = σ.cps id → (L ++ [x]).map (fun x => (x.id, x.C)) = (ids.take (j + 1)).map (fun id => (id, σ.cps id))) := fun x h1 h2 => by
        rw [List.map_append, HLL.out, List.take_add_one, hid, List.map_append]
        simp [h1, h2]
      subst hg hmj
      clear hO hid hlv hid32 HLL
      go_wp2_with fail
      refine HE.out.mono ?_
      rintro e w3 ⟨x, hx1, hx2, rfl, h3⟩
      have HX : Hid (x.id = id ∧ x.C = σ.cps id) := ⟨hx1, hx2⟩
      have hA := h3.allocC #[.int .u32 (id : Int), .slice x.ao x.C.length x.cap] 67
      have hB : Own w0 (w3.alloc (.cells #[.int .u32 (id : Int), .slice x.ao x.C.length x.cap] 67)) (Row 67 2 (.slice ao m cap) m (cat EnE.cs L) :: erow x :: Store bs σ K :: Cells b wc 117 :: Row 38 1 (.slice (some ⟨g, 0, none⟩) n c2) n (irow .u32 ids) :: (L.map erow ++ l)) := hA.tail.four
      have HB : Hid (Own w0 _ _) := hB
      clear hA hB h3 HE c0 hx1 hx2
      generalize hcl : x.C.length = cl at *
      have HCL : Hid (x.C.length = cl) := hcl
      clear hcl
      go_wp2_with (at_builtin; refine append1_own rfl _ _ 64 rfl 67 i0 (.agg #[.int .u32 0, .slice none 0 0]) 2 32 Tryz.underlying64 hi hz0 hz1 hz2 rfl (by decide) _ _ _ rfl HB.out _ #[.int .u32 (id : Int), .slice x.ao cl x.cap] (by simp) rfl rfl (by intro u hu; simp at hu; rcases hu with rfl | rfl <;> rfl) (by unfold maxLen; omega) (by omega) ?_)
      intro g2 cap2 w4 hO4 hsz
      have H4 : Hid (Own w0 w4 (Row 67 2 (.slice (some ⟨g2, 0, none⟩) (m + 1) cap2) (m + 1) (cat EnE.cs (L ++ [x])) :: Row 38 1 (.slice (some ⟨g, 0, none⟩) n c2) n (irow .u32 ids) :: Store bs σ K :: Cells b wc 117 :: ((L ++ [x]).map erow ++ l))) := by
        have e1 : cat EnE.cs (L ++ [x]) = cat EnE.cs L ++ [.int .u32 (id : Int), .slice x.ao cl x.cap] := by
          rw [cat_append]
          congr 1
          simp [cat, EnE.cs, HX.out.1, HCL.out]
        have e2 : (L ++ [x]).map erow = L.map erow ++ [erow x] := by simp
        show Own _ _ _
        rw [e1, e2]
        exact hO4.perm perm_w
      clear hO4 hsz HB
      go_wp2
      go_roundw
      case rel => exact ⟨m + 1, L ++ [x], m + 1, some ⟨g2, 0, none⟩, cap2, by omega, by go_num, rfl, by rw [List.length_append, ← HM.out]; rfl, rfl, HLN.out x HX.out.1 HX.out.2, H4.out⟩
      case measure => simp [intOf]; omega
    · have hlt' : ¬ (j : Int) < (n : Int) := by omega
      have hjn : m = n := by omega
      subst hmj
      have HF : Hid (Own w0 wr (Row 67 2 (.slice ao m cap) m (cat EnE.cs L) :: Store bs σ K :: Cells b wc 117 :: (L.map erow ++ l))) := hO.two.tail
      have HLE : Hid (L.map (fun x => (x.id, x.C)) = ids.map (fun id => (id, σ.cps id))) := by
        have := HLL.out
        rw [hjn, HN.out, List.take_length] at this
        exact this
      clear hO hjn
      go_wp2
      go_ret
      refine ⟨ao, cap, L, by rw [← HM.out]; rfl, HLE.out, ?_⟩
      rw [← HM.out]
      exact HF.out
end Go.Proofs.YtflmgilmbppieaaGreatDoor

/-
  A store's Add.
-/
namespace Go.Proofs.YtflmgilmbppieaaGreatDoor
open Go.RowKit Go.Maps
set_option linter.unusedVariables false
set_option maxRecDepth 100000

theorem k6_of {c : Cp} (h : c.chk = 0) : c.k < 6 := chk_k h
theorem lst_k {C : List Cp} (h : lst (-1) C = 0) : ∀ q ∈ C, q.k < 256 := fun q hq => by have := chk_k (((lst_iff C).1 h).2 q hq); omega
theorem lst_len {C : List Cp} (h : lst (-1) C = 0) : C.length ≤ 6 := by
  have e := kinds_of h rfl
  have := congrArg List.length e
  rw [List.length_map] at this
  rw [this]
  exact Nat.le_trans (List.length_filter_le _ _) (by simp)
/-- what a call to Get of the home answers -/
theorem homeGet (w0 w : World) (l : List Thing) (b bs : Nat) (v : Value) (p : Nat → Option Nat) (σ : Sto) (K : Nat) (hσ : σ.Ok) (id : Nat) (hid : id < 4294967296) (hl : σ.S.isLive id = true) (bt0 : Nat) (hp : p (σ.hom id) = some bt0) (h : Own w0 w (StoX b σ K (bs, v, p) :: l)) (k : Nat) (hk : k < 256) :
    Calls Tryz.prog 171 #[.pointer (some ⟨bt0, 0, none⟩), .int .u32 (id : Int), .int .u8 (k : Int)] w fun e w' => e = .returned (.tuple #[(if hasK (σ.cps id) k then mkc k (fv (σ.cps id) k) else ⟨0, 0, 0, 0⟩ : Cp).ag, .int .i64 (if hasK (σ.cps id) k then 0 else 10)]) ∧ Own w0 w' (StoX b σ K (bs, v, p) :: l) := by
  obtain ⟨r, C, hr, he, hC, hm, h6⟩ := hσ.ent hl
  obtain ⟨c, hc, hne, hlen, h2⟩ := h.stoB h6 hp
  have hcps := Sto.cps_of hr he
  have hbt : bt (σ.hom id) k = hasK C k := by
    by_cases hk6 : k < 6
    · rw [← hm]; exact bt_msk C k hk6
    · cases hb : bt (σ.hom id) k with
      | true => exact absurd (bt_lt h6 hb) hk6
      | false =>
        cases hh : hasK C k with
        | false => rfl
        | true =>
          obtain ⟨q, hq, e⟩ := (hasK_iff _ _).1 hh
          have := chk_k (((lst_iff C).1 hC).2 q hq)
          omega
  have hg : tget (σ.hom id) (σ.T (σ.hom id)) id k = (if hasK C k then 0 else 10, if hasK C k then mkc k (fv C k) else ⟨0, 0, 0, 0⟩) := by
    unfold tget
    rw [hr]
    simp only [he, Option.map_some, Option.getD_some, hbt]
    split <;> rfl
  have k2 := tgetC w0 w _ bt0 _ _ c h2 (hσ.t _ h6) id hid k hk
  rw [hg] at k2
  rw [hcps]
  refine k2.mono ?_
  rintro e w' ⟨rfl, h3⟩
  refine ⟨?_, h3.stoT h6 hp hc hne hlen⟩
  split <;> rfl
set_option maxHeartbeats 2000000 in
theorem addC (w0 w : World) (l : List Thing) (b : Nat) (σ : Sto) (K : Nat) (ht : Tab w0) (h : Own w0 w (Store b σ K :: l)) (hσ : σ.Ok) (id : Nat) (hid : id < 4294967296) (c : Cp) (hk : c.k < 256) (hK : K + 1 < 1000000) :
    Calls Tryz.prog 201 #[.pointer (some ⟨b, 0, none⟩), .int .u32 (id : Int), c.ag] w fun e w' => e = .returned (.int .i64 (σ.add id c).1) ∧ Own w0 w' (Store b (σ.add id c).2 (K + 2) :: l) := by
  obtain ⟨bs, v, p, h⟩ := h.stoX
  have hA := (h.allocC c.ar 46).two
  have HA : Hid (Own w0 _ _) := hA
  by_cases hc : c.chk = 0
  · cases hl : σ.S.isLive id with
    | false =>
      have HV : Hid (σ.add id c = (7, σ)) := by show _ = _; unfold Sto.add; rw [if_neg (by simp [hc]), if_pos hl]
      have HH : Hid (Calls _ _ _ _ _) := homeFor_of w0 _ _ b bs v p σ K ht hA id c hk hc none 7 (fun w' h' => home_dead w0 w' _ b bs v p σ K h' hσ.s id hid hl)
      obtain ⟨ck, ca, cb, cc⟩ := c
      unfold Cp.ag at HH ⊢
      unfold Cp.ar at HH
      clear h hA hσ hl hc HA
      go_enter Tryz.func201, Tryz.ntmps201
      go_wp2_with fail
      refine HH.out.mono ?_
      rintro e w1 ⟨rfl, hO⟩
      have H1 : Hid (Own w0 w1 (StoX b σ K (bs, v, p) :: l)) := hO.two.tail
      clear hO HH
      go_wp2
      go_ret
      rw [HV.out]
      exact ⟨rfl, H1.out.xSto.stoK (by omega)⟩
    | true =>
      obtain ⟨r, C, hr, he, hC, hm, h6⟩ := hσ.ent hl
      have hcps := Sto.cps_of hr he
      obtain ⟨bt0, hp⟩ := stoP h h6 he
      have hn := (hσ.home hl).2.1
      have HH : Hid (Calls _ _ _ _ _) := homeFor_of w0 _ _ b bs v p σ K ht hA id c hk hc (some ⟨bt0, 0, none⟩) 0 (fun w' h' => by
        have := home_ok w0 w' _ b bs v p σ K h' hσ.s id hid hl hn h6
        rw [hp, pp_some] at this
        exact this)
      have HG : Hid (∀ w' l', Own w0 w' (StoX b σ K (bs, v, p) :: l') → Calls Tryz.prog 171 #[.pointer (some ⟨bt0, 0, none⟩), .int .u32 (id : Int), .int .u8 (c.k : Int)] w' fun e w'' => e = .returned (.tuple #[(if hasK C c.k then mkc c.k (fv C c.k) else ⟨0, 0, 0, 0⟩ : Cp).ag, .int .i64 (if hasK C c.k then 0 else 10)]) ∧ Own w0 w'' (StoX b σ K (bs, v, p) :: l')) := fun w' l' h' => by
        have := homeGet w0 w' l' b bs v p σ K hσ id hid hl bt0 hp h' c.k hk
        rw [hcps] at this
        exact this
      cases hhk : hasK C c.k with
      | true =>
        have HV : Hid (σ.add id c = (9, σ)) := by show _ = _; unfold Sto.add; rw [if_neg (by simp [hc]), if_neg (by simp [hl]), hcps, if_pos hhk]
        rw [hhk] at HG
        simp only [if_true] at HG
        generalize mkc c.k (fv C c.k) = q at *
        obtain ⟨qk, qa, qb, qc⟩ := q
        obtain ⟨ck, ca, cb, cc⟩ := c
        unfold Cp.ag at HH HG ⊢
        unfold Cp.ar at HH
        simp only at HG HH
        clear h hA hσ hl hc HA hr he hC hm hcps hp hn hhk
        go_enter Tryz.func201, Tryz.ntmps201
        go_wp2_with fail
        refine HH.out.mono ?_
        rintro e w1 ⟨rfl, hO⟩
        have H1 : Hid (Own w0 w1 _) := hO
        have q0 := hO.two.cell 0
        simp at q0
        clear hO HH
        go_wp2_with fail
        refine (HG.out _ _ H1.out).mono ?_
        rintro e w2 ⟨rfl, hO⟩
        have H2 : Hid (Own w0 _ (StoX b σ K (bs, v, p) :: l)) := hO.two.tail.alloc (.cells #[.int .u8 (qk : Int), .int .i32 qa, .int .i32 qb, .int .i32 qc] 46)
        clear hO
        go_wp2
        go_ret
        rw [HV.out]
        exact ⟨rfl, H2.out.xSto.stoK (by omega)⟩
      | false =>
        have HV : Hid (σ.add id c = (0, (σ.out (σ.hom id) r).put id (insw C c))) := by show _ = _; unfold Sto.add; rw [if_neg (by simp [hc]), if_neg (by simp [hl]), hcps, if_neg (by simp [hhk])]; unfold Sto.turn; rw [hr]; rfl
        rw [hhk] at HG
        simp only [if_false, Bool.false_eq_true] at HG
        have hlen := lst_len hC
        have hI := insw_ok hC hc hhk
        have hLk := hσ.out hl hr
        have HPL : Hid (∀ w' l', Own w0 w' (StoX b σ K (bs, v, p) :: l') → Calls Tryz.prog 172 #[.pointer (some ⟨b, 0, none⟩), .pointer (some ⟨bt0, 0, none⟩), .int .u32 (id : Int)] w' fun out w'' => ∃ ao cap, out = .returned (.slice ao C.length cap) ∧ Own w0 w'' (Row 46 4 (.slice ao C.length cap) C.length (ccat C) :: Store b (σ.out (σ.hom id) r) (K + 1) :: l')) := fun w' l' h' => pull_ok w0 w' l' b bs v p σ K h' (σ.hom id) h6 (some bt0) hp (hσ.t _ h6) id hid r (id, C) hr he (by omega)
        have HWI : Hid (∀ w' l' ao cap, Own w0 w' (Row 46 4 (.slice ao C.length cap) C.length (ccat C) :: l') → Calls Tryz.prog 238 #[.slice ao C.length cap, c.ag] w' fun e w'' => ∃ ao' cap', e = .returned (.slice ao' (C.length + 1) cap') ∧ Own w0 w'' (Row 46 4 (.slice ao' (C.length + 1) cap') (C.length + 1) (ccat (insw C c)) :: l')) := fun w' l' ao cap h' => with_ok w0 w' l' C c ao C.length cap rfl (by omega) h'
        have HPU : Hid (∀ w' l' ao cap, Own w0 w' (Row 46 4 (.slice ao (C.length + 1) cap) (C.length + 1) (ccat (insw C c)) :: Store b (σ.out (σ.hom id) r) (K + 1) :: l') → Calls Tryz.prog 213 #[.pointer (some ⟨b, 0, none⟩), .int .u32 (id : Int), .slice ao (C.length + 1) cap] w' fun e w'' => e = .returned (.tuple #[]) ∧ Own w0 w'' (Store b ((σ.out (σ.hom id) r).put id (insw C c)) (K + 2) :: l')) := by
          intro w' l' ao cap h'
          obtain ⟨bs', v', p', h2⟩ := h'.two.stoX
          have hli := St.live_lt hLk.s hLk.li
          refine (put_ok w0 w' _ b bs' v' p' _ (K + 1) ht h2 id hid (by rw [hLk.ml]; exact hli.2) ao (C.length + 1) cap (insw C c) (insw_len C c) (fun w'' h'' => Own.rcs h'' (insw_len C c)) (lst_k hI) (by omega) hI (hLk.t _ (msk64 _)) (hLk.none (msk64 _)) (by omega)).mono ?_
          rintro e w'' ⟨rfl, h3⟩
          exact ⟨rfl, h3.two.tail⟩
        obtain ⟨ck, ca, cb, cc⟩ := c
        unfold Cp.ag at HH HG HWI ⊢
        unfold Cp.ar at HH
        simp only at HG HH HWI
        clear h hA hσ hl hc HA hr he hC hm hcps hp hn hhk hI hLk
        generalize C.length = n at *
        go_enter Tryz.func201, Tryz.ntmps201
        go_wp2_with fail
        refine HH.out.mono ?_
        rintro e w1 ⟨rfl, hO⟩
        have H1 : Hid (Own w0 w1 _) := hO
        have q0 := hO.two.cell 0
        simp at q0
        clear hO HH
        go_wp2_with fail
        refine (HG.out _ _ H1.out).mono ?_
        rintro e w2 ⟨rfl, hO⟩
        have hO2 := hO.alloc (.cells #[.int .u8 0, .int .i32 0, .int .i32 0, .int .i32 0] 46)
        have H2 : Hid (Own w0 _ _) := hO2
        have s0 := hO2.two.cell 0
        have s1 := hO2.two.cell 1
        have s2 := hO2.two.cell 2
        have s3 := hO2.two.cell 3
        simp at s0 s1 s2 s3
        clear hO hO2 H1 q0
        go_wp2_with fail
        go_region_with (first
          | (go_at_call 172
             refine (HPL.out _ _ H2.out.drew).mono ?_
             rintro e w3 ⟨a3, c3, rfl, hO⟩
             have t0 := hO.three.cell 0
             have t1 := hO.three.cell 1
             have t2 := hO.three.cell 2
             have t3 := hO.three.cell 3
             simp at t0 t1 t2 t3
             have H3 : Hid (Own w0 w3 _) := hO
             clear hO)
          | (go_at_call 238
             refine (HWI.out _ _ _ _ H3.out).mono ?_
             rintro e w4 ⟨a4, c4, rfl, hO⟩
             have H4 : Hid (Own w0 w4 _) := hO
             clear hO)
          | (go_at_call 213
             refine (HPU.out _ _ _ _ H4.out).mono ?_
             rintro e w5 ⟨rfl, hO⟩
             have H5 : Hid (Own w0 w5 _) := hO
             clear hO))
        all_goals
          go_wp2
          go_ret
          rw [HV.out]
          exact ⟨rfl, H5.out.two.tail⟩
  · have HV : Hid (σ.add id c = ((c.chk : Int), σ)) := by show _ = _; unfold Sto.add; rw [if_pos hc]
    have HH : Hid (Calls _ _ _ _ _) := homeFor_bad w0 _ _ b bs v p σ K ht hA id c hk hc
    have hx : ¬ ((c.chk : Nat) : Int) = 0 := by omega
    generalize c.chk = x at *
    obtain ⟨ck, ca, cb, cc⟩ := c
    unfold Cp.ag at HH ⊢
    unfold Cp.ar at HH
    clear h hA hσ hc HA
    go_enter Tryz.func201, Tryz.ntmps201
    go_wp2_with fail
    refine HH.out.mono ?_
    rintro e w1 ⟨rfl, hO⟩
    have H1 : Hid (Own w0 w1 (StoX b σ K (bs, v, p) :: l)) := hO.two.tail
    clear hO HH
    go_wp2
    go_ret
    rw [HV.out]
    exact ⟨rfl, H1.out.xSto.stoK (by omega)⟩
end Go.Proofs.YtflmgilmbppieaaGreatDoor

/-
  What was seen, if anything was; a list of entities as one thing; what is seen of them.
-/
namespace Go.Proofs.YtflmgilmbppieaaGreatDoor
open Go.RowKit
set_option linter.unusedVariables false
set_option maxRecDepth 100000

/-- a fact, as a thing that has no block -/
def FctW (p : Prop) : Thing where
  is := fun _ A => p ∧ ∀ k, ¬ A k
  lt := by rintro w A k ⟨_, h⟩ a; exact (h k a).elim
  keep := by rintro w w' A B h _ _; exact h
theorem Own.fctIn {w0 w : World} {p : Prop} {l : List Thing} (h : Own w0 w (FctW p :: l)) : p := by
  obtain ⟨A, ⟨B, C, hB, _⟩, _⟩ := h
  exact hB.1
theorem Own.fct {w0 w : World} {p : Prop} {l : List Thing} (hp : p) (h : Own w0 w l) : Own w0 w (FctW p :: l) :=
  h.new (FctW p) (fun _ => False) ⟨hp, fun _ h => h⟩ (Fr.refl _ _) (fun _ h => h.elim)
/-- what was seen; no map: nothing was -/
def SMapO (mp : Option Nat) (n : Nat) (S : Nat → Nat → Option SgE) : Thing := match mp with
  | some ms => SMap ms n (sgp S)
  | none => FctW (∀ i k, S i k = none)
theorem sight_o (w0 w : World) (l : List Thing) (b : Nat) (wc : Array Value) (mp : Option Nat) (n T : Nat) (S : Nat → Nat → Option SgE) (hwc : wc[0]? = some (.int .u32 (T : Int))) (hwm : wc[3]? = some (.map mp)) (i k : Nat) (hi : i < 4294967296) (hk : k < 256) (ck : Nat) (ca cb cc : Int)
    (h : Own w0 w (SMapO mp n S :: Cells b wc 117 :: l)) :
    Calls Tryz.prog 114 #[.pointer (some ⟨b, 0, none⟩), spv i k, .agg #[.int .u8 (ck : Int), .int .i32 ca, .int .i32 cb, .int .i32 cc]] w fun e w' => e = .returned (sgt (S i k) T ck ca cb cc).v ∧ Own w0 w' (SMapO mp n S :: Cells b wc 117 :: l) := by
  cases mp with
  | some ms => exact sight_ok w0 w l b wc ms n T S hwc hwm i k hi hk ck ca cb cc h
  | none =>
    have hS := h.fctIn
    refine (sight_nil w0 w l b wc T hwc hwm i k hi hk ck ca cb cc h.tail).mono ?_
    rintro e w' ⟨rfl, h2⟩
    exact ⟨by rw [hS i k], Own.fct hS h2⟩
theorem left_o (w0 w : World) (l : List Thing) (b : Nat) (wc : Array Value) (mp : Option Nat) (n mn n' : Nat) (S : Nat → Nat → Option SgE) (S' : Nat → Nat → Option SgE) (hwc : wc[3]? = some (.map mp)) (hn : n ≤ 1000000)
    (h : Own w0 w (SMapO mp n S :: SMap mn n' (sgp S') :: Cells b wc 117 :: l)) :
    Calls Tryz.prog 116 #[.pointer (some ⟨b, 0, none⟩), .map (some mn)] w fun e w' => ∃ ao cap L, e = .returned (.slice ao L.length cap) ∧ L.length ≤ n ∧ LeftOf (sgp S) (sgp S') (fun _ _ => false) L ∧ Own w0 w' (Row 63 4 (.slice ao L.length cap) L.length (cat PlE.cs L) :: SMapO mp n S :: SMap mn n' (sgp S') :: Cells b wc 117 :: l) := by
  cases mp with
  | some ms => exact left_ok w0 w l b wc ms n mn n' (sgp S) (sgp S') hwc hn (fun i k v hv => by
      unfold sgp at hv
      obtain ⟨s, _, rfl⟩ := Option.map_eq_some_iff.1 hv
      exact ⟨_, _, _, _, _, rfl⟩) h
  | none =>
    have hS := h.fctIn
    refine (left_nil w0 w _ b wc mn hwc h.three).mono ?_
    rintro e w' ⟨rfl, h2⟩
    refine ⟨none, 0, [], rfl, Nat.zero_le _, ⟨by simp, (fun q hq => (by cases hq)), fun i hi => ?_⟩, (h2.back3).nilRow _ _⟩
    unfold sgp
    rw [hS i 0]
    simp
/-- a list of entities with all its components -/
def EntsT (ao : Option Addr) (cap : Nat) (L : List EnE) : Thing := Ex (fun _ : Unit => Row 67 2 (.slice ao L.length cap) L.length (cat EnE.cs L) :: L.map erow)
theorem Own.ents {w0 w : World} {l : List Thing} {ao : Option Addr} {cap : Nat} {L : List EnE} (h : Own w0 w ((Row 67 2 (.slice ao L.length cap) L.length (cat EnE.cs L) :: L.map erow) ++ l)) : Own w0 w (EntsT ao cap L :: l) := Own.ex_iff.2 ⟨(), h⟩
theorem Own.entAt {w0 w : World} {l : List Thing} {ao : Option Addr} {cap : Nat} {L : List EnE} (h : Own w0 w (EntsT ao cap L :: l)) {j : Nat} {x : EnE} (hx : L[j]? = some x) :
    (∃ g, ao = some ⟨g, 0, none⟩ ∧ w.cell? ⟨g, j * 2, none⟩ = some (.int .u32 (x.id : Int)) ∧ w.cell? ⟨g, j * 2 + 1, none⟩ = some (.slice x.ao x.C.length x.cap)) ∧ Cs w x.ao x.C := by
  obtain ⟨_, h1⟩ := Own.ex_iff.1 h
  have hj := (List.getElem?_eq_some_iff.1 hx).1
  constructor
  · obtain ⟨g, cp, hv, _⟩ := row_shape h1.row (by omega)
    have hva := (Value.slice.inj hv).1
    subst hva
    have hr := h1.row
    refine ⟨g, rfl, ?_, ?_⟩
    · rw [hr.cellAt _ (by omega)]
      exact cat_at EnE.cs 2 (fun _ => rfl) L j 0 x hx (by decide)
    · rw [hr.cellAt _ (by omega)]
      exact cat_at EnE.cs 2 (fun _ => rfl) L j 1 x hx (by decide)
  · obtain ⟨L1, L2, rfl⟩ := List.append_of_mem (List.mem_of_getElem? hx)
    have h2 : Own w0 w (erow x :: (L1.map erow ++ (L2.map erow ++ l))) := by
      have h3 : Own w0 w ((L1 ++ x :: L2).map erow ++ l) := h1.tail
      refine h3.perm ?_
      have e : (L1 ++ x :: L2).map erow ++ l = L1.map erow ++ (erow x :: (L2.map erow ++ l)) := by simp
      rw [e]
      exact List.perm_middle
    exact Own.cs (h2.view (by decide)) rfl
theorem perm_ents {A B C : Thing} {M l : List Thing} : (A :: B :: C :: (M ++ l)).Perm ((A :: M) ++ (B :: C :: l)) := by
  refine List.Perm.cons A ?_
  have := List.perm_append_comm_assoc [B, C] M l
  simpa using this
/-- one more that is seen -/
def stpW (S : Nat → Nat → Option SgE) (T : Nat) (p : Nat → Nat → Option SgE) (x : Nat × Cp) : Nat → Nat → Option SgE := fun i k => if i = x.1 ∧ k = x.2.k then some (sgt (S x.1 x.2.k) T x.2.k x.2.a x.2.b x.2.c) else p i k
def mapOf (S : Nat → Nat → Option SgE) (T : Nat) (A : List (Nat × Cp)) : Nat → Nat → Option SgE := A.foldl (stpW S T) (fun _ _ => none)
theorem mapOf_snoc (S : Nat → Nat → Option SgE) (T : Nat) (A : List (Nat × Cp)) (x : Nat × Cp) : mapOf S T (A ++ [x]) = stpW S T (mapOf S T A) x := by
  unfold mapOf; rw [List.foldl_append]; rfl
/-- all components of entities, one by one -/
def allW (L : List EnE) : List (Nat × Cp) := L.flatMap (fun e => e.C.map (fun c => (e.id, c)))
theorem allW_snoc (L : List EnE) (x : EnE) : allW (L ++ [x]) = allW L ++ x.C.map (fun c => (x.id, c)) := by simp [allW]
theorem Own.smStp {w0 w : World} {l : List Thing} {b n : Nat} {S p : Nat → Nat → Option SgE} {T : Nat} (h : Own w0 w (SMap b n (sgp p) :: l)) (x : Nat × Cp) (hi : x.1 < 4294967296) (hk : x.2.k < 256) (hn : n < maxLen) :
    ∃ w', (Instr.mapUpdate 115 (.map (some b)) (.agg #[.int .u32 (x.1 : Int), .int .u8 (x.2.k : Int)]) (sgt (S x.1 x.2.k) T x.2.k x.2.a x.2.b x.2.c).v).run Tryz.prog w = .ok () w' ∧ Own w0 w' (SMap b (n + 1) (sgp (stpW S T p x)) :: l) := by
  obtain ⟨w', hr, hO⟩ := h.smPut x.1 x.2.k (sgt (S x.1 x.2.k) T x.2.k x.2.a x.2.b x.2.c).v hi hk hn
  refine ⟨w', hr, ?_⟩
  have e : (fun i k => if i = x.1 ∧ k = x.2.k then some (sgt (S x.1 x.2.k) T x.2.k x.2.a x.2.b x.2.c).v else sgp p i k) = sgp (stpW S T p x) := by
    funext i k
    unfold sgp stpW
    split <;> simp
  rw [← e]
  exact hO
end Go.Proofs.YtflmgilmbppieaaGreatDoor

/-
  The sort of no places; the sort of any.
-/
namespace Go.Proofs.YtflmgilmbppieaaGreatDoor
open Go.RowKit Go.Shelf
set_option linter.unusedVariables false
set_option maxRecDepth 100000

set_option maxHeartbeats 2000000 in
theorem insW_nil (w : World) (f : Value) : Calls Tryz.prog 214 #[.slice none 0 0, .int .i64 0, .int .i64 0, f] w fun e w' => e = .returned (.tuple #[]) ∧ w' = w := by
  go_enter Tryz.func214, Tryz.ntmps214
  go_wp2
  go_loopw [8] (fun v wr => v = .int .i64 1 ∧ wr = w) (fun _ _ => 0)
  case atStart => exact ⟨rfl, rfl⟩
  case round =>
    obtain ⟨rfl, rfl⟩ := hrel
    go_wp2
    go_end0
    exact ⟨rfl, rfl⟩
set_option maxHeartbeats 2000000 in
theorem pdqW_nil (w : World) (lim : Nat) (f : Value) : Calls Tryz.prog 179 #[.slice none 0 0, .int .i64 0, .int .i64 0, .int .i64 (lim : Int), f] w fun e w' => e = .returned (.tuple #[]) ∧ w' = w := by
  have H : Hid (Calls _ _ _ _ _) := insW_nil w f
  go_enter Tryz.func179, Tryz.ntmps179
  go_wp2
  go_loopw [1, 2, 3, 10, 11] (fun v1 v2 v3 v8 v9 wr => v1 = .int .i64 0 ∧ v2 = .int .i64 0 ∧ wr = w) (fun _ _ _ _ _ _ => 0)
  case atStart => exact ⟨rfl, rfl, rfl⟩
  case round =>
    obtain ⟨rfl, rfl, rfl⟩ := hrel
    go_wp2_with fail
    refine H.out.mono ?_
    rintro e w1 ⟨rfl, rfl⟩
    go_wp2
    refine bodyPost_ret (results_none rfl _ _ _) rfl ?_
    exact ⟨rfl, rfl⟩
set_option maxHeartbeats 2000000 in
theorem sortW_nil (w : World) (f : Value) : Calls Tryz.prog 118 #[.slice none 0 0, f] w fun e w' => e = .returned (.tuple #[]) ∧ w' = w := by
  have HB : Hid (Calls Tryz.prog 153 #[.int .u64 0] w fun e w' => e = .returned (.int .i64 ((Lib.bitLen 0 : Nat) : Int)) ∧ w' = w) := by
    have h := Any.bits_Len (SlLaysF0.n15.bits (P := Tryz.prog) (ρ := sortPl_ren) { sortPl with }) (0 : Int) w (by omega) (by omega)
    exact h
  have HP : Hid (Calls _ _ _ _ _) := pdqW_nil w (Lib.bitLen 0) f
  generalize Lib.bitLen 0 = lim at *
  go_enter Tryz.func118, Tryz.ntmps118
  go_wp2_with fail
  refine HB.out.mono ?_
  rintro e w1 ⟨rfl, rfl⟩
  go_wp2_with fail
  refine HP.out.mono ?_
  rintro e w1 ⟨rfl, rfl⟩
  go_wp2
  go_end0
  exact ⟨rfl, rfl⟩
theorem sort_any (w0 w : World) (l : List Thing) (ao : Option Addr) (cap : Nat) (L : List PlE) (h : Own w0 w (Row 63 4 (.slice ao L.length cap) L.length (cat PlE.cs L) :: l)) (hsz : L.length < 1000000000) :
    Calls Tryz.prog 118 #[.slice ao L.length cap, .func (.func 119) #[] #[]] w fun e w' => e = .returned (.tuple #[]) ∧ ∃ L', L'.Perm L ∧ L'.Pairwise (fun a b => a.id ≤ b.id) ∧ Own w0 w' (Row 63 4 (.slice ao L.length cap) L.length (cat PlE.cs L') :: l) := by
  rcases h.row.2 with ⟨hv, hn⟩ | ⟨g, cap', cur, hv, _⟩
  · have hL : L = [] := List.eq_nil_of_length_eq_zero hn
    subst hL
    simp only [List.length_nil, Value.slice.injEq] at hv
    obtain ⟨rfl, _, rfl⟩ := hv
    refine (sortW_nil w _).mono ?_
    rintro e w' ⟨rfl, rfl⟩
    exact ⟨rfl, [], List.Perm.refl _, List.Pairwise.nil, h⟩
  · have hva := (Value.slice.inj hv).1
    subst hva
    exact sortPl_ok w0 w l g cap L h hsz
end Go.Proofs.YtflmgilmbppieaaGreatDoor

/-
  A range over a function, told by the things that lie apart in memory: what the loop's body does to its things, and what the iterator does with the rounds.
-/
namespace Go.Proofs.YtflmgilmbppieaaGreatDoor
open Go.RowKit
set_option linter.unusedVariables false

/-- a block that holds this -/
def Objt (k : Nat) (o : Obj) : Thing where
  is := fun w A => w.heap[k]? = some o ∧ ∀ j, A j ↔ j = k
  lt := by
    rintro w A j ⟨h, hA⟩ a
    rw [(hA j).1 a]; exact (Array.getElem?_eq_some_iff.1 h).1
  keep := by
    rintro w w' A B ⟨h, hA⟩ hf hn
    exact ⟨(hf.block k (Array.getElem?_eq_some_iff.1 h).1 (hn k ((hA k).2 rfl))).trans h, hA⟩
section
variable {w0 w : World} {l A T B : List Thing} {P : Thing} {k : Nat} {o : Obj}
theorem Own.objt (h : Own w0 w (Objt k o :: l)) : w.heap[k]? = some o := by
  obtain ⟨_, ⟨_, _, hB, _⟩, _⟩ := h
  exact hB.1
theorem Own.putO (h : Own w0 w (Objt k o :: l)) (o' : Obj) : Own w0 (w.putObj k o') (Objt k o' :: l) := by
  have hk := (Array.getElem?_eq_some_iff.1 h.objt).1
  obtain ⟨A, ⟨_, hA⟩, _, hact⟩ := h.act
  refine hact _ (Objt k o') (fun j => j = k) ⟨World.putObj_heap_same hk, fun j => Iff.rfl⟩ ?_ (fun j hj => .inl ((hA j).2 hj))
  have g := grownBy_putObj' w k o'
  exact ⟨g.os, g.tape, g.output, g.size, fun j hj hn => g.block j hj (fun e => hn ((hA j).2 (by cases e; rfl)))⟩
theorem Own.allocO (h : Own w0 w l) (o : Obj) : Own w0 (w.alloc o) (Objt w.heap.size o :: l) :=
  h.new (Objt w.heap.size o) (fun j => j = w.heap.size) ⟨World.alloc_heap_new w o, fun j => Iff.rfl⟩ ((Fr.refl _ _).alloc o) (fun j hj => by omega)
theorem pull_perm : (A ++ (T ++ P :: B)).Perm (P :: (A ++ (T ++ B))) := by
  rw [← List.append_assoc, ← List.append_assoc]; exact List.perm_middle
theorem Own.pull (h : Own w0 w (A ++ (T ++ P :: B))) : Own w0 w (P :: (A ++ (T ++ B))) := h.perm pull_perm
theorem Own.push (h : Own w0 w (P :: (A ++ (T ++ B)))) : Own w0 w (A ++ (T ++ P :: B)) := h.perm pull_perm.symm
end

/-- what the iterator does with the rounds: G xs: what may have come; X xs: what lies there when xs have come; Y xs: when a round has said that it is enough -/
def Seq {α : Type} (n : Nat) (P : Program) (gf : Nat) (lb : Array Value) (w0 : World) (encs : α → Array Value) (X Y : List α → List Thing) (G S Sp : List α → Prop) : Prop :=
  ∀ (l : Nat) (R R2 : List Thing) (W : World),
    (∀ (pre : List α) (x : α) (W1 : World) (T : List Thing), G (pre ++ [x]) → Own w0 W1 (X pre ++ (T ++ R)) → YieldAt Fence.wide (n - 1) P l (encs x) W1 fun e W' =>
      (e = .returned (.bool true) ∧ Own w0 W' (X (pre ++ [x]) ++ (T ++ R))) ∨ (e = .returned (.bool false) ∧ Own w0 W' (Y (pre ++ [x]) ++ (T ++ R2)))) →
    Own w0 W (X [] ++ R) →
    CallsIn Fence.wide n P gf (#[.func (.yield l) #[] #[]] ++ lb) W fun e W' => (∃ v, e = .returned v) ∧ ((∃ xs, S xs ∧ Own w0 W' (X xs ++ R)) ∨ ∃ pre, Sp pre ∧ Own w0 W' (Y pre ++ R2))
/-- how a round's body may be left -/
def roundQ {α : Type} (w0 : World) (X Y : List α → List Thing) (c0 : Code) (xs : List α) (R : List Thing) : Exit → Act → World → Prop
  | .normal, _, W' => Own w0 W' (X xs ++ R)
  | .exit id, _, W' => c0 = .exit id ∧ Own w0 W' (Y xs ++ R)
  | _, _, _ => False

theorem range_things {α : Type} {n : Nat} {P : Program} {g : Operand} {ps : Array Tmp} {assign body : Code} {Q : Exit → Act → World → Prop} {a : Act} {w : World}
    {gf : Nat} {lb : Array Value} (hg : a.eval g = .func (.func gf) #[] lb) (eg : ∀ args w, (callFunc gf args).run P w = .ok (.enter gf args) w)
    {w0 : World} {encs : α → Array Value} (X Y : List α → List Thing) (c0 : Code) {G S Sp : List α → Prop} (hseq : Seq (n - 1) P gf lb w0 encs X Y G S Sp) (hps : ∀ x, (encs x).size = ps.size) (h0 : Own w0 w (X [])) (a₁ : α → Act)
    (hassign : ∀ (l : Nat) (x : α) (W : World) (K : Act → World → Prop), K (a₁ x) W →
      assign.wpIn (Fence.wide.inRound l) (n - 1 - 1) P (Exit.then K (fun _ _ _ => False)) { tmps := (ps.zip (encs x)).foldl (fun t (p, v) => t.setIfInBounds p v) a.tmps, defers := [] } W)
    (hbody : ∀ (l : Nat) (pre : List α) (x : α) (W : World) (R : List Thing), G (pre ++ [x]) → Own w0 W (X pre ++ R) → body.wpIn (Fence.wide.inRound l) (n - 1 - 1) P (roundQ w0 X Y c0 (pre ++ [x]) R) (a₁ x) W)
    (hdone : ∀ (D : Nat) (xs : List α) (W : World), S xs → Own w0 W (Objt D (.deferred (some [])) :: X xs) → Q .normal { a with defers := { target := .collected D, args := #[] } :: a.defers } W)
    (hstop : ∀ (D : Nat) (pre : List α) (W : World), Sp pre → Own w0 W (Objt D (.deferred (some [])) :: Y pre) → c0.wpIn Fence.wide n P Q { a with defers := { target := .collected D, args := #[] } :: a.defers } W) :
    (Code.rangeFunc g ps assign body).wpIn Fence.wide n P Q a w := by
  refine wpIn_rangeFunc ?_
  intro fn hfn
  obtain ⟨rec, hrec⟩ : ∃ rec : LoopState → Option Code → Loop, rec = fun st pe => { state := st, pending := pe, fn, tmps := a.tmps, params := ps, assign, body, defers := w.heap.size } := ⟨_, rfl⟩
  obtain ⟨W1, hW1⟩ : ∃ W1, (w.alloc (.deferred (some []))).alloc (.loop (rec .ready none)) = W1 := ⟨_, rfl⟩
  have hO1 : Own w0 W1 (X [] ++ ([] ++ [Objt (w.heap.size + 1) (.loop (rec .ready none)), Objt w.heap.size (.deferred (some []))])) := by
    have h1 := (h0.allocO (.deferred (some []))).allocO (.loop (rec .ready none))
    rw [World.size_alloc, hW1] at h1
    exact h1.perm (List.perm_append_comm (l₁ := [_, _]))
  refine ⟨w.heap.size + 1, [{ target := .collected w.heap.size, args := #[] }], W1, { target := .fn (.func gf) lb, args := #[.func (.yield (w.heap.size + 1)) #[] #[]] }, W1, gf,
    #[.func (.yield (w.heap.size + 1)) #[] #[]] ++ lb, W1, ?_, ?_, fun _ _ => trivial, ?_, (fun h => nomatch h), ?_⟩
  · rw [← hW1, hrec]; exact run_enterLoop_outer _ _ _ _ _
  · simp only [resolve, hg]
    simp [go_sem]
  · simp [invoke, go_sem, eg]
  · refine (hseq (w.heap.size + 1) [Objt (w.heap.size + 1) (.loop (rec .ready none)), Objt w.heap.size (.deferred (some []))] [Objt (w.heap.size + 1) (.loop (rec .done (some c0))), Objt w.heap.size (.deferred (some []))] W1 ?_ hO1).mono ?_
    · intro pre x W T hG hO
      have h1 := hO.pull
      have hl := h1.objt
      have hy := run_yield (P := P) (args := encs x) hl (by rw [hrec]; exact hps x)
      rw [hrec] at hy
      refine ⟨fn, _, assign, body, hy, roundIn_of_wpIn trivial (hassign _ x W _ ⟨_, run_beginRound hl (by rw [hrec]), ?_⟩)⟩
      have h2 := (h1.putO (.loop { rec .ready none with state := .busy })).push
      refine wpIn_mono (hbody _ pre x _ _ hG h2) ?_
      rintro e a3 W3 hp
      cases e with
      | normal =>
        have h3 := Own.pull (show Own w0 W3 (X (pre ++ [x]) ++ (T ++ [Objt (w.heap.size + 1) (.loop { rec .ready none with state := .busy }), Objt w.heap.size (.deferred (some []))])) from hp)
        have hr := run_endRound (P := P) none h3.objt
        refine ⟨_, _, hr, .inl ⟨rfl, ?_⟩⟩
        have h4 := (h3.putO (.loop { rec .ready none with state := .ready, pending := none })).push
        rw [hrec] at h4 ⊢
        exact h4
      | exit id =>
        obtain ⟨hc, hp⟩ := hp
        have h3 := Own.pull (show Own w0 W3 (Y (pre ++ [x]) ++ (T ++ [Objt (w.heap.size + 1) (.loop { rec .ready none with state := .busy }), Objt w.heap.size (.deferred (some []))])) from hp)
        have hr := run_endRound (P := P) (some (.exit id)) h3.objt
        refine ⟨_, _, hr, .inr ⟨rfl, ?_⟩⟩
        have h4 := (h3.putO (.loop { rec .ready none with state := .done, pending := some (.exit id) })).push
        rw [hrec] at h4 ⊢
        rw [hc]
        exact h4
      | ret => exact hp.elim
      | goto t => exact hp.elim
      | panic ch => exact hp.elim
      | outgrown => exact hp.elim
    · rintro e W2 ⟨⟨v, rfl⟩, (⟨xs, hS, hO⟩ | ⟨pre, hSp, hO⟩)⟩
      · have h3 := Own.pull (T := []) hO
        have hr := run_endLoop (P := P) h3.objt (by rw [hrec]; simp)
        refine ⟨none, _, by rw [hrec] at hr; exact hr, hdone w.heap.size xs _ hS ?_⟩
        have h4 := (h3.putO (.loop { rec .ready none with state := .exhausted })).tail
        rw [hrec] at h4
        exact h4.perm (List.perm_append_comm (l₂ := [_]))
      · have h3 := Own.pull (T := []) hO
        have hr := run_endLoop (P := P) h3.objt (by rw [hrec]; simp)
        refine ⟨some c0, _, by rw [hrec] at hr; exact hr, hstop w.heap.size pre _ hSp ?_⟩
        have h4 := (h3.putO (.loop { rec .done (some c0) with state := .exhausted })).tail
        rw [hrec] at h4
        exact h4.perm (List.perm_append_comm (l₂ := [_]))
end Go.Proofs.YtflmgilmbppieaaGreatDoor

/-
  The entities that fit: the iterator.
-/
namespace Go.Proofs.YtflmgilmbppieaaGreatDoor
open Go.RowKit Go.Maps Go.Shelf
set_option linter.unusedVariables false
set_option maxRecDepth 100000
attribute [local go_sem] Oper.semAt_some

theorem list_len2 {S : St} (hS : S.Ok) : S.list.length ≤ 1024 := by
  rw [St.list_length hS, hS.live]
  have h1 := List.count_le_length (a := true) (l := S.used)
  have h2 := hS.ul
  have h3 := hS.le
  have h4 := hS.n2
  omega
theorem lst_len6 {C : List Cp} (h : lst (-1) C = 0) : C.length ≤ 6 := by
  rw [← comps_of h rfl, List.length_map]
  exact Nat.le_trans (List.length_filter_le _ _) (by simp)
theorem Own.rcs2 {w0 w : World} {l : List Thing} {ao : Option Addr} {cap n : Nat} {L : List Cp} (h : Own w0 w (Row 46 4 (.slice ao n cap) n (ccat L) :: l)) (hn : L.length = n) : Cs w ao L := Own.cs (h.view (by decide)) hn
/-- has an entity all of these kinds, and none of those? -/
def fitb (a n m : Nat) : Bool := decide (m &&& a = a) && decide (m &&& n = 0)
def Sto.find (σ : Sto) (a n : Nat) : List Nat := σ.S.list.filter (fun id => fitb a n (msk (σ.cps id)))
def boxes (B : Nat) (p : Option Addr) (a n : Nat) (Z : List Thing) : List Thing := Cells B #[.pointer p] 110 :: Cells (B + 1) #[.int .u8 (a : Int)] 5 :: Cells (B + 2) #[.int .u8 (n : Int)] 5 :: Z
set_option maxHeartbeats 1000000 in
theorem fitting_ok (w0 w : World) (l : List Thing) (h : Own w0 w l) (p : Option Addr) (a n : Nat) :
    Calls Tryz.prog 168 #[.pointer p, .int .u8 (a : Int), .int .u8 (n : Int)] w fun e w' => e = .returned (.func (.func 203) #[] #[.pointer (some ⟨w.heap.size, 0, none⟩), .pointer (some ⟨w.heap.size + 1, 0, none⟩), .pointer (some ⟨w.heap.size + 2, 0, none⟩)]) ∧ Own w0 w' (boxes w.heap.size p a n l) ∧ w'.heap.size = w.heap.size + 3 := by
  have H : Hid (Own w0 _ _) := ((h.allocC #[.pointer p] 110).allocC #[.int .u8 (a : Int)] 5).allocC #[.int .u8 (n : Int)] 5
  clear h
  go_enter Tryz.func168, Tryz.ntmps168
  go_wp2
  go_ret
  refine ⟨rfl, ?_, by simp⟩
  have h := H.out
  simp only [World.size_alloc] at h
  exact h.three.in23
set_option maxHeartbeats 4000000 in
theorem fit_seq (w0 : World) (b : Nat) (σ : Sto) (K : Nat) (hσ : σ.Ok) (hK : K ≤ 1000000) (hLV : ∀ id ∈ σ.S.list, σ.S.isLive id = true ∧ id < 4294967296) (B a n : Nat) (ha8 : a < 256) (hn8 : n < 256) (Z Y : List Nat → List Thing) (ht : Tab w0) (hM : ∀ (w : World) (ao : Option Addr) (len cap : Nat) (C : List Cp), C.length = len → Cs w ao C → (∀ q ∈ C, q.k < 256) → len ≤ 1000000 → Calls Tryz.prog 204 #[.slice ao len cap] w fun e w' => e = .returned (.int .u8 ((msk C : Nat) : Int)) ∧ Fr Nobody w w') :
    Seq 3 Tryz.prog 203 #[.pointer (some ⟨B, 0, none⟩), .pointer (some ⟨B + 1, 0, none⟩), .pointer (some ⟨B + 2, 0, none⟩)] w0 (fun id : Nat => #[.int .u32 (id : Int)]) (fun pre => boxes B (some ⟨b, 0, none⟩) a n (Store b σ K :: Z pre)) Y (fun xs => xs <+: σ.find a n) (fun xs => xs = σ.find a n) (fun xs => xs <+: σ.find a n) := by
  intro l R R2 W hY hO
  have HY : Hid _ := hY
  have HL : Hid (Calls _ _ _ _ _) := slist w0 W _ b σ K (Own.four hO) hσ.s
  have q0 := Own.cell hO 0
  simp at q0
  clear hY hO
  refine callsIn_of_wp Tryz.func203 rfl trivial ?_ rfl
  simp only [Tryz.ntmps203, List.size_toArray, List.length_cons, List.length_nil, Nat.reduceAdd, Nat.reduceSub, Array.replicate_succ, Array.replicate_zero, List.push_toArray, List.append_toArray, List.nil_append, List.cons_append]
  gi_wp2_with fail
  refine ⟨trivial, (callsIn_wide.2 HL.out).mono ?_⟩
  rintro e w1 ⟨v, rfl, hO1⟩
  obtain ⟨va, vc, rfl⟩ := row_any hO1.row
  have H1 : Hid (Own w0 w1 (boxes B (some ⟨b, 0, none⟩) a n (Store b σ K :: Z []) ++ ([Row 38 1 (.slice va σ.S.list.length vc) σ.S.list.length (irow .u32 σ.S.list)] ++ R))) := (Own.sink (l := Store b σ K :: Cells B #[.pointer (some ⟨b, 0, none⟩)] 110 :: Cells (B + 1) #[.int .u8 (a : Int)] 5 :: Cells (B + 2) #[.int .u8 (n : Int)] 5 :: Z []) (m := R) hO1).back4
  have hn24 := list_len2 hσ.s
  clear hO1 HL q0
  have HEN : Hid (∀ w' l' (j id : Nat), σ.S.list[j]? = some id → Own w0 w' (Store b σ K :: l') → Calls Tryz.prog 126 #[.pointer (some ⟨b, 0, none⟩), .int .u32 (id : Int)] w' fun e w'' => ∃ ao cap, e = .returned (.tuple #[.agg #[.int .u32 (id : Int), .slice ao (σ.cps id).length cap], .int .i64 0]) ∧ Own w0 w'' (Row 46 4 (.slice ao (σ.cps id).length cap) (σ.cps id).length (ccat (σ.cps id)) :: Store b σ K :: l')) := by
    intro w' l' j id hj h'
    obtain ⟨hl, h32⟩ := hLV id (List.mem_of_getElem? hj)
    obtain ⟨r, C, hr, he, _⟩ := hσ.ent hl
    rw [Sto.cps_of hr he]
    exact sent w0 w' l' b σ K h' hσ id h32 hl r C he hK
  have HCP : Hid (∀ (j id : Nat), σ.S.list[j]? = some id → (∀ q ∈ σ.cps id, q.k < 256) ∧ (σ.cps id).length ≤ 6) := by
    intro j id hj
    obtain ⟨hl, h32⟩ := hLV id (List.mem_of_getElem? hj)
    obtain ⟨r, C, hr, he, hlC, _⟩ := hσ.ent hl
    rw [Sto.cps_of hr he]
    exact ⟨fun q hq => by have := chk_k ((lst_ok hlC).2 q hq).2; omega, lst_len6 hlC⟩
  have HFD : Hid (∀ (j id : Nat), σ.S.list[j]? = some id → ((σ.S.list.take (j + 1)).filter (fun id => fitb a n (msk (σ.cps id)))) = (σ.S.list.take j).filter (fun id => fitb a n (msk (σ.cps id))) ++ (if fitb a n (msk (σ.cps id)) then [id] else [])) := by
    intro j id hj
    rw [List.take_add_one, hj, List.filter_append]
    by_cases h : fitb a n (msk (σ.cps id)) = true <;> simp [h]
  have HAL : Hid ((σ.S.list.take σ.S.list.length).filter (fun id => fitb a n (msk (σ.cps id))) = σ.find a n) := by show _ = _; rw [List.take_length]; rfl
  clear hσ hLV
  obtain ⟨IL, hIL⟩ : ∃ I, I = σ.S.list := ⟨_, rfl⟩
  simp only [← hIL] at H1 hn24 HEN HCP HFD HAL ⊢
  generalize hln : IL.length = nl at *
  have HN : Hid (IL.length = nl) := hln
  clear hln hIL
  gi_wp2
  gi_loopw [13] (fun cv wr => ∃ j : Nat, j ≤ nl ∧ cv = .int .i64 j ∧ Own w0 wr (boxes B (some ⟨b, 0, none⟩) a n (Store b σ K :: Z ((IL.take j).filter (fun id => fitb a n (msk (σ.cps id))))) ++ ([Row 38 1 (.slice va nl vc) nl (irow .u32 IL)] ++ R))) (fun cv _ => nl - (intOf cv).toNat)
  case atStart => exact ⟨0, Nat.zero_le _, rfl, H1.out⟩
  case round =>
    obtain ⟨j, hj, rfl, hO⟩ := hrel
    have HO : Hid (Own w0 wr _) := hO
    clear H1
    by_cases hlt : j < nl
    · have hlt' : (j : Int) < (nl : Int) := by omega
      obtain ⟨id, hid⟩ : ∃ id, IL[j]? = some id := ⟨_, List.getElem?_eq_getElem (by rw [HN.out]; exact hlt)⟩
      have hr := Own.pull (T := []) (B := R) hO
      obtain ⟨g, cp, hv, _⟩ := row_shape hr.row (by omega)
      have hva := (Value.slice.inj hv).1
      subst hva
      have c0 : wr.cell? ⟨g, j, none⟩ = some (.int .u32 (id : Int)) := by
        rw [hr.row.cellAt _ (by omega), getElem?_irow, hid]; rfl
      have q0 := Own.cell hO 0
      simp at q0
      have HE : Hid (Calls _ _ _ _ _) := HEN.out wr _ j id hid (Own.four hO)
      obtain ⟨hCk, hC6⟩ := HCP.out j id hid
      have HST := HFD.out j id hid
      have HFJ : Hid ((IL.take (j + 1)).filter (fun id => fitb a n (msk (σ.cps id))) = (IL.take j).filter (fun id => fitb a n (msk (σ.cps id))) ++ (if fitb a n (msk (σ.cps id)) then [id] else [])) := HST
      clear hr hv hO hid HST
      have HP2 : Hid (∀ p : List Nat → Prop, p ((IL.take j).filter (fun id => fitb a n (msk (σ.cps id))) ++ (if fitb a n (msk (σ.cps id)) then [id] else [])) → p ((IL.take (j + 1)).filter (fun id => fitb a n (msk (σ.cps id))))) := fun p hp => by rw [HFJ.out]; exact hp
      have HG : Hid (fitb a n (msk (σ.cps id)) = true → (IL.take j).filter (fun id => fitb a n (msk (σ.cps id))) ++ [id] <+: σ.find a n) := fun hb => by
        have h1 : (IL.take (j + 1)).filter (fun id => fitb a n (msk (σ.cps id))) <+: (IL.take nl).filter (fun id => fitb a n (msk (σ.cps id))) := (List.take_prefix_take_left (by omega)).filter _
        rw [HAL.out, HFJ.out, if_pos hb] at h1
        exact h1
      clear HFJ
      generalize (IL.take j).filter (fun id => fitb a n (msk (σ.cps id))) = pre at *
      obtain ⟨fb, hfb⟩ : ∃ fb, fb = fitb a n (msk (σ.cps id)) := ⟨_, rfl⟩
      rw [← hfb] at HP2 HG
      have HFB : Hid (fb = fitb a n (msk (σ.cps id))) := hfb
      clear hfb
      generalize σ.cps id = C at HE hCk hC6 HFB
      generalize hcl : C.length = cl at *
      gi_wp2_with fail
      refine ⟨trivial, (callsIn_wide.2 HE.out).mono ?_⟩
      rintro e w2 ⟨ga, gc, rfl, hO2⟩
      have hB := hO2.allocC #[.int .u32 (id : Int), .slice ga cl gc] 67
      have x1 := hB.cell 1
      simp at x1
      have HMK : Hid (Calls _ _ _ _ _) := hM _ ga cl gc C hcl (Own.rcs2 hB.two hcl) hCk (by omega)
      have HB : Hid (Own w0 _ _) := hB
      clear hO2 hB HE c0 q0
      gi_wp2_with fail
      refine ⟨trivial, (callsIn_wide.2 HMK.out).mono ?_⟩
      rintro e w3 ⟨rfl, hf⟩
      have hO3 := (HB.out.quiet hf).tail.tail.back4
      have q1 := hO3.two.cell 0
      have q2 := hO3.three.cell 0
      simp at q1 q2
      have H3 : Hid (Own w0 w3 (boxes B (some ⟨b, 0, none⟩) a n (Store b σ K :: Z pre) ++ ([Row 38 1 (.slice (some ⟨g, 0, none⟩) nl vc) nl (irow .u32 IL)] ++ R))) := hO3
      have hm64 := msk_lt C
      clear hf HMK HB hO3 x1 hcl hCk
      generalize msk C = m at *
      have e1 := u8_and_nat m a (by omega) (by omega)
      have e2 := u8_and_nat m n (by omega) (by omega)
      by_cases h1 : m &&& a = a
      · rw [h1] at e1
        have t1 : ((a : Int) == (a : Int)) = true := by simp
        by_cases h2 : m &&& n = 0
        · rw [h2] at e2
          have hfb : fb = true := by rw [HFB.out]; simp [fitb, h1, h2]
          rw [if_pos hfb] at HP2
          have hGG := HG.out hfb
          have HGG : Hid (pre ++ [id] <+: σ.find a n) := hGG
          obtain ⟨fn, tmps, assign, body, hy, hR⟩ := HY.out pre id w3 _ hGG H3.out
          clear hGG
          clear hfb h1 h2 HFB
          gi_wp2
          refine hR.mono ?_
          rintro e w4 (⟨rfl, hO4⟩ | ⟨rfl, hO4⟩)
          · have H4 : Hid (Own w0 w4 _) := hO4
            clear hO4 hR hy
            gi_wp2
            refine ⟨⟨j + 1, by omega, by go_num, HP2.out (fun p => Own w0 w4 (boxes B (some ⟨b, 0, none⟩) a n (Store b σ K :: Z p) ++ ([Row 38 1 (.slice (some ⟨g, 0, none⟩) nl vc) nl (irow .u32 IL)] ++ R))) H4.out⟩, ?_⟩
            simp [intOf]; omega
          · have H4 : Hid (Own w0 w4 _) := hO4
            clear hO4 hR hy
            gi_wp2
            refine bodyPost_ret (results_none rfl _ _ _) rfl ?_
            refine ⟨⟨_, rfl⟩, .inr ⟨pre ++ [id], HGG.out, ?_⟩⟩
            exact (Own.pull (T := []) (B := R2) H4.out).tail
        · have t2 : (((m &&& n : Nat) : Int) == 0) = false := by rw [beq_eq_false_iff_ne]; omega
          have hfb : ¬ fb = true := by rw [HFB.out]; simp [fitb, h2]
          rw [if_neg hfb, List.append_nil] at HP2
          clear h2 hfb HFB
          generalize (m &&& n) = mn at *
          gi_wp2
          refine ⟨fun _ h => (by cases h), ?_⟩
          gi_wp2
          all_goals exact ⟨⟨j + 1, by omega, by go_num, HP2.out (fun p => Own w0 w3 (boxes B (some ⟨b, 0, none⟩) a n (Store b σ K :: Z p) ++ ([Row 38 1 (.slice (some ⟨g, 0, none⟩) nl vc) nl (irow .u32 IL)] ++ R))) H3.out⟩, by simp [intOf]; omega⟩
      · have t1 : (((m &&& a : Nat) : Int) == (a : Int)) = false := by rw [beq_eq_false_iff_ne]; omega
        have hfb : ¬ fb = true := by rw [HFB.out]; simp [fitb, h1]
        rw [if_neg hfb, List.append_nil] at HP2
        clear h1 hfb HFB e2
        generalize (m &&& a) = ma at *
        gi_wp2
        refine ⟨fun _ h => (by cases h), ?_⟩
        gi_wp2
        all_goals exact ⟨⟨j + 1, by omega, by go_num, HP2.out (fun p => Own w0 w3 (boxes B (some ⟨b, 0, none⟩) a n (Store b σ K :: Z p) ++ ([Row 38 1 (.slice (some ⟨g, 0, none⟩) nl vc) nl (irow .u32 IL)] ++ R))) H3.out⟩, by simp [intOf]; omega⟩
    · have hlt' : ¬ (j : Int) < (nl : Int) := by omega
      have hjn : j = nl := by omega
      subst hjn
      clear hO
      gi_wp2
      go_end0
      refine ⟨⟨_, rfl⟩, .inl ?_⟩
      have h5 := (Own.pull (T := []) (B := R) HO.out).tail
      rw [HAL.out] at h5
      exact h5
/-- what the iterator over the entities of a store gives -/
def IterC (w0 : World) (p : Option Addr) (a n : Nat) (SG : Thing) (Xs : List Nat) : Prop := ∀ (B : Nat) (Z Y : List Nat → List Thing),
  Seq 3 Tryz.prog 203 #[.pointer (some ⟨B, 0, none⟩), .pointer (some ⟨B + 1, 0, none⟩), .pointer (some ⟨B + 2, 0, none⟩)] w0 (fun id : Nat => #[.int .u32 (id : Int)]) (fun pre => boxes B p a n (SG :: Z pre)) Y (fun xs => xs <+: Xs) (fun xs => xs = Xs) (fun xs => xs <+: Xs)
theorem iter_store (w0 : World) (b : Nat) (σ : Sto) (K : Nat) (hσ : σ.Ok) (hK : K ≤ 1000000) (hLV : ∀ id ∈ σ.S.list, σ.S.isLive id = true ∧ id < 4294967296) (a n : Nat) (ha8 : a < 256) (hn8 : n < 256) (ht : Tab w0) : IterC w0 (some ⟨b, 0, none⟩) a n (Store b σ K) (σ.find a n) :=
  fun B Z Y => fit_seq w0 b σ K hσ hK hLV B a n ha8 hn8 Z Y ht (fun w ao len cap C h1 h2 h3 h4 => mask_any w ao len cap C h1 h2 h3 h4)
/-- nothing -/
def Nil : Thing := Ex (fun _ : Unit => [])
theorem Own.nil_iff {w0 w : World} {l : List Thing} : Own w0 w (Nil :: l) ↔ Own w0 w l :=
  ⟨fun h => by obtain ⟨_, h⟩ := Own.ex_iff.1 h; exact h, fun h => Own.ex_iff.2 ⟨(), h⟩⟩
set_option maxHeartbeats 400000 in
theorem slist_nil (w : World) : Calls Tryz.prog 73 #[.pointer none] w fun e w' => e = .returned (.slice none 0 0) ∧ w' = w := by
  go_enter Tryz.func73, Tryz.ntmps73
  go_wp2_with (go_at_call 128; refine (sused_nil _).mono ?_; rintro e w' ⟨rfl, rfl⟩)
  refine (list_nil _).mono ?_
  rintro e w' ⟨rfl, rfl⟩
  go_wp2
  go_ret
  exact ⟨rfl, rfl⟩
set_option maxHeartbeats 1000000 in
theorem iter_nil (w0 : World) (a n : Nat) : IterC w0 none a n Nil [] := by
  intro B Z Y l R R2 W hY hO
  have q0 := Own.cell hO 0
  simp at q0
  have H1 : Hid (Own w0 W _) := hO
  have HL : Hid (Calls _ _ _ _ _) := slist_nil W
  clear hY hO
  refine callsIn_of_wp Tryz.func203 rfl trivial ?_ rfl
  simp only [Tryz.ntmps203, List.size_toArray, List.length_cons, List.length_nil, Nat.reduceAdd, Nat.reduceSub, Array.replicate_succ, Array.replicate_zero, List.push_toArray, List.append_toArray, List.nil_append, List.cons_append]
  gi_wp2_with fail
  refine ⟨trivial, (callsIn_wide.2 HL.out).mono ?_⟩
  rintro e w1 ⟨rfl, rfl⟩
  clear HL q0
  gi_wp2
  gi_loopw [13] (fun cv wr => cv = .int .i64 0 ∧ Own w0 wr (boxes B none a n (Nil :: Z []) ++ R)) (fun _ _ => 0)
  case atStart => exact ⟨rfl, H1.out⟩
  case round =>
    obtain ⟨rfl, hO⟩ := hrel
    have HO : Hid (Own w0 wr _) := hO
    clear hO H1
    gi_wp2
    go_end0
    exact ⟨⟨_, rfl⟩, .inl ⟨_, rfl, HO.out⟩⟩
end Go.Proofs.YtflmgilmbppieaaGreatDoor

/-
  The world looks at all components.
-/
namespace Go.Proofs.YtflmgilmbppieaaGreatDoor
open Go.RowKit
set_option linter.unusedVariables false
set_option maxRecDepth 100000

theorem Own.fr6 {w0 w : World} {a b c d e f g : Thing} {l : List Thing} (h : Own w0 w (a :: b :: c :: d :: e :: f :: g :: l)) : Own w0 w (g :: a :: b :: c :: d :: e :: f :: l) := h.perm (List.perm_middle (l₁ := [a, b, c, d, e, f]) (a := g) (l₂ := l))
theorem Own.fr7 {w0 w : World} {a b c d e f g k : Thing} {l : List Thing} (h : Own w0 w (a :: b :: c :: d :: e :: f :: g :: k :: l)) : Own w0 w (k :: a :: b :: c :: d :: e :: f :: g :: l) := h.perm (List.perm_middle (l₁ := [a, b, c, d, e, f, g]) (a := k) (l₂ := l))
/-- all components of all entities -/
def allS (σ : Sto) : List (Nat × Cp) := σ.S.list.flatMap (fun id => (σ.cps id).map (fun c => (id, c)))
theorem allW_S {σ : Sto} {L : List EnE} (h : L.map (fun x => (x.id, x.C)) = σ.S.list.map (fun id => (id, σ.cps id))) : allW L = allS σ := by
  have e1 : allW L = (L.map (fun x => (x.id, x.C))).flatMap (fun e => e.2.map (fun c => (e.1, c))) := by
    unfold allW; rw [List.flatMap_map]
  have e2 : allS σ = (σ.S.list.map (fun id => (id, σ.cps id))).flatMap (fun e => e.2.map (fun c => (e.1, c))) := by
    unfold allS; rw [List.flatMap_map]
  rw [e1, e2, h]
theorem ents_ok {σ : Sto} (hσ : σ.Ok) {L : List EnE} (h : L.map (fun x => (x.id, x.C)) = σ.S.list.map (fun id => (id, σ.cps id))) : L.length ≤ 1024 ∧ ∀ x ∈ L, x.id < 4294967296 ∧ x.C.length ≤ 6 ∧ ∀ c ∈ x.C, c.k < 256 := by
  constructor
  · have := congrArg List.length h
    simp only [List.length_map] at this
    rw [this]
    exact list_lenW hσ.s
  · intro x hx
    have hm : (x.id, x.C) ∈ σ.S.list.map (fun id => (id, σ.cps id)) := by rw [← h]; exact List.mem_map.2 ⟨x, hx, rfl⟩
    obtain ⟨id, hid, e⟩ := List.mem_map.1 hm
    simp only [Prod.mk.injEq] at e
    obtain ⟨hl, h32⟩ := St.list_w hσ.s hid
    obtain ⟨r, C, hr, he, hC, _⟩ := hσ.ent hl
    have hc := Sto.cps_of hr he
    rw [← e.1, ← e.2, hc]
    exact ⟨h32, lst_len6 hC, lst_k hC⟩
set_option maxHeartbeats 32000000 in
theorem look_ok (w0 w : World) (l : List Thing) (b bs : Nat) (T : Nat) (bwv pv : Value) (mp : Option Nat) (n : Nat) (S : Nat → Nat → Option SgE) (σ : Sto) (K : Nat) (hσ : σ.Ok) (hK : K ≤ 1000000) (hn : n ≤ 100000)
    (h : Own w0 w (Store bs σ K :: Cells b #[.int .u32 (T : Int), .pointer (some ⟨bs, 0, none⟩), bwv, .map mp, pv] 117 :: SMapO mp n S :: l)) :
    Calls Tryz.prog 59 #[.pointer (some ⟨b, 0, none⟩)] w fun e w' => e = .returned (.tuple #[]) ∧ ∃ (mn : Nat) (ao : Option Addr) (cap : Nat) (P L1 L2 : List PlE), LeftOf (sgp S) (sgp (mapOf S T (allS σ))) (fun _ _ => false) L1 ∧ ReachOf (mapOf S T (allS σ)) T (fun _ _ => false) L2 ∧ P.Perm (L1 ++ L2) ∧ P.Pairwise (fun a b => a.id ≤ b.id) ∧ Own w0 w' (Store bs σ K :: Cells b #[.int .u32 (T : Int), .pointer (some ⟨bs, 0, none⟩), bwv, .map (some mn), .slice ao P.length cap] 117 :: SMap mn (allS σ).length (sgp (mapOf S T (allS σ))) :: Row 63 4 (.slice ao P.length cap) P.length (cat PlE.cs P) :: l) := by
  have hM := h.smNew
  have HL : Hid (Calls _ _ _ _ _) := wlist w0 _ _ b bs _ σ K hM.back3 rfl hσ hK
  have HOK : Hid (∀ L : List EnE, L.map (fun x => (x.id, x.C)) = σ.S.list.map (fun id => (id, σ.cps id)) → L.length ≤ 1024 ∧ ∀ x ∈ L, x.id < 4294967296 ∧ x.C.length ≤ 6 ∧ ∀ c ∈ x.C, c.k < 256) := fun L hL => ents_ok hσ hL
  have hmm := fun w => @run_makeMap Tryz.prog 115 w
  clear h hM hσ hK
  go_enter Tryz.func59, Tryz.ntmps59
  go_wp2_with fail
  refine HL.out.mono ?_
  rintro e w2 ⟨ae, ce, L, rfl, hLe, h2⟩
  generalize w.heap.size = Bm at *
  obtain ⟨hLn, hLx⟩ := HOK.out L hLe
  have HLE : Hid (allW L = allS σ) := allW_S hLe
  have HLX : Hid (∀ x ∈ L, x.id < 4294967296 ∧ x.C.length ≤ 6 ∧ ∀ c ∈ x.C, c.k < 256) := hLx
  have H2 : Hid (Own w0 w2 (EntsT ae ce L :: Store bs σ K :: Cells b #[.int .u32 (T : Int), .pointer (some ⟨bs, 0, none⟩), bwv, .map mp, pv] 117 :: SMap Bm 0 (sgp (mapOf S T [])) :: SMapO mp n S :: l)) := (h2.perm perm_ents).ents
  obtain ⟨m, hm⟩ : ∃ m, m = L.length := ⟨_, rfl⟩
  have HMM : Hid (m = L.length) := hm
  rw [← hm] at hLn ⊢
  clear h2 hLe hLx HL HOK hm hmm
  go_wp2
  go_loopw [12] (fun vi wr => ∃ (j : Nat) (A : List (Nat × Cp)), j ≤ m ∧ vi = .int .i64 (j : Int) ∧ A = allW (L.take j) ∧ A.length ≤ 6 * j ∧ Own w0 wr (EntsT ae ce L :: Store bs σ K :: Cells b #[.int .u32 (T : Int), .pointer (some ⟨bs, 0, none⟩), bwv, .map mp, pv] 117 :: SMap Bm A.length (sgp (mapOf S T A)) :: SMapO mp n S :: l)) (fun vi _ => m - (intOf vi).toNat)
  case atStart => exact ⟨0, [], Nat.zero_le _, rfl, rfl, Nat.zero_le _, H2.out⟩
  case round =>
    obtain ⟨j, A, hj, rfl, hA0, hAl, hO⟩ := hrel
    have HAE : Hid (A = allW (L.take j)) := hA0
    clear hA0 H2
    by_cases hlt : j < m
    · have hlt' : (j : Int) < (m : Int) := by omega
      obtain ⟨x, hx⟩ : ∃ x, L[j]? = some x := ⟨_, List.getElem?_eq_getElem (by rw [← HMM.out]; exact hlt)⟩
      obtain ⟨⟨ge, hge, c0, c1⟩, _⟩ := hO.entAt hx
      obtain ⟨hx1, hx2, hx3⟩ := HLX.out x (List.mem_of_getElem? hx)
      have HX3 : Hid (∀ c ∈ x.C, c.k < 256) := hx3
      have HXX : Hid (L[j]? = some x) := hx
      have HAN : Hid (A ++ x.C.map (fun c => (x.id, c)) = allW (L.take (j + 1))) := by
        show _ = _
        rw [HAE.out, List.take_add_one, hx]
        exact (allW_snoc _ _).symm
      have hA := hO.allocC #[.int .u32 (x.id : Int), .slice x.ao x.C.length x.cap] 67
      have HA : Hid (Own w0 _ _) := hA
      obtain ⟨xi, hxi⟩ : ∃ v, v = x.id := ⟨_, rfl⟩
      obtain ⟨xl, hxl⟩ : ∃ v, v = x.C.length := ⟨_, rfl⟩
      obtain ⟨xa, hxa⟩ : ∃ v, v = x.ao := ⟨_, rfl⟩
      obtain ⟨xc, hxc⟩ : ∃ v, v = x.cap := ⟨_, rfl⟩
      rw [← hxi] at c0 hx1 HA HAN
      rw [← hxl, ← hxa, ← hxc] at c1 HA
      rw [← hxl] at hx2
      have HXV : Hid (xi = x.id ∧ xl = x.C.length ∧ xa = x.ao ∧ xc = x.cap) := ⟨hxi, hxl, hxa, hxc⟩
      obtain ⟨An, hAn⟩ : ∃ v, v = A.length := ⟨_, rfl⟩
      rw [← hAn] at hAl HA
      have HAn : Hid (An = A.length) := hAn
      subst hge
      clear hA hO hx hx3 hxi hxl hxa hxc hAn
      go_wp2
      generalize hWg : wr.alloc (.cells #[.int .u32 (xi : Int), .slice xa xl xc] 67) = W3 at *
      generalize wr.heap.size = b4 at *
      clear hWg c0 c1
      go_loopw [19] (fun vi wr => ∃ (q : Nat) (A2 : List (Nat × Cp)), q ≤ xl ∧ vi = .int .i64 (q : Int) ∧ A2 = A ++ (x.C.take q).map (fun c => (xi, c)) ∧ Own w0 wr (Cells b4 #[.int .u32 (xi : Int), .slice xa xl xc] 67 :: EntsT (some ⟨ge, 0, none⟩) ce L :: Store bs σ K :: Cells b #[.int .u32 (T : Int), .pointer (some ⟨bs, 0, none⟩), bwv, .map mp, pv] 117 :: SMap Bm (An + q) (sgp (mapOf S T A2)) :: SMapO mp n S :: l)) (fun vi _ => xl - (intOf vi).toNat)
      case atStart => exact ⟨0, A, Nat.zero_le _, rfl, by simp, HA.out⟩
      case round =>
        obtain ⟨q, A2, hq, rfl, hA2, hO⟩ := hrel
        have HA2 : Hid (A2 = A ++ (x.C.take q).map (fun c => (xi, c))) := hA2
        clear hA2 HA
        by_cases hql : q < xl
        · have hql' : (q : Int) < (xl : Int) := by omega
          obtain ⟨c, hc⟩ : ∃ c, x.C[q]? = some c := ⟨_, List.getElem?_eq_getElem (by rw [← HXV.out.2.1]; exact hql)⟩
          have hcs := (hO.two.entAt HXX.out).2
          obtain ⟨gc, oc, hgc, _, t0, t1, t2, t3⟩ := hcs.at q c hc
          rw [← HXV.out.2.2.1] at hgc
          have hck := HX3.out c (List.mem_of_getElem? hc)
          have f0 := hO.cell 0
          simp at f0
          have HA3 : Hid (A2 ++ [(xi, c)] = A ++ (x.C.take (q + 1)).map (fun c => (xi, c))) := by
            show _ = _
            rw [HA2.out, List.take_add_one, hc]
            simp
          obtain ⟨ck, ca, cb, cc⟩ := c
          simp only at t0 t1 t2 t3 hck
          have hB := (hO.allocC #[.int .u8 (ck : Int), .int .i32 ca, .int .i32 cb, .int .i32 cc] 46).allocC #[.int .u32 (xi : Int), .int .u8 (ck : Int)] 189
          simp only [World.size_alloc] at hB
          have g0 := hB.three.cell 0
          simp at g0
          have hB1 := hO.allocC #[.int .u8 (ck : Int), .int .i32 ca, .int .i32 cb, .int .i32 cc] 46
          have k0 := hB1.two.cell 0
          simp at k0
          obtain ⟨sv, hsv⟩ : ∃ sv, sv = (sgt (S xi ck) T ck ca cb cc).v := ⟨_, rfl⟩
          have HSG : Hid (∀ W l, Own w0 W (SMapO mp n S :: Cells b #[.int .u32 (T : Int), .pointer (some ⟨bs, 0, none⟩), bwv, .map mp, pv] 117 :: l) → Calls Tryz.prog 114 #[.pointer (some ⟨b, 0, none⟩), .agg #[.int .u32 (xi : Int), .int .u8 (ck : Int)], .agg #[.int .u8 (ck : Int), .int .i32 ca, .int .i32 cb, .int .i32 cc]] W fun e w' => e = .returned sv ∧ Own w0 w' (SMapO mp n S :: Cells b #[.int .u32 (T : Int), .pointer (some ⟨bs, 0, none⟩), bwv, .map mp, pv] 117 :: l)) := fun W l h => by
            rw [hsv]
            exact sight_o w0 W l b _ mp n T S rfl rfl xi ck hx1 hck ck ca cb cc h
          have HPU : Hid (∀ W l, Own w0 W (SMap Bm (An + q) (sgp (mapOf S T A2)) :: l) → ∃ w', (Instr.mapUpdate 115 (.map (some Bm)) (.agg #[.int .u32 (xi : Int), .int .u8 (ck : Int)]) sv).run Tryz.prog W = .ok () w' ∧ Own w0 w' (SMap Bm (An + (q + 1)) (sgp (mapOf S T (A2 ++ [(xi, ⟨ck, ca, cb, cc⟩)]))) :: l)) := fun W l h => by
            rw [hsv, mapOf_snoc]
            exact h.smStp (S := S) (T := T) (xi, ⟨ck, ca, cb, cc⟩) hx1 hck (by unfold maxLen; omega)
          have H0 : Hid (Own w0 _ (SMapO mp n S :: Cells b #[.int .u32 (T : Int), .pointer (some ⟨bs, 0, none⟩), bwv, .map mp, pv] 117 :: Cells (wr.heap.size + 1) #[.int .u32 (xi : Int), .int .u8 (ck : Int)] 189 :: Cells wr.heap.size #[.int .u8 (ck : Int), .int .i32 ca, .int .i32 cb, .int .i32 cc] 46 :: Cells b4 #[.int .u32 (xi : Int), .slice xa xl xc] 67 :: EntsT (some ⟨ge, 0, none⟩) ce L :: Store bs σ K :: SMap Bm (An + q) (sgp (mapOf S T A2)) :: l)) := (hB.fr7.fr6.two).drew
          subst hgc
          clear hB hB1 hO hcs hc hsv
          go_wp2
          generalize hWg : (wr.alloc (.cells #[.int .u8 (ck : Int), .int .i32 ca, .int .i32 cb, .int .i32 cc] 46)).alloc (.cells #[.int .u32 (xi : Int), .int .u8 (ck : Int)] 189) = W5 at *
          generalize hb6 : wr.heap.size = b6 at *
          generalize hb7 : b6 + 1 = b7 at *
          clear hWg t0 t1 t2 t3 f0 g0 k0 hb6 hb7
          have p0 := H0.out.three.cell 0
          have p1 := H0.out.three.cell 1
          have r0 := H0.out.four.cell 0
          have r1 := H0.out.four.cell 1
          have r2 := H0.out.four.cell 2
          have r3 := H0.out.four.cell 3
          simp at p0 p1 r0 r1 r2 r3
          go_region_held3 (fun w' => w'.cell? ⟨b7, 0, none⟩ = some (.int .u32 (xi : Int)) ∧ w'.cell? ⟨b7, 1, none⟩ = some (.int .u8 (ck : Int)) ∧ w'.cell? ⟨b6, 0, none⟩ = some (.int .u8 (ck : Int)) ∧ w'.cell? ⟨b6, 1, none⟩ = some (.int .i32 ca) ∧ w'.cell? ⟨b6, 2, none⟩ = some (.int .i32 cb) ∧ w'.cell? ⟨b6, 3, none⟩ = some (.int .i32 cc)) (go_keep)
            (first
              | (go_at_call 114; refine (HSG.out _ _ H0.out).mono ?_; rintro e w5 ⟨rfl, h5⟩
                 have u0 := h5.three.cell 0
                 have u1 := h5.three.cell 1
                 have v0 := h5.four.cell 0
                 have v1 := h5.four.cell 1
                 have v2 := h5.four.cell 2
                 have v3 := h5.four.cell 3
                 simp at u0 u1 v0 v1 v2 v3
                 obtain ⟨W6, hr6, h6⟩ := HPU.out w5 _ h5.fr7
                 have x0 := h6.four.cell 0
                 have x1 := h6.four.cell 1
                 have y0 := h6.five.cell 0
                 have y1 := h6.five.cell 1
                 have y2 := h6.five.cell 2
                 have y3 := h6.five.cell 3
                 simp at x0 x1 y0 y1 y2 y3
                 have H6 : Hid (Own w0 W6 (Cells b4 #[.int .u32 (xi : Int), .slice (some ⟨gc, oc, none⟩) xl xc] 67 :: EntsT (some ⟨ge, 0, none⟩) ce L :: Store bs σ K :: Cells b #[.int .u32 (T : Int), .pointer (some ⟨bs, 0, none⟩), bwv, .map mp, pv] 117 :: SMap Bm (An + (q + 1)) (sgp (mapOf S T (A2 ++ [(xi, ⟨ck, ca, cb, cc⟩)]))) :: SMapO mp n S :: l)) := h6.three.fr7.fr7.fr7.fr6.tail.fr6.tail
                 clear h5 h6))
          clear HSG HPU H0
          go_wp2
          go_roundw
          case rel => exact ⟨q + 1, A2 ++ [(xi, ⟨ck, ca, cb, cc⟩)], by omega, by go_num, HA3.out, H6.out⟩
          case measure => simp [intOf]; omega
        · have hql' : ¬ (q : Int) < (xl : Int) := by omega
          have hqe : q = xl := by omega
          have HAF : Hid (A2 = allW (L.take (j + 1)) ∧ A2.length = An + q) := by
            have e : A2 = A ++ x.C.map (fun c => (xi, c)) := by rw [HA2.out, hqe, HXV.out.2.1, List.take_length]
            refine ⟨by rw [e]; exact HAN.out, ?_⟩
            rw [e, List.length_append, List.length_map, ← HAn.out, ← HXV.out.2.1, hqe]
          have HOF : Hid (Own w0 wr (EntsT (some ⟨ge, 0, none⟩) ce L :: Store bs σ K :: Cells b #[.int .u32 (T : Int), .pointer (some ⟨bs, 0, none⟩), bwv, .map mp, pv] 117 :: SMap Bm A2.length (sgp (mapOf S T A2)) :: SMapO mp n S :: l)) := by
            rw [HAF.out.2]
            exact hO.tail
          clear hO hqe
          go_wp2
          go_roundw
          case rel => exact ⟨j + 1, A2, by omega, by go_num, HAF.out.1, by rw [HAF.out.2]; omega, HOF.out⟩
          case measure => simp [intOf]; omega
    · have hlt' : ¬ (j : Int) < (m : Int) := by omega
      have hjm : j = m := by omega
      have hAA : A = allS σ := by rw [HAE.out, hjm, HMM.out, List.take_length]; exact HLE.out
      obtain ⟨An, hAn⟩ : ∃ v, v = A.length := ⟨_, rfl⟩
      have hAl2 : An ≤ 6144 := by omega
      have hO1 : Own w0 wr (SMapO mp n S :: SMap Bm An (sgp (mapOf S T A)) :: Cells b #[.int .u32 (T : Int), .pointer (some ⟨bs, 0, none⟩), bwv, .map mp, pv] 117 :: Store bs σ K :: l) := by
        have h1 := hO.tail
        rw [← hAn] at h1
        have h2 := h1.three.four
        exact h2.perm (List.Perm.cons _ (List.Perm.cons _ (List.Perm.swap _ _ l)))
      have HAA : Hid (A = allS σ ∧ An = (allS σ).length) := ⟨hAA, by rw [hAn, hAA]⟩
      obtain ⟨S', hS'⟩ : ∃ S', S' = mapOf S T A := ⟨_, rfl⟩
      rw [← hS'] at hO1
      have HS' : Hid (S' = mapOf S T (allS σ)) := by rw [hS', hAA]; exact rfl
      have HLF : Hid (Calls _ _ _ _ _) := left_o w0 wr _ b _ mp n Bm An S S' rfl (by omega) hO1
      clear hO hO1 hAA hAn hS' hjm HAE HMM HLE HLX hAl hLn hj
      go_wp2_with fail
      refine HLF.out.mono ?_
      rintro e w3 ⟨a1, c1, L1, rfl, hl1, hL1, h3⟩
      have HRC : Hid (Calls _ _ _ _ _) := reached_ok w0 w3 _ b _ Bm An T S' rfl (by omega) h3.three.four.two
      have HL1 : Hid (LeftOf (sgp S) (sgp S') (fun _ _ => false) L1) := hL1
      obtain ⟨n1, hn1⟩ : ∃ v, v = L1.length := ⟨_, rfl⟩
      have HN1 : Hid (n1 = L1.length) := hn1
      rw [← hn1] at hl1 HRC ⊢
      clear HLF h3 hL1 hn1
      go_wp2_with fail
      refine HRC.out.mono ?_
      rintro e w4 ⟨a2, c2, L2, rfl, hl2, hL2, h4⟩
      have HL2 : Hid (ReachOf S' T (fun _ _ => false) L2) := hL2
      obtain ⟨n2, hn2⟩ : ∃ v, v = L2.length := ⟨_, rfl⟩
      have HN2 : Hid (n2 = L2.length) := hn2
      rw [← hn2] at hl2 h4 ⊢
      have hD := h4.allocC #[.slice a1 n1 c1, .slice a2 n2 c2] 60
      have hD2 := hD.five.two
      have HCC : Hid (Calls _ _ _ _ _) := concatPl w0 _ _ w4.heap.size a1 a2 c1 c2 L1 L2 (by rw [← HN1.out, ← HN2.out]; omega) (by rw [← HN1.out, ← HN2.out]; exact hD2)
      clear HRC h4 hL2 hn2 hD hD2
      go_wp2_with fail
      refine HCC.out.mono ?_
      rintro e w5 ⟨a3, c3, rfl, h5⟩
      obtain ⟨n3, hn3⟩ : ∃ v, v = (L1 ++ L2).length := ⟨_, rfl⟩
      have hn3b : n3 ≤ 200000 := by rw [hn3, List.length_append, ← HN1.out, ← HN2.out]; omega
      have hC := h5.three
      have z4 := hC.cell 4
      have y4 := hC.froz 4
      simp at z4
      have hC2 := hC.setC 4 (.slice a3 n3 c3)
      have HSO : Hid (Calls _ _ _ _ _) := sort_any w0 _ _ a3 c3 (L1 ++ L2) hC2.two (by rw [← hn3]; omega)
      have z5 := hC2.cell 4
      simp at z5
      rw [← hn3] at HSO ⊢
      have HN3 : Hid (n3 = (L1 ++ L2).length) := hn3
      clear HCC h5 hC hC2 hn3
      go_wp2_with fail
      refine HSO.out.mono ?_
      rintro e w6 ⟨rfl, P, hp, hpw, h6⟩
      have hE := h6.two
      have z3 := hE.cell 3
      have y3 := hE.froz 3
      simp at z3
      have hE2 := hE.setC 3 (.map (some Bm))
      have hPl : P.length = n3 := by rw [HN3.out]; exact hp.length_eq
      have HP : Hid (P.Perm (L1 ++ L2) ∧ P.Pairwise (fun a b => a.id ≤ b.id)) := ⟨hp, hpw⟩
      have HFI : Hid (Own w0 (w6.setCell ⟨b, 3, none⟩ (.map (some Bm))) (Store bs σ K :: Cells b #[.int .u32 (T : Int), .pointer (some ⟨bs, 0, none⟩), bwv, .map (some Bm), .slice a3 P.length c3] 117 :: SMap Bm (allS σ).length (sgp (mapOf S T (allS σ))) :: Row 63 4 (.slice a3 P.length c3) P.length (cat PlE.cs P) :: l)) := by
        show Own _ _ _
        rw [hPl, ← HAA.out.2, ← HS'.out]
        have h7 := hE2.five.five.tail
        exact h7.perm (List.Perm.cons _ (List.Perm.cons _ (List.Perm.swap _ _ l)))
      clear hE hE2 h6 hp hpw hPl HSO z4 y4 z5
      go_wp2
      go_end0
      refine ⟨rfl, Bm, a3, c3, P, L1, L2, ?_, ?_, HP.out.1, HP.out.2, HFI.out⟩
      · rw [← HS'.out]; exact HL1.out
      · rw [← HS'.out]; exact HL2.out
end Go.Proofs.YtflmgilmbppieaaGreatDoor
