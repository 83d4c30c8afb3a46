/-
  The world's entities, one by one and all.
-/
import Derived.Test.YtflmgilmbppieaaGreatDoorOh
import Derived.Test.YtflmgilmbppieaaGreatDoorOj
import Derived.Test.YtflmgilmbppieaaGreatDoorOn
import Derived.Laws.ResultCell
import Derived.Test.YtflmgilmbppieaaGreatDoorWogh
import Derived.Test.YtflmgilmbppieaaGreatDoorXm
import Derived.RangeFuncNested
import Derived.RangeFuncBound
import Derived.RangeFuncCalls
import Derived.RangeFuncLeaves
import Derived.Shelf.Abstract
import Derived.Shelf.RegionOpen
import Derived.WalkKit
import Derived.OwnWalkIn
import Derived.TacticsInMore
import Derived.LoopNIn
import Derived.LoopIn
import Derived.Test.YtflmgilmbppieaaGreatDoorSm
import Derived.Test.YtflmgilmbppieaaGreatDoorSn
import Derived.Deep.RegionHeld3
import Derived.Test.YtflmgilmbppieaaGreatDoorOb
import Derived.Test.YtflmgilmbppieaaGreatDoorOg
namespace Go.Proofs.YtflmgilmbppieaaGreatDoor
open Go.RowKit
set_option linter.unusedVariables false
set_option maxRecDepth 100000

theorem pick_memW (l : List Nat) (m : List Bool) (y : Nat) (h : y ∈ pick l m) : ∃ i : Nat, l[i]? = some y ∧ m[i]? = some true := by
  induction l generalizing m with
  | nil => cases m <;> simp [pick] at h
  | cons x l ih => cases m with
    | nil => simp [pick] at h
    | cons u m =>
      cases u
      · obtain ⟨i, a, b⟩ := ih m (by simpa [pick] using h)
        exact ⟨i + 1, by simpa using a, by simpa using b⟩
      · rw [pick, if_pos rfl] at h
        rcases List.mem_cons.1 h with rfl | h
        · exact ⟨0, rfl, rfl⟩
        · obtain ⟨i, a, b⟩ := ih m h
          exact ⟨i + 1, by simpa using a, by simpa using b⟩
theorem St.list_w {S : St} (hS : S.Ok) {y : Nat} (h : y ∈ S.list) : S.isLive y = true ∧ y < 4294967296 := by
  obtain ⟨i, a, b⟩ := pick_memW _ _ _ h
  have := hS.id i y a
  rw [St.isLive_iff hS, this.1]
  exact ⟨⟨b, a⟩, this.2.2⟩
set_option maxHeartbeats 1000000 in
theorem wstored (w0 w : World) (l : List Thing) (b bs : Nat) (wc : Array Value) (h : Own w0 w (Cells b wc 117 :: l)) (hwc : wc[1]? = some (.pointer (some ⟨bs, 0, none⟩))) :
    Calls Tryz.prog 72 #[.pointer (some ⟨b, 0, none⟩)] w fun e w' => e = .returned (.pointer (some ⟨bs, 0, none⟩)) ∧ w' = w := by
  have q1 := h.cell 1
  rw [hwc] at q1
  clear h hwc
  go_enter Tryz.func72, Tryz.ntmps72
  go_wp2
  go_ret
  exact ⟨rfl, rfl⟩
set_option maxHeartbeats 4000000 in
theorem went (w0 w : World) (l : List Thing) (b bs : Nat) (wc : Array Value) (σ : Sto) (K : Nat) (h : Own w0 w (Store bs σ K :: Cells b wc 117 :: l)) (hwc : wc[1]? = some (.pointer (some ⟨bs, 0, none⟩))) (hσ : σ.Ok) (id : Nat) (hid : id < 4294967296) (hl : σ.S.isLive id = true) (hK : K ≤ 1000000) :
    Calls Tryz.prog 69 #[.pointer (some ⟨b, 0, none⟩), .int .u32 (id : Int)] w fun e w' => ∃ ao cap, e = .returned (.tuple #[.agg #[.int .u32 (id : Int), .slice ao (σ.cps id).length cap], .int .i64 0]) ∧ Own w0 w' (Row 46 4 (.slice ao (σ.cps id).length cap) (σ.cps id).length (ccat (σ.cps id)) :: Store bs σ K :: Cells b wc 117 :: l) := by
  obtain ⟨r, C, hr, he, _⟩ := hσ.ent hl
  rw [Sto.cps_of hr he]
  have hA := h.allocC #[.int .u32 0, .slice none 0 0] 67
  have HS : Hid (Calls _ _ _ _ _) := wstored w0 _ _ b bs wc hA.three hwc
  have HE : Hid (Calls _ _ _ _ _) := sent w0 _ _ bs σ K hA.two hσ id hid hl r C he hK
  clear h hwc hσ hl he hr hid hK
  generalize hcl : C.length = cl at *
  clear hA hcl
  go_enter Tryz.func69, Tryz.ntmps69
  go_wp2_with fail
  refine HS.out.mono ?_
  rintro e w1 ⟨rfl, rfl⟩
  go_wp2_with fail
  refine HE.out.mono ?_
  rintro e w2 ⟨ao, cap, rfl, hO⟩
  have hB := hO.three
  generalize w.heap.size = B at *
  have z0 := hB.cell 0
  have z1 := hB.cell 1
  simp at z0 z1
  have y0 := hB.froz 0
  have y1 := hB.froz 1
  have HF : Hid (Own w0 _ _) := (hB.setC 0 (.int .u32 (id : Int))).setC 1 (.slice ao cl cap)
  clear hO hB HS HE
  go_wp2
  (try simp only [Exit.inBlock, Exit.then])
  refine bodyPost_ret (v := .tuple #[.agg #[.int .u32 (id : Int), .slice ao cl cap], .int .i64 0]) ?_ rfl ⟨ao, cap, rfl, ?_⟩
  · rw [results_cell_tmp rfl]
    have r0 := HF.out.cell 0
    have r1 := HF.out.cell 1
    simp at r0 r1
    go_simp
  · exact HF.out.tail
end Go.Proofs.YtflmgilmbppieaaGreatDoor

/-
  All entities of the world, as a list.
-/
namespace Go.Proofs.YtflmgilmbppieaaGreatDoor
open Go.RowKit
set_option linter.unusedVariables false
set_option maxRecDepth 100000

/-- an entity in a list: its number, its components, and where they lie -/
structure EnE where
  id : Nat
  ao : Option Addr
  cap : Nat
  C : List Cp
def EnE.cs (x : EnE) : List Value := [.int .u32 (x.id : Int), .slice x.ao x.C.length x.cap]
def erow (x : EnE) : Thing := Row 46 4 (.slice x.ao x.C.length x.cap) x.C.length (ccat x.C)
theorem Tryz.infoEnt : (Tryz.prog.info? 67).map (fun i => (i.zero, i.size, i.bytes)) = some (some (.agg #[.int .u32 0, .slice none 0 0]), 2, 32) := by kernel_rfl
theorem info3w {P : Program} {t : TypeId} {z : Option Value} {s b : Nat} (h : (P.info? t).map (fun i => (i.zero, i.size, i.bytes)) = some (z, s, b)) : ∃ i, P.info? t = some i ∧ i.zero = z ∧ i.size = s ∧ i.bytes = b := by
  cases hi : P.info? t with
  | none => rw [hi] at h; simp at h
  | some i => rw [hi] at h; simp at h; exact ⟨i, rfl, h.1, h.2.1, h.2.2⟩
theorem ene_one (x : EnE) : ∀ u ∈ x.cs.toArray.toList, u.oneCell' = true := by
  intro u hu
  simp [EnE.cs] at hu
  rcases hu with rfl | rfl <;> rfl
theorem perm_w {A B C D E : Thing} {M l : List Thing} : (A :: B :: C :: D :: E :: (M ++ l)).Perm (A :: E :: C :: D :: ((M ++ [B]) ++ l)) := by
  refine List.Perm.cons A ?_
  have h1 : (E :: C :: D :: ((M ++ [B]) ++ l)).Perm (B :: E :: C :: D :: (M ++ l)) := by
    have := List.perm_middle (l₁ := E :: C :: D :: M) (a := B) (l₂ := l)
    simpa using this
  have h2 : (C :: D :: E :: (M ++ l)).Perm (E :: C :: D :: (M ++ l)) := List.perm_middle (l₁ := [C, D]) (a := E) (l₂ := M ++ l)
  exact (List.Perm.cons B h2).trans h1.symm
theorem list_lenW {S : St} (hS : S.Ok) : S.list.length ≤ 1024 := by
  rw [St.list_length hS, hS.live]
  have h1 := List.count_le_length (a := true) (l := S.used)
  have h2 := hS.ul
  have h3 := hS.le
  have h4 := hS.n2
  omega
set_option maxHeartbeats 8000000 in
theorem wlist (w0 w : World) (l : List Thing) (b bs : Nat) (wc : Array Value) (σ : Sto) (K : Nat) (h : Own w0 w (Store bs σ K :: Cells b wc 117 :: l)) (hwc : wc[1]? = some (.pointer (some ⟨bs, 0, none⟩))) (hσ : σ.Ok) (hK : K ≤ 1000000) :
    Calls Tryz.prog 26 #[.pointer (some ⟨b, 0, none⟩)] w fun e w' => ∃ (ao : Option Addr) (cap : Nat) (L : List EnE), e = .returned (.slice ao L.length cap) ∧ L.map (fun x => (x.id, x.C)) = σ.S.list.map (fun id => (id, σ.cps id)) ∧ Own w0 w' (Row 67 2 (.slice ao L.length cap) L.length (cat EnE.cs L) :: Store bs σ K :: Cells b wc 117 :: (L.map erow ++ l)) := by
  obtain ⟨i0, hi, hz0, hz1, hz2⟩ := info3w Tryz.infoEnt
  have HS : Hid (Calls _ _ _ _ _) := wstored w0 _ _ b bs wc h.two hwc
  have HL : Hid (Calls _ _ _ _ _) := slist w0 w _ bs σ K h hσ.s
  have HEN : Hid (∀ W l id, id < 4294967296 → σ.S.isLive id = true → Own w0 W (Store bs σ K :: Cells b wc 117 :: l) → Calls Tryz.prog 69 #[.pointer (some ⟨b, 0, none⟩), .int .u32 (id : Int)] W fun e w' => ∃ x : EnE, x.id = id ∧ x.C = σ.cps id ∧ e = .returned (.tuple #[.agg #[.int .u32 (id : Int), .slice x.ao x.C.length x.cap], .int .i64 0]) ∧ Own w0 w' (erow x :: Store bs σ K :: Cells b wc 117 :: l)) := fun W l id hid hl h2 => by
    refine (went w0 W l b bs wc σ K h2 hwc hσ id hid hl hK).mono ?_
    rintro e w' ⟨ao, cap, rfl, h3⟩
    exact ⟨⟨id, ao, cap, σ.cps id⟩, rfl, rfl, rfl, h3⟩
  have HLV : Hid (∀ y ∈ σ.S.list, σ.S.isLive y = true ∧ y < 4294967296) := fun y hy => St.list_w hσ.s hy
  have hlen := list_lenW hσ.s
  obtain ⟨ids, hids⟩ : ∃ ids, ids = σ.S.list := ⟨_, rfl⟩
  rw [← hids] at HL HLV hlen
  rw [← hids]
  obtain ⟨n, hn⟩ : ∃ n, n = ids.length := ⟨_, rfl⟩
  rw [← hn] at HL hlen
  have HN : Hid (n = ids.length) := hn
  clear h hwc hσ hK hn hids
  go_enter Tryz.func26, Tryz.ntmps26
  go_wp2_with fail
  refine HS.out.mono ?_
  rintro e w1 ⟨rfl, rfl⟩
  go_wp2_with fail
  refine HL.out.mono ?_
  rintro e w2 ⟨v, rfl, h2⟩
  obtain ⟨a2, c2, rfl⟩ := row_any h2.row
  have H2 : Hid (Own w0 w2 (Row 38 1 (.slice a2 n c2) n (irow .u32 ids) :: Store bs σ K :: Cells b wc 117 :: l)) := h2
  clear h2 HS HL
  go_wp2
  go_loopw [3, 12] (fun vo vi wr => ∃ (j : Nat) (L : List EnE) (m : Nat) (ao : Option Addr) (cap : Nat), j ≤ n ∧ vi = .int .i64 (j : Int) ∧ vo = .slice ao m cap ∧ m = L.length ∧ m = j ∧ L.map (fun x => (x.id, x.C)) = (ids.take j).map (fun id => (id, σ.cps id)) ∧ Own w0 wr (Row 67 2 (.slice ao m cap) m (cat EnE.cs L) :: Row 38 1 (.slice a2 n c2) n (irow .u32 ids) :: Store bs σ K :: Cells b wc 117 :: (L.map erow ++ l))) (fun _ vi _ => n - (intOf vi).toNat)
  case atStart => exact ⟨0, [], 0, none, 0, Nat.zero_le _, rfl, rfl, rfl, rfl, rfl, H2.out.nilRow _ _⟩
  case round =>
    obtain ⟨j, L, m, ao, cap, hj, rfl, rfl, hm, hmj, hL, hO⟩ := hrel
    have HM : Hid (m = L.length) := hm
    have HLL : Hid (L.map (fun x => (x.id, x.C)) = (ids.take j).map (fun id => (id, σ.cps id))) := hL
    have hm1 : m ≤ 1024 := by omega
    clear H2 hm hL
    by_cases hlt : j < n
    · have hlt' : (j : Int) < (n : Int) := by omega
      obtain ⟨id, hid⟩ : ∃ id, ids[j]? = some id := ⟨_, List.getElem?_eq_getElem (by rw [← HN.out]; exact hlt)⟩
      obtain ⟨hlv, hid32⟩ := HLV.out id (List.mem_of_getElem? hid)
      have c0 : ∃ g, a2 = some ⟨g, 0, none⟩ ∧ wr.cell? ⟨g, j, none⟩ = some (.int .u32 (id : Int)) := by
        obtain ⟨g, cp, hv, _⟩ := row_shape hO.two.row (by omega)
        have hva := (Value.slice.inj hv).1
        subst hva
        refine ⟨g, rfl, ?_⟩
        rw [hO.two.row.cellAt _ (by omega), getElem?_irow, hid]
        rfl
      obtain ⟨g, hg, c0⟩ := c0
      have HE : Hid (Calls _ _ _ _ _) := HEN.out wr _ id hid32 hlv hO.four.four
      have HLN : Hid (∀ x : EnE, x.id = id → x.C = σ.cps id → (L ++ [x]).map (fun x => (x.id, x.C)) = (ids.take (j + 1)).map (fun id => (id, σ.cps id))) := fun x h1 h2 => by
        rw [List.map_append, HLL.out, List.take_add_one, hid, List.map_append]
        simp [h1, h2]
      subst hg hmj
      clear hO hid hlv hid32 HLL
      go_wp2_with fail
      refine HE.out.mono ?_
      rintro e w3 ⟨x, hx1, hx2, rfl, h3⟩
      have HX : Hid (x.id = id ∧ x.C = σ.cps id) := ⟨hx1, hx2⟩
      have hA := h3.allocC #[.int .u32 (id : Int), .slice x.ao x.C.length x.cap] 67
      have hB : Own w0 (w3.alloc (.cells #[.int .u32 (id : Int), .slice x.ao x.C.length x.cap] 67)) (Row 67 2 (.slice ao m cap) m (cat EnE.cs L) :: erow x :: Store bs σ K :: Cells b wc 117 :: Row 38 1 (.slice (some ⟨g, 0, none⟩) n c2) n (irow .u32 ids) :: (L.map erow ++ l)) := hA.tail.four
      have HB : Hid (Own w0 _ _) := hB
      clear hA hB h3 HE c0 hx1 hx2
      generalize hcl : x.C.length = cl at *
      have HCL : Hid (x.C.length = cl) := hcl
      clear hcl
      go_wp2_with (at_builtin; refine append1_own rfl _ _ 64 rfl 67 i0 (.agg #[.int .u32 0, .slice none 0 0]) 2 32 Tryz.underlying64 hi hz0 hz1 hz2 rfl (by decide) _ _ _ rfl HB.out _ #[.int .u32 (id : Int), .slice x.ao cl x.cap] (by simp) rfl rfl (by intro u hu; simp at hu; rcases hu with rfl | rfl <;> rfl) (by unfold maxLen; omega) (by omega) ?_)
      intro g2 cap2 w4 hO4 hsz
      have H4 : Hid (Own w0 w4 (Row 67 2 (.slice (some ⟨g2, 0, none⟩) (m + 1) cap2) (m + 1) (cat EnE.cs (L ++ [x])) :: Row 38 1 (.slice (some ⟨g, 0, none⟩) n c2) n (irow .u32 ids) :: Store bs σ K :: Cells b wc 117 :: ((L ++ [x]).map erow ++ l))) := by
        have e1 : cat EnE.cs (L ++ [x]) = cat EnE.cs L ++ [.int .u32 (id : Int), .slice x.ao cl x.cap] := by
          rw [cat_append]
          congr 1
          simp [cat, EnE.cs, HX.out.1, HCL.out]
        have e2 : (L ++ [x]).map erow = L.map erow ++ [erow x] := by simp
        show Own _ _ _
        rw [e1, e2]
        exact hO4.perm perm_w
      clear hO4 hsz HB
      go_wp2
      go_roundw
      case rel => exact ⟨m + 1, L ++ [x], m + 1, some ⟨g2, 0, none⟩, cap2, by omega, by go_num, rfl, by rw [List.length_append, ← HM.out]; rfl, rfl, HLN.out x HX.out.1 HX.out.2, H4.out⟩
      case measure => simp [intOf]; omega
    · have hlt' : ¬ (j : Int) < (n : Int) := by omega
      have hjn : m = n := by omega
      subst hmj
      have HF : Hid (Own w0 wr (Row 67 2 (.slice ao m cap) m (cat EnE.cs L) :: Store bs σ K :: Cells b wc 117 :: (L.map erow ++ l))) := hO.two.tail
      have HLE : Hid (L.map (fun x => (x.id, x.C)) = ids.map (fun id => (id, σ.cps id))) := by
        have := HLL.out
        rw [hjn, HN.out, List.take_length] at this
        exact this
      clear hO hjn
      go_wp2
      go_ret
      refine ⟨ao, cap, L, by rw [← HM.out]; rfl, HLE.out, ?_⟩
      rw [← HM.out]
      exact HF.out
end Go.Proofs.YtflmgilmbppieaaGreatDoor

/-
  A store's Add.
-/
namespace Go.Proofs.YtflmgilmbppieaaGreatDoor
open Go.RowKit Go.Maps
set_option linter.unusedVariables false
set_option maxRecDepth 100000

theorem k6_of {c : Cp} (h : c.chk = 0) : c.k < 6 := chk_k h
theorem lst_k {C : List Cp} (h : lst (-1) C = 0) : ∀ q ∈ C, q.k < 256 := fun q hq => by have := chk_k (((lst_iff C).1 h).2 q hq); omega
theorem lst_len {C : List Cp} (h : lst (-1) C = 0) : C.length ≤ 6 := by
  have e := kinds_of h rfl
  have := congrArg List.length e
  rw [List.length_map] at this
  rw [this]
  exact Nat.le_trans (List.length_filter_le _ _) (by simp)
/-- what a call to Get of the home answers -/
theorem homeGet (w0 w : World) (l : List Thing) (b bs : Nat) (v : Value) (p : Nat → Option Nat) (σ : Sto) (K : Nat) (hσ : σ.Ok) (id : Nat) (hid : id < 4294967296) (hl : σ.S.isLive id = true) (bt0 : Nat) (hp : p (σ.hom id) = some bt0) (h : Own w0 w (StoX b σ K (bs, v, p) :: l)) (k : Nat) (hk : k < 256) :
    Calls Tryz.prog 171 #[.pointer (some ⟨bt0, 0, none⟩), .int .u32 (id : Int), .int .u8 (k : Int)] w fun e w' => e = .returned (.tuple #[(if hasK (σ.cps id) k then mkc k (fv (σ.cps id) k) else ⟨0, 0, 0, 0⟩ : Cp).ag, .int .i64 (if hasK (σ.cps id) k then 0 else 10)]) ∧ Own w0 w' (StoX b σ K (bs, v, p) :: l) := by
  obtain ⟨r, C, hr, he, hC, hm, h6⟩ := hσ.ent hl
  obtain ⟨c, hc, hne, hlen, h2⟩ := h.stoB h6 hp
  have hcps := Sto.cps_of hr he
  have hbt : bt (σ.hom id) k = hasK C k := by
    by_cases hk6 : k < 6
    · rw [← hm]; exact bt_msk C k hk6
    · cases hb : bt (σ.hom id) k with
      | true => exact absurd (bt_lt h6 hb) hk6
      | false =>
        cases hh : hasK C k with
        | false => rfl
        | true =>
          obtain ⟨q, hq, e⟩ := (hasK_iff _ _).1 hh
          have := chk_k (((lst_iff C).1 hC).2 q hq)
          omega
  have hg : tget (σ.hom id) (σ.T (σ.hom id)) id k = (if hasK C k then 0 else 10, if hasK C k then mkc k (fv C k) else ⟨0, 0, 0, 0⟩) := by
    unfold tget
    rw [hr]
    simp only [he, Option.map_some, Option.getD_some, hbt]
    split <;> rfl
  have k2 := tgetC w0 w _ bt0 _ _ c h2 (hσ.t _ h6) id hid k hk
  rw [hg] at k2
  rw [hcps]
  refine k2.mono ?_
  rintro e w' ⟨rfl, h3⟩
  refine ⟨?_, h3.stoT h6 hp hc hne hlen⟩
  split <;> rfl
set_option maxHeartbeats 2000000 in
theorem addC (w0 w : World) (l : List Thing) (b : Nat) (σ : Sto) (K : Nat) (ht : Tab w0) (h : Own w0 w (Store b σ K :: l)) (hσ : σ.Ok) (id : Nat) (hid : id < 4294967296) (c : Cp) (hk : c.k < 256) (hK : K + 1 < 1000000) :
    Calls Tryz.prog 201 #[.pointer (some ⟨b, 0, none⟩), .int .u32 (id : Int), c.ag] w fun e w' => e = .returned (.int .i64 (σ.add id c).1) ∧ Own w0 w' (Store b (σ.add id c).2 (K + 2) :: l) := by
  obtain ⟨bs, v, p, h⟩ := h.stoX
  have hA := (h.allocC c.ar 46).two
  have HA : Hid (Own w0 _ _) := hA
  by_cases hc : c.chk = 0
  · cases hl : σ.S.isLive id with
    | false =>
      have HV : Hid (σ.add id c = (7, σ)) := by show _ = _; unfold Sto.add; rw [if_neg (by simp [hc]), if_pos hl]
      have HH : Hid (Calls _ _ _ _ _) := homeFor_of w0 _ _ b bs v p σ K ht hA id c hk hc none 7 (fun w' h' => home_dead w0 w' _ b bs v p σ K h' hσ.s id hid hl)
      obtain ⟨ck, ca, cb, cc⟩ := c
      unfold Cp.ag at HH ⊢
      unfold Cp.ar at HH
      clear h hA hσ hl hc HA
      go_enter Tryz.func201, Tryz.ntmps201
      go_wp2_with fail
      refine HH.out.mono ?_
      rintro e w1 ⟨rfl, hO⟩
      have H1 : Hid (Own w0 w1 (StoX b σ K (bs, v, p) :: l)) := hO.two.tail
      clear hO HH
      go_wp2
      go_ret
      rw [HV.out]
      exact ⟨rfl, H1.out.xSto.stoK (by omega)⟩
    | true =>
      obtain ⟨r, C, hr, he, hC, hm, h6⟩ := hσ.ent hl
      have hcps := Sto.cps_of hr he
      obtain ⟨bt0, hp⟩ := stoP h h6 he
      have hn := (hσ.home hl).2.1
      have HH : Hid (Calls _ _ _ _ _) := homeFor_of w0 _ _ b bs v p σ K ht hA id c hk hc (some ⟨bt0, 0, none⟩) 0 (fun w' h' => by
        have := home_ok w0 w' _ b bs v p σ K h' hσ.s id hid hl hn h6
        rw [hp, pp_some] at this
        exact this)
      have HG : Hid (∀ w' l', Own w0 w' (StoX b σ K (bs, v, p) :: l') → Calls Tryz.prog 171 #[.pointer (some ⟨bt0, 0, none⟩), .int .u32 (id : Int), .int .u8 (c.k : Int)] w' fun e w'' => e = .returned (.tuple #[(if hasK C c.k then mkc c.k (fv C c.k) else ⟨0, 0, 0, 0⟩ : Cp).ag, .int .i64 (if hasK C c.k then 0 else 10)]) ∧ Own w0 w'' (StoX b σ K (bs, v, p) :: l')) := fun w' l' h' => by
        have := homeGet w0 w' l' b bs v p σ K hσ id hid hl bt0 hp h' c.k hk
        rw [hcps] at this
        exact this
      cases hhk : hasK C c.k with
      | true =>
        have HV : Hid (σ.add id c = (9, σ)) := by show _ = _; unfold Sto.add; rw [if_neg (by simp [hc]), if_neg (by simp [hl]), hcps, if_pos hhk]
        rw [hhk] at HG
        simp only [if_true] at HG
        generalize mkc c.k (fv C c.k) = q at *
        obtain ⟨qk, qa, qb, qc⟩ := q
        obtain ⟨ck, ca, cb, cc⟩ := c
        unfold Cp.ag at HH HG ⊢
        unfold Cp.ar at HH
        simp only at HG HH
        clear h hA hσ hl hc HA hr he hC hm hcps hp hn hhk
        go_enter Tryz.func201, Tryz.ntmps201
        go_wp2_with fail
        refine HH.out.mono ?_
        rintro e w1 ⟨rfl, hO⟩
        have H1 : Hid (Own w0 w1 _) := hO
        have q0 := hO.two.cell 0
        simp at q0
        clear hO HH
        go_wp2_with fail
        refine (HG.out _ _ H1.out).mono ?_
        rintro e w2 ⟨rfl, hO⟩
        have H2 : Hid (Own w0 _ (StoX b σ K (bs, v, p) :: l)) := hO.two.tail.alloc (.cells #[.int .u8 (qk : Int), .int .i32 qa, .int .i32 qb, .int .i32 qc] 46)
        clear hO
        go_wp2
        go_ret
        rw [HV.out]
        exact ⟨rfl, H2.out.xSto.stoK (by omega)⟩
      | false =>
        have HV : Hid (σ.add id c = (0, (σ.out (σ.hom id) r).put id (insw C c))) := by show _ = _; unfold Sto.add; rw [if_neg (by simp [hc]), if_neg (by simp [hl]), hcps, if_neg (by simp [hhk])]; unfold Sto.turn; rw [hr]; rfl
        rw [hhk] at HG
        simp only [if_false, Bool.false_eq_true] at HG
        have hlen := lst_len hC
        have hI := insw_ok hC hc hhk
        have hLk := hσ.out hl hr
        have HPL : Hid (∀ w' l', Own w0 w' (StoX b σ K (bs, v, p) :: l') → Calls Tryz.prog 172 #[.pointer (some ⟨b, 0, none⟩), .pointer (some ⟨bt0, 0, none⟩), .int .u32 (id : Int)] w' fun out w'' => ∃ ao cap, out = .returned (.slice ao C.length cap) ∧ Own w0 w'' (Row 46 4 (.slice ao C.length cap) C.length (ccat C) :: Store b (σ.out (σ.hom id) r) (K + 1) :: l')) := fun w' l' h' => pull_ok w0 w' l' b bs v p σ K h' (σ.hom id) h6 (some bt0) hp (hσ.t _ h6) id hid r (id, C) hr he (by omega)
        have HWI : Hid (∀ w' l' ao cap, Own w0 w' (Row 46 4 (.slice ao C.length cap) C.length (ccat C) :: l') → Calls Tryz.prog 238 #[.slice ao C.length cap, c.ag] w' fun e w'' => ∃ ao' cap', e = .returned (.slice ao' (C.length + 1) cap') ∧ Own w0 w'' (Row 46 4 (.slice ao' (C.length + 1) cap') (C.length + 1) (ccat (insw C c)) :: l')) := fun w' l' ao cap h' => with_ok w0 w' l' C c ao C.length cap rfl (by omega) h'
        have HPU : Hid (∀ w' l' ao cap, Own w0 w' (Row 46 4 (.slice ao (C.length + 1) cap) (C.length + 1) (ccat (insw C c)) :: Store b (σ.out (σ.hom id) r) (K + 1) :: l') → Calls Tryz.prog 213 #[.pointer (some ⟨b, 0, none⟩), .int .u32 (id : Int), .slice ao (C.length + 1) cap] w' fun e w'' => e = .returned (.tuple #[]) ∧ Own w0 w'' (Store b ((σ.out (σ.hom id) r).put id (insw C c)) (K + 2) :: l')) := by
          intro w' l' ao cap h'
          obtain ⟨bs', v', p', h2⟩ := h'.two.stoX
          have hli := St.live_lt hLk.s hLk.li
          refine (put_ok w0 w' _ b bs' v' p' _ (K + 1) ht h2 id hid (by rw [hLk.ml]; exact hli.2) ao (C.length + 1) cap (insw C c) (insw_len C c) (fun w'' h'' => Own.rcs h'' (insw_len C c)) (lst_k hI) (by omega) hI (hLk.t _ (msk64 _)) (hLk.none (msk64 _)) (by omega)).mono ?_
          rintro e w'' ⟨rfl, h3⟩
          exact ⟨rfl, h3.two.tail⟩
        obtain ⟨ck, ca, cb, cc⟩ := c
        unfold Cp.ag at HH HG HWI ⊢
        unfold Cp.ar at HH
        simp only at HG HH HWI
        clear h hA hσ hl hc HA hr he hC hm hcps hp hn hhk hI hLk
        generalize C.length = n at *
        go_enter Tryz.func201, Tryz.ntmps201
        go_wp2_with fail
        refine HH.out.mono ?_
        rintro e w1 ⟨rfl, hO⟩
        have H1 : Hid (Own w0 w1 _) := hO
        have q0 := hO.two.cell 0
        simp at q0
        clear hO HH
        go_wp2_with fail
        refine (HG.out _ _ H1.out).mono ?_
        rintro e w2 ⟨rfl, hO⟩
        have hO2 := hO.alloc (.cells #[.int .u8 0, .int .i32 0, .int .i32 0, .int .i32 0] 46)
        have H2 : Hid (Own w0 _ _) := hO2
        have s0 := hO2.two.cell 0
        have s1 := hO2.two.cell 1
        have s2 := hO2.two.cell 2
        have s3 := hO2.two.cell 3
        simp at s0 s1 s2 s3
        clear hO hO2 H1 q0
        go_wp2_with fail
        go_region_with (first
          | (go_at_call 172
             refine (HPL.out _ _ H2.out.drew).mono ?_
             rintro e w3 ⟨a3, c3, rfl, hO⟩
             have t0 := hO.three.cell 0
             have t1 := hO.three.cell 1
             have t2 := hO.three.cell 2
             have t3 := hO.three.cell 3
             simp at t0 t1 t2 t3
             have H3 : Hid (Own w0 w3 _) := hO
             clear hO)
          | (go_at_call 238
             refine (HWI.out _ _ _ _ H3.out).mono ?_
             rintro e w4 ⟨a4, c4, rfl, hO⟩
             have H4 : Hid (Own w0 w4 _) := hO
             clear hO)
          | (go_at_call 213
             refine (HPU.out _ _ _ _ H4.out).mono ?_
             rintro e w5 ⟨rfl, hO⟩
             have H5 : Hid (Own w0 w5 _) := hO
             clear hO))
        all_goals
          go_wp2
          go_ret
          rw [HV.out]
          exact ⟨rfl, H5.out.two.tail⟩
  · have HV : Hid (σ.add id c = ((c.chk : Int), σ)) := by show _ = _; unfold Sto.add; rw [if_pos hc]
    have HH : Hid (Calls _ _ _ _ _) := homeFor_bad w0 _ _ b bs v p σ K ht hA id c hk hc
    have hx : ¬ ((c.chk : Nat) : Int) = 0 := by omega
    generalize c.chk = x at *
    obtain ⟨ck, ca, cb, cc⟩ := c
    unfold Cp.ag at HH ⊢
    unfold Cp.ar at HH
    clear h hA hσ hc HA
    go_enter Tryz.func201, Tryz.ntmps201
    go_wp2_with fail
    refine HH.out.mono ?_
    rintro e w1 ⟨rfl, hO⟩
    have H1 : Hid (Own w0 w1 (StoX b σ K (bs, v, p) :: l)) := hO.two.tail
    clear hO HH
    go_wp2
    go_ret
    rw [HV.out]
    exact ⟨rfl, H1.out.xSto.stoK (by omega)⟩
end Go.Proofs.YtflmgilmbppieaaGreatDoor

/-
  What was seen, if anything was; a list of entities as one thing; what is seen of them.
-/
namespace Go.Proofs.YtflmgilmbppieaaGreatDoor
open Go.RowKit
set_option linter.unusedVariables false
set_option maxRecDepth 100000

/-- a fact, as a thing that has no block -/
def FctW (p : Prop) : Thing where
  is := fun _ A => p ∧ ∀ k, ¬ A k
  lt := by rintro w A k ⟨_, h⟩ a; exact (h k a).elim
  keep := by rintro w w' A B h _ _; exact h
theorem Own.fctIn {w0 w : World} {p : Prop} {l : List Thing} (h : Own w0 w (FctW p :: l)) : p := by
  obtain ⟨A, ⟨B, C, hB, _⟩, _⟩ := h
  exact hB.1
theorem Own.fct {w0 w : World} {p : Prop} {l : List Thing} (hp : p) (h : Own w0 w l) : Own w0 w (FctW p :: l) :=
  h.new (FctW p) (fun _ => False) ⟨hp, fun _ h => h⟩ (Fr.refl _ _) (fun _ h => h.elim)
/-- what was seen; no map: nothing was -/
def SMapO (mp : Option Nat) (n : Nat) (S : Nat → Nat → Option SgE) : Thing := match mp with
  | some ms => SMap ms n (sgp S)
  | none => FctW (∀ i k, S i k = none)
theorem sight_o (w0 w : World) (l : List Thing) (b : Nat) (wc : Array Value) (mp : Option Nat) (n T : Nat) (S : Nat → Nat → Option SgE) (hwc : wc[0]? = some (.int .u32 (T : Int))) (hwm : wc[3]? = some (.map mp)) (i k : Nat) (hi : i < 4294967296) (hk : k < 256) (ck : Nat) (ca cb cc : Int)
    (h : Own w0 w (SMapO mp n S :: Cells b wc 117 :: l)) :
    Calls Tryz.prog 114 #[.pointer (some ⟨b, 0, none⟩), spv i k, .agg #[.int .u8 (ck : Int), .int .i32 ca, .int .i32 cb, .int .i32 cc]] w fun e w' => e = .returned (sgt (S i k) T ck ca cb cc).v ∧ Own w0 w' (SMapO mp n S :: Cells b wc 117 :: l) := by
  cases mp with
  | some ms => exact sight_ok w0 w l b wc ms n T S hwc hwm i k hi hk ck ca cb cc h
  | none =>
    have hS := h.fctIn
    refine (sight_nil w0 w l b wc T hwc hwm i k hi hk ck ca cb cc h.tail).mono ?_
    rintro e w' ⟨rfl, h2⟩
    exact ⟨by rw [hS i k], Own.fct hS h2⟩
theorem left_o (w0 w : World) (l : List Thing) (b : Nat) (wc : Array Value) (mp : Option Nat) (n mn n' : Nat) (S : Nat → Nat → Option SgE) (S' : Nat → Nat → Option SgE) (hwc : wc[3]? = some (.map mp)) (hn : n ≤ 1000000)
    (h : Own w0 w (SMapO mp n S :: SMap mn n' (sgp S') :: Cells b wc 117 :: l)) :
    Calls Tryz.prog 116 #[.pointer (some ⟨b, 0, none⟩), .map (some mn)] w fun e w' => ∃ ao cap L, e = .returned (.slice ao L.length cap) ∧ L.length ≤ n ∧ LeftOf (sgp S) (sgp S') (fun _ _ => false) L ∧ Own w0 w' (Row 63 4 (.slice ao L.length cap) L.length (cat PlE.cs L) :: SMapO mp n S :: SMap mn n' (sgp S') :: Cells b wc 117 :: l) := by
  cases mp with
  | some ms => exact left_ok w0 w l b wc ms n mn n' (sgp S) (sgp S') hwc hn (fun i k v hv => by
      unfold sgp at hv
      obtain ⟨s, _, rfl⟩ := Option.map_eq_some_iff.1 hv
      exact ⟨_, _, _, _, _, rfl⟩) h
  | none =>
    have hS := h.fctIn
    refine (left_nil w0 w _ b wc mn hwc h.three).mono ?_
    rintro e w' ⟨rfl, h2⟩
    refine ⟨none, 0, [], rfl, Nat.zero_le _, ⟨by simp, (fun q hq => (by cases hq)), fun i hi => ?_⟩, (h2.back3).nilRow _ _⟩
    unfold sgp
    rw [hS i 0]
    simp
/-- a list of entities with all its components -/
def EntsT (ao : Option Addr) (cap : Nat) (L : List EnE) : Thing := Ex (fun _ : Unit => Row 67 2 (.slice ao L.length cap) L.length (cat EnE.cs L) :: L.map erow)
theorem Own.ents {w0 w : World} {l : List Thing} {ao : Option Addr} {cap : Nat} {L : List EnE} (h : Own w0 w ((Row 67 2 (.slice ao L.length cap) L.length (cat EnE.cs L) :: L.map erow) ++ l)) : Own w0 w (EntsT ao cap L :: l) := Own.ex_iff.2 ⟨(), h⟩
theorem Own.entAt {w0 w : World} {l : List Thing} {ao : Option Addr} {cap : Nat} {L : List EnE} (h : Own w0 w (EntsT ao cap L :: l)) {j : Nat} {x : EnE} (hx : L[j]? = some x) :
    (∃ g, ao = some ⟨g, 0, none⟩ ∧ w.cell? ⟨g, j * 2, none⟩ = some (.int .u32 (x.id : Int)) ∧ w.cell? ⟨g, j * 2 + 1, none⟩ = some (.slice x.ao x.C.length x.cap)) ∧ Cs w x.ao x.C := by
  obtain ⟨_, h1⟩ := Own.ex_iff.1 h
  have hj := (List.getElem?_eq_some_iff.1 hx).1
  constructor
  · obtain ⟨g, cp, hv, _⟩ := row_shape h1.row (by omega)
    have hva := (Value.slice.inj hv).1
    subst hva
    have hr := h1.row
    refine ⟨g, rfl, ?_, ?_⟩
    · rw [hr.cellAt _ (by omega)]
      exact cat_at EnE.cs 2 (fun _ => rfl) L j 0 x hx (by decide)
    · rw [hr.cellAt _ (by omega)]
      exact cat_at EnE.cs 2 (fun _ => rfl) L j 1 x hx (by decide)
  · obtain ⟨L1, L2, rfl⟩ := List.append_of_mem (List.mem_of_getElem? hx)
    have h2 : Own w0 w (erow x :: (L1.map erow ++ (L2.map erow ++ l))) := by
      have h3 : Own w0 w ((L1 ++ x :: L2).map erow ++ l) := h1.tail
      refine h3.perm ?_
      have e : (L1 ++ x :: L2).map erow ++ l = L1.map erow ++ (erow x :: (L2.map erow ++ l)) := by simp
      rw [e]
      exact List.perm_middle
    exact Own.cs (h2.view (by decide)) rfl
theorem perm_ents {A B C : Thing} {M l : List Thing} : (A :: B :: C :: (M ++ l)).Perm ((A :: M) ++ (B :: C :: l)) := by
  refine List.Perm.cons A ?_
  have := List.perm_append_comm_assoc [B, C] M l
  simpa using this
/-- one more that is seen -/
def stpW (S : Nat → Nat → Option SgE) (T : Nat) (p : Nat → Nat → Option SgE) (x : Nat × Cp) : Nat → Nat → Option SgE := fun i k => if i = x.1 ∧ k = x.2.k then some (sgt (S x.1 x.2.k) T x.2.k x.2.a x.2.b x.2.c) else p i k
def mapOf (S : Nat → Nat → Option SgE) (T : Nat) (A : List (Nat × Cp)) : Nat → Nat → Option SgE := A.foldl (stpW S T) (fun _ _ => none)
theorem mapOf_snoc (S : Nat → Nat → Option SgE) (T : Nat) (A : List (Nat × Cp)) (x : Nat × Cp) : mapOf S T (A ++ [x]) = stpW S T (mapOf S T A) x := by
  unfold mapOf; rw [List.foldl_append]; rfl
/-- all components of entities, one by one -/
def allW (L : List EnE) : List (Nat × Cp) := L.flatMap (fun e => e.C.map (fun c => (e.id, c)))
theorem allW_snoc (L : List EnE) (x : EnE) : allW (L ++ [x]) = allW L ++ x.C.map (fun c => (x.id, c)) := by simp [allW]
theorem Own.smStp {w0 w : World} {l : List Thing} {b n : Nat} {S p : Nat → Nat → Option SgE} {T : Nat} (h : Own w0 w (SMap b n (sgp p) :: l)) (x : Nat × Cp) (hi : x.1 < 4294967296) (hk : x.2.k < 256) (hn : n < maxLen) :
    ∃ w', (Instr.mapUpdate 115 (.map (some b)) (.agg #[.int .u32 (x.1 : Int), .int .u8 (x.2.k : Int)]) (sgt (S x.1 x.2.k) T x.2.k x.2.a x.2.b x.2.c).v).run Tryz.prog w = .ok () w' ∧ Own w0 w' (SMap b (n + 1) (sgp (stpW S T p x)) :: l) := by
  obtain ⟨w', hr, hO⟩ := h.smPut x.1 x.2.k (sgt (S x.1 x.2.k) T x.2.k x.2.a x.2.b x.2.c).v hi hk hn
  refine ⟨w', hr, ?_⟩
  have e : (fun i k => if i = x.1 ∧ k = x.2.k then some (sgt (S x.1 x.2.k) T x.2.k x.2.a x.2.b x.2.c).v else sgp p i k) = sgp (stpW S T p x) := by
    funext i k
    unfold sgp stpW
    split <;> simp
  rw [← e]
  exact hO
end Go.Proofs.YtflmgilmbppieaaGreatDoor

/-
  The sort of no places; the sort of any.
-/
namespace Go.Proofs.YtflmgilmbppieaaGreatDoor
open Go.RowKit Go.Shelf
set_option linter.unusedVariables false
set_option maxRecDepth 100000

set_option maxHeartbeats 2000000 in
theorem insW_nil (w : World) (f : Value) : Calls Tryz.prog 214 #[.slice none 0 0, .int .i64 0, .int .i64 0, f] w fun e w' => e = .returned (.tuple #[]) ∧ w' = w := by
  go_enter Tryz.func214, Tryz.ntmps214
  go_wp2
  go_loopw [8] (fun v wr => v = .int .i64 1 ∧ wr = w) (fun _ _ => 0)
  case atStart => exact ⟨rfl, rfl⟩
  case round =>
    obtain ⟨rfl, rfl⟩ := hrel
    go_wp2
    go_end0
    exact ⟨rfl, rfl⟩
set_option maxHeartbeats 2000000 in
theorem pdqW_nil (w : World) (lim : Nat) (f : Value) : Calls Tryz.prog 179 #[.slice none 0 0, .int .i64 0, .int .i64 0, .int .i64 (lim : Int), f] w fun e w' => e = .returned (.tuple #[]) ∧ w' = w := by
  have H : Hid (Calls _ _ _ _ _) := insW_nil w f
  go_enter Tryz.func179, Tryz.ntmps179
  go_wp2
  go_loopw [1, 2, 3, 10, 11] (fun v1 v2 v3 v8 v9 wr => v1 = .int .i64 0 ∧ v2 = .int .i64 0 ∧ wr = w) (fun _ _ _ _ _ _ => 0)
  case atStart => exact ⟨rfl, rfl, rfl⟩
  case round =>
    obtain ⟨rfl, rfl, rfl⟩ := hrel
    go_wp2_with fail
    refine H.out.mono ?_
    rintro e w1 ⟨rfl, rfl⟩
    go_wp2
    refine bodyPost_ret (results_none rfl _ _ _) rfl ?_
    exact ⟨rfl, rfl⟩
set_option maxHeartbeats 2000000 in
theorem sortW_nil (w : World) (f : Value) : Calls Tryz.prog 118 #[.slice none 0 0, f] w fun e w' => e = .returned (.tuple #[]) ∧ w' = w := by
  have HB : Hid (Calls Tryz.prog 153 #[.int .u64 0] w fun e w' => e = .returned (.int .i64 ((Lib.bitLen 0 : Nat) : Int)) ∧ w' = w) := by
    have h := Any.bits_Len (SlLaysF0.n15.bits (P := Tryz.prog) (ρ := sortPl_ren) { sortPl with }) (0 : Int) w (by omega) (by omega)
    exact h
  have HP : Hid (Calls _ _ _ _ _) := pdqW_nil w (Lib.bitLen 0) f
  generalize Lib.bitLen 0 = lim at *
  go_enter Tryz.func118, Tryz.ntmps118
  go_wp2_with fail
  refine HB.out.mono ?_
  rintro e w1 ⟨rfl, rfl⟩
  go_wp2_with fail
  refine HP.out.mono ?_
  rintro e w1 ⟨rfl, rfl⟩
  go_wp2
  go_end0
  exact ⟨rfl, rfl⟩
theorem sort_any (w0 w : World) (l : List Thing) (ao : Option Addr) (cap : Nat) (L : List PlE) (h : Own w0 w (Row 63 4 (.slice ao L.length cap) L.length (cat PlE.cs L) :: l)) (hsz : L.length < 1000000000) :
    Calls Tryz.prog 118 #[.slice ao L.length cap, .func (.func 119) #[] #[]] w fun e w' => e = .returned (.tuple #[]) ∧ ∃ L', L'.Perm L ∧ L'.Pairwise (fun a b => a.id ≤ b.id) ∧ Own w0 w' (Row 63 4 (.slice ao L.length cap) L.length (cat PlE.cs L') :: l) := by
  rcases h.row.2 with ⟨hv, hn⟩ | ⟨g, cap', cur, hv, _⟩
  · have hL : L = [] := List.eq_nil_of_length_eq_zero hn
    subst hL
    simp only [List.length_nil, Value.slice.injEq] at hv
    obtain ⟨rfl, _, rfl⟩ := hv
    refine (sortW_nil w _).mono ?_
    rintro e w' ⟨rfl, rfl⟩
    exact ⟨rfl, [], List.Perm.refl _, List.Pairwise.nil, h⟩
  · have hva := (Value.slice.inj hv).1
    subst hva
    exact sortPl_ok w0 w l g cap L h hsz
end Go.Proofs.YtflmgilmbppieaaGreatDoor

/-
  A range over a function, told by the things that lie apart in memory: what the loop's body does to its things, and what the iterator does with the rounds.
-/
namespace Go.Proofs.YtflmgilmbppieaaGreatDoor
open Go.RowKit
set_option linter.unusedVariables false

/-- a block that holds this -/
def Objt (k : Nat) (o : Obj) : Thing where
  is := fun w A => w.heap[k]? = some o ∧ ∀ j, A j ↔ j = k
  lt := by
    rintro w A j ⟨h, hA⟩ a
    rw [(hA j).1 a]; exact (Array.getElem?_eq_some_iff.1 h).1
  keep := by
    rintro w w' A B ⟨h, hA⟩ hf hn
    exact ⟨(hf.block k (Array.getElem?_eq_some_iff.1 h).1 (hn k ((hA k).2 rfl))).trans h, hA⟩
section
variable {w0 w : World} {l A T B : List Thing} {P : Thing} {k : Nat} {o : Obj}
theorem Own.objt (h : Own w0 w (Objt k o :: l)) : w.heap[k]? = some o := by
  obtain ⟨_, ⟨_, _, hB, _⟩, _⟩ := h
  exact hB.1
theorem Own.putO (h : Own w0 w (Objt k o :: l)) (o' : Obj) : Own w0 (w.putObj k o') (Objt k o' :: l) := by
  have hk := (Array.getElem?_eq_some_iff.1 h.objt).1
  obtain ⟨A, ⟨_, hA⟩, _, hact⟩ := h.act
  refine hact _ (Objt k o') (fun j => j = k) ⟨World.putObj_heap_same hk, fun j => Iff.rfl⟩ ?_ (fun j hj => .inl ((hA j).2 hj))
  have g := grownBy_putObj' w k o'
  exact ⟨g.os, g.tape, g.output, g.size, fun j hj hn => g.block j hj (fun e => hn ((hA j).2 (by cases e; rfl)))⟩
theorem Own.allocO (h : Own w0 w l) (o : Obj) : Own w0 (w.alloc o) (Objt w.heap.size o :: l) :=
  h.new (Objt w.heap.size o) (fun j => j = w.heap.size) ⟨World.alloc_heap_new w o, fun j => Iff.rfl⟩ ((Fr.refl _ _).alloc o) (fun j hj => by omega)
theorem pull_perm : (A ++ (T ++ P :: B)).Perm (P :: (A ++ (T ++ B))) := by
  rw [← List.append_assoc, ← List.append_assoc]; exact List.perm_middle
theorem Own.pull (h : Own w0 w (A ++ (T ++ P :: B))) : Own w0 w (P :: (A ++ (T ++ B))) := h.perm pull_perm
theorem Own.push (h : Own w0 w (P :: (A ++ (T ++ B)))) : Own w0 w (A ++ (T ++ P :: B)) := h.perm pull_perm.symm
end

/-- what the iterator does with the rounds: G xs: what may have come; X xs: what lies there when xs have come; Y xs: when a round has said that it is enough -/
def Seq {α : Type} (n : Nat) (P : Program) (gf : Nat) (lb : Array Value) (w0 : World) (encs : α → Array Value) (X Y : List α → List Thing) (G S Sp : List α → Prop) : Prop :=
  ∀ (l : Nat) (R R2 : List Thing) (W : World),
    (∀ (pre : List α) (x : α) (W1 : World) (T : List Thing), G (pre ++ [x]) → Own w0 W1 (X pre ++ (T ++ R)) → YieldAt Fence.wide (n - 1) P l (encs x) W1 fun e W' =>
      (e = .returned (.bool true) ∧ Own w0 W' (X (pre ++ [x]) ++ (T ++ R))) ∨ (e = .returned (.bool false) ∧ Own w0 W' (Y (pre ++ [x]) ++ (T ++ R2)))) →
    Own w0 W (X [] ++ R) →
    CallsIn Fence.wide n P gf (#[.func (.yield l) #[] #[]] ++ lb) W fun e W' => (∃ v, e = .returned v) ∧ ((∃ xs, S xs ∧ Own w0 W' (X xs ++ R)) ∨ ∃ pre, Sp pre ∧ Own w0 W' (Y pre ++ R2))
/-- how a round's body may be left -/
def roundQ {α : Type} (w0 : World) (X Y : List α → List Thing) (c0 : Code) (xs : List α) (R : List Thing) : Exit → Act → World → Prop
  | .normal, _, W' => Own w0 W' (X xs ++ R)
  | .exit id, _, W' => c0 = .exit id ∧ Own w0 W' (Y xs ++ R)
  | _, _, _ => False

theorem range_things {α : Type} {n : Nat} {P : Program} {g : Operand} {ps : Array Tmp} {assign body : Code} {Q : Exit → Act → World → Prop} {a : Act} {w : World}
    {gf : Nat} {lb : Array Value} (hg : a.eval g = .func (.func gf) #[] lb) (eg : ∀ args w, (callFunc gf args).run P w = .ok (.enter gf args) w)
    {w0 : World} {encs : α → Array Value} (X Y : List α → List Thing) (c0 : Code) {G S Sp : List α → Prop} (hseq : Seq (n - 1) P gf lb w0 encs X Y G S Sp) (hps : ∀ x, (encs x).size = ps.size) (h0 : Own w0 w (X [])) (a₁ : α → Act)
    (hassign : ∀ (l : Nat) (x : α) (W : World) (K : Act → World → Prop), K (a₁ x) W →
      assign.wpIn (Fence.wide.inRound l) (n - 1 - 1) P (Exit.then K (fun _ _ _ => False)) { tmps := (ps.zip (encs x)).foldl (fun t (p, v) => t.setIfInBounds p v) a.tmps, defers := [] } W)
    (hbody : ∀ (l : Nat) (pre : List α) (x : α) (W : World) (R : List Thing), G (pre ++ [x]) → Own w0 W (X pre ++ R) → body.wpIn (Fence.wide.inRound l) (n - 1 - 1) P (roundQ w0 X Y c0 (pre ++ [x]) R) (a₁ x) W)
    (hdone : ∀ (D : Nat) (xs : List α) (W : World), S xs → Own w0 W (Objt D (.deferred (some [])) :: X xs) → Q .normal { a with defers := { target := .collected D, args := #[] } :: a.defers } W)
    (hstop : ∀ (D : Nat) (pre : List α) (W : World), Sp pre → Own w0 W (Objt D (.deferred (some [])) :: Y pre) → c0.wpIn Fence.wide n P Q { a with defers := { target := .collected D, args := #[] } :: a.defers } W) :
    (Code.rangeFunc g ps assign body).wpIn Fence.wide n P Q a w := by
  refine wpIn_rangeFunc ?_
  intro fn hfn
  obtain ⟨rec, hrec⟩ : ∃ rec : LoopState → Option Code → Loop, rec = fun st pe => { state := st, pending := pe, fn, tmps := a.tmps, params := ps, assign, body, defers := w.heap.size } := ⟨_, rfl⟩
  obtain ⟨W1, hW1⟩ : ∃ W1, (w.alloc (.deferred (some []))).alloc (.loop (rec .ready none)) = W1 := ⟨_, rfl⟩
  have hO1 : Own w0 W1 (X [] ++ ([] ++ [Objt (w.heap.size + 1) (.loop (rec .ready none)), Objt w.heap.size (.deferred (some []))])) := by
    have h1 := (h0.allocO (.deferred (some []))).allocO (.loop (rec .ready none))
    rw [World.size_alloc, hW1] at h1
    exact h1.perm (List.perm_append_comm (l₁ := [_, _]))
  refine ⟨w.heap.size + 1, [{ target := .collected w.heap.size, args := #[] }], W1, { target := .fn (.func gf) lb, args := #[.func (.yield (w.heap.size + 1)) #[] #[]] }, W1, gf,
    #[.func (.yield (w.heap.size + 1)) #[] #[]] ++ lb, W1, ?_, ?_, fun _ _ => trivial, ?_, (fun h => nomatch h), ?_⟩
  · rw [← hW1, hrec]; exact run_enterLoop_outer _ _ _ _ _
  · simp only [resolve, hg]
    simp [go_sem]
  · simp [invoke, go_sem, eg]
  · refine (hseq (w.heap.size + 1) [Objt (w.heap.size + 1) (.loop (rec .ready none)), Objt w.heap.size (.deferred (some []))] [Objt (w.heap.size + 1) (.loop (rec .done (some c0))), Objt w.heap.size (.deferred (some []))] W1 ?_ hO1).mono ?_
    · intro pre x W T hG hO
      have h1 := hO.pull
      have hl := h1.objt
      have hy := run_yield (P := P) (args := encs x) hl (by rw [hrec]; exact hps x)
      rw [hrec] at hy
      refine ⟨fn, _, assign, body, hy, roundIn_of_wpIn trivial (hassign _ x W _ ⟨_, run_beginRound hl (by rw [hrec]), ?_⟩)⟩
      have h2 := (h1.putO (.loop { rec .ready none with state := .busy })).push
      refine wpIn_mono (hbody _ pre x _ _ hG h2) ?_
      rintro e a3 W3 hp
      cases e with
      | normal =>
        have h3 := Own.pull (show Own w0 W3 (X (pre ++ [x]) ++ (T ++ [Objt (w.heap.size + 1) (.loop { rec .ready none with state := .busy }), Objt w.heap.size (.deferred (some []))])) from hp)
        have hr := run_endRound (P := P) none h3.objt
        refine ⟨_, _, hr, .inl ⟨rfl, ?_⟩⟩
        have h4 := (h3.putO (.loop { rec .ready none with state := .ready, pending := none })).push
        rw [hrec] at h4 ⊢
        exact h4
      | exit id =>
        obtain ⟨hc, hp⟩ := hp
        have h3 := Own.pull (show Own w0 W3 (Y (pre ++ [x]) ++ (T ++ [Objt (w.heap.size + 1) (.loop { rec .ready none with state := .busy }), Objt w.heap.size (.deferred (some []))])) from hp)
        have hr := run_endRound (P := P) (some (.exit id)) h3.objt
        refine ⟨_, _, hr, .inr ⟨rfl, ?_⟩⟩
        have h4 := (h3.putO (.loop { rec .ready none with state := .done, pending := some (.exit id) })).push
        rw [hrec] at h4 ⊢
        rw [hc]
        exact h4
      | ret => exact hp.elim
      | goto t => exact hp.elim
      | panic ch => exact hp.elim
      | outgrown => exact hp.elim
    · rintro e W2 ⟨⟨v, rfl⟩, (⟨xs, hS, hO⟩ | ⟨pre, hSp, hO⟩)⟩
      · have h3 := Own.pull (T := []) hO
        have hr := run_endLoop (P := P) h3.objt (by rw [hrec]; simp)
        refine ⟨none, _, by rw [hrec] at hr; exact hr, hdone w.heap.size xs _ hS ?_⟩
        have h4 := (h3.putO (.loop { rec .ready none with state := .exhausted })).tail
        rw [hrec] at h4
        exact h4.perm (List.perm_append_comm (l₂ := [_]))
      · have h3 := Own.pull (T := []) hO
        have hr := run_endLoop (P := P) h3.objt (by rw [hrec]; simp)
        refine ⟨some c0, _, by rw [hrec] at hr; exact hr, hstop w.heap.size pre _ hSp ?_⟩
        have h4 := (h3.putO (.loop { rec .done (some c0) with state := .exhausted })).tail
        rw [hrec] at h4
        exact h4.perm (List.perm_append_comm (l₂ := [_]))
end Go.Proofs.YtflmgilmbppieaaGreatDoor

/-
  The entities that fit: the iterator.
-/
namespace Go.Proofs.YtflmgilmbppieaaGreatDoor
open Go.RowKit Go.Maps Go.Shelf
set_option linter.unusedVariables false
set_option maxRecDepth 100000
attribute [local go_sem] Oper.semAt_some

theorem list_len2 {S : St} (hS : S.Ok) : S.list.length ≤ 1024 := by
  rw [St.list_length hS, hS.live]
  have h1 := List.count_le_length (a := true) (l := S.used)
  have h2 := hS.ul
  have h3 := hS.le
  have h4 := hS.n2
  omega
theorem lst_len6 {C : List Cp} (h : lst (-1) C = 0) : C.length ≤ 6 := by
  rw [← comps_of h rfl, List.length_map]
  exact Nat.le_trans (List.length_filter_le _ _) (by simp)
theorem Own.rcs2 {w0 w : World} {l : List Thing} {ao : Option Addr} {cap n : Nat} {L : List Cp} (h : Own w0 w (Row 46 4 (.slice ao n cap) n (ccat L) :: l)) (hn : L.length = n) : Cs w ao L := Own.cs (h.view (by decide)) hn
/-- has an entity all of these kinds, and none of those? -/
def fitb (a n m : Nat) : Bool := decide (m &&& a = a) && decide (m &&& n = 0)
def Sto.find (σ : Sto) (a n : Nat) : List Nat := σ.S.list.filter (fun id => fitb a n (msk (σ.cps id)))
def boxes (B : Nat) (p : Option Addr) (a n : Nat) (Z : List Thing) : List Thing := Cells B #[.pointer p] 110 :: Cells (B + 1) #[.int .u8 (a : Int)] 5 :: Cells (B + 2) #[.int .u8 (n : Int)] 5 :: Z
set_option maxHeartbeats 1000000 in
theorem fitting_ok (w0 w : World) (l : List Thing) (h : Own w0 w l) (p : Option Addr) (a n : Nat) :
    Calls Tryz.prog 168 #[.pointer p, .int .u8 (a : Int), .int .u8 (n : Int)] w fun e w' => e = .returned (.func (.func 203) #[] #[.pointer (some ⟨w.heap.size, 0, none⟩), .pointer (some ⟨w.heap.size + 1, 0, none⟩), .pointer (some ⟨w.heap.size + 2, 0, none⟩)]) ∧ Own w0 w' (boxes w.heap.size p a n l) ∧ w'.heap.size = w.heap.size + 3 := by
  have H : Hid (Own w0 _ _) := ((h.allocC #[.pointer p] 110).allocC #[.int .u8 (a : Int)] 5).allocC #[.int .u8 (n : Int)] 5
  clear h
  go_enter Tryz.func168, Tryz.ntmps168
  go_wp2
  go_ret
  refine ⟨rfl, ?_, by simp⟩
  have h := H.out
  simp only [World.size_alloc] at h
  exact h.three.in23
set_option maxHeartbeats 4000000 in
theorem fit_seq (w0 : World) (b : Nat) (σ : Sto) (K : Nat) (hσ : σ.Ok) (hK : K ≤ 1000000) (hLV : ∀ id ∈ σ.S.list, σ.S.isLive id = true ∧ id < 4294967296) (B a n : Nat) (ha8 : a < 256) (hn8 : n < 256) (Z Y : List Nat → List Thing) (ht : Tab w0) (hM : ∀ (w : World) (ao : Option Addr) (len cap : Nat) (C : List Cp), C.length = len → Cs w ao C → (∀ q ∈ C, q.k < 256) → len ≤ 1000000 → Calls Tryz.prog 204 #[.slice ao len cap] w fun e w' => e = .returned (.int .u8 ((msk C : Nat) : Int)) ∧ Fr Nobody w w') :
    Seq 3 Tryz.prog 203 #[.pointer (some ⟨B, 0, none⟩), .pointer (some ⟨B + 1, 0, none⟩), .pointer (some ⟨B + 2, 0, none⟩)] w0 (fun id : Nat => #[.int .u32 (id : Int)]) (fun pre => boxes B (some ⟨b, 0, none⟩) a n (Store b σ K :: Z pre)) Y (fun xs => xs <+: σ.find a n) (fun xs => xs = σ.find a n) (fun xs => xs <+: σ.find a n) := by
  intro l R R2 W hY hO
  have HY : Hid _ := hY
  have HL : Hid (Calls _ _ _ _ _) := slist w0 W _ b σ K (Own.four hO) hσ.s
  have q0 := Own.cell hO 0
  simp at q0
  clear hY hO
  refine callsIn_of_wp Tryz.func203 rfl trivial ?_ rfl
  simp only [Tryz.ntmps203, List.size_toArray, List.length_cons, List.length_nil, Nat.reduceAdd, Nat.reduceSub, Array.replicate_succ, Array.replicate_zero, List.push_toArray, List.append_toArray, List.nil_append, List.cons_append]
  gi_wp2_with fail
  refine ⟨trivial, (callsIn_wide.2 HL.out).mono ?_⟩
  rintro e w1 ⟨v, rfl, hO1⟩
  obtain ⟨va, vc, rfl⟩ := row_any hO1.row
  have H1 : Hid (Own w0 w1 (boxes B (some ⟨b, 0, none⟩) a n (Store b σ K :: Z []) ++ ([Row 38 1 (.slice va σ.S.list.length vc) σ.S.list.length (irow .u32 σ.S.list)] ++ R))) := (Own.sink (l := Store b σ K :: Cells B #[.pointer (some ⟨b, 0, none⟩)] 110 :: Cells (B + 1) #[.int .u8 (a : Int)] 5 :: Cells (B + 2) #[.int .u8 (n : Int)] 5 :: Z []) (m := R) hO1).back4
  have hn24 := list_len2 hσ.s
  clear hO1 HL q0
  have HEN : Hid (∀ w' l' (j id : Nat), σ.S.list[j]? = some id → Own w0 w' (Store b σ K :: l') → Calls Tryz.prog 126 #[.pointer (some ⟨b, 0, none⟩), .int .u32 (id : Int)] w' fun e w'' => ∃ ao cap, e = .returned (.tuple #[.agg #[.int .u32 (id : Int), .slice ao (σ.cps id).length cap], .int .i64 0]) ∧ Own w0 w'' (Row 46 4 (.slice ao (σ.cps id).length cap) (σ.cps id).length (ccat (σ.cps id)) :: Store b σ K :: l')) := by
    intro w' l' j id hj h'
    obtain ⟨hl, h32⟩ := hLV id (List.mem_of_getElem? hj)
    obtain ⟨r, C, hr, he, _⟩ := hσ.ent hl
    rw [Sto.cps_of hr he]
    exact sent w0 w' l' b σ K h' hσ id h32 hl r C he hK
  have HCP : Hid (∀ (j id : Nat), σ.S.list[j]? = some id → (∀ q ∈ σ.cps id, q.k < 256) ∧ (σ.cps id).length ≤ 6) := by
    intro j id hj
    obtain ⟨hl, h32⟩ := hLV id (List.mem_of_getElem? hj)
    obtain ⟨r, C, hr, he, hlC, _⟩ := hσ.ent hl
    rw [Sto.cps_of hr he]
    exact ⟨fun q hq => by have := chk_k ((lst_ok hlC).2 q hq).2; omega, lst_len6 hlC⟩
  have HFD : Hid (∀ (j id : Nat), σ.S.list[j]? = some id → ((σ.S.list.take (j + 1)).filter (fun id => fitb a n (msk (σ.cps id)))) = (σ.S.list.take j).filter (fun id => fitb a n (msk (σ.cps id))) ++ (if fitb a n (msk (σ.cps id)) then [id] else [])) := by
    intro j id hj
    rw [List.take_add_one, hj, List.filter_append]
    by_cases h : fitb a n (msk (σ.cps id)) = true <;> simp [h]
  have HAL : Hid ((σ.S.list.take σ.S.list.length).filter (fun id => fitb a n (msk (σ.cps id))) = σ.find a n) := by show _ = _; rw [List.take_length]; rfl
  clear hσ hLV
  obtain ⟨IL, hIL⟩ : ∃ I, I = σ.S.list := ⟨_, rfl⟩
  simp only [← hIL] at H1 hn24 HEN HCP HFD HAL ⊢
  generalize hln : IL.length = nl at *
  have HN : Hid (IL.length = nl) := hln
  clear hln hIL
  gi_wp2
  gi_loopw [13] (fun cv wr => ∃ j : Nat, j ≤ nl ∧ cv = .int .i64 j ∧ Own w0 wr (boxes B (some ⟨b, 0, none⟩) a n (Store b σ K :: Z ((IL.take j).filter (fun id => fitb a n (msk (σ.cps id))))) ++ ([Row 38 1 (.slice va nl vc) nl (irow .u32 IL)] ++ R))) (fun cv _ => nl - (intOf cv).toNat)
  case atStart => exact ⟨0, Nat.zero_le _, rfl, H1.out⟩
  case round =>
    obtain ⟨j, hj, rfl, hO⟩ := hrel
    have HO : Hid (Own w0 wr _) := hO
    clear H1
    by_cases hlt : j < nl
    · have hlt' : (j : Int) < (nl : Int) := by omega
      obtain ⟨id, hid⟩ : ∃ id, IL[j]? = some id := ⟨_, List.getElem?_eq_getElem (by rw [HN.out]; exact hlt)⟩
      have hr := Own.pull (T := []) (B := R) hO
      obtain ⟨g, cp, hv, _⟩ := row_shape hr.row (by omega)
      have hva := (Value.slice.inj hv).1
      subst hva
      have c0 : wr.cell? ⟨g, j, none⟩ = some (.int .u32 (id : Int)) := by
        rw [hr.row.cellAt _ (by omega), getElem?_irow, hid]; rfl
      have q0 := Own.cell hO 0
      simp at q0
      have HE : Hid (Calls _ _ _ _ _) := HEN.out wr _ j id hid (Own.four hO)
      obtain ⟨hCk, hC6⟩ := HCP.out j id hid
      have HST := HFD.out j id hid
      have HFJ : Hid ((IL.take (j + 1)).filter (fun id => fitb a n (msk (σ.cps id))) = (IL.take j).filter (fun id => fitb a n (msk (σ.cps id))) ++ (if fitb a n (msk (σ.cps id)) then [id] else [])) := HST
      clear hr hv hO hid HST
      have HP2 : Hid (∀ p : List Nat → Prop, p ((IL.take j).filter (fun id => fitb a n (msk (σ.cps id))) ++ (if fitb a n (msk (σ.cps id)) then [id] else [])) → p ((IL.take (j + 1)).filter (fun id => fitb a n (msk (σ.cps id))))) := fun p hp => by rw [HFJ.out]; exact hp
      have HG : Hid (fitb a n (msk (σ.cps id)) = true → (IL.take j).filter (fun id => fitb a n (msk (σ.cps id))) ++ [id] <+: σ.find a n) := fun hb => by
        have h1 : (IL.take (j + 1)).filter (fun id => fitb a n (msk (σ.cps id))) <+: (IL.take nl).filter (fun id => fitb a n (msk (σ.cps id))) := (List.take_prefix_take_left (by omega)).filter _
        rw [HAL.out, HFJ.out, if_pos hb] at h1
        exact h1
      clear HFJ
      generalize (IL.take j).filter (fun id => fitb a n (msk (σ.cps id))) = pre at *
      obtain ⟨fb, hfb⟩ : ∃ fb, fb = fitb a n (msk (σ.cps id)) := ⟨_, rfl⟩
      rw [← hfb] at HP2 HG
      have HFB : Hid (fb = fitb a n (msk (σ.cps id))) := hfb
      clear hfb
      generalize σ.cps id = C at HE hCk hC6 HFB
      generalize hcl : C.length = cl at *
      gi_wp2_with fail
      refine ⟨trivial, (callsIn_wide.2 HE.out).mono ?_⟩
      rintro e w2 ⟨ga, gc, rfl, hO2⟩
      have hB := hO2.allocC #[.int .u32 (id : Int), .slice ga cl gc] 67
      have x1 := hB.cell 1
      simp at x1
      have HMK : Hid (Calls _ _ _ _ _) := hM _ ga cl gc C hcl (Own.rcs2 hB.two hcl) hCk (by omega)
      have HB : Hid (Own w0 _ _) := hB
      clear hO2 hB HE c0 q0
      gi_wp2_with fail
      refine ⟨trivial, (callsIn_wide.2 HMK.out).mono ?_⟩
      rintro e w3 ⟨rfl, hf⟩
      have hO3 := (HB.out.quiet hf).tail.tail.back4
      have q1 := hO3.two.cell 0
      have q2 := hO3.three.cell 0
      simp at q1 q2
      have H3 : Hid (Own w0 w3 (boxes B (some ⟨b, 0, none⟩) a n (Store b σ K :: Z pre) ++ ([Row 38 1 (.slice (some ⟨g, 0, none⟩) nl vc) nl (irow .u32 IL)] ++ R))) := hO3
      have hm64 := msk_lt C
      clear hf HMK HB hO3 x1 hcl hCk
      generalize msk C = m at *
      have e1 := u8_and_nat m a (by omega) (by omega)
      have e2 := u8_and_nat m n (by omega) (by omega)
      by_cases h1 : m &&& a = a
      · rw [h1] at e1
        have t1 : ((a : Int) == (a : Int)) = true := by simp
        by_cases h2 : m &&& n = 0
        · rw [h2] at e2
          have hfb : fb = true := by rw [HFB.out]; simp [fitb, h1, h2]
          rw [if_pos hfb] at HP2
          have hGG := HG.out hfb
          have HGG : Hid (pre ++ [id] <+: σ.find a n) := hGG
          obtain ⟨fn, tmps, assign, body, hy, hR⟩ := HY.out pre id w3 _ hGG H3.out
          clear hGG
          clear hfb h1 h2 HFB
          gi_wp2
          refine hR.mono ?_
          rintro e w4 (⟨rfl, hO4⟩ | ⟨rfl, hO4⟩)
          · have H4 : Hid (Own w0 w4 _) := hO4
            clear hO4 hR hy
            gi_wp2
            refine ⟨⟨j + 1, by omega, by go_num, HP2.out (fun p => Own w0 w4 (boxes B (some ⟨b, 0, none⟩) a n (Store b σ K :: Z p) ++ ([Row 38 1 (.slice (some ⟨g, 0, none⟩) nl vc) nl (irow .u32 IL)] ++ R))) H4.out⟩, ?_⟩
            simp [intOf]; omega
          · have H4 : Hid (Own w0 w4 _) := hO4
            clear hO4 hR hy
            gi_wp2
            refine bodyPost_ret (results_none rfl _ _ _) rfl ?_
            refine ⟨⟨_, rfl⟩, .inr ⟨pre ++ [id], HGG.out, ?_⟩⟩
            exact (Own.pull (T := []) (B := R2) H4.out).tail
        · have t2 : (((m &&& n : Nat) : Int) == 0) = false := by rw [beq_eq_false_iff_ne]; omega
          have hfb : ¬ fb = true := by rw [HFB.out]; simp [fitb, h2]
          rw [if_neg hfb, List.append_nil] at HP2
          clear h2 hfb HFB
          generalize (m &&& n) = mn at *
          gi_wp2
          refine ⟨fun _ h => (by cases h), ?_⟩
          gi_wp2
          all_goals exact ⟨⟨j + 1, by omega, by go_num, HP2.out (fun p => Own w0 w3 (boxes B (some ⟨b, 0, none⟩) a n (Store b σ K :: Z p) ++ ([Row 38 1 (.slice (some ⟨g, 0, none⟩) nl vc) nl (irow .u32 IL)] ++ R))) H3.out⟩, by simp [intOf]; omega⟩
      · have t1 : (((m &&& a : Nat) : Int) == (a : Int)) = false := by rw [beq_eq_false_iff_ne]; omega
        have hfb : ¬ fb = true := by rw [HFB.out]; simp [fitb, h1]
        rw [if_neg hfb, List.append_nil] at HP2
        clear h1 hfb HFB e2
        generalize (m &&& a) = ma at *
        gi_wp2
        refine ⟨fun _ h => (by cases h), ?_⟩
        gi_wp2
        all_goals exact ⟨⟨j + 1, by omega, by go_num, HP2.out (fun p => Own w0 w3 (boxes B (some ⟨b, 0, none⟩) a n (Store b σ K :: Z p) ++ ([Row 38 1 (.slice (some ⟨g, 0, none⟩) nl vc) nl (irow .u32 IL)] ++ R))) H3.out⟩, by simp [intOf]; omega⟩
    · have hlt' : ¬ (j : Int) < (nl : Int) := by omega
      have hjn : j = nl := by omega
      subst hjn
      clear hO
      gi_wp2
      go_end0
      refine ⟨⟨_, rfl⟩, .inl ?_⟩
      have h5 := (Own.pull (T := []) (B := R) HO.out).tail
      rw [HAL.out] at h5
      exact h5
/-- what the iterator over the entities of a store gives -/
def IterC (w0 : World) (p : Option Addr) (a n : Nat) (SG : Thing) (Xs : List Nat) : Prop := ∀ (B : Nat) (Z Y : List Nat → List Thing),
  Seq 3 Tryz.prog 203 #[.pointer (some ⟨B, 0, none⟩), .pointer (some ⟨B + 1, 0, none⟩), .pointer (some ⟨B + 2, 0, none⟩)] w0 (fun id : Nat => #[.int .u32 (id : Int)]) (fun pre => boxes B p a n (SG :: Z pre)) Y (fun xs => xs <+: Xs) (fun xs => xs = Xs) (fun xs => xs <+: Xs)
theorem iter_store (w0 : World) (b : Nat) (σ : Sto) (K : Nat) (hσ : σ.Ok) (hK : K ≤ 1000000) (hLV : ∀ id ∈ σ.S.list, σ.S.isLive id = true ∧ id < 4294967296) (a n : Nat) (ha8 : a < 256) (hn8 : n < 256) (ht : Tab w0) : IterC w0 (some ⟨b, 0, none⟩) a n (Store b σ K) (σ.find a n) :=
  fun B Z Y => fit_seq w0 b σ K hσ hK hLV B a n ha8 hn8 Z Y ht (fun w ao len cap C h1 h2 h3 h4 => mask_any w ao len cap C h1 h2 h3 h4)
/-- nothing -/
def Nil : Thing := Ex (fun _ : Unit => [])
theorem Own.nil_iff {w0 w : World} {l : List Thing} : Own w0 w (Nil :: l) ↔ Own w0 w l :=
  ⟨fun h => by obtain ⟨_, h⟩ := Own.ex_iff.1 h; exact h, fun h => Own.ex_iff.2 ⟨(), h⟩⟩
set_option maxHeartbeats 400000 in
theorem slist_nil (w : World) : Calls Tryz.prog 73 #[.pointer none] w fun e w' => e = .returned (.slice none 0 0) ∧ w' = w := by
  go_enter Tryz.func73, Tryz.ntmps73
  go_wp2_with (go_at_call 128; refine (sused_nil _).mono ?_; rintro e w' ⟨rfl, rfl⟩)
  refine (list_nil _).mono ?_
  rintro e w' ⟨rfl, rfl⟩
  go_wp2
  go_ret
  exact ⟨rfl, rfl⟩
set_option maxHeartbeats 1000000 in
theorem iter_nil (w0 : World) (a n : Nat) : IterC w0 none a n Nil [] := by
  intro B Z Y l R R2 W hY hO
  have q0 := Own.cell hO 0
  simp at q0
  have H1 : Hid (Own w0 W _) := hO
  have HL : Hid (Calls _ _ _ _ _) := slist_nil W
  clear hY hO
  refine callsIn_of_wp Tryz.func203 rfl trivial ?_ rfl
  simp only [Tryz.ntmps203, List.size_toArray, List.length_cons, List.length_nil, Nat.reduceAdd, Nat.reduceSub, Array.replicate_succ, Array.replicate_zero, List.push_toArray, List.append_toArray, List.nil_append, List.cons_append]
  gi_wp2_with fail
  refine ⟨trivial, (callsIn_wide.2 HL.out).mono ?_⟩
  rintro e w1 ⟨rfl, rfl⟩
  clear HL q0
  gi_wp2
  gi_loopw [13] (fun cv wr => cv = .int .i64 0 ∧ Own w0 wr (boxes B none a n (Nil :: Z []) ++ R)) (fun _ _ => 0)
  case atStart => exact ⟨rfl, H1.out⟩
  case round =>
    obtain ⟨rfl, hO⟩ := hrel
    have HO : Hid (Own w0 wr _) := hO
    clear hO H1
    gi_wp2
    go_end0
    exact ⟨⟨_, rfl⟩, .inl ⟨_, rfl, HO.out⟩⟩
end Go.Proofs.YtflmgilmbppieaaGreatDoor

/-
  The world looks at all components.
-/
namespace Go.Proofs.YtflmgilmbppieaaGreatDoor
open Go.RowKit
set_option linter.unusedVariables false
set_option maxRecDepth 100000

theorem Own.fr6 {w0 w : World} {a b c d e f g : Thing} {l : List Thing} (h : Own w0 w (a :: b :: c :: d :: e :: f :: g :: l)) : Own w0 w (g :: a :: b :: c :: d :: e :: f :: l) := h.perm (List.perm_middle (l₁ := [a, b, c, d, e, f]) (a := g) (l₂ := l))
theorem Own.fr7 {w0 w : World} {a b c d e f g k : Thing} {l : List Thing} (h : Own w0 w (a :: b :: c :: d :: e :: f :: g :: k :: l)) : Own w0 w (k :: a :: b :: c :: d :: e :: f :: g :: l) := h.perm (List.perm_middle (l₁ := [a, b, c, d, e, f, g]) (a := k) (l₂ := l))
/-- all components of all entities -/
def allS (σ : Sto) : List (Nat × Cp) := σ.S.list.flatMap (fun id => (σ.cps id).map (fun c => (id, c)))
theorem allW_S {σ : Sto} {L : List EnE} (h : L.map (fun x => (x.id, x.C)) = σ.S.list.map (fun id => (id, σ.cps id))) : allW L = allS σ := by
  have e1 : allW L = (L.map (fun x => (x.id, x.C))).flatMap (fun e => e.2.map (fun c => (e.1, c))) := by
    unfold allW; rw [List.flatMap_map]
  have e2 : allS σ = (σ.S.list.map (fun id => (id, σ.cps id))).flatMap (fun e => e.2.map (fun c => (e.1, c))) := by
    unfold allS; rw [List.flatMap_map]
  rw [e1, e2, h]
theorem ents_ok {σ : Sto} (hσ : σ.Ok) {L : List EnE} (h : L.map (fun x => (x.id, x.C)) = σ.S.list.map (fun id => (id, σ.cps id))) : L.length ≤ 1024 ∧ ∀ x ∈ L, x.id < 4294967296 ∧ x.C.length ≤ 6 ∧ ∀ c ∈ x.C, c.k < 256 := by
  constructor
  · have := congrArg List.length h
    simp only [List.length_map] at this
    rw [this]
    exact list_lenW hσ.s
  · intro x hx
    have hm : (x.id, x.C) ∈ σ.S.list.map (fun id => (id, σ.cps id)) := by rw [← h]; exact List.mem_map.2 ⟨x, hx, rfl⟩
    obtain ⟨id, hid, e⟩ := List.mem_map.1 hm
    simp only [Prod.mk.injEq] at e
    obtain ⟨hl, h32⟩ := St.list_w hσ.s hid
    obtain ⟨r, C, hr, he, hC, _⟩ := hσ.ent hl
    have hc := Sto.cps_of hr he
    rw [← e.1, ← e.2, hc]
    exact ⟨h32, lst_len6 hC, lst_k hC⟩
set_option maxHeartbeats 32000000 in
theorem look_ok (w0 w : World) (l : List Thing) (b bs : Nat) (T : Nat) (bwv pv : Value) (mp : Option Nat) (n : Nat) (S : Nat → Nat → Option SgE) (σ : Sto) (K : Nat) (hσ : σ.Ok) (hK : K ≤ 1000000) (hn : n ≤ 100000)
    (h : Own w0 w (Store bs σ K :: Cells b #[.int .u32 (T : Int), .pointer (some ⟨bs, 0, none⟩), bwv, .map mp, pv] 117 :: SMapO mp n S :: l)) :
    Calls Tryz.prog 59 #[.pointer (some ⟨b, 0, none⟩)] w fun e w' => e = .returned (.tuple #[]) ∧ ∃ (mn : Nat) (ao : Option Addr) (cap : Nat) (P L1 L2 : List PlE), LeftOf (sgp S) (sgp (mapOf S T (allS σ))) (fun _ _ => false) L1 ∧ ReachOf (mapOf S T (allS σ)) T (fun _ _ => false) L2 ∧ P.Perm (L1 ++ L2) ∧ P.Pairwise (fun a b => a.id ≤ b.id) ∧ Own w0 w' (Store bs σ K :: Cells b #[.int .u32 (T : Int), .pointer (some ⟨bs, 0, none⟩), bwv, .map (some mn), .slice ao P.length cap] 117 :: SMap mn (allS σ).length (sgp (mapOf S T (allS σ))) :: Row 63 4 (.slice ao P.length cap) P.length (cat PlE.cs P) :: l) := by
  have hM := h.smNew
  have HL : Hid (Calls _ _ _ _ _) := wlist w0 _ _ b bs _ σ K hM.back3 rfl hσ hK
  have HOK : Hid (∀ L : List EnE, L.map (fun x => (x.id, x.C)) = σ.S.list.map (fun id => (id, σ.cps id)) → L.length ≤ 1024 ∧ ∀ x ∈ L, x.id < 4294967296 ∧ x.C.length ≤ 6 ∧ ∀ c ∈ x.C, c.k < 256) := fun L hL => ents_ok hσ hL
  have hmm := fun w => @run_makeMap Tryz.prog 115 w
  clear h hM hσ hK
  go_enter Tryz.func59, Tryz.ntmps59
  go_wp2_with fail
  refine HL.out.mono ?_
  rintro e w2 ⟨ae, ce, L, rfl, hLe, h2⟩
  generalize w.heap.size = Bm at *
  obtain ⟨hLn, hLx⟩ := HOK.out L hLe
  have HLE : Hid (allW L = allS σ) := allW_S hLe
  have HLX : Hid (∀ x ∈ L, x.id < 4294967296 ∧ x.C.length ≤ 6 ∧ ∀ c ∈ x.C, c.k < 256) := hLx
  have H2 : Hid (Own w0 w2 (EntsT ae ce L :: Store bs σ K :: Cells b #[.int .u32 (T : Int), .pointer (some ⟨bs, 0, none⟩), bwv, .map mp, pv] 117 :: SMap Bm 0 (sgp (mapOf S T [])) :: SMapO mp n S :: l)) := (h2.perm perm_ents).ents
  obtain ⟨m, hm⟩ : ∃ m, m = L.length := ⟨_, rfl⟩
  have HMM : Hid (m = L.length) := hm
  rw [← hm] at hLn ⊢
  clear h2 hLe hLx HL HOK hm hmm
  go_wp2
  go_loopw [12] (fun vi wr => ∃ (j : Nat) (A : List (Nat × Cp)), j ≤ m ∧ vi = .int .i64 (j : Int) ∧ A = allW (L.take j) ∧ A.length ≤ 6 * j ∧ Own w0 wr (EntsT ae ce L :: Store bs σ K :: Cells b #[.int .u32 (T : Int), .pointer (some ⟨bs, 0, none⟩), bwv, .map mp, pv] 117 :: SMap Bm A.length (sgp (mapOf S T A)) :: SMapO mp n S :: l)) (fun vi _ => m - (intOf vi).toNat)
  case atStart => exact ⟨0, [], Nat.zero_le _, rfl, rfl, Nat.zero_le _, H2.out⟩
  case round =>
    obtain ⟨j, A, hj, rfl, hA0, hAl, hO⟩ := hrel
    have HAE : Hid (A = allW (L.take j)) := hA0
    clear hA0 H2
    by_cases hlt : j < m
    · have hlt' : (j : Int) < (m : Int) := by omega
      obtain ⟨x, hx⟩ : ∃ x, L[j]? = some x := ⟨_, List.getElem?_eq_getElem (by rw [← HMM.out]; exact hlt)⟩
      obtain ⟨⟨ge, hge, c0, c1⟩, _⟩ := hO.entAt hx
      obtain ⟨hx1, hx2, hx3⟩ := HLX.out x (List.mem_of_getElem? hx)
      have HX3 : Hid (∀ c ∈ x.C, c.k < 256) := hx3
      have HXX : Hid (L[j]? = some x) := hx
      have HAN : Hid (A ++ x.C.map (fun c => (x.id, c)) = allW (L.take (j + 1))) := by
        show _ = _
        rw [HAE.out, List.take_add_one, hx]
        exact (allW_snoc _ _).symm
      have hA := hO.allocC #[.int .u32 (x.id : Int), .slice x.ao x.C.length x.cap] 67
      have HA : Hid (Own w0 _ _) := hA
      obtain ⟨xi, hxi⟩ : ∃ v, v = x.id := ⟨_, rfl⟩
      obtain ⟨xl, hxl⟩ : ∃ v, v = x.C.length := ⟨_, rfl⟩
      obtain ⟨xa, hxa⟩ : ∃ v, v = x.ao := ⟨_, rfl⟩
      obtain ⟨xc, hxc⟩ : ∃ v, v = x.cap := ⟨_, rfl⟩
      rw [← hxi] at c0 hx1 HA HAN
      rw [← hxl, ← hxa, ← hxc] at c1 HA
      rw [← hxl] at hx2
      have HXV : Hid (xi = x.id ∧ xl = x.C.length ∧ xa = x.ao ∧ xc = x.cap) := ⟨hxi, hxl, hxa, hxc⟩
      obtain ⟨An, hAn⟩ : ∃ v, v = A.length := ⟨_, rfl⟩
      rw [← hAn] at hAl HA
      have HAn : Hid (An = A.length) := hAn
      subst hge
      clear hA hO hx hx3 hxi hxl hxa hxc hAn
      go_wp2
      generalize hWg : wr.alloc (.cells #[.int .u32 (xi : Int), .slice xa xl xc] 67) = W3 at *
      generalize wr.heap.size = b4 at *
      clear hWg c0 c1
      go_loopw [19] (fun vi wr => ∃ (q : Nat) (A2 : List (Nat × Cp)), q ≤ xl ∧ vi = .int .i64 (q : Int) ∧ A2 = A ++ (x.C.take q).map (fun c => (xi, c)) ∧ Own w0 wr (Cells b4 #[.int .u32 (xi : Int), .slice xa xl xc] 67 :: EntsT (some ⟨ge, 0, none⟩) ce L :: Store bs σ K :: Cells b #[.int .u32 (T : Int), .pointer (some ⟨bs, 0, none⟩), bwv, .map mp, pv] 117 :: SMap Bm (An + q) (sgp (mapOf S T A2)) :: SMapO mp n S :: l)) (fun vi _ => xl - (intOf vi).toNat)
      case atStart => exact ⟨0, A, Nat.zero_le _, rfl, by simp, HA.out⟩
      case round =>
        obtain ⟨q, A2, hq, rfl, hA2, hO⟩ := hrel
        have HA2 : Hid (A2 = A ++ (x.C.take q).map (fun c => (xi, c))) := hA2
        clear hA2 HA
        by_cases hql : q < xl
        · have hql' : (q : Int) < (xl : Int) := by omega
          obtain ⟨c, hc⟩ : ∃ c, x.C[q]? = some c := ⟨_, List.getElem?_eq_getElem (by rw [← HXV.out.2.1]; exact hql)⟩
          have hcs := (hO.two.entAt HXX.out).2
          obtain ⟨gc, oc, hgc, _, t0, t1, t2, t3⟩ := hcs.at q c hc
          rw [← HXV.out.2.2.1] at hgc
          have hck := HX3.out c (List.mem_of_getElem? hc)
          have f0 := hO.cell 0
          simp at f0
          have HA3 : Hid (A2 ++ [(xi, c)] = A ++ (x.C.take (q + 1)).map (fun c => (xi, c))) := by
            show _ = _
            rw [HA2.out, List.take_add_one, hc]
            simp
          obtain ⟨ck, ca, cb, cc⟩ := c
          simp only at t0 t1 t2 t3 hck
          have hB := (hO.allocC #[.int .u8 (ck : Int), .int .i32 ca, .int .i32 cb, .int .i32 cc] 46).allocC #[.int .u32 (xi : Int), .int .u8 (ck : Int)] 189
          simp only [World.size_alloc] at hB
          have g0 := hB.three.cell 0
          simp at g0
          have hB1 := hO.allocC #[.int .u8 (ck : Int), .int .i32 ca, .int .i32 cb, .int .i32 cc] 46
          have k0 := hB1.two.cell 0
          simp at k0
          obtain ⟨sv, hsv⟩ : ∃ sv, sv = (sgt (S xi ck) T ck ca cb cc).v := ⟨_, rfl⟩
          have HSG : Hid (∀ W l, Own w0 W (SMapO mp n S :: Cells b #[.int .u32 (T : Int), .pointer (some ⟨bs, 0, none⟩), bwv, .map mp, pv] 117 :: l) → Calls Tryz.prog 114 #[.pointer (some ⟨b, 0, none⟩), .agg #[.int .u32 (xi : Int), .int .u8 (ck : Int)], .agg #[.int .u8 (ck : Int), .int .i32 ca, .int .i32 cb, .int .i32 cc]] W fun e w' => e = .returned sv ∧ Own w0 w' (SMapO mp n S :: Cells b #[.int .u32 (T : Int), .pointer (some ⟨bs, 0, none⟩), bwv, .map mp, pv] 117 :: l)) := fun W l h => by
            rw [hsv]
            exact sight_o w0 W l b _ mp n T S rfl rfl xi ck hx1 hck ck ca cb cc h
          have HPU : Hid (∀ W l, Own w0 W (SMap Bm (An + q) (sgp (mapOf S T A2)) :: l) → ∃ w', (Instr.mapUpdate 115 (.map (some Bm)) (.agg #[.int .u32 (xi : Int), .int .u8 (ck : Int)]) sv).run Tryz.prog W = .ok () w' ∧ Own w0 w' (SMap Bm (An + (q + 1)) (sgp (mapOf S T (A2 ++ [(xi, ⟨ck, ca, cb, cc⟩)]))) :: l)) := fun W l h => by
            rw [hsv, mapOf_snoc]
            exact h.smStp (S := S) (T := T) (xi, ⟨ck, ca, cb, cc⟩) hx1 hck (by unfold maxLen; omega)
          have H0 : Hid (Own w0 _ (SMapO mp n S :: Cells b #[.int .u32 (T : Int), .pointer (some ⟨bs, 0, none⟩), bwv, .map mp, pv] 117 :: Cells (wr.heap.size + 1) #[.int .u32 (xi : Int), .int .u8 (ck : Int)] 189 :: Cells wr.heap.size #[.int .u8 (ck : Int), .int .i32 ca, .int .i32 cb, .int .i32 cc] 46 :: Cells b4 #[.int .u32 (xi : Int), .slice xa xl xc] 67 :: EntsT (some ⟨ge, 0, none⟩) ce L :: Store bs σ K :: SMap Bm (An + q) (sgp (mapOf S T A2)) :: l)) := (hB.fr7.fr6.two).drew
          subst hgc
          clear hB hB1 hO hcs hc hsv
          go_wp2
          generalize hWg : (wr.alloc (.cells #[.int .u8 (ck : Int), .int .i32 ca, .int .i32 cb, .int .i32 cc] 46)).alloc (.cells #[.int .u32 (xi : Int), .int .u8 (ck : Int)] 189) = W5 at *
          generalize hb6 : wr.heap.size = b6 at *
          generalize hb7 : b6 + 1 = b7 at *
          clear hWg t0 t1 t2 t3 f0 g0 k0 hb6 hb7
          have p0 := H0.out.three.cell 0
          have p1 := H0.out.three.cell 1
          have r0 := H0.out.four.cell 0
          have r1 := H0.out.four.cell 1
          have r2 := H0.out.four.cell 2
          have r3 := H0.out.four.cell 3
          simp at p0 p1 r0 r1 r2 r3
          go_region_held3 (fun w' => w'.cell? ⟨b7, 0, none⟩ = some (.int .u32 (xi : Int)) ∧ w'.cell? ⟨b7, 1, none⟩ = some (.int .u8 (ck : Int)) ∧ w'.cell? ⟨b6, 0, none⟩ = some (.int .u8 (ck : Int)) ∧ w'.cell? ⟨b6, 1, none⟩ = some (.int .i32 ca) ∧ w'.cell? ⟨b6, 2, none⟩ = some (.int .i32 cb) ∧ w'.cell? ⟨b6, 3, none⟩ = some (.int .i32 cc)) (go_keep)
            (first
              | (go_at_call 114; refine (HSG.out _ _ H0.out).mono ?_; rintro e w5 ⟨rfl, h5⟩
                 have u0 := h5.three.cell 0
                 have u1 := h5.three.cell 1
                 have v0 := h5.four.cell 0
                 have v1 := h5.four.cell 1
                 have v2 := h5.four.cell 2
                 have v3 := h5.four.cell 3
                 simp at u0 u1 v0 v1 v2 v3
                 obtain ⟨W6, hr6, h6⟩ := HPU.out w5 _ h5.fr7
                 have x0 := h6.four.cell 0
                 have x1 := h6.four.cell 1
                 have y0 := h6.five.cell 0
                 have y1 := h6.five.cell 1
                 have y2 := h6.five.cell 2
                 have y3 := h6.five.cell 3
                 simp at x0 x1 y0 y1 y2 y3
                 have H6 : Hid (Own w0 W6 (Cells b4 #[.int .u32 (xi : Int), .slice (some ⟨gc, oc, none⟩) xl xc] 67 :: EntsT (some ⟨ge, 0, none⟩) ce L :: Store bs σ K :: Cells b #[.int .u32 (T : Int), .pointer (some ⟨bs, 0, none⟩), bwv, .map mp, pv] 117 :: SMap Bm (An + (q + 1)) (sgp (mapOf S T (A2 ++ [(xi, ⟨ck, ca, cb, cc⟩)]))) :: SMapO mp n S :: l)) := h6.three.fr7.fr7.fr7.fr6.tail.fr6.tail
                 clear h5 h6))
          clear HSG HPU H0
          go_wp2
          go_roundw
          case rel => exact ⟨q + 1, A2 ++ [(xi, ⟨ck, ca, cb, cc⟩)], by omega, by go_num, HA3.out, H6.out⟩
          case measure => simp [intOf]; omega
        · have hql' : ¬ (q : Int) < (xl : Int) := by omega
          have hqe : q = xl := by omega
          have HAF : Hid (A2 = allW (L.take (j + 1)) ∧ A2.length = An + q) := by
            have e : A2 = A ++ x.C.map (fun c => (xi, c)) := by rw [HA2.out, hqe, HXV.out.2.1, List.take_length]
            refine ⟨by rw [e]; exact HAN.out, ?_⟩
            rw [e, List.length_append, List.length_map, ← HAn.out, ← HXV.out.2.1, hqe]
          have HOF : Hid (Own w0 wr (EntsT (some ⟨ge, 0, none⟩) ce L :: Store bs σ K :: Cells b #[.int .u32 (T : Int), .pointer (some ⟨bs, 0, none⟩), bwv, .map mp, pv] 117 :: SMap Bm A2.length (sgp (mapOf S T A2)) :: SMapO mp n S :: l)) := by
            rw [HAF.out.2]
            exact hO.tail
          clear hO hqe
          go_wp2
          go_roundw
          case rel => exact ⟨j + 1, A2, by omega, by go_num, HAF.out.1, by rw [HAF.out.2]; omega, HOF.out⟩
          case measure => simp [intOf]; omega
    · have hlt' : ¬ (j : Int) < (m : Int) := by omega
      have hjm : j = m := by omega
      have hAA : A = allS σ := by rw [HAE.out, hjm, HMM.out, List.take_length]; exact HLE.out
      obtain ⟨An, hAn⟩ : ∃ v, v = A.length := ⟨_, rfl⟩
      have hAl2 : An ≤ 6144 := by omega
      have hO1 : Own w0 wr (SMapO mp n S :: SMap Bm An (sgp (mapOf S T A)) :: Cells b #[.int .u32 (T : Int), .pointer (some ⟨bs, 0, none⟩), bwv, .map mp, pv] 117 :: Store bs σ K :: l) := by
        have h1 := hO.tail
        rw [← hAn] at h1
        have h2 := h1.three.four
        exact h2.perm (List.Perm.cons _ (List.Perm.cons _ (List.Perm.swap _ _ l)))
      have HAA : Hid (A = allS σ ∧ An = (allS σ).length) := ⟨hAA, by rw [hAn, hAA]⟩
      obtain ⟨S', hS'⟩ : ∃ S', S' = mapOf S T A := ⟨_, rfl⟩
      rw [← hS'] at hO1
      have HS' : Hid (S' = mapOf S T (allS σ)) := by rw [hS', hAA]; exact rfl
      have HLF : Hid (Calls _ _ _ _ _) := left_o w0 wr _ b _ mp n Bm An S S' rfl (by omega) hO1
      clear hO hO1 hAA hAn hS' hjm HAE HMM HLE HLX hAl hLn hj
      go_wp2_with fail
      refine HLF.out.mono ?_
      rintro e w3 ⟨a1, c1, L1, rfl, hl1, hL1, h3⟩
      have HRC : Hid (Calls _ _ _ _ _) := reached_ok w0 w3 _ b _ Bm An T S' rfl (by omega) h3.three.four.two
      have HL1 : Hid (LeftOf (sgp S) (sgp S') (fun _ _ => false) L1) := hL1
      obtain ⟨n1, hn1⟩ : ∃ v, v = L1.length := ⟨_, rfl⟩
      have HN1 : Hid (n1 = L1.length) := hn1
      rw [← hn1] at hl1 HRC ⊢
      clear HLF h3 hL1 hn1
      go_wp2_with fail
      refine HRC.out.mono ?_
      rintro e w4 ⟨a2, c2, L2, rfl, hl2, hL2, h4⟩
      have HL2 : Hid (ReachOf S' T (fun _ _ => false) L2) := hL2
      obtain ⟨n2, hn2⟩ : ∃ v, v = L2.length := ⟨_, rfl⟩
      have HN2 : Hid (n2 = L2.length) := hn2
      rw [← hn2] at hl2 h4 ⊢
      have hD := h4.allocC #[.slice a1 n1 c1, .slice a2 n2 c2] 60
      have hD2 := hD.five.two
      have HCC : Hid (Calls _ _ _ _ _) := concatPl w0 _ _ w4.heap.size a1 a2 c1 c2 L1 L2 (by rw [← HN1.out, ← HN2.out]; omega) (by rw [← HN1.out, ← HN2.out]; exact hD2)
      clear HRC h4 hL2 hn2 hD hD2
      go_wp2_with fail
      refine HCC.out.mono ?_
      rintro e w5 ⟨a3, c3, rfl, h5⟩
      obtain ⟨n3, hn3⟩ : ∃ v, v = (L1 ++ L2).length := ⟨_, rfl⟩
      have hn3b : n3 ≤ 200000 := by rw [hn3, List.length_append, ← HN1.out, ← HN2.out]; omega
      have hC := h5.three
      have z4 := hC.cell 4
      have y4 := hC.froz 4
      simp at z4
      have hC2 := hC.setC 4 (.slice a3 n3 c3)
      have HSO : Hid (Calls _ _ _ _ _) := sort_any w0 _ _ a3 c3 (L1 ++ L2) hC2.two (by rw [← hn3]; omega)
      have z5 := hC2.cell 4
      simp at z5
      rw [← hn3] at HSO ⊢
      have HN3 : Hid (n3 = (L1 ++ L2).length) := hn3
      clear HCC h5 hC hC2 hn3
      go_wp2_with fail
      refine HSO.out.mono ?_
      rintro e w6 ⟨rfl, P, hp, hpw, h6⟩
      have hE := h6.two
      have z3 := hE.cell 3
      have y3 := hE.froz 3
      simp at z3
      have hE2 := hE.setC 3 (.map (some Bm))
      have hPl : P.length = n3 := by rw [HN3.out]; exact hp.length_eq
      have HP : Hid (P.Perm (L1 ++ L2) ∧ P.Pairwise (fun a b => a.id ≤ b.id)) := ⟨hp, hpw⟩
      have HFI : Hid (Own w0 (w6.setCell ⟨b, 3, none⟩ (.map (some Bm))) (Store bs σ K :: Cells b #[.int .u32 (T : Int), .pointer (some ⟨bs, 0, none⟩), bwv, .map (some Bm), .slice a3 P.length c3] 117 :: SMap Bm (allS σ).length (sgp (mapOf S T (allS σ))) :: Row 63 4 (.slice a3 P.length c3) P.length (cat PlE.cs P) :: l)) := by
        show Own _ _ _
        rw [hPl, ← HAA.out.2, ← HS'.out]
        have h7 := hE2.five.five.tail
        exact h7.perm (List.Perm.cons _ (List.Perm.cons _ (List.Perm.swap _ _ l)))
      clear hE hE2 h6 hp hpw hPl HSO z4 y4 z5
      go_wp2
      go_end0
      refine ⟨rfl, Bm, a3, c3, P, L1, L2, ?_, ?_, HP.out.1, HP.out.2, HFI.out⟩
      · rw [← HS'.out]; exact HL1.out
      · rw [← HS'.out]; exact HL2.out
end Go.Proofs.YtflmgilmbppieaaGreatDoor

/-
  Orders: when one is right, in the program and in the document.
-/
namespace Go.Proofs.YtflmgilmbppieaaGreatDoor
open Go.RowKit
set_option linter.unusedVariables false
set_option maxRecDepth 100000

/-- the error of an order -/
def ock (d k : Nat) (C : List Cp) : Nat :=
  if d = 1 then lst (-1) C else if d = 2 then (if C.length = 0 then 0 else 4) else if d = 3 ∨ d = 4 then (if C.length = 1 then (C.headD ⟨0, 0, 0, 0⟩).chk else 4) else if d = 5 then (if 5 < k then 1 else if C.length = 0 then 0 else 4) else 1
theorem ock_bad (d k : Nat) (C : List Cp) (h : d < 1 ∨ 5 < d) : ock d k C = 1 := by
  unfold ock
  rw [if_neg (by omega), if_neg (by omega), if_neg (by omega), if_neg (by omega)]
theorem lst_le (C : List Cp) : ∀ p, lst p C ≤ 5 := by
  induction C with
  | nil => intro p; simp [lst]
  | cons q t ih =>
    intro p
    unfold lst
    split
    · exact chk_lt q
    · split
      · decide
      · exact ih _
theorem ock_le (d k : Nat) (C : List Cp) : ock d k C ≤ 5 := by
  unfold ock
  split
  · exact lst_le C _
  · split
    · split <;> decide
    · split
      · split
        · exact chk_lt _
        · decide
      · split
        · split
          · decide
          · split <;> decide
        · decide
set_option maxHeartbeats 400000 in
theorem onone (w : World) (ao : Option Addr) (len cap : Nat) : Calls Tryz.prog 162 #[.slice ao len cap] w fun e w' => e = .returned (.int .i64 (((if len = 0 then 0 else 4 : Nat)) : Int)) ∧ w' = w := by
  by_cases h : len = 0
  · subst h
    go_enter Tryz.func162, Tryz.ntmps162
    go_wp2
    go_ret
    exact ⟨rfl, rfl⟩
  · rw [if_neg h]
    have h' : (0 : Int) < (len : Int) := by omega
    go_enter Tryz.func162, Tryz.ntmps162
    go_wp2
    go_ret
    exact ⟨rfl, rfl⟩
set_option maxHeartbeats 400000 in
theorem oone (w : World) (ht : Tab w) (ao : Option Addr) (len cap : Nat) (C : List Cp) (hl : C.length = len) (hs : Cs w ao C) (hk : ∀ q ∈ C, q.k < 256) : Calls Tryz.prog 163 #[.slice ao len cap] w fun e w' => e = .returned (.int .i64 (((if C.length = 1 then (C.headD ⟨0, 0, 0, 0⟩).chk else 4 : Nat)) : Int)) ∧ Fr Nobody w w' := by
  by_cases h : len = 1
  · obtain ⟨q, rfl⟩ : ∃ q, C = [q] := List.length_eq_one_iff.1 (by omega)
    have hq := hk q (by simp)
    obtain ⟨g, o, rfl, _, c0, c1, c2, c3⟩ := hs.at 0 q rfl
    have HC : Hid (Calls _ _ _ _ _) := check3 w ht q.k hq q.a q.b q.c
    simp at c0 c1 c2 c3
    rw [show (if [q].length = 1 then ([q].headD ⟨0, 0, 0, 0⟩).chk else 4) = q.chk from rfl]
    subst h
    clear hl hs hk ht
    go_enter Tryz.func163, Tryz.ntmps163
    go_wp2_with fail
    refine HC.out.mono ?_
    rintro e w1 ⟨rfl, hf⟩
    go_wp2
    go_ret
    exact ⟨rfl, hf⟩
  · rw [if_neg (by omega)]
    have h' : ((len : Int) == (1 : Int)) = false := by simp; omega
    clear hs hk ht
    go_enter Tryz.func163, Tryz.ntmps163
    go_wp2
    go_ret
    exact ⟨rfl, Fr.refl _ _⟩

set_option maxHeartbeats 1000000 in
theorem ocheck (w : World) (ht : Tab w) (d id k : Nat) (hk : k < 256) (ao : Option Addr) (len cap : Nat) (C : List Cp) (hl : C.length = len) (hs : Cs w ao C) (hCk : ∀ q ∈ C, q.k < 256) (hm : len ≤ 1000000) :
    Calls Tryz.prog 104 #[.agg #[.int .u8 (d : Int), .int .u32 (id : Int), .int .u8 (k : Int), .slice ao len cap]] w fun e w' => e = .returned (.int .i64 ((ock d k C : Nat) : Int)) ∧ Fr Nobody w w' := by
  have HL : Hid (∀ w', Fr Nobody w w' → Calls Tryz.prog 90 #[.slice ao len cap] w' fun e w'' => e = .returned (.int .i64 ((lst (-1) C : Nat) : Int)) ∧ Fr Nobody w' w'') := fun w' hf => list_any w' (ht.quiet hf) ao len cap C hl (hs.quiet hf) hCk hm
  have HN : Hid (∀ w', Calls Tryz.prog 162 #[.slice ao len cap] w' fun e w'' => e = .returned (.int .i64 (((if C.length = 0 then 0 else 4 : Nat)) : Int)) ∧ w'' = w') := fun w' => by rw [hl]; exact onone w' ao len cap
  have HO : Hid (∀ w', Fr Nobody w w' → Calls Tryz.prog 163 #[.slice ao len cap] w' fun e w'' => e = .returned (.int .i64 (((if C.length = 1 then (C.headD ⟨0, 0, 0, 0⟩).chk else 4 : Nat)) : Int)) ∧ Fr Nobody w' w'') := fun w' hf => oone w' (ht.quiet hf) ao len cap C hl (hs.quiet hf) hCk
  have HC : Hid (∀ w', Fr Nobody w w' → Calls Tryz.prog 164 #[.int .u8 (k : Int)] w' fun e w'' => e = .returned (.int .i64 ((cnt k : Nat) : Int)) ∧ w'' = w') := fun w' hf => count_any w' (ht.quiet hf) k hk
  clear ht hs hCk hl
  by_cases hd : d < 1 ∨ 5 < d
  · rw [ock_bad d k C hd]
    have d1 : ¬ (d : Int) = 1 := by omega
    have d2 : ¬ (d : Int) = 2 := by omega
    have d3 : ¬ (d : Int) = 3 := by omega
    have d4 : ¬ (d : Int) = 4 := by omega
    have d5 : ¬ (d : Int) = 5 := by omega
    clear hd
    go_enter Tryz.func104, Tryz.ntmps104
    go_wp2
    go_ret
    exact ⟨rfl, (Fr.refl _ _).alloc _⟩
  · have : d = 1 ∨ d = 2 ∨ d = 3 ∨ d = 4 ∨ d = 5 := by omega
    clear hd
    rcases this with rfl | rfl | rfl | rfl | rfl
    · have hv : ock 1 k C = lst (-1) C := rfl
      rw [hv]
      clear hv
      generalize lst (-1) C = x at *
      go_enter Tryz.func104, Tryz.ntmps104
      go_wp2_with fail
      refine (HL.out _ ((Fr.refl _ _).alloc _)).mono ?_
      rintro e w1 ⟨rfl, hf⟩
      go_wp2
      go_ret
      exact ⟨rfl, ((Fr.refl _ _).alloc _).trans hf⟩
    · have hv : ock 2 k C = (if C.length = 0 then 0 else 4) := rfl
      rw [hv]
      clear hv
      generalize (if C.length = 0 then 0 else 4) = x at *
      go_enter Tryz.func104, Tryz.ntmps104
      go_wp2_with fail
      refine (HN.out _).mono ?_
      rintro e w1 ⟨rfl, rfl⟩
      go_wp2
      go_ret
      exact ⟨rfl, ((Fr.refl _ _).alloc _)⟩
    · have hv : ock 3 k C = (if C.length = 1 then (C.headD ⟨0, 0, 0, 0⟩).chk else 4) := rfl
      rw [hv]
      clear hv
      generalize (if C.length = 1 then (C.headD ⟨0, 0, 0, 0⟩).chk else 4) = x at *
      go_enter Tryz.func104, Tryz.ntmps104
      go_wp2_with fail
      refine (HO.out _ ((Fr.refl _ _).alloc _)).mono ?_
      rintro e w1 ⟨rfl, hf⟩
      go_wp2
      go_ret
      exact ⟨rfl, ((Fr.refl _ _).alloc _).trans hf⟩
    · have hv : ock 4 k C = (if C.length = 1 then (C.headD ⟨0, 0, 0, 0⟩).chk else 4) := rfl
      rw [hv]
      clear hv
      generalize (if C.length = 1 then (C.headD ⟨0, 0, 0, 0⟩).chk else 4) = x at *
      go_enter Tryz.func104, Tryz.ntmps104
      go_wp2_with fail
      refine (HO.out _ ((Fr.refl _ _).alloc _)).mono ?_
      rintro e w1 ⟨rfl, hf⟩
      go_wp2
      go_ret
      exact ⟨rfl, ((Fr.refl _ _).alloc _).trans hf⟩
    · by_cases h5 : 5 < k
      · have hv : ock 5 k C = 1 := by unfold ock; simp [h5]
        rw [hv]
        rw [cnt_out k h5] at HC
        clear hv
        go_enter Tryz.func104, Tryz.ntmps104
        go_wp2_with fail
        refine (HC.out _ ((Fr.refl _ _).alloc _)).mono ?_
        rintro e w1 ⟨rfl, rfl⟩
        go_wp2
        go_ret
        exact ⟨rfl, (Fr.refl _ _).alloc _⟩
      · have hv : ock 5 k C = (if C.length = 0 then 0 else 4) := by unfold ock; simp [h5]
        rw [hv]
        have hc := cnt_pos k (by omega)
        generalize cnt k = n at *
        have hc' : ¬ (n : Int) = 0 := by omega
        clear hv
        generalize (if C.length = 0 then 0 else 4) = x at *
        go_enter Tryz.func104, Tryz.ntmps104
        go_wp2_with fail
        refine (HC.out _ ((Fr.refl _ _).alloc _)).mono ?_
        rintro e w1 ⟨rfl, rfl⟩
        go_wp2_with fail
        refine (HN.out _).mono ?_
        rintro e w1 ⟨rfl, rfl⟩
        go_wp2
        go_ret
        exact ⟨rfl, (Fr.refl _ _).alloc _⟩

set_option maxHeartbeats 1000000 in
theorem rocheck (w : World) (d id k : Nat) (hk : k < 256) (ao : Option Addr) (len cap : Nat) (C : List Cp) (hl : C.length = len) (hs : Cs w ao C) (hCk : ∀ q ∈ C, q.k < 256) (hm : len ≤ 1000000) :
    Calls Tryz.prog 52 #[.agg #[.int .u8 (d : Int), .int .u32 (id : Int), .int .u8 (k : Int), .slice ao len cap]] w fun e w' => e = .returned (.int .i64 ((ock d k C : Nat) : Int)) ∧ Fr Nobody w w' := by
  have HL : Hid (∀ w', Fr Nobody w w' → Calls Tryz.prog 77 #[.slice ao len cap] w' fun e w'' => e = .returned (.int .i64 ((lst (-1) C : Nat) : Int)) ∧ Fr Nobody w' w'') := fun w' hf => rlist_any w' ao len cap C hl (hs.quiet hf) hCk hm
  by_cases hd : d < 1 ∨ 5 < d
  · rw [ock_bad d k C hd]
    by_cases h0 : d < 1
    · have d1 : (d : Int) < 1 := by omega
      clear hd
      go_enter Tryz.func52, Tryz.ntmps52
      go_wp2
      go_ret
      exact ⟨rfl, (Fr.refl _ _).alloc _⟩
    · have d1 : ¬ (d : Int) < 1 := by omega
      have d5 : (5 : Int) < (d : Int) := by omega
      clear hd
      go_enter Tryz.func52, Tryz.ntmps52
      go_wp2
      go_ret
      exact ⟨rfl, (Fr.refl _ _).alloc _⟩
  · have : d = 1 ∨ d = 2 ∨ d = 3 ∨ d = 4 ∨ d = 5 := by omega
    clear hd
    rcases this with rfl | rfl | rfl | rfl | rfl
    · have hv : ock 1 k C = lst (-1) C := rfl
      rw [hv]
      clear hv
      go_enter Tryz.func52, Tryz.ntmps52
      go_wp2_with fail
      refine (HL.out _ ((Fr.refl _ _).alloc _)).mono ?_
      rintro e w1 ⟨rfl, hf⟩
      go_wp2
      go_ret
      exact ⟨rfl, ((Fr.refl _ _).alloc _).trans hf⟩
    · have hv : ock 2 k C = (if C.length = 0 then 0 else 4) := by unfold ock; simp
      rw [hv]
      clear hv HL hs hCk
      by_cases h0 : len = 0
      · subst h0
        rw [hl, if_pos rfl]
        go_enter Tryz.func52, Tryz.ntmps52
        go_wp2
        go_ret
        exact ⟨rfl, (Fr.refl _ _).alloc _⟩
      · have h0' : ¬ (len : Int) = 0 := by omega
        rw [hl, if_neg h0]
        go_enter Tryz.func52, Tryz.ntmps52
        go_wp2
        go_ret
        exact ⟨rfl, (Fr.refl _ _).alloc _⟩
    · have hv : ock 3 k C = (if C.length = 1 then (C.headD ⟨0, 0, 0, 0⟩).chk else 4) := rfl
      rw [hv]
      clear hv HL
      by_cases h : len = 1
      · obtain ⟨q, rfl⟩ : ∃ q, C = [q] := List.length_eq_one_iff.1 (by omega)
        have hq := hCk q (by simp)
        obtain ⟨g, o, rfl, _, c0, c1, c2, c3⟩ := hs.at 0 q rfl
        have HC : Hid (∀ w', Calls Tryz.prog 106 #[.agg #[.int .u8 (q.k : Int), .int .i32 q.a, .int .i32 q.b, .int .i32 q.c]] w' fun e w'' => e = .returned (.int .i64 ((q.chk : Nat) : Int)) ∧ Fr Nobody w' w'') := fun w' => rcheck3 w' q.k hq q.a q.b q.c
        have c0 := c0
        simp at c0 c1 c2 c3
        have hg := World.block_lt_of_cell? w _ c0
        rw [show (if [q].length = 1 then ([q].headD ⟨0, 0, 0, 0⟩).chk else 4) = q.chk from rfl]
        subst h
        clear hl hs hCk
        go_enter Tryz.func52, Tryz.ntmps52
        go_wp2_with fail
        refine (HC.out _).mono ?_
        rintro e w1 ⟨rfl, hf⟩
        go_wp2
        go_ret
        exact ⟨rfl, ((Fr.refl _ _).alloc _).trans hf⟩
      · rw [if_neg (by omega)]
        have h' : ¬ (len : Int) = 1 := by omega
        clear hs hCk
        go_enter Tryz.func52, Tryz.ntmps52
        go_wp2
        go_ret
        exact ⟨rfl, (Fr.refl _ _).alloc _⟩
    · have hv : ock 4 k C = (if C.length = 1 then (C.headD ⟨0, 0, 0, 0⟩).chk else 4) := rfl
      rw [hv]
      clear hv HL
      by_cases h : len = 1
      · obtain ⟨q, rfl⟩ : ∃ q, C = [q] := List.length_eq_one_iff.1 (by omega)
        have hq := hCk q (by simp)
        obtain ⟨g, o, rfl, _, c0, c1, c2, c3⟩ := hs.at 0 q rfl
        have HC : Hid (∀ w', Calls Tryz.prog 106 #[.agg #[.int .u8 (q.k : Int), .int .i32 q.a, .int .i32 q.b, .int .i32 q.c]] w' fun e w'' => e = .returned (.int .i64 ((q.chk : Nat) : Int)) ∧ Fr Nobody w' w'') := fun w' => rcheck3 w' q.k hq q.a q.b q.c
        have c0 := c0
        simp at c0 c1 c2 c3
        have hg := World.block_lt_of_cell? w _ c0
        rw [show (if [q].length = 1 then ([q].headD ⟨0, 0, 0, 0⟩).chk else 4) = q.chk from rfl]
        subst h
        clear hl hs hCk
        go_enter Tryz.func52, Tryz.ntmps52
        go_wp2_with fail
        refine (HC.out _).mono ?_
        rintro e w1 ⟨rfl, hf⟩
        go_wp2
        go_ret
        exact ⟨rfl, ((Fr.refl _ _).alloc _).trans hf⟩
      · rw [if_neg (by omega)]
        have h' : ¬ (len : Int) = 1 := by omega
        clear hs hCk
        go_enter Tryz.func52, Tryz.ntmps52
        go_wp2
        go_ret
        exact ⟨rfl, (Fr.refl _ _).alloc _⟩
    · by_cases h5 : 5 < k
      · have hv : ock 5 k C = 1 := by unfold ock; simp [h5]
        rw [hv]
        have h5' : (5 : Int) < (k : Int) := by omega
        clear hv HL
        go_enter Tryz.func52, Tryz.ntmps52
        go_wp2
        go_ret
        exact ⟨rfl, (Fr.refl _ _).alloc _⟩
      · have h5' : ¬ (5 : Int) < (k : Int) := by omega
        have hv : ock 5 k C = (if C.length = 0 then 0 else 4) := by unfold ock; simp [h5]
        rw [hv]
        clear hv HL hs hCk
        by_cases h0 : len = 0
        · subst h0
          rw [hl, if_pos rfl]
          go_enter Tryz.func52, Tryz.ntmps52
          go_wp2
          go_ret
          exact ⟨rfl, (Fr.refl _ _).alloc _⟩
        · have h0' : ¬ (len : Int) = 0 := by omega
          rw [hl, if_neg h0]
          go_enter Tryz.func52, Tryz.ntmps52
          go_wp2
          go_ret
          exact ⟨rfl, (Fr.refl _ _).alloc _⟩
end Go.Proofs.YtflmgilmbppieaaGreatDoor

/-
  No store: what is answered then.
-/
namespace Go.Proofs.YtflmgilmbppieaaGreatDoor
open Go.RowKit Go.Maps
set_option linter.unusedVariables false

set_option maxHeartbeats 400000 in
theorem spawn_nil (w : World) (v : Value) : Calls Tryz.prog 176 #[.pointer none, v] w fun e w' => e = .returned (.tuple #[.int .u32 0, .int .i64 10]) ∧ Fr Nobody w w' := by
  go_enter Tryz.func176, Tryz.ntmps176
  go_wp2
  go_ret2
  exact ⟨rfl, Fr.refl _ _⟩
set_option maxHeartbeats 400000 in
theorem despawn_nil (w : World) (id : Int) : Calls Tryz.prog 111 #[.pointer none, .int .u32 id] w fun e w' => e = .returned (.int .i64 10) ∧ Fr Nobody w w' := by
  go_enter Tryz.func111, Tryz.ntmps111
  go_wp2_with (go_at_call 170; refine (home_nil _ _).mono ?_; rintro e w' ⟨rfl, rfl⟩)
  go_ret
  exact ⟨rfl, Fr.refl _ _⟩
set_option maxHeartbeats 400000 in
theorem homeFor_nil (w : World) (id : Int) (k a b c : Int) : Calls Tryz.prog 174 #[.pointer none, .int .u32 id, .agg #[.int .u8 k, .int .i32 a, .int .i32 b, .int .i32 c]] w fun e w' => e = .returned (.tuple #[.pointer none, .int .i64 10]) ∧ Fr Nobody w w' := by
  go_enter Tryz.func174, Tryz.ntmps174
  go_wp2
  go_ret2
  exact ⟨rfl, (Fr.refl _ _).alloc _⟩
set_option maxHeartbeats 400000 in
theorem set_nil (w : World) (id : Int) (k a b c : Int) : Calls Tryz.prog 112 #[.pointer none, .int .u32 id, .agg #[.int .u8 k, .int .i32 a, .int .i32 b, .int .i32 c]] w fun e w' => e = .returned (.int .i64 10) ∧ Fr Nobody w w' := by
  go_enter Tryz.func112, Tryz.ntmps112
  go_wp2_with fail
  refine (homeFor_nil _ _ _ _ _ _).mono ?_
  rintro e w1 ⟨rfl, hf⟩
  go_wp2
  go_ret
  exact ⟨rfl, ((Fr.refl _ _).alloc _).trans hf⟩
set_option maxHeartbeats 400000 in
theorem add_nil (w : World) (id : Int) (k a b c : Int) : Calls Tryz.prog 201 #[.pointer none, .int .u32 id, .agg #[.int .u8 k, .int .i32 a, .int .i32 b, .int .i32 c]] w fun e w' => e = .returned (.int .i64 10) ∧ Fr Nobody w w' := by
  go_enter Tryz.func201, Tryz.ntmps201
  go_wp2_with fail
  refine (homeFor_nil _ _ _ _ _ _).mono ?_
  rintro e w1 ⟨rfl, hf⟩
  go_wp2
  go_ret
  exact ⟨rfl, ((Fr.refl _ _).alloc _).trans hf⟩
set_option maxHeartbeats 400000 in
theorem remove_nil (w : World) (id k : Int) : Calls Tryz.prog 202 #[.pointer none, .int .u32 id, .int .u8 k] w fun e w' => e = .returned (.int .i64 10) ∧ Fr Nobody w w' := by
  go_enter Tryz.func202, Tryz.ntmps202
  go_wp2_with (go_at_call 170; refine (home_nil _ _).mono ?_; rintro e w' ⟨rfl, rfl⟩)
  go_ret
  exact ⟨rfl, Fr.refl _ _⟩
end Go.Proofs.YtflmgilmbppieaaGreatDoor

/-
  Orders: Do of an order that is wrong, and of one that is told to the store.
-/
namespace Go.Proofs.YtflmgilmbppieaaGreatDoor
open Go.RowKit
set_option linter.unusedVariables false
set_option maxRecDepth 100000

/-- an order: what to do, to whom, a kind, components and where they lie -/
structure OrdE where
  d : Nat
  id : Nat
  k : Nat
  C : List Cp
  ao : Option Addr
  cap : Nat
def OrdE.ag (o : OrdE) : Value := .agg #[.int .u8 (o.d : Int), .int .u32 (o.id : Int), .int .u8 (o.k : Int), .slice o.ao o.C.length o.cap]
def OrdE.cs (o : OrdE) : List Value := [.int .u8 (o.d : Int), .int .u32 (o.id : Int), .int .u8 (o.k : Int), .slice o.ao o.C.length o.cap]
structure OrdE.In (o : OrdE) : Prop where
  d : o.d < 256
  id : o.id < 4294967296
  k : o.k < 256
  C : ∀ q ∈ o.C, q.k < 256
  len : o.C.length ≤ 1000000
def OrdE.ck (o : OrdE) : Nat := ock o.d o.k o.C
theorem OrdE.check (o : OrdE) (w : World) (ht : Tab w) (hi : o.In) (hs : Cs w o.ao o.C) : Calls Tryz.prog 104 #[o.ag] w fun e w' => e = .returned (.int .i64 ((o.ck : Nat) : Int)) ∧ Fr Nobody w w' :=
  ocheck w ht o.d o.id o.k hi.k o.ao o.C.length o.cap o.C rfl hs hi.C hi.len
theorem OrdE.rcheck (o : OrdE) (w : World) (hi : o.In) (hs : Cs w o.ao o.C) : Calls Tryz.prog 52 #[o.ag] w fun e w' => e = .returned (.int .i64 ((o.ck : Nat) : Int)) ∧ Fr Nobody w w' :=
  rocheck w o.d o.id o.k hi.k o.ao o.C.length o.cap o.C rfl hs hi.C hi.len
/-- a result -/
def rag (r : Int × Nat) : Value := .agg #[.int .i64 r.1, .int .u32 (r.2 : Int)]
def rcel (r : Int × Nat) : List Value := [.int .i64 r.1, .int .u32 (r.2 : Int)]
def res (e : Int) (id : Nat) : Int × Nat := if e = 0 then (0, id) else (e, 0)

set_option maxHeartbeats 1000000 in
theorem do_bad (w0 w : World) (l : List Thing) (h : Own w0 w l) (ht : Tab w0) (p : Option Addr) (o : OrdE) (hi : o.In) (hCs : ∀ w', Own w0 w' l → Cs w' o.ao o.C) (hb : o.ck ≠ 0) :
    Calls Tryz.prog 107 #[.pointer p, o.ag] w fun e w' => e = .returned (rag ((o.ck : Int), 0)) ∧ Own w0 w' l := by
  have hA := (h.allocC #[.int .u8 (o.d : Int), .int .u32 (o.id : Int), .int .u8 (o.k : Int), .slice o.ao o.C.length o.cap] 41).allocC #[.int .i64 0, .int .u32 0] 78
  have e1 : (w.alloc (.cells #[.int .u8 (o.d : Int), .int .u32 (o.id : Int), .int .u8 (o.k : Int), .slice o.ao o.C.length o.cap] 41)).heap.size = w.heap.size + 1 := by simp
  rw [e1] at hA
  have HC : Hid (Calls _ _ _ _ _) := o.check _ (ht.quiet hA.fr) hi (hCs _ hA.tail.tail)
  have HA : Hid (Own w0 _ _) := hA
  have hx : ¬ ((o.ck : Nat) : Int) = 0 := by omega
  unfold OrdE.ag at HC ⊢
  unfold rag
  obtain ⟨d, id, k, C, ao, cap⟩ := o
  generalize OrdE.ck ⟨d, id, k, C, ao, cap⟩ = x at *
  simp only at HC HA ⊢
  clear h hA hb e1 hCs hi
  go_enter Tryz.func107, Tryz.ntmps107
  go_wp2_with fail
  refine HC.out.mono ?_
  rintro e w1 ⟨rfl, hf⟩
  have hB := HA.out.quiet hf
  have z0 := hB.cell 0
  have z1 := hB.cell 1
  simp at z0 z1
  have y0 := hB.froz 0
  have y1 := hB.froz 1
  have HF : Hid (Own w0 _ _) := (hB.setC 0 (.int .i64 (x : Int))).setC 1 (.int .u32 0)
  clear hB hf HC HA
  go_wp2
  (try simp only [Exit.inBlock, Exit.then])
  refine bodyPost_ret (v := .agg #[.int .i64 (x : Int), .int .u32 0]) ?_ rfl ⟨rfl, HF.out.tail.tail⟩
  have r0 := HF.out.cell 0
  have r1 := HF.out.cell 1
  simp at r0 r1
  simp only [results]
  go_simp

set_option maxHeartbeats 2000000 in
theorem do_of (w0 w : World) (P P' : Thing) (l : List Thing) (h : Own w0 w (P :: l)) (ht : Tab w0) (p : Option Addr) (o : OrdE) (hi : o.In) (hCs : ∀ w', Own w0 w' l → Cs w' o.ao o.C) (hb : o.ck = 0) (id : Nat) (er : Int)
    (HT : ∀ w' l', Own w0 w' (P :: l') → (∀ w'', Own w0 w'' l' → Cs w'' o.ao o.C) → Calls Tryz.prog 167 #[.pointer p, o.ag] w' fun e w'' => e = .returned (.tuple #[.int .u32 (id : Int), .int .i64 er]) ∧ Own w0 w'' (P' :: l')) :
    Calls Tryz.prog 107 #[.pointer p, o.ag] w fun e w' => e = .returned (rag (res er id)) ∧ Own w0 w' (P' :: l) := by
  have hA := (h.allocC #[.int .u8 (o.d : Int), .int .u32 (o.id : Int), .int .u8 (o.k : Int), .slice o.ao o.C.length o.cap] 41).allocC #[.int .i64 0, .int .u32 0] 78
  have e1 : (w.alloc (.cells #[.int .u8 (o.d : Int), .int .u32 (o.id : Int), .int .u8 (o.k : Int), .slice o.ao o.C.length o.cap] 41)).heap.size = w.heap.size + 1 := by simp
  rw [e1] at hA
  have HC : Hid (Calls _ _ _ _ _) := o.check _ (ht.quiet hA.fr) hi (hCs _ hA.tail.tail.tail)
  rw [hb] at HC
  have HA : Hid (Own w0 _ _) := hA
  have HTT : Hid (∀ w', Own w0 w' (Cells (w.heap.size + 1) #[.int .i64 0, .int .u32 0] 78 :: Cells w.heap.size #[.int .u8 (o.d : Int), .int .u32 (o.id : Int), .int .u8 (o.k : Int), .slice o.ao o.C.length o.cap] 41 :: P :: l) → Calls Tryz.prog 167 #[.pointer p, o.ag] w' fun e w'' => e = .returned (.tuple #[.int .u32 (id : Int), .int .i64 er]) ∧ Own w0 w'' (Cells (w.heap.size + 1) #[.int .i64 0, .int .u32 0] 78 :: P' :: l)) := by
    intro w' h'
    refine (HT w' _ h'.three (fun w'' h'' => hCs _ h''.tail.tail)).mono ?_
    rintro e w'' ⟨rfl, h2⟩
    exact ⟨rfl, h2.three.tail.two⟩
  unfold OrdE.ag at HC HTT ⊢
  obtain ⟨d, oid, k, C, ao, cap⟩ := o
  simp only at HC HA HTT ⊢
  clear h hA hb e1 hCs hi HT
  have hres : ∀ e id, rag (res e id) = if e = 0 then .agg #[.int .i64 0, .int .u32 (id : Int)] else .agg #[.int .i64 e, .int .u32 0] := by
    intro e id
    unfold rag res
    split <;> rfl
  rw [hres]
  clear hres
  by_cases hx : er = 0
  · subst hx
    rw [if_pos rfl]
    go_enter Tryz.func107, Tryz.ntmps107
    go_wp2_with fail
    refine HC.out.mono ?_
    rintro e w1 ⟨rfl, hf⟩
    have hB := HA.out.quiet hf
    have HB : Hid (Own w0 w1 _) := hB
    have q0 := hB.two.cell 0
    have q1 := hB.two.cell 1
    have q2 := hB.two.cell 2
    have q3 := hB.two.cell 3
    simp at q0 q1 q2 q3
    clear hB hf HC HA
    go_wp2_with fail
    refine (HTT.out _ HB.out).mono ?_
    rintro e w2 ⟨rfl, hB⟩
    have z0 := hB.cell 0
    have z1 := hB.cell 1
    simp at z0 z1
    have y0 := hB.froz 0
    have y1 := hB.froz 1
    have HF : Hid (Own w0 _ _) := (hB.setC 0 (.int .i64 0)).setC 1 (.int .u32 (id : Int))
    clear hB HTT q0 q1 q2 q3 HB
    go_wp2
    (try simp only [Exit.inBlock, Exit.then])
    refine bodyPost_ret (v := .agg #[.int .i64 0, .int .u32 (id : Int)]) ?_ rfl ⟨rfl, HF.out.tail⟩
    have r0 := HF.out.cell 0
    have r1 := HF.out.cell 1
    simp at r0 r1
    simp only [results]
    go_simp
  · rw [if_neg hx]
    go_enter Tryz.func107, Tryz.ntmps107
    go_wp2_with fail
    refine HC.out.mono ?_
    rintro e w1 ⟨rfl, hf⟩
    have hB := HA.out.quiet hf
    have HB : Hid (Own w0 w1 _) := hB
    have q0 := hB.two.cell 0
    have q1 := hB.two.cell 1
    have q2 := hB.two.cell 2
    have q3 := hB.two.cell 3
    simp at q0 q1 q2 q3
    clear hB hf HC HA
    go_wp2_with fail
    refine (HTT.out _ HB.out).mono ?_
    rintro e w2 ⟨rfl, hB⟩
    have z0 := hB.cell 0
    have z1 := hB.cell 1
    simp at z0 z1
    have y0 := hB.froz 0
    have y1 := hB.froz 1
    have HF : Hid (Own w0 _ _) := (hB.setC 0 (.int .i64 er)).setC 1 (.int .u32 0)
    clear hB HTT q0 q1 q2 q3 HB
    go_wp2
    (try simp only [Exit.inBlock, Exit.then])
    refine bodyPost_ret (v := .agg #[.int .i64 er, .int .u32 0]) ?_ rfl ⟨rfl, HF.out.tail⟩
    have r0 := HF.out.cell 0
    have r1 := HF.out.cell 1
    simp at r0 r1
    simp only [results]
    go_simp

set_option maxHeartbeats 1000000 in
theorem tell_spawn (w0 w : World) (l : List Thing) (b : Nat) (σ : Sto) (K : Nat) (ht : Tab w0) (h : Own w0 w (Store b σ K :: l)) (hσ : σ.Ok) (o : OrdE) (hi : o.In) (hd : o.d = 1) (hCs : ∀ w', Own w0 w' l → Cs w' o.ao o.C) (hK : K < 1000000) :
    Calls Tryz.prog 167 #[.pointer (some ⟨b, 0, none⟩), o.ag] w fun e w' => e = .returned (.tuple #[.int .u32 ((σ.spawn o.C).1 : Int), .int .i64 (σ.spawn o.C).2.1]) ∧ Own w0 w' (Store b (σ.spawn o.C).2.2 (K + 1) :: l) := by
  have HS : Hid (Calls _ _ _ _ _) := spawnC w0 _ l b σ K ht (h.alloc (.cells #[.int .u8 (o.d : Int), .int .u32 (o.id : Int), .int .u8 (o.k : Int), .slice o.ao o.C.length o.cap] 41)) hσ o.ao o.C.length o.cap o.C rfl hCs hi.C hi.len hK
  unfold OrdE.ag
  obtain ⟨d, oid, k, C, ao, cap⟩ := o
  simp only at HS hd ⊢
  subst hd
  generalize σ.spawn C = r at *
  clear h hσ hi hCs
  go_enter Tryz.func167, Tryz.ntmps167
  go_wp2_with fail
  refine HS.out.mono ?_
  rintro e w1 ⟨rfl, hO⟩
  have H1 : Hid (Own w0 w1 _) := hO
  clear hO HS
  go_wp2
  go_ret2
  exact ⟨rfl, H1.out⟩
set_option maxHeartbeats 1000000 in
theorem tell_despawn (w0 w : World) (l : List Thing) (b : Nat) (σ : Sto) (K : Nat) (h : Own w0 w (Store b σ K :: l)) (hσ : σ.Ok) (o : OrdE) (hi : o.In) (hd : o.d = 2) (hK : K < 1000000) :
    Calls Tryz.prog 167 #[.pointer (some ⟨b, 0, none⟩), o.ag] w fun e w' => e = .returned (.tuple #[.int .u32 (o.id : Int), .int .i64 (σ.despawn o.id).1]) ∧ Own w0 w' (Store b (σ.despawn o.id).2 (K + 1) :: l) := by
  have hA := (h.allocC #[.int .u8 (o.d : Int), .int .u32 (o.id : Int), .int .u8 (o.k : Int), .slice o.ao o.C.length o.cap] 41).two
  have HS : Hid (Calls _ _ _ _ _) := despawnC w0 _ _ b σ K hA.drew hσ o.id hi.id hK
  unfold OrdE.ag
  obtain ⟨d, oid, k, C, ao, cap⟩ := o
  simp only at HS hd hA ⊢
  subst hd
  generalize σ.despawn oid = r at *
  clear h hσ hi hA
  go_enter Tryz.func167, Tryz.ntmps167
  go_wp2_with fail
  go_region_with (
    go_at_call 111
    refine HS.out.mono ?_
    rintro e w1 ⟨rfl, hO⟩
    have q1 := hO.two.cell 1
    simp at q1
    have H1 : Hid (Own w0 w1 _) := hO
    clear hO)
  all_goals
    go_wp2
    go_ret2
    exact ⟨rfl, H1.out.two.tail⟩
end Go.Proofs.YtflmgilmbppieaaGreatDoor

/-
  Orders one by one; results that are alike.
-/
namespace Go.Proofs.YtflmgilmbppieaaGreatDoor
open Go.RowKit
set_option linter.unusedVariables false
set_option maxRecDepth 100000

def O4 (w : World) (g p : Nat) (x : OrdE) : Prop := w.cell? ⟨g, p, none⟩ = some (.int .u8 (x.d : Int)) ∧ w.cell? ⟨g, p + 1, none⟩ = some (.int .u32 (x.id : Int)) ∧ w.cell? ⟨g, p + 2, none⟩ = some (.int .u8 (x.k : Int)) ∧ w.cell? ⟨g, p + 3, none⟩ = some (.slice x.ao x.C.length x.cap)
/-- a list of orders that can be read -/
def Ords (w : World) (ao : Option Addr) (L : List OrdE) : Prop := (L = [] ∨ ∃ g o, ao = some ⟨g, o, none⟩ ∧ ∀ (j : Nat) x, L[j]? = some x → O4 w g (o + j * 4) x) ∧ ∀ x ∈ L, Cs w x.ao x.C
theorem Ords.at {w : World} {ao : Option Addr} {L : List OrdE} (h : Ords w ao L) (j : Nat) (x : OrdE) (hx : L[j]? = some x) : ∃ g o, ao = some ⟨g, o, none⟩ ∧ O4 w g (o + j * 4) x := by
  rcases h.1 with h | ⟨g, o, ha, hc⟩
  · subst h; simp at hx
  · exact ⟨g, o, ha, hc j x hx⟩
theorem O4.quiet {w w' : World} {g p : Nat} {x : OrdE} (h : O4 w g p x) (hf : Fr Nobody w w') : O4 w' g p x := by
  obtain ⟨h0, h1, h2, h3⟩ := h
  have hb := World.block_lt_of_cell? w _ h0
  exact ⟨(hf.cell (p := ⟨g, p, none⟩) hb id).trans h0, (hf.cell (p := ⟨g, p + 1, none⟩) hb id).trans h1, (hf.cell (p := ⟨g, p + 2, none⟩) hb id).trans h2, (hf.cell (p := ⟨g, p + 3, none⟩) hb id).trans h3⟩
theorem Ords.quiet {w w' : World} {ao : Option Addr} {L : List OrdE} (h : Ords w ao L) (hf : Fr Nobody w w') : Ords w' ao L := by
  refine ⟨?_, fun x hx => (h.2 x hx).quiet hf⟩
  rcases h.1 with h | ⟨g, o, ha, hc⟩
  · exact .inl h
  · exact .inr ⟨g, o, ha, fun j x hx => (hc j x hx).quiet hf⟩

def runs {α : Type} (step : α → OrdE → (Int × Nat) × α) : α → List OrdE → List (Int × Nat) × α
  | s, [] => ([], s)
  | s, o :: L => ((step s o).1 :: (runs step (step s o).2 L).1, (runs step (step s o).2 L).2)
theorem runs_snoc {α : Type} (step : α → OrdE → (Int × Nat) × α) (L : List OrdE) (o : OrdE) : ∀ s, runs step s (L ++ [o]) = ((runs step s L).1 ++ [(step (runs step s L).2 o).1], (step (runs step s L).2 o).2) := by
  induction L with
  | nil => intro s; rfl
  | cons x L ih => intro s; simp [runs, ih]
theorem Tryz.infoRes : (Tryz.prog.info? 78).map (fun i => (i.zero, i.size, i.bytes)) = some (some (.agg #[.int .i64 0, .int .u32 0]), 2, 16) := by kernel_rfl

set_option maxHeartbeats 2000000 in
theorem all_of {α : Type} (P : α → Thing) (Inv : Nat → α → Prop) (step : α → OrdE → (Int × Nat) × α) (w0 w : World) (l : List Thing) (p : Option Addr) (s0 : α) (h : Own w0 w (P s0 :: l)) (ao : Option Addr) (n cap : Nat) (L : List OrdE) (hn : L.length = n) (hL : n ≤ 100000) (hOrds : ∀ w', Own w0 w' l → Ords w' ao L) (hInv : Inv 0 s0)
    (HD : ∀ j s o w' l', L[j]? = some o → Inv j s → Own w0 w' (P s :: l') → (∀ w'', Own w0 w'' l' → Cs w'' o.ao o.C) → Calls Tryz.prog 107 #[.pointer p, o.ag] w' fun e w'' => e = .returned (rag (step s o).1) ∧ Own w0 w'' (P (step s o).2 :: l'))
    (HI : ∀ j s o, L[j]? = some o → Inv j s → Inv (j + 1) (step s o).2) :
    Calls Tryz.prog 54 #[.pointer p, .slice ao n cap] w fun e w' => ∃ ra rc, e = .returned (.slice ra n rc) ∧ Own w0 w' (Row 78 2 (.slice ra n rc) n (cat rcel (runs step s0 L).1) :: P (runs step s0 L).2 :: l) ∧ Inv n (runs step s0 L).2 := by
  obtain ⟨i0, hi, hz0, hz1, hz2⟩ := info_parts Tryz.infoRes
  obtain ⟨w1, hmk, hO, hf⟩ := make_own (P := Tryz.prog) h 47 78 i0 (.agg #[.int .i64 0, .int .u32 0]) 2 Tryz.underlying47 hi hz0 hz1 n (by rw [hz2]; omega) (by unfold maxLen; omega)
  have H1 : Hid (Own w0 w1 (Row 78 2 (.slice (some ⟨w.heap.size, 0, none⟩) 0 n) 0 (cat rcel (runs step s0 (L.take 0)).1) :: P (runs step s0 (L.take 0)).2 :: l)) := hO
  have HV : Hid (Inv 0 (runs step s0 (L.take 0)).2) := hInv
  have HN : Hid (L.length = n) := hn
  have HDD : Hid _ := HD
  have HII : Hid _ := HI
  have HOS : Hid _ := hOrds
  clear h hO hf hInv hn HD HI hOrds
  go_enter Tryz.func54, Tryz.ntmps54
  go_wp2
  go_loopw [5, 13] (fun rv cc wr => ∃ j : Nat, j ≤ n ∧ cc = .int .i64 j ∧ ∃ ra rc, rv = .slice ra j rc ∧ Own w0 wr (Row 78 2 (.slice ra j rc) j (cat rcel (runs step s0 (L.take j)).1) :: P (runs step s0 (L.take j)).2 :: l) ∧ Inv j (runs step s0 (L.take j)).2) (fun _ cc _ => n - (intOf cc).toNat)
  case atStart => exact ⟨0, Nat.zero_le _, rfl, _, _, rfl, H1.out, HV.out⟩
  case round =>
    obtain ⟨j, hj, rfl, ra, rc, rfl, hO, hI⟩ := hrel
    have HO : Hid (Own w0 wr _) := hO
    clear H1 HV
    by_cases hlt : j < n
    · obtain ⟨o, ho⟩ : ∃ o, L[j]? = some o := ⟨_, List.getElem?_eq_getElem (by rw [HN.out]; exact hlt)⟩
      obtain ⟨g, off, hao, c0, c1, c2, c3⟩ := (HOS.out wr hO.tail.tail).at j o ho
      have hlt' : (j : Int) < (n : Int) := by omega
      have hst : runs step s0 (L.take (j + 1)) = ((runs step s0 (L.take j)).1 ++ [(step (runs step s0 (L.take j)).2 o).1], (step (runs step s0 (L.take j)).2 o).2) := by
        rw [List.take_add_one, ho]; exact runs_snoc step _ _ _
      have HDO : Hid (∀ w', Own w0 w' (Row 78 2 (.slice ra j rc) j (cat rcel (runs step s0 (L.take j)).1) :: P (runs step s0 (L.take j)).2 :: l) → Calls Tryz.prog 107 #[.pointer p, o.ag] w' fun e w'' => e = .returned (rag (step (runs step s0 (L.take j)).2 o).1) ∧ Own w0 w'' (Row 78 2 (.slice ra j rc) j (cat rcel (runs step s0 (L.take j)).1) :: P (runs step s0 (L.take (j + 1))).2 :: l)) := by
        intro w' h'
        refine (HDD.out j _ o w' _ ho hI h'.two (fun w'' h'' => (HOS.out _ h''.tail).2 o (List.mem_of_getElem? ho))).mono ?_
        rintro e w'' ⟨rfl, h2⟩
        rw [hst]
        exact ⟨rfl, h2.two⟩
      have HI2 : Hid (Inv (j + 1) (runs step s0 (L.take (j + 1))).2) := by
        show Inv _ _
        rw [hst]; exact HII.out j _ o ho hI
      have HST : Hid (cat rcel (runs step s0 (L.take (j + 1))).1 = cat rcel (runs step s0 (L.take j)).1 ++ rcel (step (runs step s0 (L.take j)).2 o).1) := by
        show _ = _
        rw [hst, cat_append]; simp [cat]
      clear hst hO hI ho HDD HII
      subst hao
      unfold OrdE.ag at HDO
      obtain ⟨d, oid, k, C, oa, oc⟩ := o
      simp only at c0 c1 c2 c3 HDO
      generalize hr : (step (runs step s0 (L.take j)).2 ⟨d, oid, k, C, oa, oc⟩).1 = r at *
      obtain ⟨r1, r2⟩ := r
      unfold rag at HDO
      simp only at HDO
      clear hr
      go_wp2_with fail
      refine (HDO.out _ (HO.out.alloc _)).mono ?_
      rintro e w2 ⟨rfl, hO2⟩
      have H2 : Hid (Own w0 w2 _) := hO2
      clear hO2 HDO HO c0 c1 c2 c3
      go_wp2_with (at_builtin; refine append1_own rfl _ _ 47 rfl 78 i0 (.agg #[.int .i64 0, .int .u32 0]) 2 16 Tryz.underlying47 hi hz0 hz1 hz2 rfl (by decide) _ _ _ rfl H2.out _ #[.int .i64 r1, .int .u32 (r2 : Int)] (by simp) rfl rfl (by intro u hu; simp at hu; rcases hu with rfl | rfl <;> rfl) (by unfold maxLen; omega) (by omega) ?_)
      intro g3 cap3 w3 hO3 hsz3
      have H3 : Hid (Own w0 w3 (Row 78 2 (.slice (some ⟨g3, 0, none⟩) (j + 1) cap3) (j + 1) (cat rcel (runs step s0 (L.take (j + 1))).1) :: P (runs step s0 (L.take (j + 1))).2 :: l)) := by
        show Own _ _ _
        rw [HST.out]; exact hO3
      clear hO3 hsz3 H2
      go_wp2
      go_roundw
      case rel => exact ⟨j + 1, by omega, by go_num, _, _, rfl, H3.out, HI2.out⟩
      case measure => simp [intOf]; omega
    · have hlt' : ¬ (j : Int) < (n : Int) := by omega
      have hjn : j = n := by omega
      subst hjn
      have hT : L.take j = L := List.take_of_length_le (by rw [HN.out]; exact Nat.le_refl _)
      rw [hT] at hI
      have HI2 : Hid (Inv j _) := hI
      have H2 : Hid (Own w0 wr _) := hO
      rw [hT] at H2
      clear hT hO hI HO
      go_wp2
      go_ret
      exact ⟨_, _, rfl, H2.out, HI2.out⟩
end Go.Proofs.YtflmgilmbppieaaGreatDoor

/-
  Orders that wait: New, Push, Take, Len; results that are alike.
-/
namespace Go.Proofs.YtflmgilmbppieaaGreatDoor
open Go.RowKit
set_option linter.unusedVariables false
set_option maxRecDepth 100000

/-- a list of results that can be read -/
def Rs (w : World) (ao : Option Addr) (L : List (Int × Nat)) : Prop := L = [] ∨ ∃ g o, ao = some ⟨g, o, none⟩ ∧ ∀ (j : Nat) x, L[j]? = some x → w.cell? ⟨g, o + j * 2, none⟩ = some (.int .i64 x.1) ∧ w.cell? ⟨g, o + j * 2 + 1, none⟩ = some (.int .u32 (x.2 : Int))
theorem Rs.quiet {w w' : World} {ao : Option Addr} {L : List (Int × Nat)} (h : Rs w ao L) (hf : Fr Nobody w w') : Rs w' ao L := by
  rcases h with h | ⟨g, o, ha, hc⟩
  · exact .inl h
  · refine .inr ⟨g, o, ha, fun j x hx => ?_⟩
    obtain ⟨h0, h1⟩ := hc j x hx
    have hb := World.block_lt_of_cell? w _ h0
    exact ⟨(hf.cell (p := ⟨g, o + j * 2, none⟩) hb id).trans h0, (hf.cell (p := ⟨g, o + j * 2 + 1, none⟩) hb id).trans h1⟩
theorem rcel_len (x : Int × Nat) : (rcel x).length = 2 := rfl
theorem Own.rs {w0 w : World} {l : List Thing} {ao : Option Addr} {n cap : Nat} {L : List (Int × Nat)} (h : Own w0 w (Row 78 2 (.slice ao n cap) n (cat rcel L) :: l)) (hn : L.length = n) : Rs w ao L := by
  have r := h.row
  rcases Nat.eq_zero_or_pos n with h0 | h0
  · exact .inl (List.eq_nil_of_length_eq_zero (by omega))
  · obtain ⟨g, c, hv, _⟩ := row_shape r h0
    have ha := (Value.slice.inj hv).1
    subst ha
    refine .inr ⟨g, 0, rfl, fun j x hx => ?_⟩
    have hj := (List.getElem?_eq_some_iff.1 hx).1
    have e0 := cat_at rcel 2 rcel_len L j 0 x hx (by decide)
    have e1 := cat_at rcel 2 rcel_len L j 1 x hx (by decide)
    exact ⟨by rw [show 0 + j * 2 = j * 2 + 0 by omega, r.cellAt _ (by omega), e0]; rfl, by rw [show 0 + j * 2 + 1 = j * 2 + 1 by omega, r.cellAt _ (by omega), e1]; rfl⟩
set_option maxHeartbeats 2000000 in
theorem same_res (w : World) (a1 a2 : Option Addr) (n c1 c2 : Nat) (L : List (Int × Nat)) (h1 : Rs w a1 L) (h2 : Rs w a2 L) (hn : L.length = n) (hm : n ≤ 1000000) :
    Calls Tryz.prog 20 #[.slice a1 n c1, .slice a2 n c2] w fun e w' => e = .returned (.bool true) ∧ Fr Nobody w w' := by
  have H1 : Hid (Rs w a1 L ∧ Rs w a2 L ∧ L.length = n) := ⟨h1, h2, hn⟩
  clear h1 h2 hn
  have hne : ((n : Int) != (n : Int)) = false := by simp
  go_enter Tryz.func20, Tryz.ntmps20
  go_wp2
  clear hne
  go_loopw [13] (fun cc wr => ∃ k : Nat, k ≤ n ∧ cc = .int .i64 k ∧ Fr Nobody w wr) (fun cc _ => n - (intOf cc).toNat)
  case atStart => exact ⟨0, Nat.zero_le _, rfl, Fr.refl _ _⟩
  case round =>
    obtain ⟨k, hk, rfl, hf⟩ := hrel
    have HF : Hid (Fr Nobody w wr) := hf
    clear hf
    by_cases hlt : k < n
    · obtain ⟨x, hx⟩ : ∃ x, L[k]? = some x := ⟨_, List.getElem?_eq_getElem (by rw [H1.out.2.2]; exact hlt)⟩
      obtain ⟨g1, o1, rfl, p0, p1⟩ : ∃ g o, a1 = some ⟨g, o, none⟩ ∧ wr.cell? ⟨g, o + k * 2, none⟩ = some (.int .i64 x.1) ∧ wr.cell? ⟨g, o + k * 2 + 1, none⟩ = some (.int .u32 (x.2 : Int)) := by
        rcases H1.out.1.quiet HF.out with h | ⟨g, o, ha, hc⟩
        · subst h; simp at hx
        · exact ⟨g, o, ha, hc k x hx⟩
      obtain ⟨g2, o2, rfl, q0, q1⟩ : ∃ g o, a2 = some ⟨g, o, none⟩ ∧ wr.cell? ⟨g, o + k * 2, none⟩ = some (.int .i64 x.1) ∧ wr.cell? ⟨g, o + k * 2 + 1, none⟩ = some (.int .u32 (x.2 : Int)) := by
        rcases H1.out.2.1.quiet HF.out with h | ⟨g, o, ha, hc⟩
        · subst h; simp at hx
        · exact ⟨g, o, ha, hc k x hx⟩
      have hlt' : (k : Int) < (n : Int) := by omega
      clear hx
      obtain ⟨x0, x1⟩ := x
      simp only at p0 p1 q0 q1
      have e0 : (x0 == x0) = true := by simp
      have e1 : ((x1 : Int) == (x1 : Int)) = true := by simp
      go_wp2
      go_quiet (fail)
      go_wp2
      go_roundw
      case rel => exact ⟨k + 1, by omega, by go_num, HF.out.drewN _⟩
      case measure => simp [intOf]; omega
    · have hlt' : ¬ (k : Int) < (n : Int) := by omega
      go_wp2
      go_ret
      exact ⟨rfl, HF.out⟩

/-- where an order's components lie -/
def orow (x : OrdE) : Thing := Row 46 4 (.slice x.ao x.C.length x.cap) x.C.length (ccat x.C)
/-- orders that wait -/
def Buf (b : Nat) (E : List OrdE) : Thing := Ex (fun v : Value => Cells b #[v] 201 :: Row 41 4 v E.length (cat OrdE.cs E) :: E.map orow)
theorem Tryz.infoOrd : (Tryz.prog.info? 41).map (fun i => (i.zero, i.size, i.bytes)) = some (some (.agg #[.int .u8 0, .int .u32 0, .int .u8 0, .slice none 0 0]), 4, 40) := by kernel_rfl
set_option maxHeartbeats 400000 in
theorem onew (w0 w : World) (l : List Thing) (h : Own w0 w l) : Calls Tryz.prog 49 #[] w fun e w' => ∃ b, e = .returned (.pointer (some ⟨b, 0, none⟩)) ∧ Own w0 w' (Buf b [] :: l) := by
  have H : Hid (Own w0 w l) := h
  clear h
  go_enter Tryz.func49, Tryz.ntmps49
  go_wp2
  go_ret
  refine ⟨_, rfl, Own.ex_iff.2 ⟨.slice none 0 0, ?_⟩⟩
  exact ((H.out.nilRow 41 4).allocC #[.slice none 0 0] 201)
set_option maxHeartbeats 400000 in
theorem push_nil (w : World) (o : OrdE) : Calls Tryz.prog 51 #[.pointer none, o.ag] w fun e w' => e = .returned (.int .i64 10) ∧ Fr Nobody w w' := by
  unfold OrdE.ag
  go_enter Tryz.func51, Tryz.ntmps51
  go_wp2
  go_ret
  exact ⟨rfl, (Fr.refl _ _).alloc _⟩
set_option maxHeartbeats 1000000 in
theorem push_bad (w0 w : World) (l : List Thing) (b : Nat) (ht : Tab w0) (h : Own w0 w l) (o : OrdE) (hi : o.In) (hCs : ∀ w', Own w0 w' l → Cs w' o.ao o.C) (hb : o.ck ≠ 0) :
    Calls Tryz.prog 51 #[.pointer (some ⟨b, 0, none⟩), o.ag] w fun e w' => e = .returned (.int .i64 (o.ck : Int)) ∧ Own w0 w' l := by
  have hA := h.alloc (.cells #[.int .u8 (o.d : Int), .int .u32 (o.id : Int), .int .u8 (o.k : Int), .slice o.ao o.C.length o.cap] 41)
  have HC : Hid (Calls _ _ _ _ _) := o.check _ (ht.quiet hA.fr) hi (hCs _ hA)
  have HA : Hid (Own w0 _ _) := hA
  have hx : ¬ ((o.ck : Nat) : Int) = 0 := by omega
  unfold OrdE.ag at HC ⊢
  obtain ⟨d, id, k, C, ao, cap⟩ := o
  generalize OrdE.ck ⟨d, id, k, C, ao, cap⟩ = x at *
  simp only at HC HA ⊢
  clear h hA hb hCs hi
  go_enter Tryz.func51, Tryz.ntmps51
  go_wp2_with fail
  refine HC.out.mono ?_
  rintro e w1 ⟨rfl, hf⟩
  go_wp2
  go_ret
  exact ⟨rfl, HA.out.quiet hf⟩
set_option maxHeartbeats 1000000 in
theorem clone_cs (w0 w : World) (l : List Thing) (h : Own w0 w l) (ao : Option Addr) (len cap : Nat) (C : List Cp) (hl : C.length = len) (hs : Cs w ao C) (hm : len ≤ 1000000) :
    Calls Tryz.prog 105 #[.slice ao len cap] w fun e w' => ∃ ao' cap', e = .returned (.slice ao' len cap') ∧ Own w0 w' (Row 46 4 (.slice ao' len cap') len (ccat C) :: l) := by
  obtain ⟨i0, hi, hz0, hz1, hz2⟩ := info_parts Tryz.infoComp
  have qn : ∀ (w : World) (a : Option Addr) (n c n' c' : Nat), (binOp .eql 39 (.slice a n c) (.slice none n' c')).run Tryz.prog w = .ok (.bool a.isNone) w := fun w a n c n' c' => Lib.run_eql_slice_nil w _ _ a n c n' c' Tryz.underlying39
  have H : Hid (Own w0 w l) := h
  cases ao with
  | none =>
    have hC : C = [] := by
      rcases hs with hs | ⟨g, o, ha, _⟩
      · exact hs
      · cases ha
    subst hC
    simp at hl
    subst hl
    clear h hs
    go_enter Tryz.func105, Tryz.ntmps105
    go_wp2
    go_ret
    exact ⟨none, 0, rfl, H.out.nilRow _ _⟩
  | some a =>
    have HL : Hid (C.length = len ∧ Cs w (some a) C) := ⟨hl, hs⟩
    clear h hl hs
    go_enter Tryz.func105, Tryz.ntmps105
    go_wp2_with (at_builtin; refine append_cs rfl _ _ rfl i0 hi _ hz0 hz1 hz2 rfl _ 0 [] rfl (some a) len cap C rfl HL.out.1 (HL.out.2.quiet ((Fr.refl _ _).alloc _)) (H.out.litRow #[] 46 4 0 (by decide) rfl) (by unfold maxLen; omega) (by omega) ?_)
    intro a1 c1 w1 hO1 hsz1
    have H1 : Hid (Own w0 w1 (Row 46 4 (.slice a1 len c1) len (ccat C) :: l)) := by
      show Own _ _ _
      simpa using hO1
    clear hO1 H hsz1
    go_wp2
    go_ret
    exact ⟨_, _, rfl, H1.out⟩
end Go.Proofs.YtflmgilmbppieaaGreatDoor

/-
  Orders that wait: Push of a right one, Take, Len; the document's example of orders.
-/
namespace Go.Proofs.YtflmgilmbppieaaGreatDoor
open Go.RowKit
set_option linter.unusedVariables false
set_option maxRecDepth 100000

theorem ord_one (x : OrdE) : ∀ u ∈ x.cs, u.oneCell' = true := by
  intro u hu; simp [OrdE.cs] at hu; rcases hu with rfl | rfl | rfl | rfl <;> rfl
theorem Own.bufO {w0 w : World} {l : List Thing} {b : Nat} {E : List OrdE} (h : Own w0 w (Buf b E :: l)) : ∃ ao cap, Own w0 w (Cells b #[.slice ao E.length cap] 201 :: Row 41 4 (.slice ao E.length cap) E.length (cat OrdE.cs E) :: (E.map orow ++ l)) := by
  obtain ⟨v, h⟩ := Own.ex_iff.1 h
  obtain ⟨ao, cap, rfl⟩ := row_any h.two.row
  exact ⟨ao, cap, h⟩
theorem Own.bufS {w0 w : World} {l : List Thing} {b : Nat} {E : List OrdE} {v : Value} (h : Own w0 w (Cells b #[v] 201 :: Row 41 4 v E.length (cat OrdE.cs E) :: (E.map orow ++ l))) : Own w0 w (Buf b E :: l) := Own.ex_iff.2 ⟨v, h⟩
set_option maxHeartbeats 1000000 in
theorem push_full (w0 w : World) (l : List Thing) (b : Nat) (E : List OrdE) (ht : Tab w0) (h : Own w0 w (Buf b E :: l)) (o : OrdE) (hi : o.In) (hCs : ∀ w', Own w0 w' l → Cs w' o.ao o.C) (hb : o.ck = 0) (hE : 256 ≤ E.length) :
    Calls Tryz.prog 51 #[.pointer (some ⟨b, 0, none⟩), o.ag] w fun e w' => e = .returned (.int .i64 8) ∧ Own w0 w' (Buf b E :: l) := by
  have hA := h.alloc (.cells #[.int .u8 (o.d : Int), .int .u32 (o.id : Int), .int .u8 (o.k : Int), .slice o.ao o.C.length o.cap] 41)
  have HC : Hid (Calls _ _ _ _ _) := o.check _ (ht.quiet hA.fr) hi (hCs _ hA.tail)
  rw [hb] at HC
  have HA : Hid (Own w0 _ _) := hA
  have hE' : (256 : Int) ≤ (E.length : Int) := by omega
  unfold OrdE.ag at HC ⊢
  obtain ⟨d, id, k, C, ao, cap⟩ := o
  simp only at HC HA ⊢
  clear h hA hb hCs hi
  go_enter Tryz.func51, Tryz.ntmps51
  go_wp2_with fail
  refine HC.out.mono ?_
  rintro e w1 ⟨rfl, hf⟩
  have hB := HA.out.quiet hf
  have HB : Hid (Own w0 w1 _) := hB
  obtain ⟨ea, ec, hO⟩ := hB.bufO
  have q0 := hO.cell 0
  simp at q0
  clear hB hO hf HC HA
  go_wp2
  go_ret
  exact ⟨rfl, HB.out⟩
set_option maxHeartbeats 2000000 in
theorem push_ok (w0 w : World) (l : List Thing) (b : Nat) (E : List OrdE) (ht : Tab w0) (h : Own w0 w (Buf b E :: l)) (o : OrdE) (hi : o.In) (hCs : ∀ w', Own w0 w' l → Cs w' o.ao o.C) (hb : o.ck = 0) (hE : E.length < 256) :
    Calls Tryz.prog 51 #[.pointer (some ⟨b, 0, none⟩), o.ag] w fun e w' => e = .returned (.int .i64 0) ∧ ∃ a c, Own w0 w' (Buf b (E ++ [{ o with ao := a, cap := c }]) :: l) := by
  obtain ⟨i0, hi0, hz0, hz1, hz2⟩ := info_parts Tryz.infoOrd
  have hA := h.allocC #[.int .u8 (o.d : Int), .int .u32 (o.id : Int), .int .u8 (o.k : Int), .slice o.ao o.C.length o.cap] 41
  have HC : Hid (Calls _ _ _ _ _) := o.check _ (ht.quiet hA.fr) hi (hCs _ hA.tail.tail)
  rw [hb] at HC
  have HA : Hid (Own w0 _ _) := hA
  have hE' : (E.length : Int) < 256 := by omega
  have HCL : Hid (∀ w', Own w0 w' (Cells w.heap.size #[.int .u8 (o.d : Int), .int .u32 (o.id : Int), .int .u8 (o.k : Int), .slice o.ao o.C.length o.cap] 41 :: Buf b E :: l) → Calls Tryz.prog 105 #[.slice o.ao o.C.length o.cap] w' fun e w'' => ∃ a c, e = .returned (.slice a o.C.length c) ∧ Own w0 w'' (Row 46 4 (.slice a o.C.length c) o.C.length (ccat o.C) :: Cells w.heap.size #[.int .u8 (o.d : Int), .int .u32 (o.id : Int), .int .u8 (o.k : Int), .slice o.ao o.C.length o.cap] 41 :: Buf b E :: l)) := fun w' h' => clone_cs w0 w' _ h' o.ao o.C.length o.cap o.C rfl (hCs _ h'.tail.tail) hi.len
  have HEND : Hid (∀ w' a c v, Own w0 w' (Cells b #[v] 201 :: Row 41 4 v (E.length + 1) (cat OrdE.cs E ++ [.int .u8 (o.d : Int), .int .u32 (o.id : Int), .int .u8 (o.k : Int), .slice a o.C.length c]) :: Row 46 4 (.slice a o.C.length c) o.C.length (ccat o.C) :: (E.map orow ++ l)) → Own w0 w' (Buf b (E ++ [{ o with ao := a, cap := c }]) :: l)) := by
    intro w' a c v h'
    refine Own.bufS (v := v) ?_
    rw [List.length_append, List.length_singleton, cat_append, List.map_append]
    have hp : List.Perm (Cells b #[v] 201 :: Row 41 4 v (E.length + 1) (cat OrdE.cs E ++ [.int .u8 (o.d : Int), .int .u32 (o.id : Int), .int .u8 (o.k : Int), .slice a o.C.length c]) :: Row 46 4 (.slice a o.C.length c) o.C.length (ccat o.C) :: (E.map orow ++ l)) (Cells b #[v] 201 :: Row 41 4 v (E.length + 1) (cat OrdE.cs E ++ [.int .u8 (o.d : Int), .int .u32 (o.id : Int), .int .u8 (o.k : Int), .slice a o.C.length c]) :: ((E.map orow ++ [Row 46 4 (.slice a o.C.length c) o.C.length (ccat o.C)]) ++ l)) := by
      refine List.Perm.cons _ (List.Perm.cons _ ?_)
      rw [List.append_assoc]
      exact List.perm_middle.symm
    have := h'.perm hp
    simpa [cat, OrdE.cs, orow] using this
  unfold OrdE.ag at HC ⊢
  obtain ⟨d, id, k, C, ao, cap⟩ := o
  simp only at HC HA HCL HEND ⊢
  clear h hA hb hCs hi
  go_enter Tryz.func51, Tryz.ntmps51
  go_wp2_with fail
  refine HC.out.mono ?_
  rintro e w1 ⟨rfl, hf⟩
  have hB := HA.out.quiet hf
  have HB : Hid (Own w0 w1 _) := hB
  obtain ⟨ea, ec, hO⟩ := hB.two.bufO
  have q0 := hO.cell 0
  have p0 := hB.cell 3
  simp at q0 p0
  clear hB hO hf HC HA
  go_wp2_with fail
  refine (HCL.out _ HB.out).mono ?_
  rintro e w2 ⟨a, c, rfl, hO⟩
  clear HCL HB q0 p0
  have hO := hO.two
  have s3 := hO.cell 3
  have z3 := hO.froz 3
  simp at s3
  have HO2 : Hid (Own w0 w2 _) := hO
  clear hO
  go_wp2_with fail
  have hO3 := HO2.out.setC 3 (.slice a C.length c)
  generalize hw3 : w2.setCell ⟨w.heap.size, 3, none⟩ (.slice a C.length c) = w3 at *
  have c0 := hO3.cell 0
  have c1 := hO3.cell 1
  have c2 := hO3.cell 2
  have c3 := hO3.cell 3
  simp at c0 c1 c2 c3
  obtain ⟨ea, ec, hB⟩ := hO3.three.bufO
  have q0 := hB.cell 0
  simp at q0
  have hbw := hB.lt
  have hBw := hO3.lt
  have n1 : b ≠ w3.heap.size := by omega
  have n2 : w3.heap.size ≠ b := by omega
  have n3 : w.heap.size ≠ w3.heap.size := by omega
  have n4 : w3.heap.size ≠ w.heap.size := by omega
  obtain ⟨g', c', w4, hrun, hO4⟩ := run1_own (P := Tryz.prog) 32 32 41 i0 (.agg #[.int .u8 0, .int .u32 0, .int .u8 0, .slice none 0 0]) 4 40 Tryz.underlying32 hi0 hz0 hz1 hz2 rfl (by decide) _ E.length _ hB.two.drew #[.int .u8 (d : Int), .int .u32 (id : Int), .int .u8 (k : Int), .slice a C.length c] rfl (by intro u hu; simp at hu; rcases hu with rfl | rfl | rfl | rfl <;> rfl) (by unfold maxLen; omega) (by omega)
  have hszz : w3.drew.heap.size = w3.heap.size := rfl
  rw [hszz] at hrun
  have HRUN : Hid _ := hrun
  clear hrun hszz
  have k2 := hO4.two.cell 0
  have z2 := hO4.two.froz 0
  simp at k2
  have HF : Hid (Own w0 (w4.setCell ⟨b, 0, none⟩ (.slice (some ⟨g', 0, none⟩) (E.length + 1) c')) (Buf b (E ++ [⟨d, id, k, C, a, c⟩]) :: l)) := by
    refine HEND.out _ a c (.slice (some ⟨g', 0, none⟩) (E.length + 1) c') ?_
    have h5 := hO4.two.setC 0 (.slice (some ⟨g', 0, none⟩) (E.length + 1) c')
    have h6 := (h5.perm (List.Perm.cons _ (List.Perm.cons _ (List.perm_middle.trans (List.perm_middle.cons _))))).three.tail
    exact h6
  clear hO3 hB hO4 HEND s3 z3 hw3 HO2
  go_region_law (refine step_run rfl (.tmp 27) (.tmp 29) 32 32 32 rfl rfl (.slice ea E.length ec) (.slice (some ⟨w3.heap.size, 0, none⟩) 1 1) (.slice (some ⟨g', 0, none⟩) (E.length + 1) c') w4 (by simp [Act.eval]) (by simp [Act.eval]) HRUN.out ?_)
  all_goals
    go_wp2
    go_ret
    exact ⟨rfl, a, c, HF.out⟩
set_option maxHeartbeats 400000 in
theorem olen (w0 w : World) (l : List Thing) (b : Nat) (E : List OrdE) (h : Own w0 w (Buf b E :: l)) : Calls Tryz.prog 84 #[.pointer (some ⟨b, 0, none⟩)] w fun e w' => e = .returned (.int .i64 (E.length : Int)) ∧ w' = w := by
  obtain ⟨ea, ec, hO⟩ := h.bufO
  have q0 := hO.cell 0
  simp at q0
  clear h hO
  go_enter Tryz.func84, Tryz.ntmps84
  go_wp2
  go_ret
  exact ⟨rfl, rfl⟩
set_option maxHeartbeats 400000 in
theorem olen_nil (w : World) : Calls Tryz.prog 84 #[.pointer none] w fun e w' => e = .returned (.int .i64 0) ∧ w' = w := by
  go_enter Tryz.func84, Tryz.ntmps84
  go_wp2
  go_ret
  exact ⟨rfl, rfl⟩
set_option maxHeartbeats 400000 in
theorem otake (w0 w : World) (l : List Thing) (b : Nat) (E : List OrdE) (h : Own w0 w (Buf b E :: l)) : Calls Tryz.prog 55 #[.pointer (some ⟨b, 0, none⟩)] w fun e w' => ∃ ao cap, e = .returned (.slice ao E.length cap) ∧ Own w0 w' (Buf b [] :: Row 41 4 (.slice ao E.length cap) E.length (cat OrdE.cs E) :: (E.map orow ++ l)) := by
  obtain ⟨ea, ec, hO⟩ := h.bufO
  have q0 := hO.cell 0
  have z0 := hO.froz 0
  simp at q0
  have HF : Hid (Own w0 (w.setCell ⟨b, 0, none⟩ (.slice none 0 0)) (Buf b [] :: Row 41 4 (.slice ea E.length ec) E.length (cat OrdE.cs E) :: (E.map orow ++ l))) := Own.bufS (E := []) (((hO.setC 0 (.slice none 0 0)).nilRow 41 4).two)
  clear h hO
  go_enter Tryz.func55, Tryz.ntmps55
  go_wp2
  go_ret
  exact ⟨_, _, rfl, HF.out⟩
set_option maxHeartbeats 400000 in
theorem otake_nil (w : World) : Calls Tryz.prog 55 #[.pointer none] w fun e w' => e = .returned (.slice none 0 0) ∧ w' = w := by
  go_enter Tryz.func55, Tryz.ntmps55
  go_wp2
  go_ret
  exact ⟨rfl, rfl⟩
end Go.Proofs.YtflmgilmbppieaaGreatDoor

/-
  The document's example of orders.
-/
namespace Go.Proofs.YtflmgilmbppieaaGreatDoor
open Go.RowKit
set_option linter.unusedVariables false
set_option maxRecDepth 100000

/-- what becomes of a store by an order to spawn or to despawn -/
def stp (s : Sto × Nat) (o : OrdE) : (Int × Nat) × (Sto × Nat) :=
  if o.d = 1 then (res (s.1.spawn o.C).2.1 (s.1.spawn o.C).1, ((s.1.spawn o.C).2.2, s.2 + 1)) else (res (s.1.despawn o.id).1 o.id, ((s.1.despawn o.id).2, s.2 + 1))
theorem do12 (w0 w : World) (l : List Thing) (b : Nat) (s : Sto × Nat) (ht : Tab w0) (h : Own w0 w (Store b s.1 s.2 :: l)) (hσ : s.1.Ok) (hK : s.2 < 1000000) (o : OrdE) (hi : o.In) (hCs : ∀ w', Own w0 w' l → Cs w' o.ao o.C) (hb : o.ck = 0) (hd : o.d = 1 ∨ o.d = 2) :
    Calls Tryz.prog 107 #[.pointer (some ⟨b, 0, none⟩), o.ag] w fun e w' => e = .returned (rag (stp s o).1) ∧ Own w0 w' (Store b (stp s o).2.1 (stp s o).2.2 :: l) := by
  rcases hd with hd | hd
  · have e : stp s o = (res (s.1.spawn o.C).2.1 (s.1.spawn o.C).1, ((s.1.spawn o.C).2.2, s.2 + 1)) := by unfold stp; rw [if_pos hd]
    rw [e]
    exact do_of w0 w _ (Store b (s.1.spawn o.C).2.2 (s.2 + 1)) l h ht _ o hi hCs hb _ _ (fun w' l' h' hC => tell_spawn w0 w' l' b s.1 s.2 ht h' hσ o hi hd hC hK)
  · have e : stp s o = (res (s.1.despawn o.id).1 o.id, ((s.1.despawn o.id).2, s.2 + 1)) := by unfold stp; rw [if_neg (by omega)]
    rw [e]
    exact do_of w0 w _ (Store b (s.1.despawn o.id).2 (s.2 + 1)) l h ht _ o hi hCs hb _ _ (fun w' l' h' _ => tell_despawn w0 w' l' b s.1 s.2 h' hσ o hi hd hK)
def o1 : OrdE := ⟨1, 0, 0, [], none, 0⟩
def o2 : OrdE := ⟨2, 1024, 0, [], none, 0⟩
def o3 : OrdE := ⟨3, 0, 0, [], none, 0⟩
theorem o1_in : o1.In := ⟨by decide, by decide, by decide, by simp [o1], by decide⟩
theorem o2_in : o2.In := ⟨by decide, by decide, by decide, by simp [o2], by decide⟩
theorem o3_in : o3.In := ⟨by decide, by decide, by decide, by simp [o3], by decide⟩
theorem o1_ck : o1.ck = 0 := rfl
theorem o2_ck : o2.ck = 0 := rfl
theorem o3_ck : o3.ck = 4 := rfl
def ol : List OrdE := [o1, o2, o2]
def orr : List (Int × Nat) := [(0, 1024), (0, 1024), (7, 0)]
theorem ol_run : (runs stp (Sto.new 3 1, 0) ol).1 = orr := by kernel_rfl
theorem st_inv (s : Sto × Nat) (h : s.1.Ok) (o : OrdE) : (stp s o).2.1.Ok ∧ (stp s o).2.2 = s.2 + 1 := by
  unfold stp
  split
  · exact ⟨Sto.spawn_ok h _, rfl⟩
  · exact ⟨Sto.despawn_ok h _, rfl⟩
theorem ol_at {j : Nat} {o : OrdE} (h : ol[j]? = some o) : j < 3 ∧ o.In ∧ o.ck = 0 ∧ (o.d = 1 ∨ o.d = 2) ∧ o.C = [] := by
  match j, h with
  | 0, h => cases h; exact ⟨by decide, o1_in, o1_ck, .inl rfl, rfl⟩
  | 1, h => cases h; exact ⟨by decide, o2_in, o2_ck, .inr rfl, rfl⟩
  | 2, h => cases h; exact ⟨by decide, o2_in, o2_ck, .inr rfl, rfl⟩
  | n + 3, h => simp [ol] at h
def olc : Array Value := #[.int .u8 1, .int .u32 0, .int .u8 0, .slice none 0 0, .int .u8 2, .int .u32 1024, .int .u8 0, .slice none 0 0, .int .u8 2, .int .u32 1024, .int .u8 0, .slice none 0 0]
def orc : Array Value := #[.int .i64 0, .int .u32 1024, .int .i64 0, .int .u32 1024, .int .i64 7, .int .u32 0]
theorem ol_os {w0 w : World} {l : List Thing} {B : Nat} {t : TypeId} (h : Own w0 w (Cells B olc t :: l)) : Ords w (some ⟨B, 0, none⟩) ol := by
  refine ⟨.inr ⟨B, 0, rfl, fun j x hx => ?_⟩, fun x hx => ?_⟩
  · match j, hx with
    | 0, hx => cases hx; exact ⟨by rw [h.cell]; rfl, by rw [h.cell]; rfl, by rw [h.cell]; rfl, by rw [h.cell]; rfl⟩
    | 1, hx => cases hx; exact ⟨by rw [h.cell]; rfl, by rw [h.cell]; rfl, by rw [h.cell]; rfl, by rw [h.cell]; rfl⟩
    | 2, hx => cases hx; exact ⟨by rw [h.cell]; rfl, by rw [h.cell]; rfl, by rw [h.cell]; rfl, by rw [h.cell]; rfl⟩
    | n + 3, hx => simp [ol] at hx
  · obtain ⟨j, hj⟩ := List.getElem?_of_mem hx
    exact .inl (ol_at hj).2.2.2.2
theorem or_rs {w0 w : World} {l : List Thing} {B : Nat} {t : TypeId} (h : Own w0 w (Cells B orc t :: l)) : Rs w (some ⟨B, 0, none⟩) orr := by
  refine .inr ⟨B, 0, rfl, fun j x hx => ?_⟩
  match j, hx with
  | 0, hx => cases hx; exact ⟨by rw [h.cell]; rfl, by rw [h.cell]; rfl⟩
  | 1, hx => cases hx; exact ⟨by rw [h.cell]; rfl, by rw [h.cell]; rfl⟩
  | 2, hx => cases hx; exact ⟨by rw [h.cell]; rfl, by rw [h.cell]; rfl⟩
  | n + 3, hx => simp [orr] at hx

end Go.Proofs.YtflmgilmbppieaaGreatDoor

/-
  Orders that come in; orders on no store.
-/
namespace Go.Proofs.YtflmgilmbppieaaGreatDoor
open Go.ChangeShapes Go.WideShapes Go.ChangeAt Go.RowKit Go.Deep
set_option linter.unusedVariables false
set_option maxRecDepth 100000

theorem cellsOrd : Tryz.prog.cellsOf 41 = 4 := by kernel_rfl
theorem cellsOB : Tryz.prog.cellsOf 5 = 1 := by kernel_rfl
theorem cellsOU : Tryz.prog.cellsOf 38 = 1 := by kernel_rfl
theorem cellsOC : Tryz.prog.cellsOf 39 = 1 := by kernel_rfl
theorem lst4 {β : Type} {l : List β} (h : l.length = 4) : ∃ a b c d, l = [a, b, c, d] := by
  match l, h with
  | [a, b, c, d], _ => exact ⟨a, b, c, d, rfl⟩
/-- an order that comes in -/
def OrdT (W : World) (cs : List Value) (o : OrdE) : Prop := cs = o.cs ∧ o.d < 256 ∧ o.id < 4294967296 ∧ o.k < 256 ∧ IsComps W o.ao o.C.length o.cap o.C
theorem ord_is {H : Type} {enc : TypeId × Value → H} {W : World} (fuel : Nat) (cs : List Value) (x : DataW H × List MemPlace)
    (h : DataW.trod enc Tryz.prog W 0 (fun _ => true) true fuel 41 cs = some x) : ∃ o, OrdT W cs o := by
  obtain ⟨xs, n, _, hx, hl, hlen, hf⟩ := DataW.trod_struct Tryz.underlying41 h
  rw [cellsOrd] at hl
  obtain ⟨c0, c1, c2, c3, rfl⟩ := lst4 hl
  obtain ⟨y0, y1, y2, y3, rfl⟩ := lst4 hlen
  have h0 := hf 0 _ rfl
  have h1 := hf 1 _ rfl
  have h2 := hf 2 _ rfl
  have h3 := hf 3 _ rfl
  simp [cellsOB, cellsOU, cellsOC] at h0 h1 h2 h3
  obtain ⟨a, a0, _, wa⟩ := DataW.trod_int Tryz.underlying5 h0
  obtain ⟨b, b0, _, wb⟩ := DataW.trod_int Tryz.underlying38 h1
  obtain ⟨c, e0, _, wc⟩ := DataW.trod_int Tryz.underlying5 h2
  simp at a0 b0 e0
  subst a0 b0 e0
  have ha : 0 ≤ a ∧ a ≤ 255 := by simpa [Lit.wf, IntKind.min, IntKind.max, IntKind.signed, IntKind.bits] using wa
  have hb : 0 ≤ b ∧ b ≤ 4294967295 := by simpa [Lit.wf, IntKind.min, IntKind.max, IntKind.signed, IntKind.bits] using wb
  have hc : 0 ≤ c ∧ c ≤ 255 := by simpa [Lit.wf, IntKind.min, IntKind.max, IntKind.signed, IntKind.bits] using wc
  obtain ⟨an, rfl⟩ := Int.eq_ofNat_of_zero_le ha.1
  obtain ⟨bn, rfl⟩ := Int.eq_ofNat_of_zero_le hb.1
  obtain ⟨cn, rfl⟩ := Int.eq_ofNat_of_zero_le hc.1
  obtain ⟨ao, len, cap, hv⟩ : ∃ ao len cap, c3 = .slice ao len cap := by
    rcases open_slice Tryz.underlying39 h3 with ⟨hc, _⟩ | ⟨a, l, c, m, n, D, Pl, hc, _⟩
    · simp at hc; exact ⟨_, _, _, hc⟩
    · simp at hc; exact ⟨_, _, _, hc⟩
  subst hv
  obtain ⟨d, p⟩ := y3
  obtain ⟨Q, hQ⟩ : ∃ Q, IsComps W ao len cap Q := open_rows 4 Tryz.underlying39 cellsComp (by decide) CompIs (fun fuel cs x hx => by
    obtain ⟨k, a, b, c, h1, h2, h3, h4, hcs, _⟩ := comp_cells hx
    obtain ⟨n, rfl, hn⟩ := ok8_nat h1
    exact ⟨⟨n, a, b, c⟩, hcs, hn⟩) ⟨_, h3⟩
  have hql := hQ.1
  subst hql
  exact ⟨⟨an, bn, cn, Q, ao, cap⟩, rfl, by show an < _; omega, by show bn < _; omega, by show cn < _; omega, hQ⟩
theorem open_order {H : Type} {enc : TypeId × Value → H} {W : World} {base : Nat} {v : Value} {d : DataW H} {p : List MemPlace}
    (hv : Value.okWide Tryz.prog W .any base 41 v) (h : DataW.Trod enc Tryz.prog W 0 (fun _ => true) true 41 v d p) : ∃ o : OrdE, v = o.ag ∧ o.d < 256 ∧ o.id < 4294967296 ∧ o.k < 256 ∧ IsComps W o.ao o.C.length o.cap o.C := by
  obtain ⟨cs, rfl, hsz, _⟩ : ∃ cs, v = .agg cs ∧ cs.size = Tryz.prog.cellsOf 41 ∧ Row.okWide Tryz.prog W .any base 41 cs := by
    simpa [Value.okWide, Tryz.underlying41] using hv
  obtain ⟨fuel, hf⟩ := h
  obtain ⟨o, he, h1, h2, h3, h4⟩ := ord_is fuel _ _ hf
  refine ⟨o, ?_, h1, h2, h3, h4⟩
  have : cs.toList = o.cs := he
  unfold OrdE.ag
  congr 1
  apply Array.toList_inj.1
  rw [this]; rfl

theorem Own.emp {w0 w : World} {l : List Thing} (h : Own w0 w l) : Own w0 w (Emp :: l) := h.new Emp (fun _ => False) (fun _ h => h) (Fr.refl _ _) (fun _ h => h.elim)
set_option maxHeartbeats 1000000 in
theorem tell_nil1 (w0 w : World) (l : List Thing) (h : Own w0 w l) (id k : Nat) (C : List Cp) (ao : Option Addr) (len cap : Nat) (hl : C.length = len) (hCs : ∀ w', Own w0 w' l → Cs w' ao C) :
    Calls Tryz.prog 167 #[.pointer none, .agg #[.int .u8 1, .int .u32 (id : Int), .int .u8 (k : Int), .slice ao len cap]] w fun e w' => e = .returned (.tuple #[.int .u32 0, .int .i64 10]) ∧ Own w0 w' l := by
  have hA := h.allocC #[.int .u8 1, .int .u32 (id : Int), .int .u8 (k : Int), .slice ao len cap] 41
  have HA : Hid (Own w0 _ _) := hA
  have b1 := hA.cell 1
  have b2 := hA.cell 2
  have b3 := hA.cell 3
  simp at b1 b2 b3
  clear h hA hCs
  go_enter Tryz.func167, Tryz.ntmps167
  go_wp2_with fail
  refine (spawn_nil _ _).mono ?_
  rintro e w1 ⟨rfl, hf⟩
  go_wp2
  go_ret2
  exact ⟨rfl, HA.out.tail.quiet hf⟩
set_option maxHeartbeats 1000000 in
theorem tell_nil2 (w0 w : World) (l : List Thing) (h : Own w0 w l) (id k : Nat) (C : List Cp) (ao : Option Addr) (len cap : Nat) (hl : C.length = len) (hCs : ∀ w', Own w0 w' l → Cs w' ao C) :
    Calls Tryz.prog 167 #[.pointer none, .agg #[.int .u8 2, .int .u32 (id : Int), .int .u8 (k : Int), .slice ao len cap]] w fun e w' => e = .returned (.tuple #[.int .u32 (id : Int), .int .i64 10]) ∧ Own w0 w' l := by
  have hA := h.allocC #[.int .u8 2, .int .u32 (id : Int), .int .u8 (k : Int), .slice ao len cap] 41
  have HA : Hid (Own w0 _ _) := hA
  have b1 := hA.cell 1
  have b2 := hA.cell 2
  have b3 := hA.cell 3
  simp at b1 b2 b3
  clear h hA hCs
  go_enter Tryz.func167, Tryz.ntmps167
  go_wp2_with fail
  go_region_held3 (fun w' => w'.cell? ⟨w.heap.size, 1, none⟩ = some (.int .u32 (id : Int))) (go_keep)
    (first
     | (go_at_call 111; refine (despawn_nil _ _).mono ?_; rintro e w1 ⟨rfl, hf⟩
        have hB := HA.out.drew.quiet hf
        have t1 := hB.cell 1
        simp at t1
        have HB : Hid (Own w0 w1 _) := hB
        clear hB hf))
  all_goals
    go_wp2
    go_ret2
    exact ⟨rfl, HB.out.tail⟩
set_option maxHeartbeats 1000000 in
theorem tell_nil3 (w0 w : World) (l : List Thing) (h : Own w0 w l) (id k : Nat) (C : List Cp) (ao : Option Addr) (len cap : Nat) (hl : C.length = len) (hCs : ∀ w', Own w0 w' l → Cs w' ao C) (h1 : len = 1) :
    Calls Tryz.prog 167 #[.pointer none, .agg #[.int .u8 3, .int .u32 (id : Int), .int .u8 (k : Int), .slice ao len cap]] w fun e w' => e = .returned (.tuple #[.int .u32 (id : Int), .int .i64 10]) ∧ Own w0 w' l := by
  have hA := h.allocC #[.int .u8 3, .int .u32 (id : Int), .int .u8 (k : Int), .slice ao len cap] 41
  subst h1
  obtain ⟨q, rfl⟩ : ∃ q, C = [q] := List.length_eq_one_iff.1 (by omega)
  obtain ⟨g, o, rfl, _, c0, c1, c2, c3⟩ := (hCs _ hA.tail).at 0 q rfl
  simp only [Nat.zero_mul, Nat.add_zero] at c0 c1 c2 c3
  obtain ⟨qk, qa, qb, qc⟩ := q
  have HCE : Hid (∀ w', Own w0 w' l → At4 w' g o ⟨qk, qa, qb, qc⟩) := by
    intro w' h'
    obtain ⟨g', o', he, _, hat⟩ := (hCs _ h').at 0 _ rfl
    cases he
    simpa using hat
  simp only at c0 c1 c2 c3
  have HA : Hid (Own w0 _ _) := hA
  have b1 := hA.cell 1
  have b2 := hA.cell 2
  have b3 := hA.cell 3
  simp at b1 b2 b3
  clear h hA hCs
  go_enter Tryz.func167, Tryz.ntmps167
  go_wp2_with fail
  go_region_held3 (fun w' => w'.cell? ⟨w.heap.size, 1, none⟩ = some (.int .u32 (id : Int)) ∧ w'.cell? ⟨w.heap.size, 3, none⟩ = some (.slice (some ⟨g, o, none⟩) 1 cap) ∧ w'.cell? ⟨g, o, none⟩ = some (.int .u8 (qk : Int)) ∧ w'.cell? ⟨g, o + 1, none⟩ = some (.int .i32 qa) ∧ w'.cell? ⟨g, o + 2, none⟩ = some (.int .i32 qb) ∧ w'.cell? ⟨g, o + 3, none⟩ = some (.int .i32 qc)) (go_keep)
    (first
     | (go_at_call 112; refine (set_nil _ _ _ _ _ _).mono ?_; rintro e w1 ⟨rfl, hf⟩
        have hB := HA.out.drew.quiet hf
        have t1 := hB.cell 1
        simp at t1
        have t3 := hB.cell 3
        simp at t3
        obtain ⟨s0, s1, s2, s3⟩ := HCE.out _ hB.tail
        have HB : Hid (Own w0 w1 _) := hB
        clear hB hf))
  all_goals
    go_wp2
    go_ret2
    exact ⟨rfl, HB.out.tail⟩
set_option maxHeartbeats 1000000 in
theorem tell_nil4 (w0 w : World) (l : List Thing) (h : Own w0 w l) (id k : Nat) (C : List Cp) (ao : Option Addr) (len cap : Nat) (hl : C.length = len) (hCs : ∀ w', Own w0 w' l → Cs w' ao C) (h1 : len = 1) :
    Calls Tryz.prog 167 #[.pointer none, .agg #[.int .u8 4, .int .u32 (id : Int), .int .u8 (k : Int), .slice ao len cap]] w fun e w' => e = .returned (.tuple #[.int .u32 (id : Int), .int .i64 10]) ∧ Own w0 w' l := by
  have hA := h.allocC #[.int .u8 4, .int .u32 (id : Int), .int .u8 (k : Int), .slice ao len cap] 41
  subst h1
  obtain ⟨q, rfl⟩ : ∃ q, C = [q] := List.length_eq_one_iff.1 (by omega)
  obtain ⟨g, o, rfl, _, c0, c1, c2, c3⟩ := (hCs _ hA.tail).at 0 q rfl
  simp only [Nat.zero_mul, Nat.add_zero] at c0 c1 c2 c3
  obtain ⟨qk, qa, qb, qc⟩ := q
  have HCE : Hid (∀ w', Own w0 w' l → At4 w' g o ⟨qk, qa, qb, qc⟩) := by
    intro w' h'
    obtain ⟨g', o', he, _, hat⟩ := (hCs _ h').at 0 _ rfl
    cases he
    simpa using hat
  simp only at c0 c1 c2 c3
  have HA : Hid (Own w0 _ _) := hA
  have b1 := hA.cell 1
  have b2 := hA.cell 2
  have b3 := hA.cell 3
  simp at b1 b2 b3
  clear h hA hCs
  go_enter Tryz.func167, Tryz.ntmps167
  go_wp2_with fail
  go_region_held3 (fun w' => w'.cell? ⟨w.heap.size, 1, none⟩ = some (.int .u32 (id : Int)) ∧ w'.cell? ⟨w.heap.size, 3, none⟩ = some (.slice (some ⟨g, o, none⟩) 1 cap) ∧ w'.cell? ⟨g, o, none⟩ = some (.int .u8 (qk : Int)) ∧ w'.cell? ⟨g, o + 1, none⟩ = some (.int .i32 qa) ∧ w'.cell? ⟨g, o + 2, none⟩ = some (.int .i32 qb) ∧ w'.cell? ⟨g, o + 3, none⟩ = some (.int .i32 qc)) (go_keep)
    (first
     | (go_at_call 201; refine (add_nil _ _ _ _ _ _).mono ?_; rintro e w1 ⟨rfl, hf⟩
        have hB := HA.out.drew.quiet hf
        have t1 := hB.cell 1
        simp at t1
        have t3 := hB.cell 3
        simp at t3
        obtain ⟨s0, s1, s2, s3⟩ := HCE.out _ hB.tail
        have HB : Hid (Own w0 w1 _) := hB
        clear hB hf))
  all_goals
    go_wp2
    go_ret2
    exact ⟨rfl, HB.out.tail⟩
set_option maxHeartbeats 1000000 in
theorem tell_nil5 (w0 w : World) (l : List Thing) (h : Own w0 w l) (id k : Nat) (C : List Cp) (ao : Option Addr) (len cap : Nat) (hl : C.length = len) (hCs : ∀ w', Own w0 w' l → Cs w' ao C) :
    Calls Tryz.prog 167 #[.pointer none, .agg #[.int .u8 5, .int .u32 (id : Int), .int .u8 (k : Int), .slice ao len cap]] w fun e w' => e = .returned (.tuple #[.int .u32 (id : Int), .int .i64 10]) ∧ Own w0 w' l := by
  have hA := h.allocC #[.int .u8 5, .int .u32 (id : Int), .int .u8 (k : Int), .slice ao len cap] 41
  have HA : Hid (Own w0 _ _) := hA
  have b1 := hA.cell 1
  have b2 := hA.cell 2
  have b3 := hA.cell 3
  simp at b1 b2 b3
  clear h hA hCs
  go_enter Tryz.func167, Tryz.ntmps167
  go_wp2_with fail
  go_region_held3 (fun w' => w'.cell? ⟨w.heap.size, 1, none⟩ = some (.int .u32 (id : Int)) ∧ w'.cell? ⟨w.heap.size, 2, none⟩ = some (.int .u8 (k : Int))) (go_keep)
    (first
     | (go_at_call 202; refine (remove_nil _ _ _).mono ?_; rintro e w1 ⟨rfl, hf⟩
        have hB := HA.out.drew.quiet hf
        have t1 := hB.cell 1
        simp at t1
        have t2 := hB.cell 2
        simp at t2
        have HB : Hid (Own w0 w1 _) := hB
        clear hB hf))
  all_goals
    go_wp2
    go_ret2
    exact ⟨rfl, HB.out.tail⟩
theorem ock_one {d k : Nat} {C : List Cp} (hd : d = 3 ∨ d = 4) (h : ock d k C = 0) : C.length = 1 := by
  unfold ock at h
  rw [if_neg (by omega), if_neg (by omega), if_pos hd] at h
  split at h
  · assumption
  · cases h
theorem ock_ways {d k : Nat} {C : List Cp} (h : ock d k C = 0) : d = 1 ∨ d = 2 ∨ d = 3 ∨ d = 4 ∨ d = 5 := by
  rcases Nat.lt_or_ge d 1 with c | c
  · rw [ock_bad d k C (.inl c)] at h; cases h
  · rcases Nat.lt_or_ge 5 d with e | e
    · rw [ock_bad d k C (.inr e)] at h; cases h
    · omega
theorem do_none (w0 w : World) (l : List Thing) (ht : Tab w0) (h : Own w0 w l) (o : OrdE) (hi : o.In) (hCs : ∀ w', Own w0 w' l → Cs w' o.ao o.C) :
    Calls Tryz.prog 107 #[.pointer none, o.ag] w fun e w' => e = .returned (rag (if o.ck = 0 then (10, 0) else ((o.ck : Int), 0))) ∧ Own w0 w' l := by
  by_cases hb : o.ck = 0
  · rw [if_pos hb]
    have key : ∀ id : Nat, (∀ w' l', Own w0 w' (Emp :: l') → (∀ w'', Own w0 w'' l' → Cs w'' o.ao o.C) → Calls Tryz.prog 167 #[.pointer none, o.ag] w' fun e w'' => e = .returned (.tuple #[.int .u32 (id : Int), .int .i64 10]) ∧ Own w0 w'' (Emp :: l')) → Calls Tryz.prog 107 #[.pointer none, o.ag] w fun e w' => e = .returned (rag (10, 0)) ∧ Own w0 w' l := by
      intro id HT
      refine (do_of w0 w Emp Emp l h.emp ht none o hi hCs hb id 10 HT).mono ?_
      rintro e w' ⟨rfl, h'⟩
      exact ⟨rfl, h'.tail⟩
    obtain ⟨d, id, k, C, ao, cap⟩ := o
    have hw := ock_ways hb
    simp only at hw key
    rcases hw with rfl | rfl | rfl | rfl | rfl
    · exact key 0 (fun w' l' h' hC => (tell_nil1 w0 w' l' h'.tail id k C ao C.length cap rfl hC).mono fun e w'' ⟨he, h2⟩ => ⟨he, h2.emp⟩)
    · exact key id (fun w' l' h' hC => (tell_nil2 w0 w' l' h'.tail id k C ao C.length cap rfl hC).mono fun e w'' ⟨he, h2⟩ => ⟨he, h2.emp⟩)
    · exact key id (fun w' l' h' hC => (tell_nil3 w0 w' l' h'.tail id k C ao C.length cap rfl hC (ock_one (.inl rfl) hb)).mono fun e w'' ⟨he, h2⟩ => ⟨he, h2.emp⟩)
    · exact key id (fun w' l' h' hC => (tell_nil4 w0 w' l' h'.tail id k C ao C.length cap rfl hC (ock_one (.inr rfl) hb)).mono fun e w'' ⟨he, h2⟩ => ⟨he, h2.emp⟩)
    · exact key id (fun w' l' h' hC => (tell_nil5 w0 w' l' h'.tail id k C ao C.length cap rfl hC).mono fun e w'' ⟨he, h2⟩ => ⟨he, h2.emp⟩)
  · rw [if_neg hb]
    exact do_bad w0 w l h ht none o hi hCs hb
end Go.Proofs.YtflmgilmbppieaaGreatDoor

/-
  The document's Few, Twins and SameOrder.
-/
namespace Go.Proofs.YtflmgilmbppieaaGreatDoor
open Go.RowKit
set_option linter.unusedVariables false
set_option maxRecDepth 100000

def OrdE.is (o : OrdE) : Nat × Nat × Nat × List Cp := (o.d, o.id, o.k, o.C)
def OrdE.cut (o : OrdE) : OrdE := { o with C := o.C.take 20 }
def few (Q : List OrdE) : List OrdE := (Q.take 60).map OrdE.cut
theorem few_len (Q : List OrdE) : (few Q).length ≤ 60 := by simp [few]; omega
theorem few_succ (Q : List OrdE) (j : Nat) (o : OrdE) (ho : Q[j]? = some o) : few (Q.take (j + 1)) = if j < 60 then few (Q.take j) ++ [o.cut] else few (Q.take j) := by
  unfold few
  rw [List.take_take, List.take_take]
  split
  · rename_i h
    rw [Nat.min_eq_right (by omega), Nat.min_eq_right (by omega), List.take_add_one, ho]
    simp
  · rw [Nat.min_eq_left (by omega), Nat.min_eq_left (by omega)]
theorem cat_one (o : OrdE) : cat OrdE.cs [o] = o.cs := by simp [cat]
set_option maxHeartbeats 2000000 in
theorem few_ok (w0 w : World) (l : List Thing) (h : Own w0 w l) (ao : Option Addr) (n cap : Nat) (Q : List OrdE) (hn : Q.length = n) (hn6 : n ≤ 9223372036854775807) (hQ : ∀ w', Own w0 w' l → Ords w' ao Q) (hw : ∀ o ∈ Q, o.C.length ≤ o.cap ∧ o.cap ≤ 9223372036854775807) :
    Calls Tryz.prog 13 #[.slice ao n cap, .int .i64 60] w fun e w' => ∃ ra rc, e = .returned (.slice ra (few Q).length rc) ∧ Own w0 w' (Row 41 4 (.slice ra (few Q).length rc) (few Q).length (cat OrdE.cs (few Q)) :: l) := by
  obtain ⟨i0, hi0, hz0, hz1, hz2⟩ := info_parts Tryz.infoOrd
  have H : Hid (Own w0 w l) := h
  have HN : Hid (Q.length = n) := hn
  have HQ : Hid (∀ w', Own w0 w' l → Ords w' ao Q) := hQ
  have HW : Hid (∀ o ∈ Q, o.C.length ≤ o.cap ∧ o.cap ≤ 9223372036854775807) := hw
  clear h hn hQ hw
  go_enter Tryz.func13, Tryz.ntmps13
  go_wp2
  go_loopw [5, 10] (fun ov jv wr => ∃ (j : Nat) (ra : Option Addr) (rc : Nat), j ≤ n ∧ jv = .int .i64 j ∧ ov = .slice ra (few (Q.take j)).length rc ∧ Own w0 wr (Row 41 4 (.slice ra (few (Q.take j)).length rc) (few (Q.take j)).length (cat OrdE.cs (few (Q.take j))) :: l)) (fun _ jv _ => n - (intOf jv).toNat)
  case atStart => exact ⟨0, none, 0, Nat.zero_le _, rfl, rfl, H.out.nilRow 41 4⟩
  case round =>
    obtain ⟨j, ra, rc, hj, rfl, rfl, hO⟩ := hrel
    have HO : Hid (Own w0 wr _) := hO
    clear H
    by_cases hlt : j < n
    · obtain ⟨o, ho⟩ : ∃ o, Q[j]? = some o := ⟨_, List.getElem?_eq_getElem (by rw [HN.out]; exact hlt)⟩
      obtain ⟨g, off, hao, c0, c1, c2, c3⟩ := (HQ.out wr hO.tail).at j o ho
      have hlt' : (j : Int) < (n : Int) := by omega
      obtain ⟨hw1, hw2⟩ := HW.out o (List.mem_of_getElem? ho)
      have HS : Hid (few (Q.take (j + 1)) = if j < 60 then few (Q.take j) ++ [o.cut] else few (Q.take j)) := few_succ Q j o ho
      have hfl := few_len (Q.take j)
      subst hao
      by_cases h60 : j < 60
      · have h60' : (j : Int) < 60 := by omega
        obtain ⟨k, hk⟩ : ∃ k, k = min o.C.length 20 := ⟨_, rfl⟩
        have hmin : min (o.C.length : Int) 20 = (k : Int) := by omega
        have hk1 : k ≤ o.C.length := by omega
        have hk2 : k ≤ o.cap := by omega
        have H5 : Hid (Own w0 _ _) := hO.alloc (.cells #[.int .u8 (o.d : Int), .int .u32 (o.id : Int), .int .u8 (o.k : Int), .slice o.ao k o.cap] 41)
        have HCS : Hid (o.cut.cs = [.int .u8 (o.d : Int), .int .u32 (o.id : Int), .int .u8 (o.k : Int), .slice o.ao k o.cap]) := by
          show _ = _
          unfold OrdE.cut OrdE.cs
          simp only [List.length_take, hk, Nat.min_comm]
        have HS2 : Hid (few (Q.take (j + 1)) = few (Q.take j) ++ [o.cut]) := by have := HS.out; rw [if_pos h60] at this; exact this
        obtain ⟨d, oid, ok, C, oa, oc⟩ := o
        simp only at c0 c1 c2 c3 hmin hk1 hk2 hw1 hw2 H5 HCS
        clear hO HO ho hk HS
        go_wp2_with (at_builtin; refine append1_own rfl _ _ 32 rfl 41 i0 (.agg #[.int .u8 0, .int .u32 0, .int .u8 0, .slice none 0 0]) 4 40 Tryz.underlying32 hi0 hz0 hz1 hz2 rfl (by decide) _ (few (Q.take j)).length (cat OrdE.cs (few (Q.take j))) rfl H5.out _ #[.int .u8 (d : Int), .int .u32 (oid : Int), .int .u8 (ok : Int), .slice oa k oc] (by simp) rfl rfl (by intro u hu; simp at hu; rcases hu with rfl | rfl | rfl | rfl <;> rfl) (by unfold maxLen; omega) (by omega) ?_)
        intro g6 c6 w6 hO6 hsz6
        have H6 : Hid (Own w0 w6 (Row 41 4 (.slice (some ⟨g6, 0, none⟩) (few (Q.take (j + 1))).length c6) (few (Q.take (j + 1))).length (cat OrdE.cs (few (Q.take (j + 1)))) :: l)) := by
          show Own _ _ _
          rw [HS2.out, List.length_append, cat_append, cat_one, HCS.out]; exact hO6
        have HL6 : Hid ((few (Q.take j)).length + 1 = (few (Q.take (j + 1))).length) := by show _ = _; rw [HS2.out, List.length_append]; rfl
        clear hO6 hsz6 H5 c0 c1 c2 c3
        go_wp2
        go_roundw
        case rel => exact ⟨j + 1, _, _, by omega, by go_num, by rw [HL6.out], H6.out⟩
        case measure => simp [intOf]; omega
      · have h60' : ¬ (j : Int) < 60 := by omega
        have HS2 : Hid (few (Q.take (j + 1)) = few (Q.take j)) := by have := HS.out; rw [if_neg h60] at this; exact this
        have HA : Hid (Own w0 _ _) := hO.alloc (.cells #[.int .u8 (o.d : Int), .int .u32 (o.id : Int), .int .u8 (o.k : Int), .slice o.ao o.C.length o.cap] 41)
        obtain ⟨d, oid, ok, C, oa, oc⟩ := o
        simp only at c0 c1 c2 c3 HA
        clear hO HO ho HS
        go_wp2
        go_roundw
        case rel =>
          refine ⟨j + 1, ra, rc, by omega, by go_num, by rw [HS2.out], ?_⟩
          rw [HS2.out]; exact HA.out
        case measure => simp [intOf]; omega
    · have hlt' : ¬ (j : Int) < (n : Int) := by omega
      have hT : Q.take j = Q := List.take_of_length_le (by rw [HN.out]; omega)
      rw [hT] at HO ⊢
      clear hO hT
      go_wp2
      go_ret
      exact ⟨_, _, rfl, HO.out⟩
set_option maxHeartbeats 1000000 in
theorem sameOrder_any (w : World) (x y : OrdE) (hxy : x.is = y.is) (h1 : Cs w x.ao x.C) (h2 : Cs w y.ao y.C) (hm : x.C.length ≤ 1000000) :
    Calls Tryz.prog 17 #[x.ag, y.ag] w fun e w' => e = .returned (.bool true) ∧ Fr Nobody w w' := by
  obtain ⟨d, id, k, C, a1, c1⟩ := x
  obtain ⟨d', id', k', C', a2, c2⟩ := y
  simp only [OrdE.is, Prod.mk.injEq] at hxy
  obtain ⟨rfl, rfl, rfl, rfl⟩ := hxy
  have HF : Hid (Fr Nobody w ((w.alloc (.cells #[.int .u8 (d : Int), .int .u32 (id : Int), .int .u8 (k : Int), .slice a1 C.length c1] 41)).alloc (.cells #[.int .u8 (d : Int), .int .u32 (id : Int), .int .u8 (k : Int), .slice a2 C.length c2] 41))) := ((Fr.refl _ _).alloc _).alloc _
  have HS : Hid (Calls _ _ _ _ _) := same_cs _ a1 a2 C.length c1 c2 C (h1.quiet HF.out) (h2.quiet HF.out) rfl hm
  have e0 : ((d : Int) == (d : Int)) = true := by simp
  have e1 : ((id : Int) == (id : Int)) = true := by simp
  have e2 : ((k : Int) == (k : Int)) = true := by simp
  unfold OrdE.ag
  simp only
  clear h1 h2
  go_enter Tryz.func17, Tryz.ntmps17
  go_wp2_with fail
  refine HS.out.mono ?_
  rintro e w1 ⟨rfl, hf⟩
  go_wp2
  go_ret
  exact ⟨rfl, HF.out.trans hf⟩
end Go.Proofs.YtflmgilmbppieaaGreatDoor

/-
  The document's Twins: orders of their own.
-/
namespace Go.Proofs.YtflmgilmbppieaaGreatDoor
open Go.RowKit
set_option linter.unusedVariables false
set_option maxRecDepth 100000

theorem Own.dropl {w0 w : World} {l : List Thing} (L : List Thing) (h : Own w0 w (L ++ l)) : Own w0 w l := by
  induction L with
  | nil => exact h
  | cons P L ih => exact ih h.tail
set_option maxHeartbeats 2000000 in
theorem twins_ok (w0 w : World) (l : List Thing) (h : Own w0 w l) (ao : Option Addr) (n cap : Nat) (Q : List OrdE) (hn : Q.length = n) (hn6 : n ≤ 1000) (hQ : ∀ w', Own w0 w' l → Ords w' ao Q) (hw : ∀ o ∈ Q, o.C.length ≤ 1000) :
    Calls Tryz.prog 14 #[.slice ao n cap] w fun e w' => ∃ E ra rc, e = .returned (.slice ra n rc) ∧ E.map OrdE.is = Q.map OrdE.is ∧ E.length = n ∧ Own w0 w' (Row 41 4 (.slice ra n rc) n (cat OrdE.cs E) :: (E.map orow ++ l)) := by
  obtain ⟨i0, hi0, hz0, hz1, hz2⟩ := info_parts Tryz.infoOrd
  have H : Hid (Own w0 w l) := h
  have HN : Hid (Q.length = n) := hn
  have HQ : Hid (∀ w', Own w0 w' l → Ords w' ao Q) := hQ
  have HW : Hid (∀ o ∈ Q, o.C.length ≤ 1000) := hw
  clear h hn hQ hw
  go_enter Tryz.func14, Tryz.ntmps14
  go_wp2
  go_loopw [3, 8] (fun ov jv wr => ∃ (j : Nat) (E : List OrdE) (ra : Option Addr) (rc : Nat), j ≤ n ∧ jv = .int .i64 j ∧ ov = .slice ra j rc ∧ E.map OrdE.is = (Q.take j).map OrdE.is ∧ E.length = j ∧ Own w0 wr (Row 41 4 (.slice ra j rc) j (cat OrdE.cs E) :: (E.map orow ++ l))) (fun _ jv _ => n - (intOf jv).toNat)
  case atStart => exact ⟨0, [], none, 0, Nat.zero_le _, rfl, rfl, rfl, rfl, H.out.nilRow 41 4⟩
  case round =>
    obtain ⟨j, E, ra, rc, hj, rfl, rfl, hE, hEl, hO⟩ := hrel
    have HE : Hid (E.map OrdE.is = (Q.take j).map OrdE.is ∧ E.length = j) := ⟨hE, hEl⟩
    clear H
    by_cases hlt : j < n
    · obtain ⟨o, ho⟩ : ∃ o, Q[j]? = some o := ⟨_, List.getElem?_eq_getElem (by rw [HN.out]; exact hlt)⟩
      obtain ⟨g, off, hao, c0, c1, c2, c3⟩ := (HQ.out wr (hO.tail.dropl _)).at j o ho
      have hlt' : (j : Int) < (n : Int) := by omega
      have hB := hO.allocC #[.int .u8 (o.d : Int), .int .u32 (o.id : Int), .int .u8 (o.k : Int), .slice o.ao o.C.length o.cap] 41
      have HTW : Hid (Calls _ _ _ _ _) := twin_any w0 _ _ hB o.ao o.C.length o.cap o.C rfl ((HQ.out _ (hB.tail.tail.dropl _)).2 o (List.mem_of_getElem? ho)) (by have := HW.out o (List.mem_of_getElem? ho); omega)
      have HE2 : Hid (∀ a c, (E ++ [{ o with ao := a, cap := c }]).map OrdE.is = (Q.take (j + 1)).map OrdE.is) := by
        intro a c
        rw [List.map_append, HE.out.1, List.take_add_one, ho]
        simp [OrdE.is]
      subst hao
      obtain ⟨d, oid, ok, C, oa, oc⟩ := o
      simp only at c0 c1 c2 c3 HTW HE2
      clear hO hB ho hE hEl
      go_wp2_with fail
      refine HTW.out.mono ?_
      rintro e w2 ⟨a2, c2', rfl, hO2⟩
      have hO2 := hO2.two
      have p3 := hO2.cell 3
      have z3 := hO2.froz 3
      simp at p3
      have hO3 := hO2.setC 3 (.slice a2 C.length c2')
      have s0 := hO3.cell 0
      have s1 := hO3.cell 1
      have s2 := hO3.cell 2
      have s3 := hO3.cell 3
      simp at s0 s1 s2 s3
      have H3 : Hid (Own w0 _ _) := hO3.three
      clear hO2 hO3 HTW c0 c1 c2 c3
      go_wp2_with (at_builtin; refine append1_own rfl _ _ 32 rfl 41 i0 (.agg #[.int .u8 0, .int .u32 0, .int .u8 0, .slice none 0 0]) 4 40 Tryz.underlying32 hi0 hz0 hz1 hz2 rfl (by decide) _ j (cat OrdE.cs E) rfl H3.out _ #[.int .u8 (d : Int), .int .u32 (oid : Int), .int .u8 (ok : Int), .slice a2 C.length c2'] (by simp) rfl rfl (by intro u hu; simp at hu; rcases hu with rfl | rfl | rfl | rfl <;> rfl) (by unfold maxLen; omega) (by omega) ?_)
      intro g6 c6 w6 hO6 hsz6
      have H6 : Hid (Own w0 w6 (Row 41 4 (.slice (some ⟨g6, 0, none⟩) (j + 1) c6) (j + 1) (cat OrdE.cs (E ++ [OrdE.mk d oid ok C a2 c2'])) :: ((E ++ [OrdE.mk d oid ok C a2 c2']).map orow ++ l))) := by
        show Own _ _ _
        rw [cat_append, cat_one, List.map_append]
        have h7 := hO6.two.tail
        refine h7.perm (List.Perm.cons _ ?_)
        rw [List.append_assoc]
        exact List.perm_middle.symm
      clear hO6 hsz6 H3 p3 z3 s0 s1 s2 s3
      go_wp2
      go_roundw
      case rel => exact ⟨j + 1, _, _, _, by omega, by go_num, rfl, HE2.out _ _, by rw [List.length_append, HE.out.2]; rfl, H6.out⟩
      case measure => simp [intOf]; omega
    · have hlt' : ¬ (j : Int) < (n : Int) := by omega
      have hjn : j = n := by omega
      subst hjn
      have hT : Q.take j = Q := List.take_of_length_le (by rw [HN.out]; exact Nat.le_refl _)
      rw [hT] at HE
      have HO : Hid (Own w0 wr _) := hO
      clear hO hT hE hEl
      go_wp2
      go_ret
      exact ⟨E, _, _, rfl, HE.out.1, HE.out.2, HO.out⟩
end Go.Proofs.YtflmgilmbppieaaGreatDoor
