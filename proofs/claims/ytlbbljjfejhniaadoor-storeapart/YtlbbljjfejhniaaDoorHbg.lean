/-
  What becomes of one leaves the others as they are.
-/
import Derived.Test.YtlbbljjfejhniaaDoorOxg
import Derived.Test.YtlbbljjfejhniaaDoorOug
import Derived.Test.YtlbbljjfejhniaaDoorOwg
import Derived.Maps.OwnSet
namespace Go.Proofs.YtlbbljjfejhniaaDoor
open Go.RowKit Go.Maps
set_option linter.unusedVariables false
set_option maxRecDepth 100000

theorem mem_outr2 {α : Type} {L : List α} {r : Nat} {e x : α} (he : L[r]? = some e) (hx : x ∈ L) (hne : x ≠ e) : x ∈ outr L r := by
  obtain ⟨i, hi⟩ := List.mem_iff_getElem?.1 hx
  have hr := (List.getElem?_eq_some_iff.1 he).1
  have hil := (List.getElem?_eq_some_iff.1 hi).1
  have hir : i ≠ r := by
    intro h
    subst h
    rw [he] at hi
    exact hne (Option.some.inj hi).symm
  by_cases hlast : i = L.length - 1
  · refine List.mem_of_getElem? (i := r) ?_
    rw [outr_at L r r hr, if_pos (by omega), if_pos rfl, ← hlast]
    exact hi
  · refine List.mem_of_getElem? (i := i) ?_
    rw [outr_at L r i hr, if_pos (by omega), if_neg hir]
    exact hi
theorem Sto.cps_mem {σ : Sto} (h : σ.Ok) {m x : Nat} {C : List Cp} (hm : m < 64) (hx : (x, C) ∈ σ.T m) : σ.cps x = C := by
  obtain ⟨hl, hk⟩ := h.lv m hm (x, C) hx
  obtain ⟨r, C', hr, he, _⟩ := h.ent hl
  have hom : σ.hom x = m := gd_some hk
  rw [hom] at hr he
  obtain ⟨i, hi⟩ := List.mem_iff_getElem?.1 hx
  have := (h.t m hm).ap i r (x, C) (x, C') hi he rfl
  subst this
  rw [hi] at he
  have hC : C = C' := (Prod.mk.inj (Option.some.inj he)).2
  rw [hC]
  exact Sto.cps_of (by rw [hom]; exact hr) (by rw [hom, hi, hC])
theorem Sto.mem_cps {σ : Sto} (h : σ.Ok) {x : Nat} (hl : σ.S.isLive x = true) : σ.hom x < 64 ∧ (x, σ.cps x) ∈ σ.T (σ.hom x) := by
  obtain ⟨r, C, hr, he, _, _, h6⟩ := h.ent hl
  refine ⟨h6, ?_⟩
  rw [Sto.cps_of hr he]
  exact List.mem_of_getElem? he
theorem Sto.despawn_live {σ : Sto} (h : σ.Ok) {id x : Nat} (hl : σ.S.isLive id = true) (hx : σ.S.isLive x = true) (hne : x ≠ id) : (σ.despawn id).2.S.isLive x = true ∧ (σ.despawn id).2.cps x = σ.cps x := by
  obtain ⟨r, C, hr, he, _, _, h6⟩ := h.ent hl
  have hD := Sto.despawn_ok h id
  have e : (σ.despawn id).2 = { σ.out (σ.hom id) r with S := σ.S.less id } := by
    unfold Sto.despawn
    rw [if_pos hl, hr]
    rfl
  have hlv : (σ.despawn id).2.S.isLive x = true := by
    rw [e]
    show (σ.S.less id).isLive x = true
    rw [(St.free_live h.s hl).2, hx]
    simp [hne]
  refine ⟨hlv, ?_⟩
  obtain ⟨h64, hm⟩ := Sto.mem_cps h hx
  refine Sto.cps_mem hD h64 ?_
  rw [e]
  show (x, σ.cps x) ∈ upd σ.T (σ.hom id) (outr (σ.T (σ.hom id)) r) (σ.hom x)
  by_cases hk : σ.hom x = σ.hom id
  · rw [hk, upd_same]
    rw [hk] at hm
    exact mem_outr2 he hm (fun hh => hne (Prod.mk.inj hh).1)
  · rw [upd_other _ _ _ hk]
    exact hm
theorem Sto.set_S (σ : Sto) (id : Nat) (c : Cp) : (σ.set id c).2.S = σ.S := by
  unfold Sto.set
  split
  · rfl
  · split
    · rfl
    · split <;> rfl
theorem Sto.set_cps {σ : Sto} (h : σ.Ok) {id : Nat} {c : Cp} (hc : c.chk = 0) (hl : σ.S.isLive id = true) (hh : hasK (σ.cps id) c.k = true) {x : Nat} (hx : σ.S.isLive x = true) : (σ.set id c).2.cps x = if x = id then setc (σ.cps id) c else σ.cps x := by
  obtain ⟨r, C, hr, he, hC, hm, h6⟩ := h.ent hl
  obtain ⟨r', C', hr', he', hC', hm', h6'⟩ := h.ent hx
  have e : (σ.set id c).2 = { σ with T := upd σ.T (σ.hom id) ((σ.T (σ.hom id)).set r (id, setc (σ.cps id) c)) } := by
    unfold Sto.set
    rw [if_neg (by simp [hc]), if_neg (by simp [hl]), if_neg (by simp [hh]), hr]
    rfl
  rw [e]
  have hcx := Sto.cps_of hr' he'
  have hci := Sto.cps_of hr he
  have hom' : ∀ T, Sto.hom { σ with T := T } x = σ.hom x := fun T => rfl
  by_cases hk : σ.hom x = σ.hom id
  · have hT : (upd σ.T (σ.hom id) ((σ.T (σ.hom id)).set r (id, setc (σ.cps id) c))) (σ.hom x) = (σ.T (σ.hom id)).set r (id, setc (σ.cps id) c) := by rw [hk, upd_same]
    by_cases hxi : x = id
    · subst hxi
      rw [if_pos rfl]
      refine Sto.cps_of (r := r) ?_ ?_
      · show plc ((upd σ.T (σ.hom x) ((σ.T (σ.hom x)).set r (x, setc (σ.cps x) c))) (σ.hom x)) x = some r
        rw [hT, plc_same he]; exact hr
      · show ((upd σ.T (σ.hom x) ((σ.T (σ.hom x)).set r (x, setc (σ.cps x) c))) (σ.hom x))[r]? = _
        rw [hT, List.getElem?_set, if_pos rfl, if_pos (List.getElem?_eq_some_iff.1 he).1]
    · rw [if_neg hxi, hcx]
      refine Sto.cps_of (r := r') ?_ ?_
      · show plc ((upd σ.T (σ.hom id) ((σ.T (σ.hom id)).set r (id, setc (σ.cps id) c))) (σ.hom x)) x = some r'
        rw [hT, plc_same he, ← hk]; exact hr'
      · show ((upd σ.T (σ.hom id) ((σ.T (σ.hom id)).set r (id, setc (σ.cps id) c))) (σ.hom x))[r']? = _
        rw [hT, List.getElem?_set]
        have hne : r ≠ r' := by
          intro hrr
          subst hrr
          rw [hk, he] at he'
          exact hxi ((Prod.mk.inj (Option.some.inj he')).1.symm)
        rw [if_neg hne, ← hk]; exact he'
  · have hT : (upd σ.T (σ.hom id) ((σ.T (σ.hom id)).set r (id, setc (σ.cps id) c))) (σ.hom x) = σ.T (σ.hom x) := upd_other _ _ _ hk
    have hxi : ¬ x = id := fun hxi => hk (by rw [hxi])
    rw [if_neg hxi, hcx]
    refine Sto.cps_of (r := r') ?_ ?_
    · show plc ((upd σ.T (σ.hom id) ((σ.T (σ.hom id)).set r (id, setc (σ.cps id) c))) (σ.hom x)) x = some r'
      rw [hT]; exact hr'
    · show ((upd σ.T (σ.hom id) ((σ.T (σ.hom id)).set r (id, setc (σ.cps id) c))) (σ.hom x))[r']? = _
      rw [hT]; exact he'
theorem Sto.set_oth {σ : Sto} (h : σ.Ok) (id : Nat) (c : Cp) {x : Nat} (hx : σ.S.isLive x = true) (hne : x ≠ id) : (σ.set id c).2.cps x = σ.cps x := by
  by_cases hc : c.chk = 0
  · cases hl : σ.S.isLive id with
    | false => unfold Sto.set; rw [if_neg (by simp [hc]), if_pos (by simp [hl])]
    | true =>
      cases hh : hasK (σ.cps id) c.k with
      | false => unfold Sto.set; rw [if_neg (by simp [hc]), if_neg (by simp [hl]), if_pos (by simp [hh])]
      | true => rw [Sto.set_cps h hc hl hh hx, if_neg hne]
  · unfold Sto.set; rw [if_pos hc]
theorem Sto.remove_ok {σ : Sto} (h : σ.Ok) (id k : Nat) : (σ.remove id k).2.Ok := by
  unfold Sto.remove
  split
  · exact h
  · rename_i h1
    have hl : σ.S.isLive id = true := by simpa using h1
    split
    · exact h
    · obtain ⟨r, C, hr, he, hC, hm, h6⟩ := h.ent hl
      rw [Sto.cps_of hr he]
      exact Sto.turn_ok h hl (outk_ok hC k)
theorem pick_mm2 : ∀ (l : List Nat) (m : List Bool) (x : Nat), x ∈ pick l m → ∃ i : Nat, l[i]? = some x ∧ m[i]? = some true
  | [], m, x, h => by simp [pick] at h
  | a :: l, [], x, h => by simp [pick] at h
  | a :: l, u :: m, x, h => by
    unfold pick at h
    split at h
    · rename_i hu
      rcases List.mem_cons.1 h with rfl | h
      · exact ⟨0, rfl, by simp [hu]⟩
      · obtain ⟨i, h1, h2⟩ := pick_mm2 l m x h
        exact ⟨i + 1, by simpa using h1, by simpa using h2⟩
    · obtain ⟨i, h1, h2⟩ := pick_mm2 l m x h
      exact ⟨i + 1, by simpa using h1, by simpa using h2⟩
theorem St.list_iv2 {S : St} (hS : S.Ok) {y : Nat} (h : y ∈ S.list) : S.isLive y = true ∧ y < 4294967296 := by
  obtain ⟨i, h1, h2⟩ := pick_mm2 _ _ _ h
  obtain ⟨a, _, c⟩ := hS.id i y h1
  refine ⟨?_, c⟩
  rw [St.isLive_iff hS, a]
  exact ⟨h2, h1⟩
theorem Sto.turn_oth {σ : Sto} (h : σ.Ok) {id x : Nat} (hl : σ.S.isLive id = true) {C : List Cp} (hC : lst (-1) C = 0) (hx : σ.S.isLive x = true) (hne : x ≠ id) : (σ.turn id C).S.isLive x = true ∧ (σ.turn id C).cps x = σ.cps x := by
  obtain ⟨r, C0, hr, he, _, _, h6⟩ := h.ent hl
  have hok := Sto.turn_ok h hl hC
  have e : σ.turn id C = (σ.out (σ.hom id) r).put id C := by unfold Sto.turn; rw [hr]; rfl
  refine ⟨by rw [e]; exact hx, ?_⟩
  obtain ⟨h64, hm⟩ := Sto.mem_cps h hx
  refine Sto.cps_mem hok h64 ?_
  rw [e]
  have h1 : (x, σ.cps x) ∈ (σ.out (σ.hom id) r).T (σ.hom x) := by
    show (x, σ.cps x) ∈ upd σ.T (σ.hom id) (outr (σ.T (σ.hom id)) r) (σ.hom x)
    by_cases hk : σ.hom x = σ.hom id
    · rw [hk, upd_same]
      rw [hk] at hm
      exact mem_outr2 he hm (fun hh => hne (Prod.mk.inj hh).1)
    · rw [upd_other _ _ _ hk]
      exact hm
  show (x, σ.cps x) ∈ upd (σ.out (σ.hom id) r).T (msk C) ((σ.out (σ.hom id) r).T (msk C) ++ [(id, C)]) (σ.hom x)
  by_cases hk : σ.hom x = msk C
  · rw [hk, upd_same]
    rw [hk] at h1
    exact List.mem_append_left _ h1
  · rw [upd_other _ _ _ hk]
    exact h1
/-- one of the four, by its number -/
def op4 (d : Nat) (σ : Sto) (id : Nat) (c : Cp) : Sto := if d = 0 then (σ.despawn id).2 else if d = 1 then (σ.set id c).2 else if d = 2 then (σ.add id c).2 else (σ.remove id c.k).2
theorem op4_oth {σ : Sto} (h : σ.Ok) (d : Nat) {id x : Nat} (c : Cp) (hl : σ.S.isLive id = true) (hx : σ.S.isLive x = true) (hne : x ≠ id) : (op4 d σ id c).Ok ∧ (op4 d σ id c).S.isLive x = true ∧ (op4 d σ id c).cps x = σ.cps x := by
  unfold op4
  split
  · exact ⟨Sto.despawn_ok h id, Sto.despawn_live h hl hx hne⟩
  · split
    · exact ⟨Sto.set_ok h id c, by rw [Sto.set_S]; exact hx, Sto.set_oth h id c hx hne⟩
    · split
      · refine ⟨Sto.add_ok h id c, ?_⟩
        unfold Sto.add
        split
        · exact ⟨hx, rfl⟩
        · rename_i hc
          split
          · exact ⟨hx, rfl⟩
          · split
            · exact ⟨hx, rfl⟩
            · rename_i hh
              obtain ⟨r, C, hr, he, hC, _⟩ := h.ent hl
              refine Sto.turn_oth h hl ?_ hx hne
              rw [Sto.cps_of hr he] at hh ⊢
              exact insw_ok hC (by simpa using hc) (by simpa using hh)
      · refine ⟨Sto.remove_ok h id c.k, ?_⟩
        unfold Sto.remove
        split
        · exact ⟨hx, rfl⟩
        · split
          · exact ⟨hx, rfl⟩
          · obtain ⟨r, C, hr, he, hC, _⟩ := h.ent hl
            rw [Sto.cps_of hr he]
            exact Sto.turn_oth h hl (outk_ok hC c.k) hx hne
theorem op4_ok {σ : Sto} (h : σ.Ok) (d : Nat) (id : Nat) (c : Cp) : (op4 d σ id c).Ok := by
  unfold op4
  split
  · exact Sto.despawn_ok h id
  · split
    · exact Sto.set_ok h id c
    · split
      · exact Sto.add_ok h id c
      · exact Sto.remove_ok h id c.k
end Go.Proofs.YtlbbljjfejhniaaDoor

/-
  A map of entities; a list of lists of components and one step of a script, as they come in.
-/
namespace Go.Proofs.YtlbbljjfejhniaaDoor
open Go.ChangeShapes Go.WideShapes Go.ChangeAt Go.RowKit Go.Deep Go.Maps
set_option linter.unusedVariables false
set_option maxRecDepth 100000

/-- the components of one that is made -/
structure LsE where
  C : List Cp
  ao : Option Addr
  cap : Nat
def Lss (w : World) (ao : Option Addr) (L : List LsE) : Prop := (L = [] ∨ ∃ g o, ao = some ⟨g, o, none⟩ ∧ ∀ (j : Nat) x, L[j]? = some x → w.cell? ⟨g, o + j, none⟩ = some (.slice x.ao x.C.length x.cap)) ∧ ∀ x ∈ L, Cs w x.ao x.C
theorem Lss.at {w : World} {ao : Option Addr} {L : List LsE} (h : Lss w ao L) (j : Nat) (x : LsE) (hx : L[j]? = some x) : ∃ g o, ao = some ⟨g, o, none⟩ ∧ w.cell? ⟨g, o + j, none⟩ = some (.slice x.ao x.C.length x.cap) := by
  rcases h.1 with h | ⟨g, o, ha, hc⟩
  · subst h; simp at hx
  · exact ⟨g, o, ha, hc j x hx⟩
theorem Lss.quiet {w w' : World} {ao : Option Addr} {L : List LsE} (h : Lss w ao L) (hf : Fr Nobody w w') : Lss w' ao L := by
  refine ⟨?_, fun x hx => (h.2 x hx).quiet hf⟩
  rcases h.1 with h | ⟨g, o, ha, hc⟩
  · exact .inl h
  · refine .inr ⟨g, o, ha, fun j x hx => ?_⟩
    have h0 := hc j x hx
    exact (hf.cell (p := ⟨g, o + j, none⟩) (World.block_lt_of_cell? w _ h0) (fun h => h)).trans h0
def lstep (σ : Sto) (x : LsE) : Sto := (σ.spawn (x.C.take 20)).2.2
theorem lfold_ok (L : List LsE) (σ : Sto) (h : σ.Ok) : (L.foldl lstep σ).Ok := by
  induction L generalizing σ with
  | nil => exact h
  | cons x L ih => exact ih _ (Sto.spawn_ok h _)
theorem Own.rcs3 {w0 w : World} {l : List Thing} {ao : Option Addr} {cap n : Nat} {L : List Cp} (h : Own w0 w (Row 46 4 (.slice ao n cap) n (ccat L) :: l)) (hn : L.length = n) : Cs w ao L := Own.cs (h.view (by decide)) hn
theorem pick_sub : ∀ (l : List Nat) (m : List Bool), (pick l m).Sublist l
  | [], m => by simp [pick]
  | a :: l, [] => by simp [pick]
  | a :: l, u :: m => by
    unfold pick
    split
    · exact (pick_sub l m).cons_cons a
    · exact (pick_sub l m).cons a
theorem St.list_nodup {S : St} (h : S.Ok) : S.list.Nodup := by
  refine (pick_sub S.last S.used).nodup ?_
  unfold List.Nodup
  rw [List.pairwise_iff_getElem]
  intro i j hi hj hij heq
  have h1 := (h.id i _ (List.getElem?_eq_getElem hi)).1
  have h2 := (h.id j _ (List.getElem?_eq_getElem hj)).1
  rw [heq] at h1
  omega
theorem cellsLC : Tryd.prog.cellsOf 23 = 1 := by kernel_rfl
def LsT (W : World) (cs : List Value) (x : LsE) : Prop := cs = [.slice x.ao x.C.length x.cap] ∧ IsComps W x.ao x.C.length x.cap x.C
theorem ls_is {H : Type} {enc : TypeId × Value → H} {W : World} (fuel : Nat) (cs : List Value) (x : DataW H × List MemPlace)
    (h : DataW.trod enc Tryd.prog W 0 (fun _ => true) true fuel 23 cs = some x) : ∃ o, LsT W cs o := by
  obtain ⟨ao, len, cap, hv⟩ : ∃ ao len cap, cs = [.slice ao len cap] := by
    rcases open_slice Tryd.underlying23 h with ⟨hc, _⟩ | ⟨a, l, c, m, n, D, Pl, hc, _⟩
    · exact ⟨_, _, _, hc⟩
    · exact ⟨_, _, _, hc⟩
  subst hv
  obtain ⟨d, p⟩ := x
  obtain ⟨Q, hQ⟩ : ∃ Q, IsComps W ao len cap Q := open_rows 4 Tryd.underlying23 cellsComp (by decide) CompIs (fun fuel cs x hx => by
    obtain ⟨k, a, b, c, h1, h2, h3, h4, hcs, _⟩ := comp_cells hx
    obtain ⟨n, rfl, hn⟩ := ok8_nat h1
    exact ⟨⟨n, a, b, c⟩, hcs, hn⟩) ⟨_, h⟩
  have hql := hQ.1
  subst hql
  exact ⟨⟨Q, ao, cap⟩, rfl, hQ⟩
def IsLss (w : World) (ao : Option Addr) (len cap : Nat) (Q : List LsE) : Prop := Q.length = len ∧ len ≤ cap ∧ cap ≤ maxLen ∧ RowsAt (LsT w) 1 w ao Q
theorem open_ops {H : Type} {enc : TypeId × Value → H} {W : World} {base : Nat} {ao : Option Addr} {len cap : Nat} {d : DataW H} {p : List MemPlace}
    (hv : Value.okWide Tryd.prog W .any base 22 (.slice ao len cap)) (h : DataW.Trod enc Tryd.prog W 0 (fun _ => true) true 22 (.slice ao len cap) d p) : ∃ Q, IsLss W ao len cap Q := by
  haveI : Inhabited LsE := ⟨⟨[], none, 0⟩⟩
  exact open_rows 1 Tryd.underlying22 cellsLC (by decide) (LsT W) (fun fuel cs x hx => ls_is fuel cs x hx) h
theorem IsLss.lss {w : World} {ao : Option Addr} {len cap : Nat} {Q : List LsE} (h : IsLss w ao len cap Q) : Lss w ao Q ∧ ∀ x ∈ Q, x.C.length ≤ x.cap ∧ x.cap ≤ 9223372036854775807 ∧ ∀ q ∈ x.C, q.k < 256 := by
  obtain ⟨hl, _, _, hR⟩ := h
  have key : ∀ x ∈ Q, IsComps w x.ao x.C.length x.cap x.C := by
    intro o ho
    obtain ⟨j, hj⟩ := List.getElem?_of_mem ho
    rcases hR with h | ⟨g, of, ha, hc⟩
    · subst h; simp at hj
    · obtain ⟨cs, ⟨_, h4⟩, _⟩ := hc j o hj
      exact h4
  refine ⟨⟨?_, fun o ho => (key o ho).cs.1⟩, fun x hx => ⟨(key x hx).2.1, ?_, (key x hx).cs.2⟩⟩
  · rcases hR with h | ⟨g, of, ha, hc⟩
    · exact .inl h
    · refine .inr ⟨g, of, ha, fun j o hj => ?_⟩
      obtain ⟨cs, ⟨rfl, _⟩, _, h3⟩ := hc j o hj
      have := h3 0 (by decide)
      simpa using this
  · have := (key x hx).2.2.1
    unfold maxLen at this
    omega
def fst1 (C : List Cp) : Cp := match C with
  | [] => ⟨0, 0, 0, 0⟩
  | q :: _ => q
set_option maxHeartbeats 1000000 in
theorem first_any (w : World) (ao : Option Addr) (len cap : Nat) (C : List Cp) (hl : C.length = len) (hs : Cs w ao C) :
    Calls Tryd.prog 10 #[.slice ao len cap] w fun e w' => e = .returned (fst1 C).ag ∧ Fr Nobody w w' := by
  cases C with
  | nil =>
    have h0 : len = 0 := by rw [← hl]; rfl
    subst h0
    go_enter Tryd.func10, Tryd.ntmps10
    go_wp2
    (try simp only [Exit.inBlock, Exit.then])
    refine bodyPost_ret (v := .agg #[.int .u8 0, .int .i32 0, .int .i32 0, .int .i32 0]) ?_ rfl ⟨rfl, (Fr.refl _ _).alloc _⟩
    simp only [results]
    go_simp
  | cons q C =>
    obtain ⟨g, o, hao, _, c0, c1, c2, c3⟩ := hs.at 0 q rfl
    subst hao
    have hlen : ¬ len = 0 := by rw [← hl]; simp
    have hlen' : ((len : Int) == 0) = false := by rw [beq_eq_false_iff_ne]; omega
    have hlen2 : (0 : Int) < (len : Int) := by omega
    have hlen3 : 0 < len := by omega
    have hgw := World.block_lt_of_cell? w _ c0
    have hgn : w.heap.size ≠ g := by have := hgw; simp only at this; omega
    have hgn2 : g ≠ w.heap.size := fun e => hgn e.symm
    obtain ⟨qk, qa, qb, qc⟩ := q
    simp only [Nat.zero_mul, Nat.add_zero] at c0 c1 c2 c3
    clear hl hs
    go_enter Tryd.func10, Tryd.ntmps10
    go_wp2
    (try simp only [Exit.inBlock, Exit.then])
    refine bodyPost_ret (v := .agg #[.int .u8 (qk : Int), .int .i32 qa, .int .i32 qb, .int .i32 qc]) ?_ rfl ⟨rfl, (Fr.refl _ _).alloc _⟩
    simp only [results]
    go_simp

theorem fst1_k {C : List Cp} (h : ∀ q ∈ C, q.k < 256) : (fst1 C).k < 256 := by
  cases C with
  | nil => decide
  | cons y C => exact h y (by simp)
/-- a step -/
structure OpE where
  d : Nat
  who : Int
  C : List Cp
  ao : Option Addr
  cap : Nat
def OpE.cs (o : OpE) : List Value := [.int .u8 (o.d : Int), .int .i64 o.who, .slice o.ao o.C.length o.cap]
def OpE.ag (o : OpE) : Value := .agg #[.int .u8 (o.d : Int), .int .i64 o.who, .slice o.ao o.C.length o.cap]
def OpE.ok (W : World) (o : OpE) : Prop := o.d < 256 ∧ (-9223372036854775808 ≤ o.who ∧ o.who ≤ 9223372036854775807) ∧ IsComps W o.ao o.C.length o.cap o.C
theorem cellsOp : Tryd.prog.cellsOf 25 = 3 := by kernel_rfl
theorem cellsOB : Tryd.prog.cellsOf 5 = 1 := by kernel_rfl
theorem cellsOU : Tryd.prog.cellsOf 3 = 1 := by kernel_rfl
theorem lst3 {β : Type} {l : List β} (h : l.length = 3) : ∃ a b c, l = [a, b, c] := by
  match l, h with
  | [a, b, c], _ => exact ⟨a, b, c, rfl⟩
theorem op_is {H : Type} {enc : TypeId × Value → H} {W : World} (fuel : Nat) (cs : List Value) (x : DataW H × List MemPlace)
    (h : DataW.trod enc Tryd.prog W 0 (fun _ => true) true fuel 25 cs = some x) : ∃ o : OpE, cs = o.cs ∧ o.ok W := by
  obtain ⟨xs, n, _, hx, hl, hlen, hf⟩ := DataW.trod_struct Tryd.underlying25 h
  rw [cellsOp] at hl
  obtain ⟨c0, c1, c2, rfl⟩ := lst3 hl
  obtain ⟨y0, y1, y2, rfl⟩ := lst3 hlen
  have h0 := hf 0 _ rfl
  have h1 := hf 1 _ rfl
  have h2 := hf 2 _ rfl
  simp [cellsOB, cellsOU, cellsLC] at h0 h1 h2
  obtain ⟨a, a0, _, wa⟩ := DataW.trod_int Tryd.underlying5 h0
  obtain ⟨b, b0, _, wb⟩ := DataW.trod_int Tryd.underlying3 h1
  simp at a0 b0
  subst a0 b0
  have ha : 0 ≤ a ∧ a ≤ 255 := by simpa [Lit.wf, IntKind.min, IntKind.max, IntKind.signed, IntKind.bits] using wa
  have hb : -9223372036854775808 ≤ b ∧ b ≤ 9223372036854775807 := by simpa [Lit.wf, IntKind.min, IntKind.max, IntKind.signed, IntKind.bits] using wb
  obtain ⟨an, rfl⟩ := Int.eq_ofNat_of_zero_le ha.1
  obtain ⟨ao, len, cap, hv⟩ : ∃ ao len cap, c2 = .slice ao len cap := by
    rcases open_slice Tryd.underlying23 h2 with ⟨hc, _⟩ | ⟨a, l, c, m, n, D, Pl, hc, _⟩
    · simp at hc; exact ⟨_, _, _, hc⟩
    · simp at hc; exact ⟨_, _, _, hc⟩
  subst hv
  obtain ⟨d, p⟩ := y2
  obtain ⟨Q, hQ⟩ : ∃ Q, IsComps W ao len cap Q := open_rows 4 Tryd.underlying23 cellsComp (by decide) CompIs (fun fuel cs x hx => by
    obtain ⟨k, a, b, c, h1, h2, h3, h4, hcs, _⟩ := comp_cells hx
    obtain ⟨n, rfl, hn⟩ := ok8_nat h1
    exact ⟨⟨n, a, b, c⟩, hcs, hn⟩) ⟨_, h2⟩
  have hql := hQ.1
  subst hql
  exact ⟨⟨an, b, Q, ao, cap⟩, rfl, by show an < _; omega, hb, hQ⟩
theorem open_op1 {H : Type} {enc : TypeId × Value → H} {W : World} {base : Nat} {v : Value} {d : DataW H} {p : List MemPlace}
    (hv : Value.okWide Tryd.prog W .any base 25 v) (h : DataW.Trod enc Tryd.prog W 0 (fun _ => true) true 25 v d p) : ∃ o : OpE, v = o.ag ∧ o.ok W := by
  obtain ⟨cs, rfl, hsz, _⟩ : ∃ cs, v = .agg cs ∧ cs.size = Tryd.prog.cellsOf 25 ∧ Row.okWide Tryd.prog W .any base 25 cs := by
    simpa [Value.okWide, Tryd.underlying25] using hv
  obtain ⟨fuel, hf⟩ := h
  obtain ⟨o, he, h1⟩ := op_is fuel _ _ hf
  refine ⟨o, ?_, h1⟩
  have : cs.toList = o.cs := he
  unfold OpE.ag
  congr 1
  apply Array.toList_inj.1
  rw [this]; rfl

def heldE (v : Value) : Option (DataW Value × List MemPlace) := some (.held v, [])
def rdE (p : Option Value) (z : DataW Value) : DataW Value := match p with
  | none => z
  | some v => .held v
/-- a map of entities: ID by ID what is held -/
def EntMap (b n : Nat) (p : Nat → Option Value) : Thing where
  is := fun w A => (∃ D : DataW Value, w.ownsMap Tryd.prog 32 heldE b n D ∧ ∀ k : Nat, k < 4294967296 → ∀ z, D.atKey (.int .u32 (k : Int)) z = rdE (p k) z) ∧ ∀ k, A k ↔ k = b
  lt := by
    rintro w A k ⟨⟨D, h, _⟩, hA⟩ a
    rw [(hA k).1 a]; exact h.lt
  keep := by
    rintro w w' A B ⟨⟨D, h, hk⟩, hA⟩ hf hn
    refine ⟨⟨D, ?_, hk⟩, hA⟩
    have hlt := h.lt
    obtain ⟨es, clock, hb, F, hs, hD⟩ := h
    exact ⟨es, clock, (hf.block b hlt (hn b ((hA b).2 rfl))).trans hb, F, hs, hD⟩
theorem zeroEnt2 (w : World) : (zeroValue 41).run Tryd.prog w = .ok (.agg #[.int .u32 0, .slice none 0 0]) w := by kernel_rfl
section
variable {w0 w : World} {l : List Thing} {b n : Nat} {p q : Nat → Option Value}
theorem Own.emLook (h : Own w0 w (EntMap b n p :: l)) (id : Nat) (hid : id < 4294967296) {v : Value} (hp : p id = some v) :
    (Instr.lookup 39 (.map (some b)) (.int .u32 (id : Int)) false).run Tryd.prog w = .ok v w := by
  obtain ⟨A, ⟨B, C, ⟨⟨D, hm, hk⟩, _⟩, _⟩, _⟩ := h
  obtain ⟨v', ps, hrun, hv⟩ := hm.lookup keyID2 Tryd.underlying39 (zeroEnt2 w) (show heldE _ = some (.held _, []) from rfl) (keyOf_int_mk Tryd.underlying32 (wf_u32' hid))
  rw [hk id hid, hp] at hv
  have := (Prod.mk.inj (Option.some.inj hv)).1
  have e : v' = v := by simpa [rdE] using this
  rw [← e]
  exact hrun
theorem Own.emPut (h : Own w0 w (EntMap b n p :: l)) (id : Nat) (v : Value) (hid : id < 4294967296) (hn : n < maxLen) :
    ∃ w', (Instr.mapUpdate 39 (.map (some b)) (.int .u32 (id : Int)) v).run Tryd.prog w = .ok () w' ∧ Own w0 w' (EntMap b (n + 1) (fun x => if x = id then some v else p x) :: l) := by
  obtain ⟨A, ⟨⟨D, hm, hk⟩, hA⟩, hlo, act⟩ := h.act
  obtain ⟨w', hrun, hm', hg⟩ := hm.update keyID2 Tryd.underlying39 hn (keyOf_int_mk Tryd.underlying32 (wf_u32' hid)) (show heldE v = some (.held v, []) from rfl)
  refine ⟨w', hrun, act w' (EntMap b (n + 1) _) A ⟨⟨_, hm', ?_⟩, hA⟩ ((Fr.refl _ _).grown hg (fun k hk => .inl ((hA k).2 (by cases hk; rfl)))) (fun _ a => .inl a)⟩
  intro k hk2 z
  by_cases e : k = id
  · subst e
    rw [atKey_put_same hm.isMap (k := .int .u32 (k : Int)) trivial]; simp [rdE]
  · rw [atKey_put_other (by intro q; apply e; have := (Lit.int.inj q).2; omega), hk k hk2]; simp [e]
theorem Own.emNew (h : Own w0 w l) : Own w0 (w.alloc (.map #[] 0)) (EntMap w.heap.size 0 (fun _ => none) :: l) :=
  h.new (EntMap w.heap.size 0 (fun _ => none)) (fun k => k = w.heap.size) ⟨⟨.map [], World.ownsMap_made _ _ _ _, fun k _ z => by simp [DataW.atKey, rdE]⟩, fun _ => Iff.rfl⟩ ((Fr.refl _ _).alloc _) (fun k hk => by omega)
end
set_option maxHeartbeats 1000000 in
theorem sentNo (w0 w : World) (l : List Thing) (b : Nat) (σ : Sto) (K : Nat) (h : Own w0 w (Store b σ K :: l)) (hσ : σ.Ok) (id : Nat) (hid : id < 4294967296) (hl : σ.S.isLive id = false) :
    Calls Tryd.prog 9 #[.pointer (some ⟨b, 0, none⟩), .int .u32 (id : Int)] w fun e w' => e = .returned (.tuple #[.agg #[.int .u32 0, .slice none 0 0], .int .i64 7]) ∧ Own w0 w' (Store b σ K :: l) := by
  obtain ⟨bs, v, p, h⟩ := h.stoX
  have hA := (h.allocC #[.int .u32 0, .slice none 0 0] 41).two
  have HH : Hid (Calls _ _ _ _ _) := home_dead w0 _ _ b bs v p σ K hA hσ.s id hid hl
  clear h hA hσ hl hid
  go_enter Tryd.func9, Tryd.ntmps9
  go_wp2_with fail
  refine HH.out.mono ?_
  rintro e w1 ⟨rfl, hO⟩
  have hB := hO.two
  have z0 := hB.cell 0
  have z1 := hB.cell 1
  simp at z0 z1
  have y0 := hB.froz 0
  have y1 := hB.froz 1
  have HF : Hid (Own w0 _ _) := (hB.setC 0 (.int .u32 0)).setC 1 (.slice none 0 0)
  clear hO hB HH
  go_wp2
  (try simp only [Exit.inBlock, Exit.then])
  refine bodyPost_ret (v := .tuple #[.agg #[.int .u32 0, .slice none 0 0], .int .i64 7]) ?_ rfl ⟨rfl, HF.out.tail.xSto⟩
  rw [results_cell_tmp rfl]
  have r0 := HF.out.cell 0
  have r1 := HF.out.cell 1
  simp at r0 r1
  go_simp
/-- what was: who, its components, where they lie -/
structure WasE where
  id : Nat
  C : List Cp
  ao : Option Addr
  cap : Nat
def WasE.v (y : WasE) : Value := .agg #[.int .u32 (y.id : Int), .slice y.ao y.C.length y.cap]
def WasE.row (y : WasE) : Thing := Row 46 4 (.slice y.ao y.C.length y.cap) y.C.length (ccat y.C)
theorem was_cs {w0 w : World} {l : List Thing} {G : List WasE} (h : Own w0 w (G.map WasE.row ++ l)) {y : WasE} (hy : y ∈ G) : Cs w y.ao y.C := by
  obtain ⟨s, t, rfl⟩ := List.append_of_mem hy
  rw [List.map_append, List.map_cons, List.append_assoc, List.cons_append] at h
  have h2 := h.perm List.perm_middle
  have h3 : Own w0 w (Row 46 4 (.slice y.ao y.C.length y.cap) y.C.length (ccat y.C) :: _) := h2
  exact Own.rcs3 h3 rfl
end Go.Proofs.YtlbbljjfejhniaaDoor
